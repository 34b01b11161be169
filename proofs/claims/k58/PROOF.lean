import PyProof.Rows.All
import Wide.All
import OpenK.AllK
import Wide.FinOn
import KE.KCallOwn
import PyProof.InstEq
import HandS.ForMost
import HandS.OwnEq
import HandS.IsInst
import HandS.Codes
import HandS.Walk
import HandS.FStr
import KE.GoesMore
import KE.GoesZip
import HandS.Zip
import HandS.SetFor
import PyProof.TupleKey
import PyProof.DictRoadsH
import PyProof.DictStraight
import HandS.Dict
import PyProof.Rows.StrFirst
import PyProof.Rows.StrCountLaw
import HandS.TupAny
import KE.GoesEnum
import HandS.Replace
import HandS.ReplaceList
import HandS.ReplaceLit
import HandS.ReplaceDef
import PyProof.Rows.RegReprOcc
import HandS.Star
import HandS.Defaults
import HandS.DictComp
import KE.KeyNested
import HandS.DictTup
import HandS.Conv
import HandS.More
import PyProof.ListStr
import PyProof.ReprRoads
import HandS.Lambda
import HandS.EndTab
import HandS.Exc
import KE.KExcIs
import HandS.ExcInit
import HandS.ExcField
import HandS.WordsExc
import PyProof.ExcBaseAll.ArithmeticError
import PyProof.ExcBaseAll.LookupError
import HandS.Head2
import HandS.HeadHook4
import PySem.Challenge.RW_guessmarks_k58_whole_tables_by_counts
set_option Elab.async false
set_option linter.all false
set_option maxRecDepth 100000
set_option maxHeartbeats 8000000
/-! defs that are called where nothing is being shown, so that they may ask for the repr of lists -/
namespace L2
open PySem PySem.Spec PyProof.Rows
/-- FnOk for calls where no repr is under way -/
structure FnG (P : Program) (w : World) (K : PySem.W.Frag) (mg : Str → Option Value) (base : Heap) (CX : CXT) (k : Nat) (f : Addr) (fd : FuncData) (ps : List Str) (sp : Sp) : Prop where
  many : ∀ {vs H Q E}, sp vs H Q E → vs.length = ps.length
  goes : ∀ {A : Around} {outer : List Env} {s : Shared} {H : Hp} {args : Args} {us : List Value} {vs : List V} {Q : VK} {E : XK}, A.guards = some [] → Room k A → Env0 P w K mg base A outer s H →
    BindsTo s fd args (ps.zip us) → Vals vs us → sp vs H Q E → codeAny (model P w) A (.call (.ref f) args) (CR CX outer P w H s Q E) s
theorem FnOk.toG {P : Program} {w : World} {K : PySem.W.Frag} {mg : Str → Option Value} {base : Heap} {CX : CXT} {k : Nat} {f : Addr} {fd : FuncData} {ps : List Str} {sp : Sp} (F : FnOk P w K mg base CX k f fd ps sp) : FnG P w K mg base CX k f fd ps sp :=
  ⟨fun h => F.len _ _ _ _ h, fun _ hr e b r h => F.run _ _ _ _ _ _ _ _ _ hr e b r h⟩
theorem Fun.okG {P : Program} {w : World} {K : PySem.W.Frag} {mg : Str → Option Value} {base : Heap} {x qual : Str} {st : Stmt} {f : Addr} {fd : FuncData} {N ps : List Str} {k : Nat} {sp : Sp} (F : Fun K x qual st f fd) (S : FnScope N ps (defScope st))
    (many : ∀ vs H Q E, sp vs H Q E → vs.length = ps.length)
    (body : ∀ (cdv : Value) (A : Around) (outer : List Env) (s : Shared) (H : Hp) (vs : List V) (Q : VK) (E : XK), A.guards = some [] → Room k (A.deeper (envOfC qual (defScope st) s.heap.objs.size f cdv)) → sp vs H Q E →
      ∃ t, PSs (cxOf CX0 P w K mg base N qual (defScope st) f cdv A outer s H E).nox (defBody st) t ∧ t { nx := fun _ H' => Q .non H', rt := Q } (start N vs) H) : FnG P w K mg base CX0 (k + 1) f fd ps sp := by
  obtain ⟨oc, od, kV, doc, pm, an, cdv, ct, osl, rfl, lk, hcd⟩ := F.ex
  refine ⟨fun h => many _ _ _ _ h, fun {A outer s H args us vs Q E} g hr e b r h => ?_⟩
  refine LamX.run_ofS lk hcd S hr e b r (many _ _ _ _ h) fun hr' => ?_
  obtain ⟨t, ht, q⟩ := body cdv A outer s H vs Q E g hr' h
  exact ⟨t, ht.nox, q⟩
section
variable {X : Cx} {CX : CXT} {k : Nat} {f : Addr} {fd : FuncData} {ps : List Str} {sp : Sp} {E : XK} {x : Str} {p pos : Pos} {e : Expr} {es : List Expr} {t : TA}
theorem pe_callG (F : FnG X.prog X.w X.K X.mg X.base CX k f fd ps sp) (g : X.A.guards = some []) (hr : Room k X.A) (hg : Gl X x) (hm : X.mg x = some (.ref f)) (hk : PySem.W.keepIn X.K (.ref f) = true) (hb : Binds X.K fd ps []) (hx : Passes CX X E) (ha : PA X (e :: es) t)
    (hdb : (x == ("__debug__" : Str)) = false := by decide) (he : starEach (e :: es) X.env = (false, eval e X.env) :: starEach es X.env := by rfl) (hpl : (backTo pos (starEach es X.env)).any (·.1) = false := by rfl) :
    PE X (.Call (.Name x p) (e :: es) [] pos) (tCall sp [] E t) := by
  constructor
  intro pins s σ H Q I h
  apply wpAny_Call_Name_kw
  apply ld_glob I hg hm _ hdb
  refine PySem.W.callWith_K (h₀ := X.base) I.ok.mod.kin hk (thn (ha.run pos pins s σ H _ I h) fun us s1 hh => ?_) he hpl
  obtain ⟨vs, H1, I1, r, q⟩ := hh
  refine ⟨I1.kIn, wpAny_call (codeAny_mono (F.goes g hr I1.env0 (us := us) ?_ r (by simpa using q)) fun r s' hq => ?_)⟩
  · have hl : (us ++ []).length = ps.length := by
      rw [List.append_nil, ← r.length]
      exact F.many (by simpa using q)
    simpa using hb s1 us I1.kIn hl
  · match r, hq with
    | .error e, hq => exact hx pins σ H1 s1 e s' I1 hq
    | .ok (.ret u), hq => exact I1.after hq
end
/-! ### repr of data -/
mutual
/-- as Dp, with the empty dict besides -/
inductive Dq (K : PySem.W.Frag) (H : Hp) : V → PyData → Prop
  | non : Dq K H .non .none
  | bl (b : Bool) : Dq K H (.bl b) (.bool b)
  | int (i : Int) : Dq K H (.int i) (.int i)
  | str (x : Str) : Dq K H (.str x) (.str x)
  | lst {a : Addr} {xs : List V} {ds : List PyData} : SqL K H a xs → DqAll K H xs ds → Dq K H (.ref a) (.list ds)
  | tup {a : Addr} {xs : List V} {ds : List PyData} : SqT K H a xs → DqAll K H xs ds → Dq K H (.ref a) (.tuple ds)
  | dic {a : Addr} : H a = some (.dK []) → Dq K H (.ref a) (.dict [])
inductive DqAll (K : PySem.W.Frag) (H : Hp) : List V → List PyData → Prop
  | nil : DqAll K H [] []
  | cons {v : V} {vs : List V} {d : PyData} {ds : List PyData} : Dq K H v d → DqAll K H vs ds → DqAll K H (v :: vs) (d :: ds)
end
section
variable {X : Cx} {pins : List (Addr × Obj)} {σ : St} {H : Hp} {s : Shared}
theorem no_mods {a : Addr} {o : Obj} {vs : Array Value} {n : Nat} {h : Heap} {mm : Str → Option Value} (hm : h.Ns sysModules mm) (ho : h.get? a = some o) (hd : o.data = .seq vs n) : sysModules ≠ a := fun z => by
  obtain ⟨o', es, ep, e, d, _⟩ := hm
  rw [z, ho] at e
  cases e
  rw [hd] at d
  cases d
mutual
theorem Dq.reads {mm : Str → Option Value} (hm : s.heap.Ns sysModules mm) (I : Inv X pins σ H s) : ∀ (d : PyData) (v : V) (u : Value), Dq X.K H v d → RelV v u → ∃ as, Reads s.heap u d as ∧ sysModules ∉ as
  | .none, _, _, h, r => by
    cases h; cases r
    exact ⟨_, .none, List.not_mem_nil⟩
  | .bool b, _, _, h, r => by
    cases h; cases r
    exact ⟨_, .bool b, List.not_mem_nil⟩
  | .int i, _, _, h, r => by
    cases h; obtain ⟨t, rfl⟩ := r
    exact ⟨_, .int i t, List.not_mem_nil⟩
  | .str x, _, _, h, r => by
    cases h; obtain ⟨t, rfl⟩ := r
    exact ⟨_, .str x t, List.not_mem_nil⟩
  | .list ds, _, _, h, r => by
    cases h with
    | lst hs ha =>
      cases r
      obtain ⟨its, rv, ⟨o, n, ho, hc, _, hd⟩, _⟩ := I.list hs
      obtain ⟨as, hr, nm⟩ := Dq.readsAll hm I ds _ its ha rv
      refine ⟨_, .list ho hc hd hr, fun z => ?_⟩
      rcases List.mem_cons.mp z with z | z
      · exact no_mods hm ho hd z
      · exact nm z
  | .tuple ds, _, _, h, r => by
    cases h with
    | tup hs ha =>
      cases r
      obtain ⟨its, rv, ⟨o, ho, hc, n, hd⟩, _⟩ := I.tuple hs
      obtain ⟨as, hr, nm⟩ := Dq.readsAll hm I ds _ its ha rv
      exact ⟨_, .tuple ho hc hd hr, nm⟩
  | .dict ks, _, _, h, r => by
    cases h with
    | dic e =>
      cases r
      obtain ⟨_, nd, vs, kv, dd⟩ := dk_of I.hok e
      cases kv
      obtain ⟨o, es, ep, ho, hx, hd, _, he, _⟩ := dd
      have e0 : es.toList = [] := by cases hl : es.toList with | nil => rfl | cons a b => (rw [hl] at he; cases he)
      refine ⟨_, .dict (as := []) (bs := []) ho hx.1 hd (by rw [e0]; exact .nil) (by rw [e0]; exact .nil), fun z => ?_⟩
      rcases List.mem_cons.mp z with z | z
      · rw [← z] at nd
        simp at nd
      · simp at z
theorem Dq.readsAll {mm : Str → Option Value} (hm : s.heap.Ns sysModules mm) (I : Inv X pins σ H s) : ∀ (ds : List PyData) (vs : List V) (us : List Value), DqAll X.K H vs ds → Vals vs us → ∃ as, ReadsAll s.heap us ds as ∧ sysModules ∉ as
  | [], _, _, h, r => by
    cases h; cases r
    exact ⟨_, .nil, List.not_mem_nil⟩
  | d :: ds, _, _, h, r => by
    cases h with
    | cons h1 h2 =>
      cases r with
      | cons r1 r2 =>
        obtain ⟨as, q1, n1⟩ := Dq.reads hm I d _ _ h1 r1
        obtain ⟨bs, q2, n2⟩ := Dq.readsAll hm I ds _ _ h2 r2
        exact ⟨_, .cons q1 q2, fun z => (List.mem_append.mp z).elim n1 n2⟩
end
/-- what repr wants of data: it can be shown, in so much room -/
structure Sh (d : PyData) (n m : Nat) : Prop where
  ok : d.showable = true
  long : d.shown.length ≤ n
  deep : d.depth ≤ m
theorem call_reprD (g : X.A.guards = some []) (hu : X.A.units + 64 < cLine) (hm : ∃ mm, X.base.Ns sysModules mm) :
    CallR X (.builtin "repr") (fun xs H Q => ∃ (a : Addr) (d : PyData), xs = [.ref a] ∧ Dq X.K H (.ref a) d ∧ Sh d 16777216 60 ∧ Q (.str d.shown) H) := by
  intro pins s σ H xs us Q I r h
  obtain ⟨a, d, rfl, hd, hs, q⟩ := h
  obtain ⟨mm, hm⟩ := hm
  cases r with
  | cons r1 r2 =>
    cases r2
    cases r1
    obtain ⟨as, rd, nm⟩ := Dq.reads (hm.keeps I.bk) I d _ _ hd rfl
    refine repr_of_reads' rd hs.ok (fun _ => nm) g ?_ (fun _ _ e => e) (fun h' u tk k => ?_) ?_
    · have := hs.deep
      omega
    · exact ⟨.str d.shown, H, I.kept (t' := tk) k, ⟨_, rfl⟩, q⟩
    · rw [sizeLine_eq]
      exact hs.long
end
end L2

/-! the end of a law whose defs are FnG -/
namespace L2
open PySem PySem.Spec PyProof.Rows LamX
/-- what stands behind the top; cs: code objects with their tables -/
structure Ready (K : PySem.W.Frag) (mg mb : Str → Option Value) (z : Shared) (cs : List (Addr × Addr)) : Prop where
  kin : K.In z.heap
  glob : z.heap.Ns mainGlobals mg
  blt : z.heap.Ns builtinsNs mb
  boot : ∀ x : Str, x ≠ "__name__" → mb x = bootBuiltins x
  lim : z.heap.NoLimit
  mods : ∃ mm, z.heap.Ns sysModules mm
  gens : z.gens = #[]
  tabs : ∀ p ∈ cs, z.heap.get? p.2 = some { cls := .none, data := .fields #[] }
  tabK : ∀ p ∈ cs, K.lookup p.2 = none
  code : ∀ p ∈ cs, PySem.W.CodeHd z.heap p.1 p.2
  main : ∃ (bm : Addr) (ob : Obj), mg "__builtins__" = some (.ref bm) ∧ bm ≠ builtinsNs ∧ z.heap.get? bm = some ob ∧ ob.cls = .type "module" ∧ ob.dict = some builtinsNs ∧ ob.data = .plain
/-- the abstract heap at the law's entry: the tables, and the script if it is no object of the module -/
def hp0 (K : PySem.W.Frag) (cs : List (Addr × Addr)) (a : Addr) (o : Obj) (ns : List Int) : Hp := fun b =>
  if b ∈ cs.map (·.2) then some (.tbl #[]) else if b = a ∧ K.lookup a = none then some (.frz o (.lst (ns.map V.int))) else none
section
variable {P : Program} {w : World} {K : PySem.W.Frag} {mg mb : Str → Option Value} {z : Shared} {cs : List (Addr × Addr)} {a : Addr} {vs : List Value} {ns : List Int}
abbrev scr (vs : List Value) : Obj := { cls := .type "list", data := .seq vs.toArray }
theorem hp0_tab {o : Obj} {p : Addr × Addr} (m : p ∈ cs) : hp0 K cs a o ns p.2 = some (.tbl #[]) := if_pos (List.mem_map.mpr ⟨p, m, rfl⟩)
theorem hp0_of {o : Obj} {b : Addr} {u : HO} (e : hp0 K cs a o ns b = some u) : (∃ p ∈ cs, p.2 = b ∧ u = .tbl #[]) ∨ (b = a ∧ K.lookup a = none ∧ u = .frz o (.lst (ns.map V.int))) := by
  unfold hp0 at e
  split at e
  · rename_i m
    obtain ⟨p, hp, q⟩ := List.mem_map.mp m
    exact .inl ⟨p, hp, q, (Option.some.inj e).symm⟩
  · split at e
    · rename_i m
      exact .inr ⟨m.1, m.2, (Option.some.inj e).symm⟩
    · cases e
theorem Ready.quiet (R : Ready K mg mb z cs) (ha : z.heap.get? a = some (scr vs)) {b : Addr} {o : Obj} (e : z.heap.get? b = some o) (n1 : ∀ us n, o.data ≠ .seq us n) (n2 : o.data ≠ .fields #[]) : hp0 K cs a (scr vs) ns b = none := by
  cases q : hp0 K cs a (scr vs) ns b with
  | none => rfl
  | some u =>
    rcases hp0_of q with ⟨p, hp, rfl, _⟩ | ⟨rfl, _, _⟩
    · rw [R.tabs p hp] at e
      cases e
      exact absurd rfl n2
    · rw [ha] at e
      cases e
      exact absurd rfl (n1 _ _)
theorem Ready.hok (R : Ready K mg mb z cs) (ha : z.heap.get? a = some (scr vs)) (hi : IntsAre vs ns) (hl : ns.length ≤ sizeLine) : HOk P w (hp0 K cs a (scr vs) ns) z.heap := fun b u q => by
  rcases hp0_of q with ⟨p, hp, rfl, rfl⟩ | ⟨rfl, _, rfl⟩
  · exact R.tabs p hp
  · exact ⟨ha, by rw [List.length_map]; exact hl, vs, _, vals_ints hi, ha⟩
theorem Ready.seq (R : Ready K mg mb z cs) (ha : z.heap.get? a = some (scr vs)) (hi : IntsAre vs ns) (hl : ns.length ≤ sizeLine) : SqL K (hp0 K cs a (scr vs) ns) a (ns.map V.int) := by
  cases hk : K.lookup a with
  | some o =>
    have e := R.kin a o hk
    rw [ha] at e
    cases e
    have rv := vals_ints hi
    exact .inr ⟨_, vs.toArray, _, hk, rfl, rfl, rfl, by rw [List.size_toArray, hi.length]; exact hl, by simpa using rv⟩
  | none =>
    have nt : a ∉ cs.map (·.2) := fun m => by
      obtain ⟨p, hp, e⟩ := List.mem_map.mp m
      have q := R.tabs p hp
      rw [e, ha] at q
      have q' : Data.seq vs.toArray _ = Data.fields #[] := congrArg Obj.data (Option.some.inj q)
      cases q'
    exact .inl (.inr ⟨scr vs, (if_neg nt).trans (if_pos ⟨rfl, hk⟩)⟩)
theorem Ready.space (R : Ready K mg mb z cs) (ha : z.heap.get? a = some (scr vs)) {b : Addr} {m : Str → Option Value} (x : z.heap.Ns b m) : (hidT z.heap (hp0 K cs a (scr vs) ns)).Ns b m := by
  obtain ⟨o, es, ep, e, d, r⟩ := x
  refine ⟨o, es, ep, hidT_get e (R.quiet ha e (fun us n q => ?_) fun q => ?_), d, r⟩ <;> (rw [d] at q; cases q)
theorem Ready.mod (R : Ready K mg mb z cs) (ha : z.heap.get? a = some (scr vs)) : L2.Mod K mg (hidT z.heap (hp0 K cs a (scr vs) ns)) := by
  refine ⟨fun b o e => hidT_get (R.kin b o e) ?_, R.space ha R.glob, ⟨mb, R.space ha R.blt, R.boot⟩, ?_⟩
  · cases q : hp0 K cs a (scr vs) ns b with
    | none => rfl
    | some u =>
      rcases hp0_of q with ⟨p, hp, rfl, _⟩ | ⟨rfl, n, _⟩
      · have t := R.tabK p hp
        rw [e] at t
        cases t
      · rw [e] at n
        cases n
  · obtain ⟨mc, h1, h2⟩ := R.lim
    exact ⟨mc, R.space ha h1, h2⟩
theorem Ready.tabB (R : Ready K mg mb z cs) (ha : z.heap.get? a = some (scr vs)) {p : Addr × Addr} (hp : p ∈ cs) : TabB (hidT z.heap (hp0 K cs a (scr vs) ns)) mg p.1 p.2 := by
  have tp := R.tabs p hp
  obtain ⟨og, eg, epg, gg, gd, _⟩ := R.glob
  refine ⟨?_, ?_, fun q => ?_⟩
  · obtain ⟨o, us, file, tf, flags, tg, inF, text, tt, e1, r1, r2, r3, r⟩ := R.code p hp
    refine ⟨o, us, file, tf, flags, tg, inF, text, tt, hidT_get e1 (R.quiet ha e1 (fun us n q => ?_) fun q => ?_), r1, r2, r3, r⟩
    · rw [r2] at q
      cases q
    · rw [r2] at q
      cases q
      simp at r3
  · obtain ⟨bm, ob, b1, b2, b3, b4, b5, b6⟩ := R.main
    refine ⟨bm, ob, b1, b2, fun q => ?_, fun q => ?_, hidT_get b3 (R.quiet ha b3 (fun us n q => ?_) fun q => ?_), b4, b5, b6⟩
    · rw [q, gg] at b3
      cases b3
      rw [gd] at b6
      cases b6
    · rw [q, tp] at b3
      cases b3
      cases b6
    · rw [b6] at q
      cases q
    · rw [b6] at q
      cases q
  · rw [q, tp] at gg
    cases gg
    cases gd
theorem callG {k : Nat} {fa : Addr} {fd : FuncData} {x : Str} {sp : Sp} (R : Ready K mg mb z cs) (ha : z.heap.get? a = some (scr vs)) (hi : IntsAre vs ns) (hl : ns.length ≤ sizeLine) (hr : Room k callerA)
    (F : ∀ base : Heap, K.In base → base.Ns mainGlobals mg → (∃ mm, base.Ns sysModules mm) → (∀ p ∈ cs, TabB base mg p.1 p.2) → FnG P w K mg base CX0 k fa fd [x] sp) (hb : ∀ (s : Shared) (u : Value), BindsTo s fd ⟨[u], []⟩ [(x, u)])
    (hsp : ∀ H : Hp, (∀ p ∈ cs, H p.2 = some (.tbl #[])) → SqL K H a (ns.map V.int) → sp [.ref a] H (fun v _ => v = .bl true) fun _ _ _ => False) :
    codeAny (model P w) callerA (.call (.ref fa) ⟨[.ref a], []⟩) (fun r s' => r = .ok (.ret (.bool true)) ∧ OldK z.heap s'.heap ∧ s'.os = z.os ∧ AllBare s'.gens) z := by
  obtain ⟨H, eH⟩ : ∃ H, H = hp0 K cs a (scr vs) ns := ⟨_, rfl⟩
  have M := R.mod (ns := ns) ha
  have hok : HOk P w H z.heap := eH ▸ R.hok ha hi hl
  have tabH : ∀ p ∈ cs, H p.2 = some (.tbl #[]) := fun p hp => eH ▸ hp0_tab hp
  have G := F _ M.kin M.glob (R.mods.imp fun mm h => R.space (ns := ns) ha h) (fun p hp => R.tabB (ns := ns) ha hp)
  have e0 : Env0 P w K mg (hidT z.heap (hp0 K cs a (scr vs) ns)) callerA [] z H := ⟨rfl, M, fun b o e => eH ▸ of_hidT e, Nat.le_of_eq (hidT_size _ _), trivial, nofun, hok, .of_eq R.gens⟩
  refine codeAny_mono (G.goes (us := [.ref a]) (vs := [.ref a]) rfl hr e0 (hb z (.ref a)) (.cons rfl .nil) (hsp H tabH (eH ▸ R.seq ha hi hl))) fun r s' h => ?_
  match r, h with
  | .ok (.ret u), h =>
    obtain ⟨v, H', os, bare, un, hok', rv, q⟩ := h
    have q' : v = .bl true := q
    subst q'
    obtain rfl : u = Value.bool true := rv
    have kept : ∀ {b : Addr} {o : Obj}, (∀ p ∈ cs, p.2 ≠ b) → z.heap.get? b = some o → s'.heap.get? b = some o := fun {b o} nb e => by
      cases q : H b with
      | none => exact un.keep b o e q nofun (by simp)
      | some u =>
        rw [eH] at q
        rcases hp0_of q with ⟨p, hp, e2, _⟩ | ⟨_, _, rfl⟩
        · exact absurd e2 (nb p hp)
        · have z2 := un.frzs b _ _ (eH ▸ q)
          obtain ⟨e1, _⟩ := hok b _ (eH ▸ q)
          obtain ⟨e3, _⟩ := hok' b _ z2
          rw [e] at e1
          cases e1
          exact e3
    have grown : ∀ p ∈ cs, ∃ more : Array Value, s'.heap.get? p.2 = some { cls := .none, data := .fields more } := fun p hp => by
      obtain ⟨more, zz⟩ := un.tbls p.2 #[] (tabH p hp)
      exact ⟨_, hok' p.2 _ zz⟩
    refine ⟨rfl, ⟨fun b o e => ?_, fun b o e => ?_⟩, os, bare⟩
    · by_cases hm : ∃ p ∈ cs, p.2 = b
      · obtain ⟨p, hp, rfl⟩ := hm
        obtain ⟨more, hm⟩ := grown p hp
        have tp := R.tabs p hp
        rw [tp] at e
        cases e
        exact .inr (.inl ⟨((R.code p hp).tab tp).isCodeTable, rfl, #[], more, rfl, by rw [Array.empty_append]; exact hm⟩)
      · exact .inl (kept (fun p hp q => hm ⟨p, hp, q⟩) e)
    · by_cases hm : ∃ p ∈ cs, p.2 = b
      · obtain ⟨p, hp, rfl⟩ := hm
        obtain ⟨more, hm⟩ := grown p hp
        exact ⟨_, hm⟩
      · exact ⟨o, kept (fun p hp q => hm ⟨p, hp, q⟩) e⟩
/-- the goal that k_head leaves -/
theorem walkG {l : PySem.W.OpenLaw} {n k : Nat} {q : Program} {loose : List Str} {XP : (Str → Option Value) → Heap → Prop} {YP : World → Heap → Prop} {d : DefRec} {K : Params → PySem.W.Frag} {x : Str} {sp : PySem.W.Frag → Sp}
    (hn : l.most = some n) (hn2 : n ≤ sizeLine) (hdf : d.params.defaults = []) (hr : Room k callerA) (him : importsNone q = true) (hY : ∀ (w : World) (h : Heap), YP w h → (K w.params).In h)
    (F : ∀ (w : World) (mg : Str → Option Value) (fa : Addr) (h : Heap), (K w.params).In h → h.Ns mainGlobals mg → mg d.name = some (.ref fa) →
      (∀ d ∈ recsOf q, ∃ a o fd c P, mg d.name = some (.ref a) ∧ h.get? a = some o ∧ o.data = .func fd ∧ fd.code = .ref c ∧ h.IsCode c P #[] ∧ h.TableAt c P #[]) →
      ∃ (fd : FuncData) (cs : List (Addr × Addr)), (∀ p ∈ cs, h.get? p.2 = some { cls := .none, data := .fields #[] } ∧ (K w.params).lookup p.2 = none ∧ PySem.W.CodeHd h p.1 p.2) ∧ (∀ (s : Shared) (u : Value), BindsTo s fd ⟨[u], []⟩ [(x, u)]) ∧
        ∀ base : Heap, (K w.params).In base → base.Ns mainGlobals mg → (∃ mm, base.Ns sysModules mm) → (∀ p ∈ cs, TabB base mg p.1 p.2) → FnG l.prog w (K w.params) mg base CX0 k fa fd [x] (fun vs H Q E => (∀ p ∈ cs, H p.2 = some (.tbl #[])) ∧ sp (K w.params) vs H Q E))
    (hsp : ∀ (K : PySem.W.Frag) (H : Hp) (a : Addr) (ns : List Int), ns.length ≤ n → SqL K H a (ns.map V.int) → sp K [.ref a] H (fun v _ => v = .bl true) fun _ _ _ => False) :
    PySem.W.WalkO q loose XP YP l.row.toRowW d [] (fun f vs => PySem.call f vs) := by
  refine Att.attach_call hn hdf fun w s₀ s₁ mg mb fa o pm cd doc a vs ns G Y ho hd hcd hmg hobj hints hlen hg => ?_
  have KX := hY w _ Y
  obtain ⟨fd, cs, C, hb, hF⟩ := F w mg fa _ KX G.T.g hmg G.T.tab
  obtain ⟨mm, hm, _⟩ := (G.T.seer him).mods
  exact callG (cs := cs) ⟨KX, G.T.g, G.T.b, G.T.builtins, G.T.nolimit, ⟨mm, hm⟩, hg, fun p hp => (C p hp).1, fun p hp => (C p hp).2.1, fun p hp => (C p hp).2.2, G.T.bmain⟩ hobj hints (Nat.le_trans hlen hn2) hr hF hb fun H hT hS => ⟨hT, hsp _ H a ns hlen hS⟩
end
end L2

/-! a law's end whose head is one kernel run: what is known of the heap behind the top is asked by one Bool over a part of it -/
namespace HX
open PySem PySem.Spec PyProof.Rows L2
def allT (l : List Bool) : Bool := l.all _root_.id
theorem allT_at {l : List Bool} (h : allT l = true) {i : Nat} {b : Bool} (e : l[i]? = some b) : b = true := List.all_eq_true.mp h b (List.mem_of_getElem? e)
theorem allT_of {p : Prop} [Decidable p] {l : List Bool} (h : allT l = true) (i : Nat) (e : l[i]? = some (decide p)) : p := of_decide_eq_true (allT_at h e)
theorem and_l {a b : Bool} (h : (a && b) = true) : a = true := (Bool.and_eq_true_iff.mp h).1
theorem and_r {a b : Bool} (h : (a && b) = true) : b = true := (Bool.and_eq_true_iff.mp h).2
theorem dfl_nil {K : PySem.W.Frag} {dV : Value} (h : DflV K dV []) : dV = .none := by
  rcases h with ⟨_, h⟩ | ⟨h, _⟩
  · exact h
  · exact absurd rfl h
/-- constants of the module -/
def intB (K : PySem.W.Frag) (x : Str) (i : Int) : Bool := match PySem.W.nsIn K mainGlobals x with
  | some (some (.int j _)) => decide (j = i)
  | _ => false
theorem intB_of {K : PySem.W.Frag} {x : Str} {i : Int} (h : intB K x i = true) : ∃ t, PySem.W.nsIn K mainGlobals x = some (some (.int i t)) := by
  unfold intB at h
  split at h
  · rename_i j t e
    rw [e, of_decide_eq_true h]
    exact ⟨t, rfl⟩
  · cases h
def strB (K : PySem.W.Frag) (x z : Str) : Bool := match PySem.W.nsIn K mainGlobals x with
  | some (some (.str y _)) => decide (y = z)
  | _ => false
theorem strB_of {K : PySem.W.Frag} {x z : Str} (h : strB K x z = true) : ∃ t, PySem.W.nsIn K mainGlobals x = some (some (.str z t)) := by
  unfold strB at h
  split at h
  · rename_i j t e
    rw [e, of_decide_eq_true h]
    exact ⟨t, rfl⟩
  · cases h
/-- an error class with these bases behind it -/
def excB (K : PySem.W.Frag) (C : Addr) (bm : List Value) (newId : String) : Bool := match K.lookup C with
  | some ⟨.type "type", _, .cls cd, sl⟩ => (match cd.mro, sl.toList with
    | .ref C' :: bm', [_, _, _, _, some (.builtin n), _] => decide (C' = C) && (decide (n = newId) && (!cd.hasDel && (cd.hasDict && decide (bm' = bm))))
    | _, _ => false)
  | _ => false
theorem excB_of {K : PySem.W.Frag} {C : Addr} {bm : List Value} {newId : String} (q : excB K C bm newId = true) : ∃ nm qn N bs sn sub ab col dd k0 k1 k2 k3 k5, K.lookup C = some (excClassObj nm qn C N bs bm true sn sub ab col dd k0 k1 k2 k3 k5 newId) := by
  unfold excB at q
  split at q
  · rename_i dd cd sl ho
    split at q
    · rename_i C' bm' k0 k1 k2 k3 n k5 hm hs
      have e1 := of_decide_eq_true (and_l q)
      have e2 := of_decide_eq_true (and_l (and_r q))
      have e3 := and_l (and_r (and_r q))
      have e4 := and_l (and_r (and_r (and_r q)))
      have e5 := of_decide_eq_true (and_r (and_r (and_r (and_r q))))
      subst e1 e2 e5
      obtain ⟨nm, bs, mro, ns, qn, hd, sn, sub, ab, col, del⟩ := cd
      dsimp only at hm e3 e4
      have e3 : del = false := by simpa using e3
      subst hm e3 e4
      have hsl : sl = #[k0, k1, k2, k3, some (.builtin n), k5] := by
        obtain ⟨l⟩ := sl
        simp only at hs
        rw [hs]
      subst hsl
      exact ⟨nm, qn, ns, bs, sn, sub, ab, col, dd, k0, k1, k2, k3, k5, ho⟩
    · cases q
  · cases q
/-! ### what is looked at behind the top -/
structure SaysA (fn : List He.DefD) (tf : List He.Defn) (ex ex2 : PySem.W.Frag → Bool) (h : Heap) (K : PySem.W.Frag) : Prop where
  vals : (fn.map fun d => He.fnW K d.at_) = fn.map He.DefD.val
  ok : ∀ d ∈ fn, d.ok K = true
  more : ex K = true
  more2 : ex2 K = true
  hd : ∀ p ∈ tf, PySem.W.codeHdIn K (He.cT K p).1 (He.cT K p).2 = true
  out : ∀ p ∈ tf, K.lookup (He.cT K p).2 = none
  empty : ∀ p ∈ tf, h.get? (He.cT K p).2 = some { cls := .none, data := .fields #[] }
abbrev AlA : Type := Bool × Bool × Bool × List He.FnW
def obsK (fn : List He.DefD) (tf : List He.Defn) (ex ex2 : PySem.W.Frag → Bool) (g : Addr → Option Obj) (K : PySem.W.Frag) : AlA := (ex K, ex2 K, (fn.all fun d => d.ok K) && He.tabsB g tf K, fn.map fun d => He.fnW K d.at_)
def valA (fn : List He.DefD) : AlA := (true, true, true, fn.map He.DefD.val)
def obsA (as : List Addr) (fn : List He.DefD) (tf : List He.Defn) (ex ex2 : PySem.W.Frag → Bool) (g : Addr → Option Obj) : AlA := obsK fn tf ex ex2 g (He.frT g as)
theorem saysA_of {as : List Addr} {fn : List He.DefD} {tf : List He.Defn} {ex ex2 : PySem.W.Frag → Bool} {h : Heap} (e : obsA as fn tf ex ex2 h.get? = valA fn) : SaysA fn tf ex ex2 h (He.frT h.get? as) := by
  obtain ⟨K, eK⟩ : ∃ K, K = He.frT h.get? as := ⟨_, rfl⟩
  have e0 : obsK fn tf ex ex2 h.get? K = valA fn := by rw [eK]; exact e
  have e1 : ((fn.all fun d => d.ok K) && He.tabsB h.get? tf K) = true := congrArg (fun z : AlA => z.2.2.1) e0
  have e2 : (fn.map fun d => He.fnW K d.at_) = fn.map He.DefD.val := congrArg (fun z : AlA => z.2.2.2) e0
  have t := and_r e1
  have key : ∀ p ∈ tf, PySem.W.codeHdIn K (He.cT K p).1 (He.cT K p).2 = true ∧ ∃ o, h.get? (He.cT K p).2 = some o ∧ He.emptyTab o = true := fun p hp => by
    have h1 := List.all_eq_true.mp t p hp
    have h3 := and_l h1
    have h4 := and_r h1
    refine ⟨h3, ?_⟩
    cases q : h.get? (He.cT K p).2 with
    | none =>
      rw [q] at h4
      cases h4
    | some o =>
      rw [q] at h4
      exact ⟨o, rfl, h4⟩
  rw [← eK]
  refine ⟨e2, fun d hd => List.all_eq_true.mp (and_l e1) d hd, congrArg (fun z : AlA => z.1) e0, congrArg (fun z : AlA => z.2.1) e0, fun p hp => (key p hp).1, fun p hp => ?_, fun p hp => ?_⟩
  · obtain ⟨_, o, q, z⟩ := key p hp
    have := He.frT_none (as := as) q z
    rw [← eK] at this
    exact this
  · obtain ⟨_, o, q, z⟩ := key p hp
    rw [q, He.emptyTab_eq z]
def hookA (as : List Addr) (fn : List He.DefD) (tf : List He.Defn) (ex ex2 : PySem.W.Frag → Bool) : PySem.W.Hook where
  α := AlA
  obs := fun s => obsA as fn tf ex ex2 s.heap.get?
  val := fun _ => valA fn
  says := fun _ h => ∃ K : PySem.W.Frag, K.In h ∧ SaysA fn tf ex ex2 h K
  of := fun _ _ e => ⟨_, He.frT_in, saysA_of e⟩
  keeps := fun _ _ _ ⟨K, hK, c⟩ k => ⟨K, PySem.W.Frag.In.keeps hK k, ⟨c.vals, c.ok, c.more, c.more2, c.hd, c.out, fun p hp => k _ _ (c.empty p hp)⟩⟩
theorem obsA_eq {as : List Addr} {fn : List He.DefD} {tf : List He.Defn} {ex ex2 : PySem.W.Frag → Bool} {g : Addr → Option Obj} {s : Shared} (h : ∀ a, g a = s.heap.get? a) : obsA as fn tf ex ex2 g = (hookA as fn tf ex ex2).obs s := by
  have e : g = s.heap.get? := funext h
  rw [e] <;> rfl
/-- one run, looked at piece by piece: a kernel run each, so that none holds too much -/
theorem run_all {S T a1 a2 a3 a4 a5 a6 : Type} {x : Option S} {f1 : S → a1} {f2 : S → a2} {f3 : S → a3} {f4 : S → a4} {f5 : S → a5} {f6 : S → a6} {v1 : a1} {v2 : a2} {v3 : a3} {v4 : a4} {v5 : a5} {v6 : a6} {F : S → T} {A : T} (u : (a1 × a2 × a3 × a4 × a5 × a6) → T)
    (h1 : x.map f1 = some v1) (h2 : x.map f2 = some v2) (h3 : x.map f3 = some v3) (h4 : x.map f4 = some v4) (h5 : x.map f5 = some v5) (h6 : x.map f6 = some v6) (hF : ∀ s, F s = u (f1 s, f2 s, f3 s, f4 s, f5 s, f6 s)) (hA : A = u (v1, v2, v3, v4, v5, v6)) : x.map F = some A := by
  cases x with
  | none => cases h1
  | some s =>
    have h1 : some (f1 s) = some v1 := h1
    have h2 : some (f2 s) = some v2 := h2
    have h3 : some (f3 s) = some v3 := h3
    have h4 : some (f4 s) = some v4 := h4
    have h5 : some (f5 s) = some v5 := h5
    have h6 : some (f6 s) = some v6 := h6
    show some (F s) = some A
    rw [hF, hA, Option.some.inj h1, Option.some.inj h2, Option.some.inj h3, Option.some.inj h4, Option.some.inj h5, Option.some.inj h6]
noncomputable abbrev endW (r : PySem.W.OpenRow) (M : Nat) (w : World) (os : OsState) : Option PySem.W.SharedT := HandSHeadRun.endF (HandSHeadRun.stepQ (HandSHeadRun.denQ HandSHeadRun.tabQ) r.prog w) M r.prog w os
noncomputable abbrev seenW (r : PySem.W.OpenRow) (q : Program) (loose : List PySem.Str) (s : PySem.W.SharedT) := HandSHeadRun.seenQ q loose (importedModules r.prog.main.body) (fun s => PySem.W.xlAt q [] s && PySem.W.recOk r.toRowW.records s) s.abs
section
variable {fn : List He.DefD} {tf : List He.Defn} {ex ex2 : PySem.W.Frag → Bool} {h : Heap} {K : PySem.W.Frag}
theorem SaysA.def_ (c : SaysA fn tf ex ex2 h K) (i : Nat) {d : He.DefD} (e : fn[i]? = some d) (dn : d.dfl = []) : ∃ (oc : Value) (od : Option Addr) (kV doc pm : Value) (an : Option Addr) (cdv ct : Value) (osl : Array (Option Value)),
    K.lookup (He.fAd K d.at_) = some ⟨oc, od, .func (PySem.W.fnOf d.name d.qual d.params d.body d.scope .none kV doc pm an cdv ct), osl⟩ ∧ PySem.W.codeIn K cdv d.qual = true ∧ PySem.W.keepIn K (.ref (He.fAd K d.at_)) = true := by
  have ev : He.fnW K d.at_ = d.val := by
    have z := congrArg (fun l => l[i]?) c.vals
    simp only [List.getElem?_map, e, Option.map_some] at z
    exact Option.some.inj z
  obtain ⟨fd, ⟨oc, od, dV, kV, doc, pm, an, cdv, ct, osl, rfl, lk, cd, dv, _⟩, kp⟩ := He.DefD.funD ev (c.ok d (List.mem_of_getElem? e))
  have dv' : DflV K dV [] := by
    have : d.dvs K = [] := by
      unfold He.DefD.dvs
      rw [dn]
      rfl
    rw [← this]
    exact dv
  have := dfl_nil dv'
  subst this
  exact ⟨oc, od, kV, doc, pm, an, cdv, ct, osl, lk, cd, kp⟩
end
end HX
namespace L2
open PySem PySem.Spec PyProof.Rows LamX
/-- the goal that the head leaves -/
theorem walkGE {l : PySem.W.OpenLaw} {n k : Nat} {q : Program} {loose : List Str} {XP : (Str → Option Value) → Heap → Prop} {YP : World → Heap → Prop} {d : DefRec} {x : Str}
    (hn : l.most = some n) (hn2 : n ≤ sizeLine) (hdf : d.params.defaults = []) (hr : Room k callerA) (him : importsNone q = true)
    (F : ∀ (w : World) (mg : Str → Option Value) (fa : Addr) (h : Heap), YP w h → h.Ns mainGlobals mg → mg d.name = some (.ref fa) →
      ∃ (K : PySem.W.Frag) (fd : FuncData) (cs : List (Addr × Addr)) (sp : Sp), K.In h ∧ (∀ p ∈ cs, h.get? p.2 = some { cls := .none, data := .fields #[] } ∧ K.lookup p.2 = none ∧ PySem.W.CodeHd h p.1 p.2) ∧ (∀ (s : Shared) (u : Value), BindsTo s fd ⟨[u], []⟩ [(x, u)]) ∧
        (∀ (H : Hp) (a : Addr) (ns : List Int), ns.length ≤ n → (∀ p ∈ cs, H p.2 = some (.tbl #[])) → SqL K H a (ns.map V.int) → sp [.ref a] H (fun v _ => v = .bl true) fun _ _ _ => False) ∧
        ∀ base : Heap, K.In base → base.Ns mainGlobals mg → (∃ mm, base.Ns sysModules mm) → (∀ p ∈ cs, TabB base mg p.1 p.2) → FnG l.prog w K mg base CX0 k fa fd [x] sp) :
    PySem.W.WalkO q loose XP YP l.row.toRowW d [] (fun f vs => PySem.call f vs) := by
  refine Att.attach_call hn hdf fun w s₀ s₁ mg mb fa o pm cd doc a vs ns G Y ho hd hcd hmg hobj hints hlen hg => ?_
  obtain ⟨K, fd, cs, sp, KX, C, hb, hsp, hF⟩ := F w mg fa _ Y G.T.g hmg
  obtain ⟨mm, hm, _⟩ := (G.T.seer him).mods
  exact callG (cs := cs) ⟨KX, G.T.g, G.T.b, G.T.builtins, G.T.nolimit, ⟨mm, hm⟩, hg, fun p hp => (C p hp).1, fun p hp => (C p hp).2.1, fun p hp => (C p hp).2.2, G.T.bmain⟩ hobj hints (Nat.le_trans hlen hn2) hr hF hb fun H hT hS => hsp H a ns hlen hT hS
end L2

namespace Gm
open PySem PySem.Spec PyProof.Rows L2 LamX
set_option maxHeartbeats 0
def top (i : Nat) : Stmt := PySem.Challenge.pw_guessmarks_k58_whole_tables_by_counts.main.body.getD i (.Pass ⟨0, 0, 0, 0⟩)
abbrev sWell : Stmt := top 63
abbrev sNext : Stmt := top 64
abbrev sAlp : Stmt := top 65
abbrev sMed : Stmt := top 71
abbrev sSg : Stmt := top 66
abbrev sText : Stmt := top 67
abbrev sNear : Stmt := top 68
abbrev sTrue : Stmt := top 70
abbrev sWithin : Stmt := top 24
abbrev sAlpha : Stmt := top 38
abbrev sCount : Stmt := top 39

abbrev sOver : Stmt := top 25
abbrev sIsW : Stmt := top 26
abbrev sAreM : Stmt := top 27
abbrev sIsRow : Stmt := top 28
abbrev sChkW : Stmt := top 29
abbrev sChkM : Stmt := top 30
abbrev sChkB : Stmt := top 40
abbrev sChkR : Stmt := top 50
abbrev sChkH : Stmt := top 51
abbrev sMarksOf : Stmt := top 47
abbrev sHist : Stmt := top 69
abbrev sComm : Stmt := top 44
abbrev sCnt : Stmt := top 43
abbrev sGiven : Stmt := top 3
abbrev sOrd : Stmt := top 4
abbrev sHas : Stmt := top 45
abbrev sCount2 : Stmt := top 59
abbrev sNthW : Stmt := top 60
abbrev sPlcL : Stmt := top 55
abbrev sNumC : Stmt := top 56
abbrev sOcc : Stmt := top 54
abbrev sLtA : Stmt := top 57
abbrev sTable : Stmt := top 53
abbrev sIsL : Stmt := top 33
abbrev sIsF : Stmt := top 32
abbrev sChkF : Stmt := top 34
abbrev sCntW : Stmt := top 61
abbrev sInTab : Stmt := top 72
abbrev sRight58 : Stmt := top 73
abbrev sLaw : Stmt := top 74
abbrev sInit : Stmt := inClass (top 37) 0
abbrev sHInit : Stmt := inClass (top 49) 0
abbrev sThen : Stmt := inClass (top 49) 1
abbrev sFits : Stmt := inClass (top 49) 3
abbrev sNth : Stmt := inClass (top 42) 2
abbrev sLetAt : Stmt := inClass (top 42) 6
abbrev sTakeF : Stmt := inClass (top 2) 2
abbrev sOfL : Stmt := inClass (top 2) 7
abbrev sWInit : Stmt := inClass (top 42) 0
abbrev sNone : Stmt := inClass (top 42) 4
abbrev sUsed : Stmt := inClass (top 42) 5
abbrev sManyW : Stmt := inClass (top 42) 7
abbrev sManyF : Stmt := inClass (top 42) 8
abbrev sAddW : Stmt := inClass (top 42) 9
abbrev sMany : Stmt := inClass (top 42) 1
abbrev sBInit : Stmt := inClass (top 2) 0
abbrev sTakeR : Stmt := inClass (top 2) 1
abbrev sKeep : Stmt := inClass (top 2) 3
abbrev sLeave : Stmt := inClass (top 2) 4
abbrev sAskL : Stmt := inClass (top 2) 5
abbrev sAskM : Stmt := inClass (top 2) 6
def lowTxt : Str := "abcdefghijklmnopqrstuvwxyz"

def A_CB (K : PySem.W.Frag) : Addr := He.ga K "Board"
def A_CH (K : PySem.W.Frag) : Addr := He.ga K "History"
def A_CW (K : PySem.W.Frag) : Addr := He.ga K "Words"
def A_CD (K : PySem.W.Frag) : Addr := He.ga K "Bounds"
def A_fB (K : PySem.W.Frag) : Addr := He.fAd K ("_law_well", none)
def A_fD (K : PySem.W.Frag) : Addr := He.fAd K ("_law_next", none)
def A_fAl (K : PySem.W.Frag) : Addr := He.fAd K ("_law_alphabet", none)
def A_fMd (K : PySem.W.Frag) : Addr := He.fAd K ("_law_medium", none)
def A_fSg (K : PySem.W.Frag) : Addr := He.fAd K ("_law_signs", none)
def A_fTe (K : PySem.W.Frag) : Addr := He.fAd K ("_law_text", none)
def A_fNe (K : PySem.W.Frag) : Addr := He.fAd K ("_law_near", none)
def A_fTr (K : PySem.W.Frag) : Addr := He.fAd K ("_law_true_entries", none)
def A_fW (K : PySem.W.Frag) : Addr := He.fAd K ("is_integer_within", none)
def A_fA (K : PySem.W.Frag) : Addr := He.fAd K ("is_alphabet", none)
def A_fCn (K : PySem.W.Frag) : Addr := He.fAd K ("count_words", none)
def A_fOv (K : PySem.W.Frag) : Addr := He.fAd K ("is_text_over", none)
def A_fIw (K : PySem.W.Frag) : Addr := He.fAd K ("is_word", none)
def A_fAm (K : PySem.W.Frag) : Addr := He.fAd K ("are_marks", none)
def A_fIr (K : PySem.W.Frag) : Addr := He.fAd K ("is_row", none)
def A_fCw (K : PySem.W.Frag) : Addr := He.fAd K ("check_word", none)
def A_fCm (K : PySem.W.Frag) : Addr := He.fAd K ("check_marks", none)
def A_fCb (K : PySem.W.Frag) : Addr := He.fAd K ("check_board", none)
def A_fCr (K : PySem.W.Frag) : Addr := He.fAd K ("check_rows", none)
def A_fCh (K : PySem.W.Frag) : Addr := He.fAd K ("check_history", none)
def A_fMo (K : PySem.W.Frag) : Addr := He.fAd K ("marks_of", none)
def A_fLh (K : PySem.W.Frag) : Addr := He.fAd K ("_law_history", none)
def A_fWc (K : PySem.W.Frag) : Addr := He.fAd K ("common_letters", none)
def A_fWn (K : PySem.W.Frag) : Addr := He.fAd K ("counted_letters", none)
def A_fWg (K : PySem.W.Frag) : Addr := He.fAd K ("marks_given", none)
def A_fOd (K : PySem.W.Frag) : Addr := He.fAd K ("is_in_order", none)
def A_fHw (K : PySem.W.Frag) : Addr := He.fAd K ("has_word", none)
def A_fCt (K : PySem.W.Frag) : Addr := He.fAd K ("count", none)
def A_fNw (K : PySem.W.Frag) : Addr := He.fAd K ("nth_word", none)
def A_fQp (K : PySem.W.Frag) : Addr := He.fAd K ("places_of_letter", none)
def A_fQn (K : PySem.W.Frag) : Addr := He.fAd K ("numbers_of_copies", none)
def A_fQo (K : PySem.W.Frag) : Addr := He.fAd K ("occurrences", none)
def A_fQl (K : PySem.W.Frag) : Addr := He.fAd K ("letters_at", none)
def A_fQt (K : PySem.W.Frag) : Addr := He.fAd K ("table", none)
def A_fKl (K : PySem.W.Frag) : Addr := He.fAd K ("is_letter", none)
def A_fKt (K : PySem.W.Frag) : Addr := He.fAd K ("is_fact", none)
def A_fKf (K : PySem.W.Frag) : Addr := He.fAd K ("check_facts", none)
def A_fKw (K : PySem.W.Frag) : Addr := He.fAd K ("count_with", none)
def A_fQi (K : PySem.W.Frag) : Addr := He.fAd K ("_law_within", none)
def A_fR (K : PySem.W.Frag) : Addr := He.fAd K ("_law_right", none)
def A_fL (K : PySem.W.Frag) : Addr := He.fAd K ("law", none)
def A_fI (K : PySem.W.Frag) : Addr := He.fAd K ("Board", some "__init__")
def A_fHi (K : PySem.W.Frag) : Addr := He.fAd K ("History", some "__init__")
def A_fTh (K : PySem.W.Frag) : Addr := He.fAd K ("History", some "then")
def A_fFi (K : PySem.W.Frag) : Addr := He.fAd K ("History", some "fits")
def A_fXt (K : PySem.W.Frag) : Addr := He.fAd K ("Words", some "nth")
def A_fXl (K : PySem.W.Frag) : Addr := He.fAd K ("Words", some "letter_at")
def A_fYf (K : PySem.W.Frag) : Addr := He.fAd K ("Bounds", some "take_fact")
def A_fYo (K : PySem.W.Frag) : Addr := He.fAd K ("Bounds", some "of_letter")
def A_fXi (K : PySem.W.Frag) : Addr := He.fAd K ("Words", some "__init__")
def A_fXn (K : PySem.W.Frag) : Addr := He.fAd K ("Words", some "none_used")
def A_fXu (K : PySem.W.Frag) : Addr := He.fAd K ("Words", some "used_with")
def A_fXw (K : PySem.W.Frag) : Addr := He.fAd K ("Words", some "many_with")
def A_fXf (K : PySem.W.Frag) : Addr := He.fAd K ("Words", some "many_from")
def A_fXa (K : PySem.W.Frag) : Addr := He.fAd K ("Words", some "add_ways")
def A_fXm (K : PySem.W.Frag) : Addr := He.fAd K ("Words", some "many")
def A_fYi (K : PySem.W.Frag) : Addr := He.fAd K ("Bounds", some "__init__")
def A_fYr (K : PySem.W.Frag) : Addr := He.fAd K ("Bounds", some "take_row")
def A_fYk (K : PySem.W.Frag) : Addr := He.fAd K ("Bounds", some "keep_only")
def A_fYl (K : PySem.W.Frag) : Addr := He.fAd K ("Bounds", some "leave_out")
def A_fYa (K : PySem.W.Frag) : Addr := He.fAd K ("Bounds", some "ask_least")
def A_fYm (K : PySem.W.Frag) : Addr := He.fAd K ("Bounds", some "ask_most")
def dHB : He.DefD := ⟨("_law_well", none), "_law_well", "_law_well", defArgs sWell, defBody sWell, defScope sWell, [], []⟩
def dHD : He.DefD := ⟨("_law_next", none), "_law_next", "_law_next", defArgs sNext, defBody sNext, defScope sNext, [], []⟩
def dHAl : He.DefD := ⟨("_law_alphabet", none), "_law_alphabet", "_law_alphabet", defArgs sAlp, defBody sAlp, defScope sAlp, [], []⟩
def dHMd : He.DefD := ⟨("_law_medium", none), "_law_medium", "_law_medium", defArgs sMed, defBody sMed, defScope sMed, [], []⟩
def dHSg : He.DefD := ⟨("_law_signs", none), "_law_signs", "_law_signs", defArgs sSg, defBody sSg, defScope sSg, [], []⟩
def dHTe : He.DefD := ⟨("_law_text", none), "_law_text", "_law_text", defArgs sText, defBody sText, defScope sText, [], []⟩
def dHNe : He.DefD := ⟨("_law_near", none), "_law_near", "_law_near", defArgs sNear, defBody sNear, defScope sNear, [], []⟩
def dHTr : He.DefD := ⟨("_law_true_entries", none), "_law_true_entries", "_law_true_entries", defArgs sTrue, defBody sTrue, defScope sTrue, [], []⟩
def dHW : He.DefD := ⟨("is_integer_within", none), "is_integer_within", "is_integer_within", defArgs sWithin, defBody sWithin, defScope sWithin, [], []⟩
def dHA : He.DefD := ⟨("is_alphabet", none), "is_alphabet", "is_alphabet", defArgs sAlpha, defBody sAlpha, defScope sAlpha, [], []⟩
def dHCn : He.DefD := ⟨("count_words", none), "count_words", "count_words", defArgs sCount, defBody sCount, defScope sCount, [], []⟩
def dHOv : He.DefD := ⟨("is_text_over", none), "is_text_over", "is_text_over", defArgs sOver, defBody sOver, defScope sOver, [], []⟩
def dHIw : He.DefD := ⟨("is_word", none), "is_word", "is_word", defArgs sIsW, defBody sIsW, defScope sIsW, [], []⟩
def dHAm : He.DefD := ⟨("are_marks", none), "are_marks", "are_marks", defArgs sAreM, defBody sAreM, defScope sAreM, [], []⟩
def dHIr : He.DefD := ⟨("is_row", none), "is_row", "is_row", defArgs sIsRow, defBody sIsRow, defScope sIsRow, [], []⟩
def dHCw : He.DefD := ⟨("check_word", none), "check_word", "check_word", defArgs sChkW, defBody sChkW, defScope sChkW, [], []⟩
def dHCm : He.DefD := ⟨("check_marks", none), "check_marks", "check_marks", defArgs sChkM, defBody sChkM, defScope sChkM, [], []⟩
def dHCb : He.DefD := ⟨("check_board", none), "check_board", "check_board", defArgs sChkB, defBody sChkB, defScope sChkB, [], []⟩
def dHCr : He.DefD := ⟨("check_rows", none), "check_rows", "check_rows", defArgs sChkR, defBody sChkR, defScope sChkR, [], []⟩
def dHCh : He.DefD := ⟨("check_history", none), "check_history", "check_history", defArgs sChkH, defBody sChkH, defScope sChkH, [], []⟩
def dHMo : He.DefD := ⟨("marks_of", none), "marks_of", "marks_of", defArgs sMarksOf, defBody sMarksOf, defScope sMarksOf, [], []⟩
def dHLh : He.DefD := ⟨("_law_history", none), "_law_history", "_law_history", defArgs sHist, defBody sHist, defScope sHist, [], []⟩
def dHWc : He.DefD := ⟨("common_letters", none), "common_letters", "common_letters", defArgs sComm, defBody sComm, defScope sComm, [], []⟩
def dHWn : He.DefD := ⟨("counted_letters", none), "counted_letters", "counted_letters", defArgs sCnt, defBody sCnt, defScope sCnt, [], []⟩
def dHWg : He.DefD := ⟨("marks_given", none), "marks_given", "marks_given", defArgs sGiven, defBody sGiven, defScope sGiven, [], []⟩
def dHOd : He.DefD := ⟨("is_in_order", none), "is_in_order", "is_in_order", defArgs sOrd, defBody sOrd, defScope sOrd, [], []⟩
def dHHw : He.DefD := ⟨("has_word", none), "has_word", "has_word", defArgs sHas, defBody sHas, defScope sHas, [], []⟩
def dHCt : He.DefD := ⟨("count", none), "count", "count", defArgs sCount2, defBody sCount2, defScope sCount2, [], []⟩
def dHNw : He.DefD := ⟨("nth_word", none), "nth_word", "nth_word", defArgs sNthW, defBody sNthW, defScope sNthW, [], []⟩
def dHQp : He.DefD := ⟨("places_of_letter", none), "places_of_letter", "places_of_letter", defArgs sPlcL, defBody sPlcL, defScope sPlcL, [], []⟩
def dHQn : He.DefD := ⟨("numbers_of_copies", none), "numbers_of_copies", "numbers_of_copies", defArgs sNumC, defBody sNumC, defScope sNumC, [], []⟩
def dHQo : He.DefD := ⟨("occurrences", none), "occurrences", "occurrences", defArgs sOcc, defBody sOcc, defScope sOcc, [], []⟩
def dHQl : He.DefD := ⟨("letters_at", none), "letters_at", "letters_at", defArgs sLtA, defBody sLtA, defScope sLtA, [], []⟩
def dHQt : He.DefD := ⟨("table", none), "table", "table", defArgs sTable, defBody sTable, defScope sTable, [], []⟩
def dHKl : He.DefD := ⟨("is_letter", none), "is_letter", "is_letter", defArgs sIsL, defBody sIsL, defScope sIsL, [], []⟩
def dHKt : He.DefD := ⟨("is_fact", none), "is_fact", "is_fact", defArgs sIsF, defBody sIsF, defScope sIsF, [], []⟩
def dHKf : He.DefD := ⟨("check_facts", none), "check_facts", "check_facts", defArgs sChkF, defBody sChkF, defScope sChkF, [], []⟩
def dHKw : He.DefD := ⟨("count_with", none), "count_with", "count_with", defArgs sCntW, defBody sCntW, defScope sCntW, [], []⟩
def dHQi : He.DefD := ⟨("_law_within", none), "_law_within", "_law_within", defArgs sInTab, defBody sInTab, defScope sInTab, [], []⟩
def dHR : He.DefD := ⟨("_law_right", none), "_law_right", "_law_right", defArgs sRight58, defBody sRight58, defScope sRight58, [], []⟩
def dHL : He.DefD := ⟨("law", none), "law", "law", defArgs sLaw, defBody sLaw, defScope sLaw, [], []⟩
def dHI : He.DefD := ⟨("Board", some "__init__"), "__init__", "Board.__init__", defArgs sInit, defBody sInit, defScope sInit, [], []⟩
def dHHi : He.DefD := ⟨("History", some "__init__"), "__init__", "History.__init__", defArgs sHInit, defBody sHInit, defScope sHInit, [], []⟩
def dHTh : He.DefD := ⟨("History", some "then"), "then", "History.then", defArgs sThen, defBody sThen, defScope sThen, [], []⟩
def dHFi : He.DefD := ⟨("History", some "fits"), "fits", "History.fits", defArgs sFits, defBody sFits, defScope sFits, [], []⟩
def dHXt : He.DefD := ⟨("Words", some "nth"), "nth", "Words.nth", defArgs sNth, defBody sNth, defScope sNth, [], []⟩
def dHXl : He.DefD := ⟨("Words", some "letter_at"), "letter_at", "Words.letter_at", defArgs sLetAt, defBody sLetAt, defScope sLetAt, [], []⟩
def dHYf : He.DefD := ⟨("Bounds", some "take_fact"), "take_fact", "Bounds.take_fact", defArgs sTakeF, defBody sTakeF, defScope sTakeF, [], []⟩
def dHYo : He.DefD := ⟨("Bounds", some "of_letter"), "of_letter", "Bounds.of_letter", defArgs sOfL, defBody sOfL, defScope sOfL, [], []⟩
def dHXi : He.DefD := ⟨("Words", some "__init__"), "__init__", "Words.__init__", defArgs sWInit, defBody sWInit, defScope sWInit, [], []⟩
def dHXn : He.DefD := ⟨("Words", some "none_used"), "none_used", "Words.none_used", defArgs sNone, defBody sNone, defScope sNone, [], []⟩
def dHXu : He.DefD := ⟨("Words", some "used_with"), "used_with", "Words.used_with", defArgs sUsed, defBody sUsed, defScope sUsed, [], []⟩
def dHXw : He.DefD := ⟨("Words", some "many_with"), "many_with", "Words.many_with", defArgs sManyW, defBody sManyW, defScope sManyW, [], []⟩
def dHXf : He.DefD := ⟨("Words", some "many_from"), "many_from", "Words.many_from", defArgs sManyF, defBody sManyF, defScope sManyF, [], []⟩
def dHXa : He.DefD := ⟨("Words", some "add_ways"), "add_ways", "Words.add_ways", defArgs sAddW, defBody sAddW, defScope sAddW, [], []⟩
def dHXm : He.DefD := ⟨("Words", some "many"), "many", "Words.many", defArgs sMany, defBody sMany, defScope sMany, [], []⟩
def dHYi : He.DefD := ⟨("Bounds", some "__init__"), "__init__", "Bounds.__init__", defArgs sBInit, defBody sBInit, defScope sBInit, [], []⟩
def dHYr : He.DefD := ⟨("Bounds", some "take_row"), "take_row", "Bounds.take_row", defArgs sTakeR, defBody sTakeR, defScope sTakeR, [], []⟩
def dHYk : He.DefD := ⟨("Bounds", some "keep_only"), "keep_only", "Bounds.keep_only", defArgs sKeep, defBody sKeep, defScope sKeep, [], []⟩
def dHYl : He.DefD := ⟨("Bounds", some "leave_out"), "leave_out", "Bounds.leave_out", defArgs sLeave, defBody sLeave, defScope sLeave, [], []⟩
def dHYa : He.DefD := ⟨("Bounds", some "ask_least"), "ask_least", "Bounds.ask_least", defArgs sAskL, defBody sAskL, defScope sAskL, [], []⟩
def dHYm : He.DefD := ⟨("Bounds", some "ask_most"), "ask_most", "Bounds.ask_most", defArgs sAskM, defBody sAskM, defScope sAskM, [], []⟩
def fnH0 : List He.DefD := [dHB, dHD, dHAl, dHMd, dHSg, dHTe, dHNe, dHTr, dHW, dHA, dHCn, dHOv, dHIw, dHAm, dHIr, dHCw, dHCm, dHCb, dHCr, dHCh]
def fnH1 : List He.DefD := [dHMo, dHLh, dHWc, dHWn, dHWg, dHOd, dHHw, dHCt, dHNw, dHQp, dHQn, dHQo, dHQl, dHQt, dHKl, dHKt, dHKf, dHKw, dHQi, dHR]
def fnH2 : List He.DefD := [dHL, dHI, dHHi, dHTh, dHFi, dHXt, dHXl, dHYf, dHYo, dHXi, dHXn, dHXu, dHXw, dHXf, dHXa, dHXm, dHYi, dHYr, dHYk, dHYl]
def fnH3 : List He.DefD := [dHYa, dHYm]
def fnHa : List He.DefD := fnH0 ++ fnH1
def fnHb : List He.DefD := fnH2 ++ fnH3
def fnH : List He.DefD := fnHa ++ fnHb
theorem comb2 {α : Type} {x : Option α} {f g h : α → Bool} (a : x.map f = some true) (b : x.map g = some true) (e : ∀ s, h s = (f s && g s)) : x.map h = some true := by
  cases x with
  | none => cases a
  | some s =>
    have a' : f s = true := Option.some.inj a
    have b' : g s = true := Option.some.inj b
    show some (h s) = some true
    rw [e, a', b']
    rfl
theorem comb3 {α β : Type} {x : Option α} {f g h : α → List β} {u v w : List β} (a : x.map f = some u) (b : x.map g = some v) (e : ∀ s, h s = f s ++ g s) (k : w = u ++ v) : x.map h = some w := by
  cases x with
  | none => cases a
  | some s =>
    have a' : f s = u := Option.some.inj a
    have b' : g s = v := Option.some.inj b
    show some (h s) = some w
    rw [e, a', b', k]
def tfH : List He.Defn := []
def exH0 (K : PySem.W.Frag) : List Bool := [decide (PySem.W.nsIn K mainGlobals "Board" = some (some (.ref (A_CB K)))), decide (PySem.W.nsIn K mainGlobals "History" = some (some (.ref (A_CH K)))), decide (PySem.W.nsIn K mainGlobals "Words" = some (some (.ref (A_CW K)))), decide (PySem.W.nsIn K mainGlobals "Bounds" = some (some (.ref (A_CD K)))), decide (PySem.W.nsIn K mainGlobals "_law_well" = some (some (.ref (A_fB K)))), decide (PySem.W.nsIn K mainGlobals "_law_next" = some (some (.ref (A_fD K)))), decide (PySem.W.nsIn K mainGlobals "_law_alphabet" = some (some (.ref (A_fAl K)))), decide (PySem.W.nsIn K mainGlobals "_law_medium" = some (some (.ref (A_fMd K)))), decide (PySem.W.nsIn K mainGlobals "_law_signs" = some (some (.ref (A_fSg K)))), decide (PySem.W.nsIn K mainGlobals "_law_text" = some (some (.ref (A_fTe K)))), decide (PySem.W.nsIn K mainGlobals "_law_near" = some (some (.ref (A_fNe K)))), decide (PySem.W.nsIn K mainGlobals "_law_true_entries" = some (some (.ref (A_fTr K)))), decide (PySem.W.nsIn K mainGlobals "is_integer_within" = some (some (.ref (A_fW K)))), decide (PySem.W.nsIn K mainGlobals "is_alphabet" = some (some (.ref (A_fA K)))), decide (PySem.W.nsIn K mainGlobals "count_words" = some (some (.ref (A_fCn K)))), decide (PySem.W.nsIn K mainGlobals "is_text_over" = some (some (.ref (A_fOv K)))), decide (PySem.W.nsIn K mainGlobals "is_word" = some (some (.ref (A_fIw K)))), decide (PySem.W.nsIn K mainGlobals "are_marks" = some (some (.ref (A_fAm K)))), decide (PySem.W.nsIn K mainGlobals "is_row" = some (some (.ref (A_fIr K)))), decide (PySem.W.nsIn K mainGlobals "check_word" = some (some (.ref (A_fCw K)))), decide (PySem.W.nsIn K mainGlobals "check_marks" = some (some (.ref (A_fCm K)))), decide (PySem.W.nsIn K mainGlobals "check_board" = some (some (.ref (A_fCb K)))), decide (PySem.W.nsIn K mainGlobals "check_rows" = some (some (.ref (A_fCr K)))), decide (PySem.W.nsIn K mainGlobals "check_history" = some (some (.ref (A_fCh K)))), decide (PySem.W.nsIn K mainGlobals "marks_of" = some (some (.ref (A_fMo K))))]
def exH1 (K : PySem.W.Frag) : List Bool := [decide (PySem.W.nsIn K mainGlobals "_law_history" = some (some (.ref (A_fLh K)))), decide (PySem.W.nsIn K mainGlobals "common_letters" = some (some (.ref (A_fWc K)))), decide (PySem.W.nsIn K mainGlobals "counted_letters" = some (some (.ref (A_fWn K)))), decide (PySem.W.nsIn K mainGlobals "marks_given" = some (some (.ref (A_fWg K)))), decide (PySem.W.nsIn K mainGlobals "is_in_order" = some (some (.ref (A_fOd K)))), decide (PySem.W.nsIn K mainGlobals "has_word" = some (some (.ref (A_fHw K)))), decide (PySem.W.nsIn K mainGlobals "count" = some (some (.ref (A_fCt K)))), decide (PySem.W.nsIn K mainGlobals "nth_word" = some (some (.ref (A_fNw K)))), decide (PySem.W.nsIn K mainGlobals "places_of_letter" = some (some (.ref (A_fQp K)))), decide (PySem.W.nsIn K mainGlobals "numbers_of_copies" = some (some (.ref (A_fQn K)))), decide (PySem.W.nsIn K mainGlobals "occurrences" = some (some (.ref (A_fQo K)))), decide (PySem.W.nsIn K mainGlobals "letters_at" = some (some (.ref (A_fQl K)))), decide (PySem.W.nsIn K mainGlobals "table" = some (some (.ref (A_fQt K)))), decide (PySem.W.nsIn K mainGlobals "is_letter" = some (some (.ref (A_fKl K)))), decide (PySem.W.nsIn K mainGlobals "is_fact" = some (some (.ref (A_fKt K)))), decide (PySem.W.nsIn K mainGlobals "check_facts" = some (some (.ref (A_fKf K)))), decide (PySem.W.nsIn K mainGlobals "count_with" = some (some (.ref (A_fKw K)))), decide (PySem.W.nsIn K mainGlobals "_law_within" = some (some (.ref (A_fQi K)))), decide (PySem.W.nsIn K mainGlobals "_law_right" = some (some (.ref (A_fR K)))), decide (PySem.W.nsIn K mainGlobals "law" = some (some (.ref (A_fL K)))), decide (PySem.W.findIn K (.ref (A_CB K)) "__init__" = some (some (.ref (A_fI K)))), decide (PySem.W.isFn K (.ref (A_fI K)) = true), decide (PySem.W.findIn K (.ref (A_CH K)) "__init__" = some (some (.ref (A_fHi K)))), decide (PySem.W.isFn K (.ref (A_fHi K)) = true), decide (PySem.W.findIn K (.ref (A_CH K)) "then" = some (some (.ref (A_fTh K))))]
def exH2 (K : PySem.W.Frag) : List Bool := [decide (PySem.W.isFn K (.ref (A_fTh K)) = true), decide (PySem.W.findIn K (.ref (A_CH K)) "fits" = some (some (.ref (A_fFi K)))), decide (PySem.W.isFn K (.ref (A_fFi K)) = true), decide (PySem.W.findIn K (.ref (A_CW K)) "nth" = some (some (.ref (A_fXt K)))), decide (PySem.W.isFn K (.ref (A_fXt K)) = true), decide (PySem.W.findIn K (.ref (A_CW K)) "letter_at" = some (some (.ref (A_fXl K)))), decide (PySem.W.isFn K (.ref (A_fXl K)) = true), decide (PySem.W.findIn K (.ref (A_CD K)) "take_fact" = some (some (.ref (A_fYf K)))), decide (PySem.W.isFn K (.ref (A_fYf K)) = true), decide (PySem.W.findIn K (.ref (A_CD K)) "of_letter" = some (some (.ref (A_fYo K)))), decide (PySem.W.isFn K (.ref (A_fYo K)) = true), decide (PySem.W.findIn K (.ref (A_CW K)) "__init__" = some (some (.ref (A_fXi K)))), decide (PySem.W.isFn K (.ref (A_fXi K)) = true), decide (PySem.W.findIn K (.ref (A_CW K)) "none_used" = some (some (.ref (A_fXn K)))), decide (PySem.W.isFn K (.ref (A_fXn K)) = true), decide (PySem.W.findIn K (.ref (A_CW K)) "used_with" = some (some (.ref (A_fXu K)))), decide (PySem.W.isFn K (.ref (A_fXu K)) = true), decide (PySem.W.findIn K (.ref (A_CW K)) "many_with" = some (some (.ref (A_fXw K)))), decide (PySem.W.isFn K (.ref (A_fXw K)) = true), decide (PySem.W.findIn K (.ref (A_CW K)) "many_from" = some (some (.ref (A_fXf K)))), decide (PySem.W.isFn K (.ref (A_fXf K)) = true), decide (PySem.W.findIn K (.ref (A_CW K)) "add_ways" = some (some (.ref (A_fXa K)))), decide (PySem.W.isFn K (.ref (A_fXa K)) = true), decide (PySem.W.findIn K (.ref (A_CW K)) "many" = some (some (.ref (A_fXm K)))), decide (PySem.W.isFn K (.ref (A_fXm K)) = true)]
def exH3 (K : PySem.W.Frag) : List Bool := [decide (PySem.W.findIn K (.ref (A_CD K)) "__init__" = some (some (.ref (A_fYi K)))), decide (PySem.W.isFn K (.ref (A_fYi K)) = true), decide (PySem.W.findIn K (.ref (A_CD K)) "take_row" = some (some (.ref (A_fYr K)))), decide (PySem.W.isFn K (.ref (A_fYr K)) = true), decide (PySem.W.findIn K (.ref (A_CD K)) "keep_only" = some (some (.ref (A_fYk K)))), decide (PySem.W.isFn K (.ref (A_fYk K)) = true), decide (PySem.W.findIn K (.ref (A_CD K)) "leave_out" = some (some (.ref (A_fYl K)))), decide (PySem.W.isFn K (.ref (A_fYl K)) = true), decide (PySem.W.findIn K (.ref (A_CD K)) "ask_least" = some (some (.ref (A_fYa K)))), decide (PySem.W.isFn K (.ref (A_fYa K)) = true), decide (PySem.W.findIn K (.ref (A_CD K)) "ask_most" = some (some (.ref (A_fYm K)))), decide (PySem.W.isFn K (.ref (A_fYm K)) = true), HX.intB K "MOST_LENGTH" 6, HX.intB K "MOST_LETTERS" 26, HX.intB K "MOST_ROWS" 20, HX.strB K "LOWERCASE" lowTxt, HX.strB K "MARKS" (Str.ofString "012"), HX.intB K "MOST_FACTS" 4, decide (PySem.W.nsIn K mainGlobals "len" = some none), decide (PySem.W.nsIn K mainGlobals "int" = some none), decide (PySem.W.nsIn K mainGlobals "abs" = some none), decide (PySem.W.nsIn K mainGlobals "divmod" = some none), decide (PySem.W.nsIn K mainGlobals "isinstance" = some none), decide (PySem.W.nsIn K mainGlobals "bool" = some none), decide (PySem.W.nsIn K mainGlobals "str" = some none)]
def exH4 (K : PySem.W.Frag) : List Bool := [decide (PySem.W.nsIn K mainGlobals "range" = some none), decide (PySem.W.nsIn K mainGlobals "list" = some none), decide (PySem.W.nsIn K mainGlobals "all" = some none), decide (PySem.W.nsIn K mainGlobals "max" = some none), decide (PySem.W.nsIn K mainGlobals "min" = some none), decide (PySem.W.nsIn K mainGlobals "zip" = some none), decide (PySem.W.nsIn K mainGlobals "tuple" = some none), decide (PySem.W.nsIn K mainGlobals "enumerate" = some none), decide (PySem.W.nsIn K mainGlobals "sum" = some none), decide (PySem.W.specialIn K (.builtin "object.__class__") "__get__" = some (some (.builtin "getset_descriptor.__get__"))), decide (PySem.W.takesIn K (.builtin "object.__class__") = some true), decide (PySem.W.plainGet K (A_CB K) Str.empty = true), decide (PySem.W.hasDictIn K (A_CB K) = true), decide (PySem.W.plainOver K (A_CB K) = true), decide (PySem.W.findIn K (.ref (A_CB K)) "__setattr__" = some (some (.builtin "object.__setattr__"))), decide (PySem.W.makesIn K (A_CB K) = true), decide (PySem.W.keepIn K (.ref (A_CB K)) = true), decide (PySem.W.plainGet K (A_CH K) Str.empty = true), decide (PySem.W.hasDictIn K (A_CH K) = true), decide (PySem.W.plainOver K (A_CH K) = true), decide (PySem.W.findIn K (.ref (A_CH K)) "__setattr__" = some (some (.builtin "object.__setattr__"))), decide (PySem.W.makesIn K (A_CH K) = true), decide (PySem.W.keepIn K (.ref (A_CH K)) = true), decide (PySem.W.findIn K (.ref (A_CB K)) "letters" = some none), decide (PySem.W.findIn K (.ref (A_CB K)) "length" = some none)]
def exH5 (K : PySem.W.Frag) : List Bool := [decide (PySem.W.findIn K (.ref (A_CB K)) "size" = some none), decide (PySem.W.findIn K (.ref (A_CB K)) "__class__" = some (some (.builtin "object.__class__"))), decide (PySem.W.mroIn K (A_CB K) (.type "object") = some true), decide (PySem.W.kitOne K (.ref (A_CB K)) (.ref (A_CB K)) = some true), decide (PySem.W.findIn K (.ref (A_CH K)) "board" = some none), decide (PySem.W.findIn K (.ref (A_CH K)) "rows" = some none), decide (PySem.W.kitOne K (.ref (A_CH K)) (.ref (A_CH K)) = some true), decide (PySem.W.findIn K (.ref (A_CH K)) "__class__" = some (some (.builtin "object.__class__"))), decide (PySem.W.mroIn K (A_CH K) (.type "object") = some true), decide (PySem.W.plainGet K (A_CW K) Str.empty = true), decide (PySem.W.hasDictIn K (A_CW K) = true), decide (PySem.W.plainOver K (A_CW K) = true), decide (PySem.W.findIn K (.ref (A_CW K)) "__setattr__" = some (some (.builtin "object.__setattr__"))), decide (PySem.W.makesIn K (A_CW K) = true), decide (PySem.W.keepIn K (.ref (A_CW K)) = true), decide (PySem.W.findIn K (.ref (A_CW K)) "allowed" = some none), decide (PySem.W.findIn K (.ref (A_CW K)) "counted" = some none), decide (PySem.W.findIn K (.ref (A_CW K)) "least" = some none), decide (PySem.W.findIn K (.ref (A_CW K)) "greatest" = some none), decide (PySem.W.findIn K (.ref (A_CW K)) "known" = some none), decide (PySem.W.plainGet K (A_CD K) Str.empty = true), decide (PySem.W.hasDictIn K (A_CD K) = true), decide (PySem.W.plainOver K (A_CD K) = true), decide (PySem.W.findIn K (.ref (A_CD K)) "__setattr__" = some (some (.builtin "object.__setattr__"))), decide (PySem.W.makesIn K (A_CD K) = true)]
def exH6 (K : PySem.W.Frag) : List Bool := [decide (PySem.W.keepIn K (.ref (A_CD K)) = true), decide (PySem.W.findIn K (.ref (A_CD K)) "allowed" = some none), decide (PySem.W.findIn K (.ref (A_CD K)) "least" = some none), decide (PySem.W.findIn K (.ref (A_CD K)) "greatest" = some none)]
def exH (K : PySem.W.Frag) : Bool := HX.allT (exH0 K) && HX.allT (exH1 K) && HX.allT (exH2 K) && HX.allT (exH3 K)
def exI (K : PySem.W.Frag) : Bool := HX.allT (exH4 K) && HX.allT (exH5 K) && HX.allT (exH6 K)
def namesH0 : List PySem.Str := ["_wall", "__name__", "Bounds", "marks_given", "is_in_order", "InputError", "NotABoard", "NotAHistory", "InvalidLetters", "InvalidLength", "InvalidWord", "InvalidMarks", "InvalidNumber", "InvalidRows", "InvalidFacts", "SizeError", "TooManyRows", "MOST_LENGTH", "MOST_LETTERS", "MOST_ROWS", "MOST_FACTS", "MARKS", "is_integer_within", "is_text_over", "is_word", "are_marks", "is_row", "check_word", "check_marks", "is_fact"]
def namesH1 : List PySem.Str := ["is_letter", "check_facts", "LOWERCASE", "Board", "is_alphabet", "count_words", "check_board", "Words", "counted_letters", "common_letters", "has_word", "marks_of", "History", "check_rows", "check_history", "table", "occurrences", "places_of_letter", "numbers_of_copies", "letters_at", "count", "nth_word", "count_with", "_law_well", "_law_next", "_law_alphabet", "_law_signs", "_law_text", "_law_near", "_law_history"]
def namesH2 : List PySem.Str := ["_law_true_entries", "_law_medium", "_law_within", "_law_right"]
def namesH : List PySem.Str := namesH0 ++ namesH1 ++ namesH2
abbrev RH : PySem.W.OpenRow := PySem.W.OpenLaw.row PySem.Challenge.rw_guessmarks_k58_whole_tables_by_counts
def asH : List Addr := mainGlobals :: List.range 1100
abbrev hkH : PySem.W.Hook := HX.hookA asH fnH tfH exH exI
def obH (s : PySem.W.SharedT) : HX.AlA := HX.obsA asH fnH tfH exH exI (HandSHeadRun.getT s)
theorem obH_eq (s : PySem.W.SharedT) : obH s = hkH.obs s.abs := HX.obsA_eq (HandSHeadRun.getT_eq s)
noncomputable abbrev endH (w : World) (os : OsState) := HX.endW RH 12000 w os
abbrev viewH : Program := PySem.W.view RH.prog [74]
abbrev KH (s : PySem.W.SharedT) : PySem.W.Frag := He.frT (HandSHeadRun.getT s) asH
theorem run1 (w : World) (os : OsState) : (endH w os).map (fun s => HandSHeadRun.looksF RH.prog (PySem.W.boot_heap w.params) s.abs) = some true := by kernel_rfl
theorem run2 (w : World) (os : OsState) : (endH w os).map (fun s => HX.seenW RH viewH namesH s) = some (PySem.W.openGood viewH namesH) := by kernel_rfl
theorem run3 (w : World) (os : OsState) : (endH w os).map (fun s => exH (KH s)) = some true := by kernel_rfl
theorem run4 (w : World) (os : OsState) : (endH w os).map (fun s => exI (KH s)) = some true := by kernel_rfl
theorem run5a (w : World) (os : OsState) : (endH w os).map (fun s => fnHa.all fun d => d.ok (KH s)) = some true := by kernel_rfl
theorem run5b (w : World) (os : OsState) : (endH w os).map (fun s => (fnHb.all fun d => d.ok (KH s)) && He.tabsB (HandSHeadRun.getT s) tfH (KH s)) = some true := by kernel_rfl
theorem e5H (s : PySem.W.SharedT) : ((fnH.all fun d => d.ok (KH s)) && He.tabsB (HandSHeadRun.getT s) tfH (KH s)) = ((fnHa.all fun d => d.ok (KH s)) && ((fnHb.all fun d => d.ok (KH s)) && He.tabsB (HandSHeadRun.getT s) tfH (KH s))) := by
  generalize KH s = k
  generalize He.tabsB (HandSHeadRun.getT s) tfH k = t
  unfold fnH
  rw [List.all_append, Bool.and_assoc]
theorem e6H (s : PySem.W.SharedT) : (fnH.map fun d => He.fnW (KH s) d.at_) = (fnHa.map fun d => He.fnW (KH s) d.at_) ++ (fnHb.map fun d => He.fnW (KH s) d.at_) := by
  generalize KH s = k
  unfold fnH
  rw [List.map_append]
theorem run5 (w : World) (os : OsState) : (endH w os).map (fun s => (fnH.all fun d => d.ok (KH s)) && He.tabsB (HandSHeadRun.getT s) tfH (KH s)) = some true := by
  have a := run5a w os
  have b := run5b w os
  generalize endH w os = x at a b ⊢
  refine comb2 a b ?_
  intro s
  exact e5H s
theorem run6a (w : World) (os : OsState) : (endH w os).map (fun s => fnHa.map fun d => He.fnW (KH s) d.at_) = some (fnHa.map He.DefD.val) := by kernel_rfl
theorem run6b (w : World) (os : OsState) : (endH w os).map (fun s => fnHb.map fun d => He.fnW (KH s) d.at_) = some (fnHb.map He.DefD.val) := by kernel_rfl
theorem run6 (w : World) (os : OsState) : (endH w os).map (fun s => fnH.map fun d => He.fnW (KH s) d.at_) = some (fnH.map He.DefD.val) := by
  have a := run6a w os
  have b := run6b w os
  generalize endH w os = x at a b ⊢
  refine comb3 a b ?_ ?_
  · intro s
    exact e6H s
  · unfold fnH
    rw [List.map_append]
theorem runH (w : World) : HandSHeadRun.RunEq RH (PySem.W.view RH.prog [74]) hkH obH 12000 namesH w := by
  unfold HandSHeadRun.RunEq
  intro os
  exact HX.run_all (x := endH w os) (fun t => (t.1, t.2.1, t.2.2.1, t.2.2.2.1, t.2.2.2.2.1, t.2.2.2.2.2)) (run1 w os) (run2 w os) (run3 w os) (run4 w os) (run5 w os) (run6 w os) (fun _ => rfl) rfl
end Gm
set_option maxHeartbeats 8000000
namespace PySem.W
open PySem PySem.Spec PySem.Calls PyProof.Rows Builtin
section
variable {prog : Program} {w : World} {M : Model} {A : Around} {E : Value → Shared → Prop} {s : Shared} {K : Frag} {x C f L : Addr} {ox : Obj} {od : Option Obj} {h₀ : Heap} {m : Str → Option Value} {b tb : Value}
theorem gm_ifBound {name : Str} {id : String} {args : List Value} {Q : Option Value → Shared → Prop} (X : K.In s.heap) (I : InstAt s.heap x ox C od) (hs : findIn K (.ref C) name = some (some (.builtin id)))
    (hb : ∀ self, bindSpecial (.builtin id) self = pure (.builtin id, [self])) (h : wpAny M A (call (.builtin id) (.ref x :: args)) (fun v => Q (some v)) E s) : wpAny M A (callSpecialIfBound? (.ref x) name args) Q E s := by
  simp only [callSpecialIfBound?, bindSpecialIfBound?]
  refine wpAny_holding <| wpAny_bind <| wpAny_bind <| wpAny_bind <| I.type.here <| (looks_findIn X hs).here ?_
  refine wpAny_bind <| wpAny_askSetting <| wpAny_ite ?_
  have z : wpAny M A (call (.builtin id) ([.ref x] ++ args) >>= fun v => pure (some v)) Q E s := wpAny_bind <| wpAny_mono h (fun v s' h' => wpAny_pure h') fun _ _ h' => h'
  split
  · exact wpAny_bind <| (Looks.of_pure (hb _)).here <| wpAny_pure z
  · exact wpAny_tryCatch <| wpAny_bind <| (Looks.of_pure (hb _)).here <| wpAny_pure z
def NeBack (Q : Value → Shared → Prop) (v : Value) (s' : Shared) : Prop := ∃ r, v = .bool r ∧ Q (.bool (!r)) s'
theorem gm_objNe {Q : Value → Shared → Prop} (hu : A.in1.units < cLine) (X : K.In s.heap) (I : InstAt s.heap x ox C od) (hm : mroIn K C (.type "object") = some true) (hs : findIn K (.ref C) "__eq__" = some (some (.ref f))) (hf : isFn K (.ref f) = true)
    (h : wpAny (model prog w) A.in1 (call (.ref f) [.ref x, b]) (NeBack Q) E s) : wpAny (model prog w) A (call (.builtin "object.__ne__") [.ref x, b]) Q E s := by
  refine wpAny_call <| codeAny_call_builtin PySem.F.cmp_object.ne.plain PySem.F.cmpEntry_ne <| check_slot (owner := "object") (n := "__ne__") PySem.F.cmpKind_ne PySem.F.cmpSplit_ne (I.type.andThen (looks_mroIn X hm)) (PySem.F.cmpArgs_ne _ _) ?_
  unfold Builtin.«object.__ne__»
  refine wpAny_bind (m := slotArgs "__ne__" 1 _) <| wpAny_pure ?_
  refine wpAny_bind (m := cRoomFor _ _) <| wpAny_cRoomFor hu ?_
  refine wpAny_bind (m := callSpecialIfBound? (.ref x) (Str.ofString "__eq__") _) <| ifBound_K X I hs hf <| wpAny_mono h (fun r s' hq => ?_) fun _ _ y => y
  obtain ⟨r, rfl, hq⟩ := hq
  refine wpAny_bind <| wpAny_truthy_bool ?_
  exact wpAny_pure hq
theorem gm_ne {Q : Value → Shared → Prop} (hu : A.units < cLine) (hu1 : A.in1.units < cLine) (X : K.In s.heap) (I : InstAt s.heap x ox C od) (hb : Looks (model prog w) s.heap (typeOf b) tb) (hn : notFirst K C tb = true)
    (hN : findIn K (.ref C) "__ne__" = some (some (.builtin "object.__ne__"))) (hm : mroIn K C (.type "object") = some true)
    (hs : findIn K (.ref C) "__eq__" = some (some (.ref f))) (hf : isFn K (.ref f) = true)
    (h : wpAny (model prog w) A.in1 (call (.ref f) [.ref x, b]) (NeBack Q) E s) : wpAny (model prog w) A (richCompare .NotEq (.ref x) b) Q E s := by
  have one : wpAny (model prog w) A (tryCompare (.ref x) (cmpInfo .NotEq).2.1 b) (fun r s' => ∃ v, r = some v ∧ Q v s') E s := by
    unfold tryCompare
    refine wpAny_bind <| gm_ifBound X I hN PySem.F.cmp_object.ne.bind ?_
    refine wpAny_mono (gm_objNe (Q := fun v s' => (∃ r, v = .bool r) ∧ Q v s') hu1 X I hm hs hf (wpAny_mono h (fun v s' hv => ?_) fun _ _ e => e)) (fun v s' hv => ?_) fun _ _ e => e
    · obtain ⟨r, e, hv⟩ := hv
      exact ⟨r, e, ⟨_, rfl⟩, hv⟩
    · obtain ⟨⟨r, rfl⟩, hv⟩ := hv
      exact wpAny_pure ⟨_, rfl, hv⟩
  unfold richCompare
  simp only [oneThing_ref]
  refine wpAny_holding <| wpAny_bind <| wpAny_cRoomFor hu ?_
  refine wpAny_bind <| I.type.here <| wpAny_bind <| hb.here ?_
  split
  · rename_i q
    have e : subIn K tb (.ref C) = some false := by
      rcases Bool.or_eq_true_iff.mp hn with e | e
      · rw [beq_iff_eq.mp e] at q
        simp at q
      · exact beq_iff_eq.mp e
    refine wpAny_bind <| (looks_subIn X e).here ?_
    simp only [Bool.false_eq_true, if_false]
    refine wpAny_bind <| wpAny_mono one (fun r s' z => ?_) fun _ _ e => e
    obtain ⟨v, rfl, hq⟩ := z
    exact wpAny_pure hq
  · refine wpAny_bind (wpAny_pure ?_)
    simp only [Bool.false_eq_true, if_false]
    refine wpAny_bind <| wpAny_mono one (fun r s' z => ?_) fun _ _ e => e
    obtain ⟨v, rfl, hq⟩ := z
    exact wpAny_pure hq
end
end PySem.W

namespace L2
open PySem PySem.Spec PyProof.Rows
section
variable {X : Cx} {n : Nat} {pins : List (Addr × Obj)} {σ : St} {H : Hp} {s : Shared}
theorem gm_call {A : Around} {CX : CXT} {f : Addr} {fd : FuncData} {ps : List Str} {sp : Sp} {E : XK} {vs : List V} {us : List Value} {Q : VK} (sb : Sub X n A) (I : Inv X pins σ H s) (F : FnOk X.prog X.w X.K X.mg X.base CX n f fd ps sp)
    (hb : Binds X.K fd ps []) (hx : Passes CX X E) (r2 : Vals vs us) (hsp : sp vs H Q E) : wpAny (model X.prog X.w) A (call (.ref f) us) (EP X pins σ Q) X.xe s := by
  have e0 : Env0 X.prog X.w X.K X.mg X.base A X.stack s H := by
    have e := I.env0
    exact ⟨by rw [sb.fr]; exact e.frames, e.mod, e.bs, e.bsz, e.funs, e.frf, e.hok, e.bare⟩
  have hl := F.len _ _ _ _ hsp
  have hl2 : us.length = ps.length := by rw [← r2.length]; exact hl
  refine wpAny_call <| codeAny_mono (F.run A X.stack s H ⟨us, []⟩ us vs Q E sb.room e0 (by
    have := hb s us I.kIn (by simpa using hl2)
    simpa using this) r2 hsp) fun r s' hq => ?_
  cases r with
  | error e => exact hx pins σ H s e s' I hq
  | ok fl =>
    cases fl with
    | ret w => exact I.after hq
    | next => exact hq.elim
    | brk => exact hq.elim
    | cont => exact hq.elim
/-- x == y, x != y by the class's own == -/
def rOwn (K : PySem.W.Frag) (C : Addr) (sp : Sp) (E : XK) (g : Bool → Bool) : R2 := fun x y H Q => ∃ a dx fs t, x = .ref a ∧ H a = some (.ins C dx fs) ∧ TyX K H y t ∧ PySem.W.notFirst K C t = true ∧ sp [.ref a, y] H (fun v H' => ∃ r, v = .bl r ∧ Q (.bl (g r)) H') E
theorem op_eqOwn {CX : CXT} {C f : Addr} {fd : FuncData} {ps : List Str} {sp : Sp} {E : XK} (hr : Room n X.A) (F : FnOk X.prog X.w X.K X.mg X.base CX n f fd ps sp) (hs : PySem.W.findIn X.K (.ref C) "__eq__" = some (some (.ref f))) (hf : PySem.W.isFn X.K (.ref f) = true)
    (hb : Binds X.K fd ps []) (hx : Passes CX X E) : OpR X (compareOp .Eq) (rOwn X.K C sp E id) := by
  intro pins s σ H x y u v Q I rx ry d
  obtain ⟨a, dx, fs, t, rfl, ha, ty, hn, hsp⟩ := d
  cases rx
  obtain ⟨mA, J, _⟩ := ins_get I.hok ha
  obtain ⟨od, J, _⟩ := J.look
  obtain ⟨m, hF⟩ := I.fr
  obtain ⟨Pv, Z, pv, _⟩ := kit_of I ry ty
  refine PySem.W.cmp_K (op := .Eq) hr.units0 hF I.ok.mod.kin J (Z.ty _ _ I.kIn pv) hn hs hf ?_
  refine wpAny_mono (gm_call ⟨hr, rfl⟩ I F hb hx (vs := [.ref a, y]) (us := [.ref a, v]) (.cons rfl (.cons ry .nil)) hsp) (fun z s' hz => ?_) fun _ _ e => e
  obtain ⟨z', H', I', rz, r, rfl, q⟩ := hz
  cases rz
  exact ⟨.bl r, H', I', rfl, q⟩
theorem op_neOwn {CX : CXT} {C f : Addr} {fd : FuncData} {ps : List Str} {sp : Sp} {E : XK} (hr : Room (n + 1) X.A) (F : FnOk X.prog X.w X.K X.mg X.base CX n f fd ps sp) (hs : PySem.W.findIn X.K (.ref C) "__eq__" = some (some (.ref f))) (hf : PySem.W.isFn X.K (.ref f) = true)
    (hN : PySem.W.findIn X.K (.ref C) "__ne__" = some (some (.builtin "object.__ne__"))) (hm : PySem.W.mroIn X.K C (.type "object") = some true)
    (hb : Binds X.K fd ps []) (hx : Passes CX X E) : OpR X (compareOp .NotEq) (rOwn X.K C sp E not) := by
  intro pins s σ H x y u v Q I rx ry d
  obtain ⟨a, dx, fs, t, rfl, ha, ty, hn, hsp⟩ := d
  cases rx
  obtain ⟨mA, J, _⟩ := ins_get I.hok ha
  obtain ⟨od, J, _⟩ := J.look
  obtain ⟨Pv, Z, pv, _⟩ := kit_of I ry ty
  refine PySem.W.gm_ne hr.units0 hr.in1.units0 I.kIn J (Z.ty _ _ I.kIn pv) hn hN hm hs hf ?_
  refine wpAny_mono (gm_call ⟨hr.in1, rfl⟩ I F hb hx (vs := [.ref a, y]) (us := [.ref a, v]) (.cons rfl (.cons ry .nil)) hsp) (fun z s' hz => ?_) fun _ _ e => e
  obtain ⟨z', H', I', rz, r, rfl, q⟩ := hz
  cases rz
  exact ⟨_, rfl, .bl (!r), H', I', rfl, q⟩
/-- str(x), repr(x) by the class's own -/
def rTxt (C : Addr) (sp : Sp) (E : XK) : List V → Hp → VK → Prop := fun xs H Q => ∃ a dx fs, xs = [.ref a] ∧ H a = some (.ins C dx fs) ∧ sp [.ref a] H (fun v H' => ∃ r, v = .str r ∧ Q (.str r) H') E
theorem call_reprOwn {CX : CXT} {C f : Addr} {fd : FuncData} {ps : List Str} {sp : Sp} {E : XK} (hr : Room (n + 1) X.A) (F : FnOk X.prog X.w X.K X.mg X.base CX n f fd ps sp) (hs : PySem.W.findIn X.K (.ref C) "__repr__" = some (some (.ref f))) (hf : PySem.W.isFn X.K (.ref f) = true)
    (hb : Binds X.K fd ps []) (hx : Passes CX X E) : CallR X (.builtin "repr") (rTxt C sp E) := by
  intro pins s σ H xs us Q I r h
  obtain ⟨a, dx, fs, rfl, ha, hsp⟩ := h
  obtain ⟨mA, J, _⟩ := ins_get I.hok ha
  obtain ⟨od, J, _⟩ := J.look
  obtain ⟨m, hF⟩ := I.fr
  cases r with
  | cons r1 r2 =>
    cases r2
    cases r1
    refine PySem.W.repr_K hr.in1.units0 hF I.ok.mod.kin J hs hf ?_
    refine wpAny_mono (gm_call ⟨hr.in1, rfl⟩ I F hb hx (vs := [.ref a]) (us := [.ref a]) (.cons rfl .nil) hsp) (fun z s' hz => ?_) fun _ _ e => e
    obtain ⟨z', H', I', rz, r, rfl, q⟩ := hz
    obtain ⟨t, rfl⟩ := rz
    exact ⟨.str r, H', I', ⟨_, rfl⟩, q⟩
theorem call_strOwn {CX : CXT} {C f : Addr} {fd : FuncData} {ps : List Str} {sp : Sp} {E : XK} (hr : Room (n + 2) X.A) (F : FnOk X.prog X.w X.K X.mg X.base CX n f fd ps sp) (hs : PySem.W.findIn X.K (.ref C) "__str__" = some (some (.ref f))) (hf : PySem.W.isFn X.K (.ref f) = true)
    (hb : Binds X.K fd ps []) (hx : Passes CX X E) : CallR X (.type "str") (rTxt C sp E) := by
  intro pins s σ H xs us Q I r h
  obtain ⟨a, dx, fs, rfl, ha, hsp⟩ := h
  obtain ⟨mA, J, _⟩ := ins_get I.hok ha
  obtain ⟨od, J, _⟩ := J.look
  cases r with
  | cons r1 r2 =>
    cases r2
    cases r1
    refine PySem.W.kso_call hr.in1.in1.units0 I.kIn J hs hf ?_
    refine wpAny_mono (gm_call ⟨hr.in1.in1, rfl⟩ I F hb hx (vs := [.ref a]) (us := [.ref a]) (.cons rfl .nil) hsp) (fun z s' hz => ?_) fun _ _ e => e
    obtain ⟨z', H', I', rz, r, rfl, q⟩ := hz
    obtain ⟨t, rfl⟩ := rz
    exact ⟨.str r, H', I', ⟨_, rfl⟩, q⟩
/-- an instance without __bool__ and __len__ is true -/
def tTru (C : Addr) (ta : TE) : TT := fun σ H Q => ta σ H fun x H' => ∃ a dx fs, x = .ref a ∧ H' a = some (.ins C dx fs) ∧ Q true H'
theorem pt_inst {a : Expr} {ta : TE} {C : Addr} (hb : PySem.W.findIn X.K (.ref C) "__bool__" = some none) (hl : PySem.W.findIn X.K (.ref C) "__len__" = some none) (ha : PE X a ta) (he : ∀ whole, isTrue a X.env whole = (do let v ← whole; standAt a.pos; holding [v] (truthy v))) :
    PT X a (tTru C ta) := by
  refine ⟨fun pins s σ H Q I h => ?_⟩
  refine isTrue_plain (thn (ha.run pins s σ H _ I h) fun v s1 hh => ?_) (he _)
  obtain ⟨x, H1, I1, r1, p, dx, fs, rfl, hp, q⟩ := hh
  cases r1
  obtain ⟨mA, J, _⟩ := ins_get I1.hok hp
  obtain ⟨od, J, _⟩ := J.look
  obtain ⟨m, hF⟩ := I1.fr
  exact PySem.W.truthy_K0 hF I1.ok.mod.kin J hb hl ⟨H1, I1, q⟩
end
end L2

/-! the well of the second and third book of laws, and what is drawn from it -/
namespace Gm
open PySem L2



/-- three ints stand at p; c draws may still be made -/
def BowlC (c : Nat) (H : Hp) (p : Addr) : Prop := ∃ x y z : Int, H p = some (.lst [.int x, .int y, .int z]) ∧ 0 ≤ z ∧ z + c ≤ 1000000000000
/-- all but p stands as it stood, and at most k draws were made -/
def Stir (k : Nat) (p : Addr) (H H' : Hp) : Prop := (∀ b o, b ≠ p → H b = some o → H' b = some o) ∧ ∀ c, BowlC (c + k) H p → BowlC c H' p
theorem BowlC.mono {c d : Nat} {H : Hp} {p : Addr} (h : BowlC c H p) (l : d ≤ c) : BowlC d H p := let ⟨x, y, z, e, z0, z1⟩ := h; ⟨x, y, z, e, z0, by omega⟩
theorem BowlC.same {c : Nat} {H H' : Hp} {p : Addr} (h : BowlC c H p) (s : Same H H') : BowlC c H' p := let ⟨x, y, z, e, k⟩ := h; ⟨x, y, z, s _ _ e, k⟩
theorem Stir.trans {j k : Nat} {p : Addr} {H H1 H2 : Hp} (a : Stir j p H H1) (b : Stir k p H1 H2) : Stir (j + k) p H H2 := ⟨fun c o n h => b.1 c o n (a.1 c o n h), fun c h => b.2 c (a.2 (c + k) (h.mono (by omega)))⟩
theorem Stir.mono {j k : Nat} {p : Addr} {H H' : Hp} (a : Stir j p H H') (l : j ≤ k) : Stir k p H H' := ⟨a.1, fun c h => a.2 c (h.mono (by omega))⟩
theorem Stir.same {k : Nat} {p : Addr} {H H1 H2 : Hp} (a : Stir k p H H1) (b : Same H1 H2) : Stir k p H H2 := ⟨fun c o n h => b _ _ (a.1 c o n h), fun c h => (a.2 c h).same b⟩
theorem Stir.refl {k : Nat} {p : Addr} {H : Hp} : Stir k p H H := ⟨fun _ _ _ h => h, fun _ h => h.mono (by omega)⟩
theorem Stir.bowl {c k N : Nat} {p : Addr} {H H' : Hp} (a : Stir k p H H') (h : BowlC N H p) (l : k + c ≤ N) : BowlC c H' p := a.2 c (h.mono (by omega))
theorem BowlC.ne {c : Nat} {H : Hp} {p a : Addr} (h : BowlC c H p) (n : H a = none) : a ≠ p := fun e => by
  obtain ⟨x, y, z, q, _⟩ := h
  rw [e, q] at n
  cases n
theorem Stir.free {k : Nat} {p a : Addr} {H H' : Hp} (R : Stir k p H H') (ne : a ≠ p) (n : H' a = none) : H a = none := by
  cases e : H a with
  | none => rfl
  | some o => rw [R.1 a o ne e] at n; cases n
/-- a list that was not there, made in a run of draws, may be written -/
theorem Stir.put {k : Nat} {p D : Addr} {H H' : Hp} {o : HO} (R : Stir k p H H') (n : H D = none) (ne : D ≠ p) : Stir k p H (upd H' D o) := ⟨fun b u nb e => by
  rw [upd_ne (ne_of_none e n)]
  exact R.1 b u nb e, fun c h => let ⟨x, y, z, e, k⟩ := R.2 c h; ⟨x, y, z, (upd_ne ne.symm).trans e, k⟩⟩
theorem same_upd {H : Hp} {p : Addr} {o : HO} (h : H p = none) : Same H (upd H p o) := fun b u e => by rw [upd_ne (ne_of_none e h)]; exact e
def spBowl (K : PySem.W.Frag) : Sp := fun vs H Q _ => ∃ (a : Addr) (ns : List Int) (k : Int), vs = [.ref a, .int k] ∧ SqL K H a (ns.map V.int) ∧ ns.length ≤ 63 ∧ 0 ≤ k ∧
  ∀ H' p, Same H H' → H p = none → BowlC 1000000000000 H' p → Q (.ref p) H'
def spDip : Sp := fun vs H Q _ => ∃ (p : Addr) (m : Int), vs = [.ref p, .int m] ∧ BowlC 1 H p ∧ 0 < m ∧ m < 1073741824 ∧
  ∀ H' d, Stir 1 p H H' → 0 ≤ d → d < m → Q (.int d) H'
structure TxB (mg : Str → Option Value) : Prop where
  len : mg "len" = none
  int : mg "int" = none
  abs : mg "abs" = none
  divmod : mg "divmod" = none
theorem int_at {ns : List Int} {k : Int} (h0 : 0 ≤ k) (h : k < ns.length) : ∃ u, atI (ns.map V.int) k = some (V.int u) := by
  obtain ⟨j, rfl⟩ := Int.eq_ofNat_of_zero_le h0
  have hj : j < ns.length := by omega
  exact ⟨ns[j], atI_nat (by rw [List.getElem?_map, List.getElem?_eq_getElem hj]; rfl)⟩
theorem cut_int {ns : List Int} {lo hi : Option Int} {i : Nat} {y : V} (h : (cutV (ns.map V.int) lo hi)[i]? = some y) : ∃ u, y = V.int u := by
  have hm := List.mem_of_getElem? h
  unfold cutV at hm
  have := List.mem_of_mem_drop (List.mem_of_mem_take hm)
  obtain ⟨u, _, rfl⟩ := List.mem_map.mp this
  exact ⟨u, rfl⟩
theorem pos2 : (0 : Int) < 2147483563 := by decide
theorem cutIfV {tA : TT} {ta tb : TE} {σ : St} {H : Hp} {Q : V → Hp → Prop} (C : V → Prop) (k : ∀ v, C v → Q v H) (h : (∀ v, C v → Q v H) → tIf tA ta tb σ H Q) : tIf tA ta tb σ H Q := h k
theorem cutIf {tA : TT} {ta tb : TE} {σ : St} {H : Hp} {Q : V → Hp → Prop} (C : V → Hp → Prop) (k : ∀ v H', C v H' → Q v H') (h : (∀ v H', C v H' → Q v H') → tIf tA ta tb σ H Q) : tIf tA ta tb σ H Q := h k
section
variable {P : Program} {w : World} {K : PySem.W.Frag} {mg : Str → Option Value} {base : Heap}
abbrev nB : List Str := ["_law_script", "_law_k", "_law_own", "_law_cell", "_law_large"]
theorem scB : FnScope nB ["_law_script", "_law_k"] (defScope sWell) := ⟨rfl, rfl, rfl, by decide +kernel, rfl, by decide +kernel, by decide +kernel⟩
theorem ok_bowl {f : Addr} {fd : FuncData} (F : Fun K "_law_well" "_law_well" sWell f fd) (T : TxB mg) : FnOk P w K mg base CX0 1 f fd ["_law_script", "_law_k"] (spBowl K) := by
  refine F.ok scB (fun vs H Q E h => ?_) (fun cdv A outer s H vs Q E hr h => ?_)
  · obtain ⟨a, ns, k, rfl, _⟩ := h
    rfl
  · obtain ⟨a, ns, k, rfl, hS, hlen, h0, q⟩ := h
    refine ⟨_, pss_cons (ps_set (i := 2) scB.nd rfl (Or.inl rfl) (pe_op op_add (pe_op op_mul pe_int (pv 1)) pe_int))
      (C8.pss_cut (ps_if (pt_cmpR op_lt (pv 1) (pe_callB call_len_seq (by rfl) T.len PySem.boot_len (pa_cons (pv 0) pa_nil)) (nomark _))
          (pss_one (ps_set (i := 2) scB.nd rfl (Or.inl rfl) (pe_callTy call_int1 (by rfl) T.int (by decide +kernel) (pa_cons (pe_ix ix_list (pv 0) (pv 1) (fun _ _ => rfl)) pa_nil))))
          (pss_one (ps_for PassesOwn.never rfl (pi_list (pe_slice sl_list (pv 0) po_none (po_some pe_int))) (pg_name (i := 3) scB.nd rfl (Or.inl rfl))
            (pss_one (ps_set (i := 2) scB.nd rfl (Or.inl rfl) (pe_op op_mod (pe_callTy call_int1 (by rfl) T.int (by decide +kernel) (pa_cons (pe_op op_add (pe_op op_mul (pv 2) pe_int) (pv 3)) pa_nil)) pe_int))))))
      (pss_cons (ps_set (i := 4) scB.nd rfl (Or.inl rfl) (pe_ifExp (PW.pt (pw_or (pt_cmpR op_lt (pv 2) pe_int (nomark _)) (pw_or1 (pt_cmpR op_ge (pv 2) (pe_op op_pow pe_int pe_int) (nomark _)))))
            (pe_callB call_abs (by rfl) T.abs (by decide +kernel) (pa_cons (pv 2) pa_nil)) pe_int))
      (pss_one (ps_ret (pe_lst (pa_cons (pe_op op_mod (pe_callTy call_int1 (by rfl) T.int (by decide +kernel) (pa_cons (pe_op op_add (pe_op op_add (pe_op op_mul (pe_op op_mod (pe_callTy call_int1 (by rfl) T.int (by decide +kernel) (pa_cons (pv 2) pa_nil)) pe_int) pe_int)
            (pe_op op_mul pe_int (pv 1))) pe_int) pa_nil)) pe_int)
        (pa_cons (pv 4) (pa_cons pe_int pa_nil)))))))), ?_⟩
    have c1 : CMul 131 k := .inl ⟨by decide, by decide⟩
    refine ⟨_, rfl, _, _, rfl, rfl, c1, _, _, rfl, rfl, ?_⟩
    refine ⟨fun σ' H' => ∃ (u : Int) (v3 v4 : Option V), σ' = [some (.ref a), some (.int k), some (.int u), v3, v4] ∧ Same H H', ?_, ?_⟩
    · refine ⟨_, rfl, _, rfl, a, _, rfl, .inl hS, _, _, rfl, rfl, _, rfl, ite2 (fun h => ?_) (fun h => ?_)⟩
      · have h' : k < ns.length := by
          have := of_decide_eq_true h
          rw [List.length_map] at this
          exact this
        obtain ⟨e, he⟩ := int_at h0 h'
        exact ⟨_, rfl, _, rfl, a, _, _, _, rfl, rfl, hS, he, .inl ⟨_, rfl, _, _, _, rfl, fun _ _ z => z⟩⟩
      · refine ⟨_, rfl, 9, rfl, a, _, rfl, hS, fun pl hpl => ?_⟩
        have s1 := same_upd (o := .lst (cutV (ns.map V.int) none (some 9))) hpl
        refine ⟨pl, rfl, ⟨_, SqL.of upd_same⟩, for_list (K := K) (a := pl) (xs := cutV (ns.map V.int) none (some 9))
          (fun i σ H' => H' = upd _ pl (.lst (cutV (ns.map V.int) none (some 9))) ∧ ∃ (z : Int) (v w : Option V), σ = [some (.ref a), some (.int k), some (.int z), v, w]) ⟨rfl, _, _, _, rfl⟩ ?_ ?_ ?_⟩
        · rintro i σ H' _ ⟨rfl, _⟩
          exact SqL.of upd_same
        · rintro i y σ H' hi ⟨rfl, z, v, w, rfl⟩
          obtain ⟨e, rfl⟩ := cut_int hi
          exact ⟨_, rfl, _, _, rfl, rfl, .inr ⟨by decide, by decide⟩, _, rfl, _, _, rfl, rfl, .inl ⟨_, rfl, _, _, rfl, rfl, pos2, rfl, _, _, _, rfl⟩⟩
        · rintro σ H' ⟨rfl, z, v, w, rfl⟩
          exact ⟨z, _, _, rfl, s1⟩
    rintro σ' H1 ⟨u, v3, v4, rfl, s1⟩
    refine cutIfV (fun v => ∃ u, v = .int u) ?_ (fun c => ?_)
    · rintro _ ⟨y, rfl⟩
      refine ⟨_, rfl, .inl ⟨_, rfl, _, _, rfl, rfl, pos2, _, _, rfl, rfl, .inr ⟨by decide, by decide⟩, _, rfl, _, _, rfl, rfl, .inl ⟨by decide, by decide⟩, _, _, rfl, rfl, _, _, rfl, rfl, .inl ⟨_, rfl, _, _, rfl, rfl, pos2, _, rfl, by show 3 ≤ sizeLine; decide, fun p hp => ?_⟩⟩⟩
      exact q _ p (s1.trans (same_upd hp)) (s1.free hp) ⟨_, _, 0, upd_same, by decide, by decide⟩
    · refine ⟨_, rfl, _, _, rfl, rfl, _, rfl, ?_⟩
      refine ite2 (fun h => ?_) (fun h => ?_)
      · exact iteT ⟨_, rfl, _, rfl, c _ ⟨_, rfl⟩⟩
      · refine ⟨_, rfl, _, _, rfl, rfl, ⟨by decide, by decide, by decide⟩, _, _, rfl, rfl, _, rfl, ?_⟩
        refine ite2 (fun h => ?_) (fun h => ?_)
        · exact ⟨_, rfl, _, rfl, c _ ⟨_, rfl⟩⟩
        · exact c _ ⟨_, rfl⟩
abbrev nD : List Str := ["_law_well_here", "_law_many", "_law_digit"]
theorem scD : FnScope nD ["_law_well_here", "_law_many"] (defScope sNext) := ⟨rfl, rfl, rfl, by decide +kernel, rfl, by decide +kernel, by decide +kernel⟩
theorem ok_dip {f : Addr} {fd : FuncData} (F : Fun K "_law_next" "_law_next" sNext f fd) (T : TxB mg) : FnOk P w K mg base CX0 1 f fd ["_law_well_here", "_law_many"] spDip := by
  refine F.ok scD (fun vs H Q E h => ?_) (fun cdv A outer s H vs Q E hr h => ?_)
  · obtain ⟨p, m, rfl, _⟩ := h
    rfl
  · obtain ⟨p, m, rfl, ⟨x, y, z, hp, z0, z1⟩, hm0, hm1, q⟩ := h
    refine ⟨_, pss_cons (ps_asg (pe_op op_add (pe_ix ix_list (pv 0) pe_int (fun _ _ => rfl)) pe_int) (pg_sub (pv 0) pe_int set_list))
      (pss_cons (ps_asg (pe_op op_mod (pe_callTy call_int1 (by rfl) T.int (by decide +kernel) (pa_cons (pe_op op_add (pe_op op_add (pe_op op_mul (pe_ix ix_list (pv 0) pe_int (fun _ _ => rfl)) pe_int)
            (pe_op op_mul (pe_op op_mul (pe_ix ix_list (pv 0) pe_int (fun _ _ => rfl)) (pe_ix ix_list (pv 0) pe_int (fun _ _ => rfl))) pe_int)) pe_int) pa_nil)) pe_int) (pg_sub (pv 0) pe_int set_list))
      (pss_cons (ps_if (pt_cmpR op_gt (pe_ix ix_list (pv 0) pe_int (fun _ _ => rfl)) pe_int (nomark _))
        (pss_cons (ps_asg (pe_callB call_divmod (by rfl) T.divmod (by decide +kernel) (pa_cons (pe_ix ix_list (pv 0) pe_int (fun _ _ => rfl)) (pa_cons (pv 1) pa_nil)))
            (pg_tup (by rfl) (pgs_cons (pg_sub (pv 0) pe_int set_list) (pgs_cons (pg_name (i := 2) scD.nd rfl (Or.inl rfl)) pgs_nil))))
          (pss_one (ps_ret (pv 2)))) pss_nil)
      (pss_one (ps_ret (pe_op op_mod (pe_callTy call_int1 (by rfl) T.int (by decide +kernel) (pa_cons (pe_op op_fdiv (pe_ix ix_list (pv 0) pe_int (fun _ _ => rfl)) pe_int) pa_nil)) (pv 1)))))), ?_⟩
    refine ⟨_, rfl, p, _, 2, _, rfl, rfl, SqL.of hp, rfl, _, _, rfl, rfl, _, rfl, p, _, 2, 2, rfl, rfl, hp, rfl, ?_⟩
    have h1 : upd H p (.lst [.int x, .int y, .int (z + 1)]) p = some (.lst [.int x, .int y, .int (z + 1)]) := upd_same
    have cz : CMul (z + 1) (z + 1) := .inl ⟨by omega, by omega⟩
    refine ⟨_, rfl, p, _, 0, _, rfl, rfl, SqL.of h1, rfl, _, _, rfl, rfl, .inr ⟨by decide, by decide⟩, _, rfl, p, _, 2, _, rfl, rfl, SqL.of h1, rfl, _, rfl, p, _, 2, _, rfl, rfl, SqL.of h1, rfl, _, _, rfl, rfl, cz, _, _, rfl, rfl, .inr ⟨by decide, by decide⟩, _, _, rfl, rfl, _, _, rfl, rfl, .inl ⟨_, rfl, _, _, rfl, rfl, pos2, _, rfl, p, _, 0, 0, rfl, rfl, h1, rfl, ?_⟩⟩
    have e2 : upd (upd H p (.lst [.int x, .int y, .int (z + 1)])) p (.lst [.int ((x * 48271 + (z + 1) * (z + 1) * 7919 + 3) % 2147483563), .int y, .int (z + 1)]) p = some (.lst [.int ((x * 48271 + (z + 1) * (z + 1) * 7919 + 3) % 2147483563), .int y, .int (z + 1)]) := upd_same
    have f2 : ∀ b o, b ≠ p → H b = some o → upd (upd H p (.lst [.int x, .int y, .int (z + 1)])) p (.lst [.int ((x * 48271 + (z + 1) * (z + 1) * 7919 + 3) % 2147483563), .int y, .int (z + 1)]) b = some o := fun b o n e => by rw [upd_ne n, upd_ne n]; exact e
    have g2 : ∀ H', H' p = some (.lst [.int ((x * 48271 + (z + 1) * (z + 1) * 7919 + 3) % 2147483563), .int y, .int (z + 1)]) → (∀ b o, b ≠ p → H b = some o → H' b = some o) → Stir 1 p H H' := fun H' e f => ⟨f, fun c ⟨_, _, z', e', h0, h1⟩ => by
      rw [hp] at e'
      cases e'
      exact ⟨_, _, _, e, by omega, by omega⟩⟩
    refine ⟨_, rfl, p, _, 1, _, rfl, rfl, SqL.of e2, rfl, _, _, rfl, rfl, _, rfl, ?_⟩
    refine ite2 (fun h => ?_) (fun h => ?_)
    · refine ⟨_, rfl, p, _, 1, _, rfl, rfl, SqL.of e2, rfl, _, rfl, _, _, rfl, ⟨hm0, hm1⟩, fun t ht => ?_⟩
      have ntp : t ≠ p := fun e => by rw [e] at ht; exact absurd (e2.symm.trans ht) (by simp)
      refine ⟨t, _, rfl, SqT.of upd_same, rfl, _, _, rfl, _, rfl, p, _, 1, 1, rfl, rfl, ((upd_ne ntp.symm).trans e2), rfl, ?_⟩
      refine ⟨_, _, rfl, rfl, _, rfl, ?_⟩
      refine q _ _ ⟨fun b o n e => ?_, fun c ⟨_, _, z', e', h0, h1⟩ => ?_⟩ (Int.emod_nonneg _ (by omega)) (Int.emod_lt_of_pos _ hm0)
      · rw [upd_ne n]
        exact same_upd ht _ _ (f2 b o n e)
      · rw [hp] at e'
        cases e'
        exact ⟨_, _, _, upd_same, by omega, by omega⟩
    · refine ⟨_, rfl, p, _, 0, _, rfl, rfl, SqL.of e2, rfl, _, _, rfl, rfl, ⟨by decide, by decide⟩, .inl ⟨_, rfl, _, rfl, _, _, rfl, rfl, hm0, ?_⟩⟩
      exact q _ _ (g2 _ e2 f2) (Int.emod_nonneg _ (by omega)) (Int.emod_lt_of_pos _ hm0)
end
end Gm

namespace Gm
open PySem L2


abbrev sEq : Stmt := inClass (top 37) 3
abbrev sStr : Stmt := inClass (top 37) 4
abbrev sRepr : Stmt := inClass (top 37) 5


/-! ### mathematics -/

def low : List Nat := lowTxt.cps.toList
def pick (s : Str) : List Nat := low.filter fun c => decide (c ∈ s.cps.toList)
def Alph (s : Str) : Prop := 2 ≤ s.length ∧ s.length ≤ 26 ∧ s.cps.toList = pick s
instance (s : Str) : Decidable (Alph s) := by unfold Alph; infer_instance
theorem join_one (cs : List Nat) : Txt.join (Str.ofString "") (cs.map fun c => (⟨#[c]⟩ : Str)) = ⟨cs.toArray⟩ := by
  have h : (cs.map fun c => (⟨#[c]⟩ : Str)) = (cs.map fun c => [c]).map SX.S := by rw [List.map_map]; rfl
  have e : (Str.ofString "" : Str) = SX.S [] := rfl
  rw [h, e, SX.join_S]
  have j : ∀ l : List Nat, TL.joinL [] (l.map fun c => [c]) = l := by
    intro l
    induction l with
    | nil => rfl
    | cons a l ih =>
      cases l with
      | nil => rfl
      | cons b l =>
        show [a] ++ ([] ++ TL.joinL [] ((b :: l).map fun c => [c])) = a :: b :: l
        rw [ih]
        rfl
  rw [j]
theorem str_len (s : Str) : s.cps.toList.length = s.length := by simp [Str.length]
theorem take_filter {p : Nat → Bool} (l : List Nat) (i : Nat) (h : i < l.length) : (l.take (i + 1)).filter p = (l.take i).filter p ++ (if p l[i] = true then [l[i]] else []) := by
  rw [List.take_succ_eq_append_getElem h, List.filter_append]
  congr 1
  by_cases c : p l[i] = true
  · rw [if_pos c]; simp [c]
  · rw [if_neg c]; simp [c]

theorem low_len : low.length = 26 := by decide +kernel
theorem sum_one (cs : List Nat) : ((cs.map fun c => (⟨#[c]⟩ : Str)).map (·.length)).sum = cs.length := by
  induction cs with
  | nil => rfl
  | cons c cs ih =>
    rw [List.map_cons, List.map_cons, List.sum_cons, ih, List.length_cons]
    show 1 + cs.length = cs.length + 1
    omega
/-! ### promises -/
def NoInt (K : PySem.W.Frag) (t : Value) : Prop := PySem.W.kitOne K t (.type "bool") = some true ∨ (PySem.W.kitOne K t (.type "bool") = some false ∧ PySem.W.kitOne K t (.type "int") = some false)
def spWithin (K : PySem.W.Frag) : Sp := fun vs H Q _ => ∃ (v : V) (lo hi : Int), vs = [v, .int lo, .int hi] ∧
  ((∃ n, v = .int n ∧ Q (.bl (decide (lo ≤ n ∧ n ≤ hi))) H) ∨ (∃ t, TyX K H v t ∧ NoInt K t ∧ Q (.bl false) H))
def spAlpha (K : PySem.W.Frag) : Sp := fun vs H Q _ => ∃ (v : V), vs = [v] ∧
  ((∃ s, v = .str s ∧ s.length ≤ 1000 ∧ ∀ H', Same H H' → Q (.bl (decide (Alph s))) H') ∨ (∃ t, TyX K H v t ∧ PySem.W.kitOne K t (.type "str") = some false ∧ Q (.bl false) H))
def spCount : Sp := fun vs H Q _ => ∃ (m n : Int), vs = [.int m, .int n] ∧ 0 ≤ m ∧ m ≤ 26 ∧ 0 ≤ n ∧ n ≤ 6 ∧ Q (.int (m ^ n.toNat)) H
def boardF (s : Str) (n : Int) : List (Str × V) := putF "size" (.int ((s.length : Int) ^ n.toNat)) (putF "length" (.int n) (putF "letters" (.str s) []))
def BoardAt (C : Addr) (H : Hp) (p : Addr) (s : Str) (n : Int) : Prop := ∃ dx, H p = some (.ins C dx (boardF s n))
/-- all but p as it stood -/
def But (p : Addr) (H H' : Hp) : Prop := ∀ b o, b ≠ p → H b = some o → H' b = some o
def spInit (C : Addr) : Sp := fun vs H Q _ => ∃ (p dx : Addr) (s : Str) (n : Int), vs = [.ref p, .str s, .int n] ∧ Alph s ∧ 1 ≤ n ∧ n ≤ 6 ∧ H p = some (.ins C dx []) ∧
  ∀ H', But p H H' → BoardAt C H' p s n → Q .non H'
/-- what another object is, beside a board -/
def spEqB (K : PySem.W.Frag) (C : Addr) : Sp := fun vs H Q _ => ∃ (p : Addr) (s : Str) (n : Int) (y : V), vs = [.ref p, y] ∧ BoardAt C H p s n ∧ s.length ≤ 1000 ∧
  ((∃ q s' n', y = .ref q ∧ BoardAt C H q s' n' ∧ s'.length ≤ 1000 ∧ Q (.bl (decide (s = s' ∧ n = n'))) H) ∨ (∃ t, TyX K H y t ∧ PySem.W.kitOne K t (.ref C) = some false ∧ Q (.bl false) H))
def digit (n : Int) : Str := (toString n : String)
def spStr (C : Addr) : Sp := fun vs H Q _ => ∃ (p : Addr) (s : Str) (n : Int), vs = [.ref p] ∧ BoardAt C H p s n ∧ s.length ≤ 26 ∧ 1 ≤ n ∧ n ≤ 6 ∧ Q (.str (s ++ " " ++ digit n)) H
def spRepr (C : Addr) : Sp := fun vs H Q _ => ∃ (p : Addr) (s : Str) (n : Int), vs = [.ref p] ∧ BoardAt C H p s n ∧ s.length ≤ 26 ∧ 1 ≤ n ∧ n ≤ 6 ∧ Q (.str ("Board(" ++ s ++ " " ++ digit n ++ ")")) H

structure TxW (mg : Str → Option Value) : Prop where
  isi : mg "isinstance" = none
  bool : mg "bool" = none
  int : mg "int" = none
  str : mg "str" = none
  len : mg "len" = none
  range : mg "range" = none
  most : ∃ t, mg "MOST_LETTERS" = some (.int 26 t)
  mlen : ∃ t, mg "MOST_LENGTH" = some (.int 6 t)
  low : ∃ t, mg "LOWERCASE" = some (.str lowTxt t)

section
variable {P : Program} {w : World} {K : PySem.W.Frag} {mg : Str → Option Value} {base : Heap}
theorem scW : FnScope ["value", "least", "most"] ["value", "least", "most"] (defScope sWithin) := ⟨rfl, rfl, rfl, by decide +kernel, rfl, by decide +kernel, by decide +kernel⟩
theorem ok_within {f : Addr} {fd : FuncData} (F : Fun K "is_integer_within" "is_integer_within" sWithin f fd) (T : TxW mg) : FnOk P w K mg base CX0 1 f fd ["value", "least", "most"] (spWithin K) := by
  refine F.ok scW (fun vs H Q E h => ?_) (fun cdv A outer s H vs Q E hr h => ?_)
  · obtain ⟨v, lo, hi, rfl, _⟩ := h
    rfl
  · obtain ⟨v, lo, hi, rfl, h⟩ := h
    refine ⟨_, pss_cons (ps_if (PW.pt (pw_or (pt_val (pe_callB call_isi (by rfl) T.isi (by decide +kernel) (pa_cons (pv 0) (pa_cons (pe_bltn (v := .ty "bool") (by rfl) T.bool (by decide +kernel) rfl) pa_nil))))
        (pw_or1 (pt_not (pt_val (pe_callB call_isi (by rfl) T.isi (by decide +kernel) (pa_cons (pv 0) (pa_cons (pe_bltn (v := .ty "int") (by rfl) T.int (by decide +kernel) rfl) pa_nil))))))))
        (pss_one (ps_ret pe_bl)) pss_nil)
      (pss_one (ps_ret (pe_chain op_le op_le (pv 1) (pv 0) (pv 2)))), ?_⟩
    rcases h with ⟨n, rfl, q⟩ | ⟨t, ty, no, q⟩
    · refine ⟨_, rfl, _, _, _, _, _, rfl, .ty "bool", .base (.int n), kit_ty (r := false) (by decide +kernel), _, rfl, iteF ?_⟩
      refine ⟨_, rfl, _, _, _, _, _, rfl, .ty "int", .base (.int n), kit_ty (r := true) (by decide +kernel), _, rfl, ?_⟩
      refine ⟨_, rfl, _, rfl, _, _, rfl, rfl, _, rfl, ?_⟩
      refine ite2 (fun h => ?_) (fun h => ?_)
      · refine ⟨_, rfl, _, _, rfl, rfl, ?_⟩
        have e : decide (lo ≤ n ∧ n ≤ hi) = decide (n ≤ hi) := by
          have := of_decide_eq_true h
          simp [this]
        rw [e] at q
        exact q
      · have e : decide (lo ≤ n ∧ n ≤ hi) = false := by
          simp only [decide_eq_true_eq] at h
          simp [h]
        rw [e] at q
        exact q
    · rcases no with no | ⟨no, no2⟩
      · exact ⟨_, rfl, _, _, _, _, _, rfl, .ty "bool", ty, no, _, rfl, iteT q⟩
      · refine ⟨_, rfl, _, _, _, _, _, rfl, .ty "bool", ty, no, _, rfl, iteF ?_⟩
        exact ⟨_, rfl, _, _, _, _, _, rfl, .ty "int", ty, no2, _, rfl, q⟩
abbrev nA : List Str := ["letters", "letter"]
theorem scAl : FnScope nA ["letters"] (defScope sAlpha) := ⟨rfl, rfl, rfl, by decide +kernel, rfl, by decide +kernel, by decide +kernel⟩
theorem ok_alpha {f : Addr} {fd : FuncData} (F : Fun K "is_alphabet" "is_alphabet" sAlpha f fd) (T : TxW mg) : FnOk P w K mg base CX0 1 f fd ["letters"] (spAlpha K) := by
  refine F.ok scAl (fun vs H Q E h => ?_) (fun cdv A outer s H vs Q E hr h => ?_)
  · obtain ⟨v, rfl, _⟩ := h
    rfl
  · obtain ⟨v, rfl, h⟩ := h
    obtain ⟨t1, mg1⟩ := T.most
    obtain ⟨t2, mg2⟩ := T.low
    refine ⟨_, pss_cons (ps_if (PW.pt (pw_or (pt_not (pt_val (pe_callB call_isi (by rfl) T.isi (by decide +kernel) (pa_cons (pv 0) (pa_cons (pe_bltn (v := .ty "str") (by rfl) T.str (by decide +kernel) rfl) pa_nil)))))
        (pw_or1 (pt_not (pt_chain op_le op_le pe_int (pe_callB call_len_str (by rfl) T.len PySem.boot_len (pa_cons (pv 0) pa_nil)) (pe_glob (v := .int 26) (by rfl) mg1 ⟨_, rfl⟩))))))
        (pss_one (ps_ret pe_bl)) pss_nil)
      (pss_one (ps_ret (pe_cmpR op_eq (pv 0) (pe_join pe_str
        (pe_lc (own := [("letter", 1)]) (g := gName 1) (by rfl) scAl.nd (pi_str (pe_glob (v := .str lowTxt) (by rfl) mg2 ⟨_, rfl⟩)) (blkOk_by (own := [("letter", 1)]) (N := nA) (sc := defScope sAlpha) (by decide +kernel))
          (fun _ _ _ _ _ => pg_name (i := 1) scAl.nd rfl (Or.inl rfl)) (fun _ _ _ _ _ => pts_one (pt_cmpR op_in_sign (pv 1) (pv 0) rfl)) (fun _ _ _ _ _ => pv 1))) (nomark _)))), ?_⟩
    rcases h with ⟨z, rfl, hz, q⟩ | ⟨t, ty, no, q⟩
    · refine ⟨_, rfl, _, _, _, _, _, rfl, .ty "str", .base (.str z), kit_ty (r := true) (by decide +kernel), _, rfl, ?_⟩
      refine ⟨_, rfl, _, rfl, by have : sizeLine = 16777216 := sizeLine_eq; omega, _, _, rfl, rfl, _, rfl, ?_⟩
      have hf : ¬ Alph z → decide (Alph z) = false := decide_eq_false
      refine ite2 (fun h2 => ?_) (fun h2 => ?_)
      · refine ⟨_, _, rfl, rfl, _, rfl, ?_⟩
        have h2 := of_decide_eq_true h2
        refine ite2 (fun h3 => ?_) (fun h3 => ?_)
        · have n : ¬ Alph z := fun a => by
            have := a.2.1
            simp at h3
            omega
          rw [hf n] at q
          exact q _ (Same.refl H)
        · have h3 : (z.length : Int) ≤ 26 := by simpa using h3
          refine ⟨_, rfl, ⟨_, rfl⟩, lowTxt, rfl, fun D hD => ?_⟩
          refine lc_it (walk_str (z := lowTxt)) (fun i H' => Same H H' ∧ H' D = some (.lst (((low.take i).filter fun c => decide (c ∈ z.cps.toList)).map fun c => V.str ⟨#[c]⟩))) ⟨same_upd hD, upd_same⟩ (fun _ _ _ _ => trivial) ?_ ?_
          · rintro i x H1 H2 hi ⟨sm, hD1⟩ ⟨rfl, c, hc, rfl⟩
            have hi' : i < low.length := hi
            have ec : low[i] = c := by
              have : lowTxt.cps[i] = c := (Array.getElem?_eq_some_iff.mp hc).2
              exact this
            have st := take_filter (p := fun c => decide (c ∈ z.cps.toList)) low i hi'
            rw [ec] at st
            refine ⟨rfl, _, rfl, _, rfl, c, z, rfl, rfl, _, rfl, ?_⟩
            refine ite2 (fun hm => ?_) (fun hm => ?_)
            · rw [if_pos hm] at st
              refine ⟨_, rfl, _, hD1, ?_, fun b o e => ?_, ?_⟩
              · have h1 := List.length_filter_le (fun c => decide (c ∈ z.cps.toList)) (low.take i)
                have h2 : (low.take i).length ≤ i := by rw [List.length_take]; omega
                have h3 : sizeLine = 16777216 := sizeLine_eq
                rw [low_len] at hi'
                rw [List.length_map]
                omega
              · rw [upd_ne (ne_of_none e hD)]
                exact sm b o e
              · rw [upd_same, st, List.map_append]
                rfl
            · rw [if_neg hm, List.append_nil] at st
              exact ⟨sm, by rw [st]; exact hD1⟩
          · rintro H1 ⟨sm, hD1⟩
            have el : low.take lowTxt.cps.size = low := List.take_of_length_le (Nat.le_of_eq (by simp [low]))
            rw [el] at hD1
            refine ⟨_, D, (pick z).map (fun c => (⟨#[c]⟩ : Str)), rfl, rfl, .inl (SqL.of ?_), ?_, rfl, ?_⟩
            · rw [List.map_map]
              exact hD1
            · have h1 := List.length_filter_le (fun c => decide (c ∈ z.cps.toList)) low
              have h2 : (pick z).length ≤ 26 := h1
              rw [sum_one, List.length_map]
              show (pick z).length + (pick z).length * 0 ≤ 16777216
              omega
            · have e : decide (V.str z = V.str (Txt.join (Str.ofString "") ((pick z).map fun c => (⟨#[c]⟩ : Str)))) = decide (Alph z) := by
                rw [join_one]
                refine decide_eq_decide.mpr ⟨fun e => ⟨by omega, by omega, ?_⟩, fun a => ?_⟩
                · have e := V.str.inj e
                  have := congrArg (fun s : Str => s.cps.toList) e
                  simpa using this
                · have := a.2.2
                  rw [← this]
              rw [← e] at q
              exact q _ sm
      · have n : ¬ Alph z := fun a => by
          have := a.1
          simp at h2
          omega
        rw [hf n] at q
        exact ⟨_, rfl, q _ (Same.refl H)⟩
    · exact ⟨_, rfl, _, _, _, _, _, rfl, .ty "str", ty, no, _, rfl, iteT q⟩

theorem scC : FnScope ["many", "length", "total", "place"] ["many", "length"] (defScope sCount) := ⟨rfl, rfl, rfl, by decide +kernel, rfl, by decide +kernel, by decide +kernel⟩
theorem ok_count {f : Addr} {fd : FuncData} (F : Fun K "count_words" "count_words" sCount f fd) (T : TxW mg) : FnOk P w K mg base CX0 1 f fd ["many", "length"] spCount := by
  refine F.ok scC (fun vs H Q E h => ?_) (fun cdv A outer s H vs Q E hr h => ?_)
  · obtain ⟨m, n, rfl, _⟩ := h
    rfl
  · obtain ⟨m, n, rfl, m0, m1, n0, n1, q⟩ := h
    refine ⟨_, pss_cons (ps_set (i := 2) scC.nd rfl (Or.inl rfl) pe_int)
      (pss_cons (ps_for PassesOwn.never rfl (pi_range1 (by rfl) T.range (pa_cons (pv 1) pa_nil)) (pg_name (i := 3) scC.nd rfl (Or.inl rfl)) (pss_one (ps_aug (i := 2) scC.nd rfl (Or.inl rfl) (pv 0) iop_mul)))
      (pss_one (ps_ret (pv 2)))), ?_⟩
    refine ⟨_, rfl, n, rfl, by omega, by omega, for_range (n := n.toNat) (fun i σ H' => H' = H ∧ ∃ v, σ = [some (.int m), some (.int n), some (.int (m ^ i)), v]) ⟨rfl, none, by rw [Int.pow_zero]; rfl⟩ ?_ ?_⟩
    · rintro i σ H' hi ⟨rfl, v, rfl⟩
      exact ⟨_, rfl, _, rfl, _, _, rfl, rfl, .inr ⟨by omega, by omega⟩, rfl, _, by rw [Int.pow_succ]; rfl⟩
    · rintro σ H' ⟨rfl, v, rfl⟩
      exact ⟨_, rfl, q⟩
/-- a def of the top, as it is called -/
structure Df (K : PySem.W.Frag) (mg : Str → Option Value) (x : Str) (f : Addr) (fd : FuncData) (ps : List Str) : Prop where
  mg : mg x = some (.ref f)
  kp : PySem.W.keepIn K (.ref f) = true
  b : Binds K fd ps []
/-- the class Board -/
structure TxC (K : PySem.W.Frag) (mg : Str → Option Value) (C : Addr) : Prop where
  cl : Cls K C
  mgC : mg "Board" = some (.ref C)
  nL : NoAttr K C "letters"
  nN : NoAttr K C "length"
  nS : NoAttr K C "size"
  ac : PySem.W.findIn K (.ref C) "__class__" = some (some (.builtin "object.__class__"))
  gt : PySem.W.specialIn K (.builtin "object.__class__") "__get__" = some (some (.builtin "getset_descriptor.__get__"))
  tk : PySem.W.takesIn K (.builtin "object.__class__") = some true
  ob : PySem.W.mroIn K C (.type "object") = some true
  own : PySem.W.kitOne K (.ref C) (.ref C) = some true
theorem bf_eq (s : Str) (n : Int) : boardF s n = ([("letters", V.str s), ("length", V.int n), ("size", V.int ((s.length : Int) ^ n.toNat))] : List (Str × V)) := by
  have h1 : ¬ (("letters" : Str) = "length") := by decide +kernel
  have h2 : ¬ (("letters" : Str) = "size") := by decide +kernel
  have h3 : ¬ (("length" : Str) = "size") := by decide +kernel
  show putF "size" _ (if ("letters" : Str) = "length" then _ else (("letters" : Str), V.str s) :: putF "length" (V.int n) []) = _
  rw [if_neg h1]
  show (if ("letters" : Str) = "size" then _ else (("letters" : Str), V.str s) :: (if ("length" : Str) = "size" then _ else (("length" : Str), V.int n) :: putF "size" _ [])) = _
  rw [if_neg h2, if_neg h3]
  rfl
theorem pf2_eq (s : Str) (n : Int) : putF "length" (.int n) (putF "letters" (.str s) []) = ([("letters", V.str s), ("length", V.int n)] : List (Str × V)) := by
  have h1 : ¬ (("letters" : Str) = "length") := by decide +kernel
  show (if ("letters" : Str) = "length" then _ else (("letters" : Str), V.str s) :: putF "length" (V.int n) []) = _
  rw [if_neg h1]
  rfl
theorem bf_letters (s : Str) (n : Int) : (boardF s n).lookup ("letters" : Str) = some (.str s) := by rw [bf_eq]; rfl
theorem bf_length (s : Str) (n : Int) : (boardF s n).lookup ("length" : Str) = some (.int n) := by
  have h1 : (("length" : Str) == "letters") = false := by decide +kernel
  rw [bf_eq, List.lookup_cons, h1]
  rfl
theorem bf_size (s : Str) (n : Int) : (boardF s n).lookup ("size" : Str) = some (.int ((s.length : Int) ^ n.toNat)) := by
  have h1 : (("size" : Str) == "letters") = false := by decide +kernel
  have h2 : (("size" : Str) == "length") = false := by decide +kernel
  rw [bf_eq, List.lookup_cons, h1, List.lookup_cons, h2]
  rfl
theorem But.upd {p : Addr} {H : Hp} {o : HO} : But p H (L2.upd H p o) := fun b u n e => by rw [upd_ne n]; exact e
theorem But.trans {p : Addr} {H H1 H2 : Hp} (a : But p H H1) (b : But p H1 H2) : But p H H2 := fun c o n h => b c o n (a c o n h)
theorem But.of {p : Addr} {H H1 : Hp} (a : Same H H1) : But p H H1 := fun c o n h => a c o h
theorem scI : FnScope ["self", "letters", "length"] ["self", "letters", "length"] (defScope sInit) := ⟨rfl, rfl, rfl, by decide +kernel, rfl, by decide +kernel, by decide +kernel⟩
theorem ok_init {f C fA fW fC : Addr} {fd fdA fdW fdC : FuncData} (F : Fun K "__init__" "Board.__init__" sInit f fd) (T : TxW mg) (TC : TxC K mg C)
    (GA : FnOk P w K mg base CX0 1 fA fdA ["letters"] (spAlpha K)) (DA : Df K mg "is_alphabet" fA fdA ["letters"]) (GW : FnOk P w K mg base CX0 1 fW fdW ["value", "least", "most"] (spWithin K)) (DW : Df K mg "is_integer_within" fW fdW ["value", "least", "most"])
    (GC : FnOk P w K mg base CX0 1 fC fdC ["many", "length"] spCount) (DC : Df K mg "count_words" fC fdC ["many", "length"]) : FnOk P w K mg base CX0 2 f fd ["self", "letters", "length"] (spInit C) := by
  refine F.ok scI (fun vs H Q E h => ?_) (fun cdv A outer s H vs Q E hr h => ?_)
  · obtain ⟨p, dx, s, n, rfl, _⟩ := h
    rfl
  · obtain ⟨p, dx, z, n, rfl, hz, n0, n1, hp, q⟩ := h
    obtain ⟨t1, mg1⟩ := T.mlen
    refine ⟨_, pss_cons (ps_if (pt_not (pt_val (pe_call GA hr (by rfl) DA.mg DA.kp DA.b .nil pass0 (pa_cons (pv 1) pa_nil)))) (pss_one ps_never) pss_nil)
      (pss_cons (ps_if (pt_not (pt_val (pe_call GW hr (by rfl) DW.mg DW.kp DW.b .nil pass0 (pa_cons (pv 2) (pa_cons pe_int (pa_cons (pe_glob (v := .int 6) (by rfl) mg1 ⟨_, rfl⟩) pa_nil)))))) (pss_one ps_never) pss_nil)
      (pss_cons (ps_fld (pv 0) (pv 1) rfl) (pss_cons (ps_fld (pv 0) (pv 2) rfl)
      (pss_one (ps_fld (pv 0) (pe_call GC hr (by rfl) DC.mg DC.kp DC.b .nil pass0 (pa_cons (pe_callB call_len_str (by rfl) T.len PySem.boot_len (pa_cons (pv 1) pa_nil)) (pa_cons (pv 2) pa_nil))) rfl))))), ?_⟩
    have hl : z.length ≤ 26 := hz.2.1
    have hline : sizeLine = 16777216 := sizeLine_eq
    refine ⟨_, rfl, _, rfl, .inl ⟨z, rfl, by omega, fun H1 s1 => ⟨_, rfl, ?_⟩⟩⟩
    rw [decide_eq_true hz]
    refine iteF ?_
    refine ⟨_, rfl, _, _, _, rfl, .inl ⟨n, rfl, _, rfl, ?_⟩⟩
    rw [decide_eq_true (show 1 ≤ n ∧ n ≤ 6 from ⟨n0, n1⟩)]
    refine iteF ?_
    have hp1 := s1 _ _ hp
    refine ⟨_, rfl, _, rfl, p, C, dx, _, rfl, hp1, TC.cl, TC.nL, by show 0 < 1000; decide, ?_⟩
    refine ⟨_, rfl, _, rfl, p, C, dx, _, rfl, upd_same, TC.cl, TC.nN, by show 1 < 1000; decide, ?_⟩
    refine ⟨_, rfl, _, rfl, by omega, _, rfl, _, _, rfl, by omega, by omega, by omega, n1, ?_⟩
    refine ⟨_, rfl, p, C, dx, _, rfl, upd_same, TC.cl, TC.nS, (by rw [pf2_eq]; show 2 < 1000; decide), ?_⟩
    refine q _ ?_ ⟨dx, upd_same⟩
    exact (But.of s1).trans (But.upd.trans (But.upd.trans But.upd))
theorem digit_len {n : Int} (h0 : 1 ≤ n) (h1 : n ≤ 6) : (digit n).length = 1 := by
  have : n = 1 ∨ n = 2 ∨ n = 3 ∨ n = 4 ∨ n = 5 ∨ n = 6 := by omega
  rcases this with rfl | rfl | rfl | rfl | rfl | rfl <;> decide +kernel
theorem digit_log {n : Int} (h0 : 1 ≤ n) (h1 : n ≤ 6) : n.natAbs.log2 < 1920 := by
  have : n = 1 ∨ n = 2 ∨ n = 3 ∨ n = 4 ∨ n = 5 ∨ n = 6 := by omega
  rcases this with rfl | rfl | rfl | rfl | rfl | rfl <;> decide +kernel
theorem app_len (a b : Str) : (a ++ b).length = a.length + b.length := by
  rw [← str_len, ← str_len, ← str_len, ← List.length_append]
  exact congrArg List.length (TL.tl_append a b)
theorem empty_app (a : Str) : Str.empty ++ a = a := TL.ext_tl (by rw [TL.tl_append]; rfl)
theorem ty_board {C p dx : Addr} {H : Hp} {fs : List (Str × V)} (T : TxC K mg C) (h : H p = some (.ins C dx fs)) : TyX K H (.ref p) (.ref C) := .base (.ins h T.cl T.ac T.gt T.tk T.ob)
theorem scE : FnScope ["self", "other"] ["self", "other"] (defScope sEq) := ⟨rfl, rfl, rfl, by decide +kernel, rfl, by decide +kernel, by decide +kernel⟩
theorem ok_eq {f C : Addr} {fd : FuncData} (F : Fun K "__eq__" "Board.__eq__" sEq f fd) (T : TxW mg) (TC : TxC K mg C) : FnOk P w K mg base CX0 1 f fd ["self", "other"] (spEqB K C) := by
  refine F.ok scE (fun vs H Q E h => ?_) (fun cdv A outer s H vs Q E hr h => ?_)
  · obtain ⟨p, s, n, y, rfl, _⟩ := h
    rfl
  · obtain ⟨p, z, n, y, rfl, ⟨dx, hp⟩, hz, h⟩ := h
    refine ⟨_, pss_one (ps_ret (pe_and (pe_callB call_isi (by rfl) T.isi (by decide +kernel) (pa_cons (pv 1) (pa_cons (pe_glob (v := .ref C) (by rfl) TC.mgC rfl) pa_nil)))
      (pe_and (pe_cmpR op_eq (pe_fld (pv 0) rfl) (pe_fld (pv 1) rfl) (nomark _)) (pe_one (pe_cmpR op_eq (pe_fld (pv 0) rfl) (pe_fld (pv 1) rfl) (nomark _)))))), ?_⟩
    rcases h with ⟨q, z', n', rfl, ⟨dy, hq⟩, hz', k⟩ | ⟨t, ty, no, k⟩
    · refine ⟨_, rfl, _, _, _, _, _, rfl, .own C, ty_board TC hq, TC.own, _, rfl, ?_⟩
      refine iteT ⟨_, rfl, p, C, dx, _, _, rfl, hp, TC.cl, TC.nL, bf_letters z n, _, rfl, q, C, dy, _, _, rfl, hq, TC.cl, TC.nL, bf_letters z' n', rfl, _, rfl, ?_⟩
      refine ite2 (fun e => ?_) (fun e => ?_)
      · refine ⟨_, rfl, p, C, dx, _, _, rfl, hp, TC.cl, TC.nN, bf_length z n, _, rfl, q, C, dy, _, _, rfl, hq, TC.cl, TC.nN, bf_length z' n', rfl, ?_⟩
        have e := V.str.inj (of_decide_eq_true e)
        have e2 : decide (z = z' ∧ n = n') = decide (V.int n = V.int n') := decide_eq_decide.mpr ⟨fun x => by rw [x.2], fun x => ⟨e, V.int.inj x⟩⟩
        rw [e2] at k
        exact k
      · have e2 : decide (z = z' ∧ n = n') = false := decide_eq_false fun x => e (decide_eq_true (by rw [x.1]))
        rw [e2] at k
        exact k
    · exact ⟨_, rfl, _, _, _, _, _, rfl, .own C, ty, no, _, rfl, iteF k⟩
theorem scS : FnScope ["self"] ["self"] (defScope sStr) := ⟨rfl, rfl, rfl, by decide +kernel, rfl, by decide +kernel, by decide +kernel⟩
theorem ok_str {f C : Addr} {fd : FuncData} (F : Fun K "__str__" "Board.__str__" sStr f fd) (TC : TxC K mg C) : FnOk P w K mg base CX0 1 f fd ["self"] (spStr C) := by
  refine F.ok scS (fun vs H Q E h => ?_) (fun cdv A outer s H vs Q E hr h => ?_)
  · obtain ⟨p, s, n, rfl, _⟩ := h
    rfl
  · obtain ⟨p, z, n, rfl, ⟨dx, hp⟩, hz, n0, n1, q⟩ := h
    refine ⟨_, pss_one (ps_ret (pe_joined (.cons (pe_fmt (pe_fld (pv 0) rfl)) (.cons pe_str (.cons (pe_fmt (pe_fld (pv 0) rfl)) .nil))))), ?_⟩
    have hline : sizeLine = 16777216 := sizeLine_eq
    have d := digit_len n0 n1
    refine ⟨_, rfl, p, C, dx, _, _, rfl, hp, TC.cl, TC.nL, bf_letters z n, .inl ⟨z, rfl, by omega, z, rfl, by rw [empty_app]; omega, ?_⟩⟩
    refine ⟨_, rfl, by rw [empty_app, app_len]; have : (Str.ofString " ").length = 1 := rfl; omega, ?_⟩
    refine ⟨_, rfl, p, C, dx, _, _, rfl, hp, TC.cl, TC.nN, bf_length z n, .inr ⟨n, rfl, digit_log n0 n1, digit n, rfl, ?_, ?_⟩⟩
    · rw [empty_app, app_len, app_len]; have : (Str.ofString " ").length = 1 := rfl; omega
    · show Q (.str (Str.empty ++ z ++ Str.ofString " " ++ digit n)) H
      rw [empty_app]
      exact q
theorem scR : FnScope ["self"] ["self"] (defScope sRepr) := ⟨rfl, rfl, rfl, by decide +kernel, rfl, by decide +kernel, by decide +kernel⟩
theorem ok_repr {f C : Addr} {fd : FuncData} (F : Fun K "__repr__" "Board.__repr__" sRepr f fd) (TC : TxC K mg C) : FnOk P w K mg base CX0 1 f fd ["self"] (spRepr C) := by
  refine F.ok scR (fun vs H Q E h => ?_) (fun cdv A outer s H vs Q E hr h => ?_)
  · obtain ⟨p, s, n, rfl, _⟩ := h
    rfl
  · obtain ⟨p, z, n, rfl, ⟨dx, hp⟩, hz, n0, n1, q⟩ := h
    refine ⟨_, pss_one (ps_ret (pe_joined (.cons pe_str (.cons (pe_fmt (pe_fld (pv 0) rfl)) (.cons pe_str (.cons (pe_fmt (pe_fld (pv 0) rfl)) (.cons pe_str .nil))))))), ?_⟩
    have hline : sizeLine = 16777216 := sizeLine_eq
    have d := digit_len n0 n1
    have l1 : (Str.ofString " ").length = 1 := rfl
    have l2 : (Str.ofString "Board(").length = 6 := rfl
    have l3 : (Str.ofString ")").length = 1 := rfl
    refine ⟨_, rfl, by rw [empty_app, l2]; omega, ?_⟩
    refine ⟨_, rfl, p, C, dx, _, _, rfl, hp, TC.cl, TC.nL, bf_letters z n, .inl ⟨z, rfl, by omega, z, rfl, by rw [empty_app, app_len, l2]; omega, ?_⟩⟩
    refine ⟨_, rfl, by rw [empty_app, app_len, app_len, l1, l2]; omega, ?_⟩
    refine ⟨_, rfl, p, C, dx, _, _, rfl, hp, TC.cl, TC.nN, bf_length z n, .inr ⟨n, rfl, digit_log n0 n1, digit n, rfl, by rw [empty_app, app_len, app_len, app_len, l1, l2]; omega, ?_⟩⟩
    refine ⟨_, rfl, by rw [empty_app, app_len, app_len, app_len, app_len, l1, l2, l3]; omega, ?_⟩
    show Q (.str (Str.empty ++ Str.ofString "Board(" ++ z ++ Str.ofString " " ++ digit n ++ Str.ofString ")")) H
    rw [empty_app]
    exact q
end
end Gm

namespace Gm
open PySem L2
/-- the text of these codes -/
abbrev tx (l : List Nat) : Str := ⟨l.toArray⟩
theorem tx_len (l : List Nat) : (tx l).length = l.length := by simp [Str.length]
theorem cut_pre (z : Str) (i : Nat) (h : i ≤ z.length) : cutS z none (some (i : Int)) = tx (z.cps.toList.take i) := by
  unfold cutS
  rw [HT.sIx_none, HT.sIx_nat, Nat.min_eq_left h]
  rfl
theorem cut_suf (z : Str) (i : Nat) (h : i ≤ z.length) : cutS z (some (i : Int)) none = tx (z.cps.toList.drop i) := by
  unfold cutS
  rw [HT.sIx_none, HT.sIx_nat, Nat.min_eq_left h]
  have e : (z.cps.toList.drop i).length = z.length - i := by rw [List.length_drop, str_len]
  rw [← e, List.take_length]
theorem alph_take : ∀ m : Fin 27, 2 ≤ m.val → Alph (tx (low.take m.val)) := by decide +kernel
theorem low_sorted : low.Pairwise (· < ·) := by decide +kernel
theorem sorted_eq : ∀ (l1 l2 : List Nat), l1.Pairwise (· < ·) → l2.Pairwise (· < ·) → (∀ x, x ∈ l1 ↔ x ∈ l2) → l1 = l2
  | [], [], _, _, _ => rfl
  | [], b :: l2, _, _, h => by have := (h b).mpr List.mem_cons_self; cases this
  | a :: l1, [], _, _, h => by have := (h a).mp List.mem_cons_self; cases this
  | a :: l1, b :: l2, h1, h2, h => by
    have p1 := List.pairwise_cons.mp h1
    have p2 := List.pairwise_cons.mp h2
    have e : a = b := by
      have ha := (h a).mp List.mem_cons_self
      have hb := (h b).mpr List.mem_cons_self
      rcases List.mem_cons.mp ha with e | ha
      · exact e
      · rcases List.mem_cons.mp hb with e | hb
        · exact e.symm
        · have := p1.1 b hb
          have := p2.1 a ha
          omega
    subst e
    rw [sorted_eq l1 l2 p1.2 p2.2 fun x => ⟨fun m => ?_, fun m => ?_⟩]
    · rcases List.mem_cons.mp ((h x).mp (List.mem_cons_of_mem _ m)) with e | q
      · have := p1.1 x m
        omega
      · exact q
    · rcases List.mem_cons.mp ((h x).mpr (List.mem_cons_of_mem _ m)) with e | q
      · have := p2.1 x m
        omega
      · exact q
/-- letters that ascend are an alphabet -/
theorem alph_of {zs : List Nat} (hs : zs.Pairwise (· < ·)) (hl : ∀ c ∈ zs, c ∈ low) (h0 : 2 ≤ zs.length) (h1 : zs.length ≤ 26) : Alph (tx zs) := by
  refine ⟨by rw [tx_len]; exact h0, by rw [tx_len]; exact h1, ?_⟩
  show zs = low.filter fun c => decide (c ∈ (tx zs).cps.toList)
  refine sorted_eq _ _ hs (low_sorted.sublist List.filter_sublist) fun x => ?_
  rw [List.mem_filter]
  show x ∈ zs ↔ x ∈ low ∧ decide (x ∈ zs) = true
  exact ⟨fun h => ⟨hl x h, decide_eq_true h⟩, fun h => of_decide_eq_true h.2⟩
abbrev one (c : Nat) : Str := ⟨#[c]⟩
def codeOf (s : Str) : Nat := s.cps.toList.headD 0
/-- what sorted leaves of signs -/
theorem sorted_one {fs : List Nat} {ys : List Str} (hp : ys.Perm (fs.map one)) : ∃ zs : List Nat, zs.Perm fs ∧ ys = zs.map one := by
  refine ⟨ys.map codeOf, ?_, ?_⟩
  · have := hp.map codeOf
    rw [List.map_map] at this
    have e : fs.map (codeOf ∘ one) = fs := by
      have : (codeOf ∘ one) = id := by funext c; rfl
      rw [this, List.map_id]
    rw [e] at this
    exact this
  · rw [List.map_map]
    have : ∀ y ∈ ys, (one ∘ codeOf) y = y := fun y hy => by
      obtain ⟨c, _, rfl⟩ := List.mem_map.mp (hp.mem_iff.mp hy)
      rfl
    exact (List.map_congr_left this |>.trans (List.map_id' ys)).symm
open PyProof.Rows in
theorem rising_le : ∀ (zs : List Nat) (a : Nat), risingS (one a) (zs.map one) = true → (a :: zs).Pairwise (· ≤ ·)
  | [], a, _ => List.pairwise_singleton _ _
  | b :: zs, a, h => by
    have h' : (!Spec.ltCps [b] [a] && risingS (one b) (zs.map one)) = true := h
    rw [Bool.and_eq_true] at h'
    have ih := rising_le zs b h'.2
    have e : a ≤ b := by
      refine Nat.le_of_not_lt fun q => ?_
      have : Spec.ltCps [b] [a] = true := by simp [Spec.ltCps, q]
      rw [this] at h'
      exact absurd h'.1 (by decide)
    refine List.pairwise_cons.mpr ⟨fun c hc => ?_, ih⟩
    rcases List.mem_cons.mp hc with rfl | hc
    · exact e
    · exact Nat.le_trans e ((List.pairwise_cons.mp ih).1 c hc)
open PyProof.Rows in
theorem sorted_le {zs : List Nat} (h : sortedS (zs.map one) = true) : zs.Pairwise (· ≤ ·) := by
  cases zs with
  | nil => exact List.Pairwise.nil
  | cons a zs => exact rising_le zs a h
theorem strict {zs : List Nat} (h : zs.Pairwise (· ≤ ·)) (n : zs.Nodup) : zs.Pairwise (· < ·) := by
  refine (h.and n).imp fun ⟨a, b⟩ => ?_
  omega
theorem low_nodup : low.Nodup := by decide +kernel
theorem drawn_perm {fs l : List Nat} {i : Nat} {c : Nat} (h : (fs ++ l).Perm low) (hc : l[i]? = some c) : (fs ++ [c] ++ (l.take i ++ l.drop (i + 1))).Perm low := by
  refine List.Perm.trans ?_ h
  rw [List.append_assoc]
  refine List.Perm.append_left fs ?_
  have hi := (List.getElem?_eq_some_iff.mp hc).1
  have e : l = l.take i ++ c :: l.drop (i + 1) := by
    have := (List.getElem?_eq_some_iff.mp hc).2
    rw [← this, List.getElem_cons_drop, List.take_append_drop]
  have q : (c :: (l.take i ++ l.drop (i + 1))).Perm (l.take i ++ c :: l.drop (i + 1)) := List.perm_middle.symm
  rw [← e] at q
  exact q
theorem drawn_alph {fs lf : List Nat} {ys : List Str} (h : (fs ++ lf).Perm low) (h0 : 2 ≤ fs.length) (hp : ys.Perm (fs.map one)) (hs : PyProof.Rows.sortedS ys = true) : ∃ zs : List Nat, ys = zs.map one ∧ Alph (tx zs) ∧ zs.length = fs.length := by
  obtain ⟨zs, q, rfl⟩ := sorted_one hp
  have nd : fs.Nodup := (List.nodup_append.mp (h.nodup_iff.mpr low_nodup)).1
  have hl := h.length_eq
  rw [List.length_append, low_len] at hl
  refine ⟨zs, rfl, alph_of (strict (sorted_le hs) (q.nodup_iff.mpr nd)) (fun c hc => h.mem_iff.mp (List.mem_append_left _ (q.mem_iff.mp hc))) (by rw [q.length_eq]; exact h0) (by rw [q.length_eq]; omega), q.length_eq⟩
end Gm

/-! marks as lists of codes: the mirror of marks_of -/
namespace Gm
def un (g w : List Nat) : List Nat := ((g.zip w).filter fun p => !decide (p.1 = p.2)).map (·.2)
def go : List (Nat × Nat) → List Nat → List Nat
  | [], _ => []
  | (a, b) :: r, u => if a = b then 50 :: go r u else if a ∈ u then 49 :: go r (u.erase a) else 48 :: go r u
def mk (g w : List Nat) : List Nat := go (g.zip w) (un g w)
theorem drop_at {α : Type} {l : List α} {i : Nat} {x : α} (h : l[i]? = some x) : l.drop i = x :: l.drop (i + 1) := by
  have hi := (List.getElem?_eq_some_iff.mp h).1
  have e := (List.getElem?_eq_some_iff.mp h).2
  rw [← e, List.getElem_cons_drop]
theorem zip_at {g w : List Nat} {i c e : Nat} (h1 : g[i]? = some c) (h2 : w[i]? = some e) : (g.zip w)[i]? = some (c, e) := by
  rw [List.getElem?_zip_eq_some]
  exact ⟨h1, h2⟩
theorem take_map_filter {l : List (Nat × Nat)} {i : Nat} {x : Nat × Nat} (p : Nat × Nat → Bool) (f : Nat × Nat → Nat) (h : l[i]? = some x) :
    ((l.take (i + 1)).filter p).map f = ((l.take i).filter p).map f ++ (if p x = true then [f x] else []) := by
  have hi := (List.getElem?_eq_some_iff.mp h).1
  have e := (List.getElem?_eq_some_iff.mp h).2
  rw [List.take_succ_eq_append_getElem hi, e, List.filter_append, List.map_append]
  congr 1
  by_cases c : p x = true
  · rw [if_pos c]; simp [c]
  · rw [if_neg c]; simp [c]
theorem go_length : ∀ (l : List (Nat × Nat)) (u : List Nat), (go l u).length = l.length
  | [], _ => rfl
  | (a, b) :: r, u => by
    unfold go
    split
    · rw [List.length_cons, go_length r u, List.length_cons]
    · split <;> rw [List.length_cons, go_length r _, List.length_cons]
end Gm

namespace L2
open PySem PySem.Spec PyProof.Rows
/-- two texts, sign by sign, in new pairs -/
def Itzs (x y : Str) : It :=
  ⟨fun i _ => i < x.cps.size ∧ i < y.cps.size,
    fun i H v H' => ∃ (T : Addr) (c e : Nat), v = .ref T ∧ H T = none ∧ H' = upd H T (.tup [.str ⟨#[c]⟩, .str ⟨#[e]⟩]) ∧ x.cps[i]? = some c ∧ y.cps[i]? = some e,
    fun i _ => i = x.cps.size ∧ i = y.cps.size⟩
theorem zs_sep (n : Nat) : ZipSep2 (n + 4) (n + 2) (n + 3) n (n + 1) [n] [n + 1] := by
  constructor <;> first | (simp; done) | (refine PySem.W.neN ?_; omega) | (simp; omega)
theorem turn_zips {P : Program} {w : World} {K : PySem.W.Frag} {elts : List Expr} {kk : Nat} {tpos : Pos} {z TI TO i1 i2 : Addr} {x y : Str} {t1 t2 : Tok} (D : ZipSep2 z TI TO i1 i2 [i1] [i2]) :
    Turn P w K (.Tuple elts kk tpos) (Itzs x y) [z, TI, TO, i1, i2] z (fun i h => IsZip h z TI TO .none ∧ IsTupOf2 h TI (.ref i1) (.ref i2) ∧ (∃ a b, IsTupOf2 h TO a b) ∧ h.IsStrIter i1 (strIterType x) x t1 i ∧ h.IsStrIter i2 (strIterType y) y t2 i) where
  mem := by simp
  obj := fun i h st c hc => by
    obtain ⟨hz, hTI, ⟨a, b, hTO⟩, ⟨o1, e1, _, d1⟩, ⟨o2, e2, _, d2⟩⟩ := st
    have q : c = z ∨ c = TI ∨ c = TO ∨ c = i1 ∨ c = i2 := by simpa using hc
    rcases q with rfl | rfl | rfl | rfl | rfl
    · exact ⟨_, hz, fun v q => nomatch q⟩
    · exact ⟨_, hTI, fun v q => nomatch q⟩
    · exact ⟨_, hTO, fun v q => nomatch q⟩
    · exact ⟨o1, e1, fun v q => by rw [d1] at q; cases q⟩
    · exact ⟨o2, e2, fun v q => by rw [d2] at q; cases q⟩
  keep := fun i h h' st k => by
    obtain ⟨hz, hTI, ⟨a, b, hTO⟩, ⟨o1, e1, r1⟩, ⟨o2, e2, r2⟩⟩ := st
    exact ⟨k z (by simp) _ hz, k TI (by simp) _ hTI, ⟨a, b, k TO (by simp) _ hTO⟩, ⟨o1, k i1 (by simp) _ e1, r1⟩, ⟨o2, k i2 (by simp) _ e2, r2⟩⟩
  item := by
    intro X hP hw hK hc i pins s σ H E I hf st hg
    subst hP hw hK
    obtain ⟨hz, hTI, ⟨a0, b0, hTO⟩, h1, h2⟩ := st
    have lz : z < s.heap.objs.size := Heap.lt_size hz
    refine wpAny_pyNext_zipD2_item (St1 := fun i h => h.IsStrIter i1 (strIterType x) x t1 i) (St2 := fun i h => h.IsStrIter i2 (strIterType y) y t2 i) D (Draws.text (A := X.A.in1) (show X.A.in1.handled = none from I.ok.hd hc) i1 x t1) (Draws.text (A := X.A.in1) (show X.A.in1.handled = none from I.ok.hd hc) i2 y t2) hz hTI hTO h1 h2 hg.1 hg.2 fun u u2 h' tk p1 p2 z' TO' h1' h2' hT hsz hk => ?_
    obtain ⟨c, v1, hcx, rfl⟩ := p1
    obtain ⟨e, v2, hey, rfl⟩ := p2
    refine ⟨_, rfl, wpAny_letOwnedTupleGo_zip (s := { s with heap := h', toks := tk }) z' fun g z'' sb => ?_⟩
    have hT2 := (sb.2 _ (Nat.ne_of_gt lz)).trans hT
    have fresh : ObjOk X.prog X.w (upd H s.heap.objs.size (.tup [.str ⟨#[c]⟩, .str ⟨#[e]⟩])) g s.heap.objs.size (.tup [.str ⟨#[c]⟩, .str ⟨#[e]⟩]) :=
      ⟨by show 2 ≤ sizeLine; decide, _, .cons ⟨v1, rfl⟩ (.cons ⟨v2, rfl⟩ .nil), ⟨_, hT2, rfl, _, rfl⟩⟩
    have J : Inv X pins σ (upd H s.heap.objs.size (.tup [.str ⟨#[c]⟩, .str ⟨#[e]⟩])) { s with heap := g, toks := tk } := by
      refine I.turnedNew (ch := [z, TI, TO, i1, i2]) (fun b o hb q => ?_) hf (Nat.le_refl _) fresh
      have nb : b ≠ z ∧ b ≠ TI ∧ b ≠ TO ∧ b ≠ i1 ∧ b ≠ i2 := by simpa using hb
      exact (sb.2 b nb.1).trans (hk b o nb.1 nb.2.2.1 nb.2.2.2.1 nb.2.2.2.2 q)
    refine ⟨.ref s.heap.objs.size, _, J, rfl, ⟨_, c, e, rfl, I.hok.fresh (Nat.le_refl _), rfl, hcx, hey⟩, ⟨z'', ?_, ⟨_, _, (sb.2 _ D.TOz).trans TO'⟩, ?_, ?_⟩, fun b hb => ?_⟩
    · exact (sb.2 _ D.TIz).trans (hk _ _ D.TIz D.TITO D.TIi1 D.TIi2 hTI)
    · obtain ⟨o1, e1, r1⟩ := h1'
      exact ⟨o1, (sb.2 _ D.zi1.symm).trans e1, r1⟩
    · obtain ⟨o2, e2, r2⟩ := h2'
      exact ⟨o2, (sb.2 _ D.zi2.symm).trans e2, r2⟩
    · have hlt : b < s.heap.objs.size := by
        have q : b = z ∨ b = TI ∨ b = TO ∨ b = i1 ∨ b = i2 := by simpa using hb
        obtain ⟨o1, e1, _⟩ := h1
        obtain ⟨o2, e2, _⟩ := h2
        rcases q with rfl | rfl | rfl | rfl | rfl
        · exact lz
        · exact Heap.lt_size hTI
        · exact Heap.lt_size hTO
        · exact Heap.lt_size e1
        · exact Heap.lt_size e2
      rw [upd_ne (Nat.ne_of_lt hlt)]
      exact (hf b hb).1
  done := by
    intro X hP hw hK hc i pins s σ H E I hf st hg
    subst hP hw hK
    obtain ⟨hz, hTI, ⟨a0, b0, hTO⟩, h1, h2⟩ := st
    refine wpAny_pyNext_zipD2_end (St1 := fun i h => h.IsStrIter i1 (strIterType x) x t1 i) (St2 := fun i h => h.IsStrIter i2 (strIterType y) y t2 i) D (Draws.text (A := X.A.in1) (show X.A.in1.handled = none from I.ok.hd hc) i1 x t1) (Draws.text (A := X.A.in1) (show X.A.in1.handled = none from I.ok.hd hc) i2 y t2) hz hTI hTO h1 h2 (Nat.le_of_eq hg.1) (Nat.le_of_eq hg.2) (.inl hg.1) fun h' tk hk => ⟨rfl, I.turnedL (ch := [z, TI, TO, i1, i2]) (fun b o hb q => ?_) hf⟩
    have nb : b ≠ z ∧ b ≠ TI ∧ b ≠ TO ∧ b ≠ i1 ∧ b ≠ i2 := by simpa using hb
    exact hk b o nb.1 nb.2.2.1 nb.2.2.2.1 nb.2.2.2.2 q
  self := fun A i s Q E st h => wpAny_pyIter_zip st.1 h
def iZips (ta : TA) : TI := fun σ H R => ta σ H fun vs H1 => ∃ x y, vs = [.str x, .str y] ∧ x.cps.size = y.cps.size ∧ R (Itzs x y) H1
theorem pi_zips {X : Cx} {e e2 : Expr} {ta : TA} {p pos tpos : Pos} {elts : List Expr} {kk : Nat} (hg : Gl X "zip") (hm : X.mg "zip" = none) (ha : PA X [e, e2] ta)
    (hs : starEach [e, e2] X.env = (false, eval e X.env) :: starEach [e2] X.env := by rfl) (hpl : (backTo pos (starEach [e2] X.env)).any (·.1) = false := by rfl) :
    PI X (.Tuple elts kk tpos) (.Call (.Name "zip" p) [e, e2] [] pos) (iZips ta) := by
  refine ⟨fun pins s σ H R I h => ?_⟩
  refine Call_ (ld_blt I hg hm PyProof.Rows.boot_zip (PyProof.Rows.callWith_type1 (thn (ha.run pos pins s σ H _ I h) fun us s1 hh => ?_) hs hpl))
  obtain ⟨vs, H1, I1, r1, x, y, rfl, hxy, q⟩ := hh
  cases r1 with
  | cons r rr =>
    cases rr with
    | cons r' rr =>
      cases rr
      obtain ⟨t1, rfl⟩ := r
      obtain ⟨t2, rfl⟩ := r'
      refine zip_begins2 (begins_text x t1) (begins_text y t2) trivial trivial fun h' hz hTI hTO h1 h2 hsz hk => wpAny_pyIter_zip hz ?_
      have J : Inv X pins σ H1 { s1 with heap := h' } := I1.kept (t' := s1.toks) hk
      refine ⟨s1.heap.objs.size + 4, [s1.heap.objs.size + 4, s1.heap.objs.size + 2, s1.heap.objs.size + 3, s1.heap.objs.size, s1.heap.objs.size + 1], _, _, H1, rfl, J, turn_zips (t1 := t1) (t2 := t2) (zs_sep s1.heap.objs.size), ⟨hz, hTI, ⟨_, _, hTO⟩, ⟨_, h1, rfl, rfl⟩, ⟨_, h2, rfl, rfl⟩⟩, fun b hb => ?_, q⟩
      have hle : s1.heap.objs.size ≤ b := by
        have q : b = s1.heap.objs.size + 4 ∨ b = s1.heap.objs.size + 2 ∨ b = s1.heap.objs.size + 3 ∨ b = s1.heap.objs.size ∨ b = s1.heap.objs.size + 1 := by simpa using hb
        rcases q with rfl | rfl | rfl | rfl | rfl
        · exact Nat.le_add_right _ _
        · exact Nat.le_add_right _ _
        · exact Nat.le_add_right _ _
        · exact Nat.le_refl _
        · exact Nat.le_add_right _ _
      exact I1.fpOk hle (I1.hok.fresh hle)
theorem walk_zips {x y : Str} (hxy : x.cps.size = y.cps.size) : Walk (Itzs x y) x.cps.size (fun _ => True) (fun i H v H' => ∃ (T : Addr) (c e : Nat), v = .ref T ∧ H T = none ∧ H' = upd H T (.tup [.str ⟨#[c]⟩, .str ⟨#[e]⟩]) ∧ x.cps[i]? = some c ∧ y.cps[i]? = some e) :=
  ⟨fun i _ hi _ => ⟨hi, hxy ▸ hi⟩, fun _ _ => ⟨rfl, hxy⟩, fun _ _ _ _ _ _ y => y⟩
end L2

namespace L2
open PySem PySem.Spec PyProof.Rows
section
variable {X : Cx} {CX : CXT} {k : Nat} {f : Addr} {fd : FuncData} {ps ks : List Str} {sp : Sp} {E : XK} {x : Str} {p pos : Pos} {kws : List Keyword} {tk : TA} {g : List Value → List Value → List Value} {gV : List V → List V → List V}
/-- f(k = v, ..), keywords alone -/
theorem pe_callK0 (F : FnOk X.prog X.w X.K X.mg X.base CX k f fd ps sp) (hr : Room k X.A) (hg : Gl X x) (hm : X.mg x = some (.ref f)) (hk : PySem.W.keepIn X.K (.ref f) = true) (hb : KBinds X.K fd ps ks g gV) (hx : Passes CX X E) (hkw : PK X kws tk)
    (hall : (backToKw pos (keywordEach kws X.env)).all (·.1.isSome) = true := by rfl) (hks : (backToKw pos (keywordEach kws X.env)).filterMap (·.1) = ks := by rfl) (hdb : (x == ("__debug__" : Str)) = false := by decide)
    (hpl : ((backTo pos (starEach [] X.env)).any (·.1) || (backToKw pos (keywordEach kws X.env)).any (·.1.isNone)) = false := by rfl) : PE X (.Call (.Name x p) [] kws pos) (tCallK sp gV E tNil tk) := by
  refine ⟨fun pins s σ H Q I h => wpAny_Call_Name_kw (ld_glob I hg hm ?_ hdb)⟩
  refine PySem.W.callWith_KW0 (h₀ := X.base) I.ok.mod.kin hk hall (thn (hkw.run pos pins s σ H _ I h) fun ws s2 hh => ?_) hpl
  obtain ⟨zs, H2, I2, rz, q2⟩ := hh
  refine ⟨I2.kIn, ?_⟩
  rw [hks]
  exact run_fnk (us := []) (vs := []) F hr hb hx I2 .nil rz q2
end
/-- list.remove of a text that is there -/
def rRemS : V → List V → Hp → VK → Prop := fun x xs H Q => ∃ (l : Addr) (ss : List Str) (k : Str) (j : Nat), x = .ref l ∧ xs = [.str k] ∧ H l = some (.lst (ss.map V.str)) ∧ ss[j]? = some k ∧ (∀ m : Nat, m < j → ss[m]? ≠ some k) ∧ Q .non (upd H l (.lst ((ss.eraseIdx j).map V.str)))
def eqs (k : Str) (v : Value) : Bool := match v with
  | .str n _ => n.cps.toList == k.cps.toList
  | _ => false
theorem erase_mapS : ∀ (l : List Str) (j : Nat), (l.map V.str).eraseIdx j = (l.eraseIdx j).map V.str
  | [], j => by simp
  | a :: r, 0 => by simp
  | a :: r, j + 1 => by simp [erase_mapS r j]
theorem eqs_gives {k : Str} {t : Tok} : ∀ {us : List Value} {ss : List Str}, Vals (ss.map V.str) us → ∀ y ∈ us, MeetsSeq.EqGives y (.str k t) (eqs k y)
  | _, [], .nil => fun y hy => by cases hy
  | _, n :: ss, .cons ⟨t', e⟩ h => fun y hy => by
    rcases List.mem_cons.mp hy with q | q
    · rw [q, e]
      exact SeqRoads2.EqGives.str n k t' t
    · exact eqs_gives h y q
theorem mt_removeS {X : Cx} : MtM X "list.remove" rRemS := by
  intro pins s σ H x xs v us Q I rx rxs h
  obtain ⟨l, ss, k, j, rfl, rfl, hH, hj, hno, q⟩ := h
  cases rx
  obtain ⟨u, rfl, t, rfl⟩ := rxs.one
  obtain ⟨z, its, n, r, hl, e⟩ := I.lstM hH
  have len := r.length
  rw [List.length_map] at hl z len
  have hjn : j < ss.length := (List.getElem?_eq_some_iff.mp hj).1
  have item : ∀ m (hm : m < ss.length) (hm' : m < its.toArray.size), ∃ tm, its.toArray[m] = .str ss[m] tm := fun m hm hm' => by
    obtain ⟨u, hu, ru⟩ := r.get (i := m) (x := V.str ss[m]) (by rw [List.getElem?_map, List.getElem?_eq_getElem hm]; rfl)
    obtain ⟨tm, rfl⟩ := ru
    exact ⟨tm, by simpa using (List.getElem?_eq_some_iff.mp hu).2⟩
  have sz : its.toArray.size = its.length := by simp
  have hjl : j < its.toArray.size := by omega
  refine call_meets PySem.F.slot_list_remove ⟨_, e, rfl⟩ PySem.F.entry_list_remove (PySem.F.args_list_remove_2 _ _)
    (MeetsSeq.list_remove l its.toArray n (.str k t) (eqs k) (fun y hy => eqs_gives r y (by simpa using hy)) j hjl ?_ ?_ (by omega)) ⟨e, ?_⟩
  · obtain ⟨tj, e1⟩ := item j hjn hjl
    have e2 : ss[j] = k := (List.getElem?_eq_some_iff.mp hj).2
    rw [e1, e2]
    exact beq_self_eq_true _
  · intro m hm hmj
    have hmn : m < ss.length := by omega
    obtain ⟨tm, e1⟩ := item m hmn hm
    rw [e1]
    refine beq_eq_false_iff_ne.mpr fun e2 => hno m hmj ?_
    rw [List.getElem?_eq_getElem hmn]
    exact congrArg some (TL.ext_tl e2)
  · have rr := r.eraseIdx j
    rw [erase_mapS] at rr
    refine ⟨.non, _, I.lset (its' := its.eraseIdx j) (t' := s.toks) hH e ?_ rr ?_, rfl, q⟩
    · show its.toArray.eraseIdxIfInBounds j = (its.eraseIdx j).toArray
      rw [List.eraseIdxIfInBounds_toArray]
    · have := List.length_eraseIdx_le ss j
      rw [List.length_map]
      omega
end L2

namespace Gm
open PySem L2

def spMarksOf : Sp := fun vs H Q _ => ∃ (g w : List Nat), vs = [.str (tx g), .str (tx w)] ∧ g.length = w.length ∧ g.length ≤ 6 ∧ ∀ H', Same H H' → Q (.str (tx (mk g w))) H'
theorem tx_app (a b : List Nat) : tx a ++ tx b = tx (a ++ b) := TL.ext_tl (TL.tl_append _ _)
theorem tx_at {g : List Nat} {i c : Nat} (h : (tx g).cps[i]? = some c) : g[i]? = some c := by simpa using h
theorem tx_size (g : List Nat) : (tx g).cps.size = g.length := by simp
theorem in_ones (a : Nat) (u : List Nat) : inV (.str (one a)) (u.map fun c => V.str (one c)) = decide (a ∈ u) := by
  induction u with
  | nil => rfl
  | cons b u ih =>
    have e : eqV (.str (one b)) (.str (one a)) = decide (a = b) := by
      show (one b == one a) = _
      by_cases h : a = b
      · subst h; simp
      · rw [decide_eq_false h]
        refine beq_eq_false_iff_ne.mpr fun q => h ?_
        have := congrArg (fun s : Str => s.cps.toList) q
        simpa using this.symm
    show (eqV (.str (one b)) (.str (one a)) || inV (.str (one a)) (u.map fun c => V.str (one c))) = _
    rw [ih, e]
    by_cases h : a = b <;> simp [h]
theorem flat_ones (u : List Nat) : (u.map fun c => V.str (one c)).all flatV = true := by
  rw [List.all_map, List.all_eq_true]
  exact fun c _ => rfl
theorem ones_inj {a b : Nat} (h : one a = one b) : a = b := by
  have := congrArg (fun s : Str => s.cps.toList) h
  simpa using this
/-- the first place of a in u -/
theorem first_at {u : List Nat} {a : Nat} (h : a ∈ u) : ∃ j, u[j]? = some a ∧ (∀ m : Nat, m < j → u[m]? ≠ some a) ∧ u.eraseIdx j = u.erase a := by
  induction u with
  | nil => cases h
  | cons b u ih =>
    by_cases hb : b = a
    · subst hb
      exact ⟨0, rfl, fun m hm => by omega, by simp⟩
    · have h' : a ∈ u := by
        rcases List.mem_cons.mp h with q | q
        · exact absurd q.symm hb
        · exact q
      obtain ⟨j, h1, h2, h3⟩ := ih h'
      refine ⟨j + 1, by simpa using h1, fun m hm => ?_, ?_⟩
      · cases m with
        | zero => simpa using hb
        | succ m => simpa using h2 m (by omega)
      · rw [List.erase_cons_tail (by simpa using hb)]
        simp [h3]
section
variable {P : Program} {w : World} {K : PySem.W.Frag} {mg : Str → Option Value} {base : Heap}
abbrev nM : List Str := ["guess", "word", "letter", "hidden", "unmatched", "told"]
theorem scMo : FnScope nM ["guess", "word"] (defScope sMarksOf) := ⟨rfl, rfl, rfl, by decide +kernel, rfl, by decide +kernel, by decide +kernel⟩
theorem ok_marksOf {f : Addr} {fd : FuncData} (F : Fun K "marks_of" "marks_of" sMarksOf f fd) (zip : mg "zip" = none) : FnOk P w K mg base CX0 1 f fd ["guess", "word"] spMarksOf := by
  refine F.ok scMo (fun vs H Q E h => ?_) (fun cdv A outer s H vs Q E hr h => ?_)
  · obtain ⟨g, w, rfl, _⟩ := h
    rfl
  · obtain ⟨g, w', rfl, hl, h6, q⟩ := h
    have nd := scMo.nd
    have hline : sizeLine = 16777216 := sizeLine_eq
    refine ⟨_, pss_cons (ps_setLc (i := 4) (own := [("letter", 2), ("hidden", 3)]) (g := gTup K 2 (gCons (gName 2) (gCons (gName 3) gNil))) (by rfl) nd rfl rfl (sw_true rfl rfl rfl (by decide +kernel))
        (pi_zips (by rfl) zip (pa_cons (pv 0) (pa_cons (pv 1) pa_nil))) (blkOk_by (own := [("letter", 2), ("hidden", 3)]) (N := nM) (sc := defScope sMarksOf) (by decide +kernel))
        (fun _ _ _ _ _ => by exact pg_tup (by rfl) (pgs_cons (pg_name (i := 2) nd rfl (Or.inl rfl)) (pgs_cons (pg_name (i := 3) nd rfl (Or.inl rfl)) pgs_nil)))
        (fun _ _ _ _ _ => pts_one (pt_cmpR op_ne (pv 2) (pv 3) (nomark _))) (fun _ _ _ _ _ => pv 3))
      (pss_cons (ps_set (i := 5) nd rfl (Or.inl rfl) pe_str)
      (pss_cons (ps_for PassesOwn.never rfl (pi_zips (by rfl) zip (pa_cons (pv 0) (pa_cons (pv 1) pa_nil))) (pg_tup (by rfl) (pgs_cons (pg_name (i := 2) nd rfl (Or.inl rfl)) (pgs_cons (pg_name (i := 3) nd rfl (Or.inl rfl)) pgs_nil)))
        (pss_one (ps_if (pt_cmpR op_eq (pv 2) (pv 3) (nomark _)) (pss_one (ps_aug (i := 5) nd rfl (Or.inl rfl) pe_str iop_add_str))
          (pss_one (ps_if (pt_cmpR op_in_seq (pv 2) (pv 4) rfl)
            (pss_cons (ps_expr (pe_bm PySem.F.plainAttrs_list PySem.F.slot_list_remove PySem.F.type_list_remove mt_removeS (pv 4) (pa_cons (pv 2) pa_nil))) (pss_one (ps_aug (i := 5) nd rfl (Or.inl rfl) pe_str iop_add_str)))
            (pss_one (ps_aug (i := 5) nd rfl (Or.inl rfl) pe_str iop_add_str)))))))
      (pss_one (ps_ret (pv 5))))), ?_⟩
    have sz : (tx g).cps.size = (tx w').cps.size := by rw [tx_size, tx_size, hl]
    refine ⟨_, rfl, _, rfl, tx g, tx w', rfl, sz, fun D hD => ?_⟩
    refine lc_it (walk_zips sz) (fun i H' => Same H H' ∧ H' D = some (.lst ((((g.zip w').take i).filter fun p => !decide (p.1 = p.2)).map fun p => V.str (one p.2)))) ⟨same_upd hD, upd_same⟩ (fun _ _ _ _ => trivial) ?_ ?_
    · rintro i x H1 H2 hi ⟨sm, hDi⟩ ⟨T, c, e, rfl, hT, rfl, hx, hy⟩
      have hz := zip_at (tx_at hx) (tx_at hy)
      have nDT : D ≠ T := ne_of_none hDi hT
      refine ⟨T, _, rfl, SqT.of upd_same, rfl, _, _, rfl, _, _, rfl, rfl, rfl, ?_⟩
      have ne_iff : decide (V.str (one c) = V.str (one e)) = decide (c = e) := decide_eq_decide.mpr ⟨fun q => ones_inj (V.str.inj q), fun q => by rw [q]⟩
      have st := take_map_filter (fun p => !decide (p.1 = p.2)) (fun p => p.2) hz
      have st' : (((g.zip w').take (i + 1)).filter fun p => !decide (p.1 = p.2)).map (fun p => V.str (one p.2)) = (((g.zip w').take i).filter fun p => !decide (p.1 = p.2)).map (fun p => V.str (one p.2)) ++ (if (!decide (c = e)) = true then [V.str (one e)] else []) := by
        have := congrArg (List.map fun a => V.str (one a)) st
        rw [List.map_append, List.map_map, List.map_map] at this
        refine this.trans (congrArg _ ?_)
        split <;> rfl
      have hD2 : upd H1 T (.tup [.str (one c), .str (one e)]) D = _ := (upd_ne nDT).trans hDi
      have sm2 : Same H (upd H1 T (.tup [.str (one c), .str (one e)])) := sm.trans (same_upd hT)
      refine ⟨_, rfl, _, rfl, rfl, _, rfl, ?_⟩
      rw [ne_iff]
      refine ite2 (fun hm => ?_) (fun hm => ?_)
      · rw [if_pos hm] at st'
        refine ⟨_, rfl, _, hD2, ?_, fun b o q => ?_, ?_⟩
        · have h1 := List.length_filter_le (fun p : Nat × Nat => !decide (p.1 = p.2)) ((g.zip w').take i)
          have h2 : ((g.zip w').take i).length ≤ 6 := by rw [List.length_take, List.length_zip]; omega
          rw [List.length_map]
          omega
        · rw [upd_ne (ne_of_none q hD)]
          exact sm2 b o q
        · rw [upd_same, st']
      · rw [if_neg hm, List.append_nil] at st'
        exact ⟨sm2, by rw [st']; exact hD2⟩
    rintro H1 ⟨sm, hD1⟩
    have eu : (((g.zip w').take (tx g).cps.size).filter fun p => !decide (p.1 = p.2)).map (fun p => V.str (one p.2)) = (un g w').map fun c => V.str (one c) := by
      rw [tx_size, List.take_of_length_le (by rw [List.length_zip]; omega)]
      unfold un
      rw [List.map_map]
      rfl
    rw [eu] at hD1
    refine ⟨_, rfl, _, rfl, tx g, tx w', rfl, sz, for_it (walk_zips sz) (fun i σ H' => ∃ (u t : List Nat) (v2 v3 : Option V), σ = [some (.str (tx g)), some (.str (tx w')), v2, v3, some (.ref D), some (.str (tx t))] ∧ Same H H' ∧
      H' D = some (.lst (u.map fun c => V.str (one c))) ∧ t ++ go ((g.zip w').drop i) u = mk g w' ∧ t.length = i ∧ u.length ≤ 6) ?_ (fun _ _ _ _ _ => trivial) ?_ ?_⟩
    · refine ⟨un g w', [], _, _, rfl, sm, hD1, rfl, rfl, ?_⟩
      have h1 := List.length_filter_le (fun p : Nat × Nat => !decide (p.1 = p.2)) (g.zip w')
      have h2 : (g.zip w').length ≤ 6 := by rw [List.length_zip]; omega
      unfold un
      rw [List.length_map]
      omega
    · rintro i x σ H2 H3 hi ⟨u, t, v2, v3, rfl, sm2, hD2, hgo, ht, hu⟩ ⟨T, c, e, rfl, hT, rfl, hx, hy⟩
      have hz := zip_at (tx_at hx) (tx_at hy)
      have nDT : D ≠ T := ne_of_none hD2 hT
      rw [drop_at hz] at hgo
      have eq_iff : decide (V.str (one c) = V.str (one e)) = decide (c = e) := decide_eq_decide.mpr ⟨fun q => ones_inj (V.str.inj q), fun q => by rw [q]⟩
      have hD3 : upd H2 T (.tup [.str (one c), .str (one e)]) D = _ := (upd_ne nDT).trans hD2
      have sm3 : Same H (upd H2 T (.tup [.str (one c), .str (one e)])) := sm2.trans (same_upd hT)
      have hi6 : i < g.length := by rw [tx_size] at hi; exact hi
      have tl : (tx t).length = i := by rw [tx_len, ht]
      have grow : ∀ (m : Nat) {r : List Nat}, t ++ m :: r = mk g w' → (t ++ [m]) ++ r = mk g w' := fun m r h => by rw [List.append_assoc]; exact h
      refine ⟨T, _, rfl, SqT.of upd_same, rfl, _, _, rfl, _, _, rfl, rfl, ?_⟩
      refine ⟨_, rfl, _, rfl, rfl, _, rfl, ?_⟩
      rw [eq_iff]
      refine ite2 (fun hm => ?_) (fun hm => ?_)
      · have hm := of_decide_eq_true hm
        refine ⟨_, rfl, _, _, rfl, rfl, by show (tx t).length + 1 ≤ sizeLine; omega, u, t ++ [50], some (.str (one c)), some (.str (one e)), ?_, sm3, hD3, ?_, by rw [List.length_append, ht]; rfl, hu⟩
        · rw [← tx_app]
          rfl
        · refine grow 50 ?_
          rw [go, if_pos hm] at hgo
          exact hgo
      · have hm : ¬ c = e := fun q => hm (decide_eq_true q)
        rw [go, if_neg hm] at hgo
        refine ⟨_, rfl, _, rfl, D, _, rfl, .inl (SqL.of hD3), rfl, flat_ones u, _, rfl, ?_⟩
        refine ite2 (fun hc => ?_) (fun hc => ?_)
        · have hc : c ∈ u := by
            have := (in_ones c u).symm.trans hc
            exact of_decide_eq_true this
          rw [if_pos hc] at hgo
          obtain ⟨j, j1, j2, j3⟩ := first_at hc
          have em : (u.map one).map V.str = u.map fun c => V.str (one c) := by rw [List.map_map]; rfl
          refine ⟨_, rfl, .inl ⟨rfl, _, SqL.of hD3⟩, _, rfl, D, u.map one, one c, j, rfl, rfl, by rw [em]; exact hD3, by rw [List.getElem?_map, j1]; rfl, fun m hm q => j2 m hm ?_, ?_⟩
          · rw [List.getElem?_map] at q
            cases e' : u[m]? with
            | none => rw [e'] at q; cases q
            | some b => rw [e'] at q; exact congrArg some (ones_inj (Option.some.inj q))
          have ee : (((u.map one).eraseIdx j).map V.str) = (u.erase c).map fun c => V.str (one c) := by
            rw [← j3]
            have : ∀ (l : List Nat) (j : Nat), (l.map one).eraseIdx j = (l.eraseIdx j).map one := by
              intro l
              induction l with
              | nil => intro j; simp
              | cons a l ih => intro j; cases j <;> simp [ih]
            rw [this, List.map_map]
            rfl
          refine ⟨_, rfl, _, _, rfl, rfl, by show (tx t).length + 1 ≤ sizeLine; omega, u.erase c, t ++ [49], some (.str (one c)), some (.str (one e)), ?_, fun b o q => ?_, ?_, grow 49 hgo, by rw [List.length_append, ht]; rfl, ?_⟩
          · rw [← tx_app]
            rfl
          · rw [upd_ne (ne_of_none q hD)]
            exact sm3 b o q
          · rw [upd_same, ee]
          · have := List.length_erase_le (a := c) (l := u)
            omega
        · have hc : ¬ c ∈ u := fun q => hc ((in_ones c u).trans (decide_eq_true q))
          rw [if_neg hc] at hgo
          refine ⟨_, rfl, _, _, rfl, rfl, by show (tx t).length + 1 ≤ sizeLine; omega, u, t ++ [48], some (.str (one c)), some (.str (one e)), ?_, sm3, hD3, grow 48 hgo, by rw [List.length_append, ht]; rfl, hu⟩
          rw [← tx_app]
          rfl
    · rintro σ H2 ⟨u, t, v2, v3, rfl, sm2, hD2, hgo, ht, hu⟩
      rw [tx_size, List.drop_of_length_le (by rw [List.length_zip]; omega)] at hgo
      have e : t = mk g w' := by
        rw [go, List.append_nil] at hgo
        exact hgo
      rw [e]
      exact ⟨_, rfl, q H2 sm2⟩
end
end Gm

/-! keys (n, t): a number and a tuple of keys -/
namespace PySem
section
variable {prog : Program} {w : World} {K : Type} [DecidableEq K] (knd : KeyKind prog w K)
def IsStKey (h : Heap) (k : Int × List K) (a : Addr) : Prop := ∃ o n t b, h.get? a = some o ∧ o.cls = .type "tuple" ∧ o.data = .seq #[.int k.1 t, .ref b] n ∧ IsTupleKey knd h k.2 b
variable {knd}
theorem IsStKey.typeIs {s : Shared} {k : Int × List K} {a : Addr} (x : IsStKey knd s.heap k a) : s.TypeIs (.ref a) "tuple" := by
  obtain ⟨o, _, _, _, ho, hc, _⟩ := x
  exact ⟨o, ho, hc⟩
theorem IsStKey.inj {h : Heap} {a : Addr} {x y : Int × List K} (hx : IsStKey knd h x a) (hy : IsStKey knd h y a) : x = y := by
  obtain ⟨o, n, t, b, ho, _, hd, hb⟩ := hx
  obtain ⟨o', n', t', b', ho', _, hd', hb'⟩ := hy
  obtain rfl : o = o' := Option.some.inj (ho.symm.trans ho')
  rw [hd] at hd'
  injection hd' with e _
  have e1 := congrArg Array.toList e
  injection e1 with e2 e3
  injection e3 with e4 _
  injection e2 with e5 _
  injection e4 with e6
  subst e6
  exact Prod.ext e5 (hb.inj hb')
theorem IsStKey.keeps {h h' : Heap} {k : Int × List K} {a d : Addr} {o : Obj} {es ep} (x : IsStKey knd h k a) (ho : h.get? d = some o) (hd : o.data = .dict es ep) (hs : Heap.SameBut d h h') : IsStKey knd h' k a := by
  obtain ⟨q, n, t, b, hq, hc, hdq, hb⟩ := x
  have hne : a ≠ d := by
    rintro rfl
    obtain rfl : q = o := Option.some.inj (hq.symm.trans ho)
    rw [hdq] at hd
    exact nomatch hd
  exact ⟨q, n, t, b, (hs.2 a hne).trans hq, hc, hdq, hb.keeps ho hd hs⟩
def stHash (knd : KeyKind prog w K) (k : Int × List K) : Int := reduceHash (Builtin.Tuple.tupleHashOf [(intKind prog w).hash k.1, tupleKeyHash knd k.2])
variable {A : Around} {E : Value → Shared → Prop} {s : Shared}
theorem st_pyHash {k : Int × List K} {a : Addr} {Q : Int → Shared → Prop} (hu : A.units + 1 < cLine) (hk : IsStKey knd s.heap k a) (h : Q (stHash knd k) { s with toks := s.toks + (k.2.length + 3) }) :
    wpAny (model prog w) A (pyHash (.ref a)) Q E s := by
  have hT := hk.typeIs
  obtain ⟨o, n, t, b, ho, _, hd, hb⟩ := hk
  unfold pyHash
  first | unfold pyHashByItsType | skip
  first | refine wpAny_bind (wpAny_cRoomFor_or (.inr (by omega)) ?_) | skip
  refine wpAny_bind (wpAny_specialOf hT F.slot_tuple_hash.lookup ?_)
  show wpAny _ _ (if (some (Value.builtin "tuple.__hash__") == some Value.none) = true then _ else _) Q E s
  rw [if_neg (by rw [beq_builtin_none]; exact Bool.false_ne_true)]
  refine wpAny_bind (wpAny_specialOf hT F.slot_tuple_hash.lookup ?_)
  show wpAny _ _ (callSpecialIfBoundUnlessNone? (.ref a) "__hash__" _ >>= _) Q E s
  refine wpAny_bind (wpAny_callSpecialIfBoundUnlessNone?_slot hT F.slot_tuple_hash (wpAny_call_entry F.slot_tuple_hash hT F.entry_tuple_hash ?_ (F.args_tuple_hash_1 _)))
  show wpAny _ _ (Builtin.Tuple.tupleItemsOf (.ref a) >>= _) _ _ s
  refine wpAny_bind (wpAny_tupleItemsOf ho hd ?_)
  refine wpAny_bind ?_
  rw [← Array.forIn_toList]
  refine wpAny_forIn_list _
    (fun rest (c : Array Int) s' => (rest = [.int k.1 t, .ref b] ∧ c.toList = [] ∧ s' = s) ∨ (rest = [.ref b] ∧ c.toList = [(intKind prog w).hash k.1] ∧ s' = { s with toks := s.toks + 1 }) ∨
      (rest = [] ∧ c.toList = [(intKind prog w).hash k.1, tupleKeyHash knd k.2] ∧ s' = { s with toks := s.toks + 1 + (k.2.length + 1) }))
    _ ?_ ?_ _ _ (.inl ⟨rfl, rfl, rfl⟩)
  · rintro x rest c s' (⟨e, hc, rfl⟩ | ⟨e, hc, rfl⟩ | ⟨e, _, _⟩)
    · injection e with e1 e2
      subst e1 e2
      refine wpAny_bind ((intKind prog w).pyHash (k := k.1) (intKind_is prog w k.1 t) ?_)
      first
        | exact wpAny_pure (.inr (.inl ⟨rfl, by simp [hc], rfl⟩))
        | exact wpAny_bind (wpAny_pure (wpAny_pure (.inr (.inl ⟨rfl, by simp [hc], rfl⟩))))
    · injection e with e1 e2
      subst e1 e2
      refine wpAny_bind (wpAny_pyHash_tuple (knd := knd) (ks := k.2) ?_ hb ?_)
      · first | exact hu | (show A.in1.units < cLine; exact hu) | omega
      first
        | exact wpAny_pure (.inr (.inr ⟨rfl, by simp [hc], rfl⟩))
        | exact wpAny_bind (wpAny_pure (wpAny_pure (.inr (.inr ⟨rfl, by simp [hc], rfl⟩))))
    · cases e
  · rintro c s' (⟨e, _, _⟩ | ⟨e, _, _⟩ | ⟨_, hc, rfl⟩)
    · cases e
    · cases e
    show wpAny _ _ (retInt (Builtin.Tuple.tupleHashOf c.toList)) _ _ _
    rw [hc]
    refine wpAny_ret_mkInt ?_
    show wpAny _ _ (if (decide (-(2 : Int) ^ 63 ≤ Builtin.Tuple.tupleHashOf [(intKind prog w).hash k.1, tupleKeyHash knd k.2]) && decide (Builtin.Tuple.tupleHashOf [(intKind prog w).hash k.1, tupleKeyHash knd k.2] < 2 ^ 63)) = true then _ else _) Q E _
    unfold stHash reduceHash at h
    have et : s.toks + (k.2.length + 3) = s.toks + 1 + (k.2.length + 1) + 1 := by omega
    rw [et] at h
    split
    · rename_i hr
      rw [if_pos hr] at h
      exact wpAny_pure h
    · rename_i hr
      rw [if_neg hr] at h
      exact wpAny_bind (wpAny_rule (wpAny_pure h))
theorem st_quiet2 {n : Nat} {ks : List K} {a : Addr} {Q : Bool → Shared → Prop} (hk : IsTupleKey knd s.heap ks a) (h : Q true s) : wpAny (model prog w) A (eqIsQuiet (n + 1) (.ref a)) Q E s := by
  have hT := hk.typeIs
  obtain ⟨o, items, m, ho, _, hd, hi⟩ := hk
  unfold eqIsQuiet
  refine wpAny_bind (wpAny_specialOf hT F.slot_tuple_eq.lookup ?_)
  show wpAny _ _ (isInstance (.ref a) (.type "tuple") >>= _) _ _ s
  refine wpAny_bind (wpAny_isInstance hT isSubtype_tuple_tuple ?_)
  simp only [Bool.not_true, Bool.false_eq_true, if_false]
  refine wpAny_bind (wpAny_seqItems ho hd ?_)
  refine wpAny_bind ?_
  show wpAny _ _ (forIn items _ _) _ _ s
  rw [← Array.forIn_toList]
  refine wpAny_forIn_list _ (fun rest r s' => (∀ v ∈ rest, carriedByValue v = true) ∧ r.1 = none ∧ s' = s) _ ?_ ?_ _ _ ⟨hi.byValue, rfl, rfl⟩
  · rintro v rest r s' ⟨all, hr, rfl⟩
    rw [eqIsQuiet_byValue _ (all v List.mem_cons_self)]
    refine wpAny_bind (wpAny_pure ?_)
    simp only [Bool.not_true, Bool.false_eq_true, if_false]
    exact wpAny_pure ⟨fun u hu => all u (List.mem_cons_of_mem _ hu), rfl, rfl⟩
  · rintro ⟨r1, r2⟩ s' ⟨_, hr, rfl⟩
    simp only at hr
    subst hr
    exact wpAny_pure h
theorem st_quiet {k : Int × List K} {a : Addr} {Q : Bool → Shared → Prop} (hk : IsStKey knd s.heap k a) (h : Q true s) : wpAny (model prog w) A (eqIsQuiet 8 (.ref a)) Q E s := by
  have hT := hk.typeIs
  obtain ⟨o, n, t, b, ho, _, hd, hb⟩ := hk
  unfold eqIsQuiet
  refine wpAny_bind (wpAny_specialOf hT F.slot_tuple_eq.lookup ?_)
  show wpAny _ _ (isInstance (.ref a) (.type "tuple") >>= _) _ _ s
  refine wpAny_bind (wpAny_isInstance hT isSubtype_tuple_tuple ?_)
  simp only [Bool.not_true, Bool.false_eq_true, if_false]
  refine wpAny_bind (wpAny_seqItems ho hd ?_)
  refine wpAny_bind ?_
  show wpAny _ _ (forIn #[Value.int k.1 t, .ref b] _ _) _ _ s
  rw [← Array.forIn_toList]
  refine wpAny_forIn_list _ (fun rest r s' => (∀ v ∈ rest, v = .int k.1 t ∨ v = .ref b) ∧ r.1 = none ∧ s' = s) _ ?_ ?_ _ _ ⟨fun v hv => by simpa using hv, rfl, rfl⟩
  · rintro v rest r s' ⟨all, hr, rfl⟩
    have rest' : ∀ u ∈ rest, u = .int k.1 t ∨ u = .ref b := fun u hu => all u (List.mem_cons_of_mem _ hu)
    rcases all v List.mem_cons_self with rfl | rfl
    · rw [eqIsQuiet_byValue _ rfl]
      refine wpAny_bind (wpAny_pure ?_)
      simp only [Bool.not_true, Bool.false_eq_true, if_false]
      exact wpAny_pure ⟨rest', rfl, rfl⟩
    · refine wpAny_bind (st_quiet2 hb ?_)
      simp only [Bool.not_true, Bool.false_eq_true, if_false]
      exact wpAny_pure ⟨rest', rfl, rfl⟩
  · rintro ⟨r1, r2⟩ s' ⟨_, hr, rfl⟩
    simp only at hr
    subst hr
    exact wpAny_pure h
theorem st_eq_tree {x y : Int × List K} {a b : Addr} {P : Fin → Shared → Prop} (hu : A.units < cLine) (hx : IsStKey knd s.heap x a) (hy : IsStKey knd s.heap y b) (h : P (.done (.ret (.bool (decide (x = y))))) s) :
    wpAny (model prog w) A (Builtin.«tuple.__eq__» ⟨[.ref a, .ref b], []⟩) P E s := by
  have hTb := hy.typeIs
  obtain ⟨oa, na, t, u, hoa, _, hda, hua⟩ := hx
  obtain ⟨ob, nb, t', u', hob, _, hdb, hub⟩ := hy
  have key : decide (x = y) = (decide (x.1 = y.1) && decide (x.2 = y.2)) := by
    rw [Bool.eq_iff_iff, Bool.and_eq_true, decide_eq_true_iff, decide_eq_true_iff, decide_eq_true_iff]
    exact Prod.ext_iff
  show wpAny _ _ (isInstance (.ref b) (.type "tuple") >>= _) _ _ s
  refine wpAny_bind (wpAny_isInstance hTb isSubtype_tuple_tuple ?_)
  simp only [Bool.not_true, Bool.false_eq_true, if_false]
  refine wpAny_bind (wpAny_tupleItemsOf hoa hda ?_)
  refine wpAny_bind (wpAny_tupleItemsOf hob hdb ?_)
  refine wpAny_bind ?_
  refine wpAny_forIn_list _
    (fun rest r s' => r.1 = none ∧ s' = s ∧ (rest = [(.int x.1 t, .int y.1 t'), (.ref u, .ref u')] ∨ (x.1 = y.1 ∧ rest = [(.ref u, .ref u')]) ∨ (x = y ∧ rest = [])))
    _ ?_ ?_ _ _ ⟨rfl, rfl, .inl rfl⟩
  · rintro ⟨p, q⟩ rest r s' ⟨hr, rfl, (e | ⟨e1, e⟩ | ⟨_, e⟩)⟩
    · injection e with e1 e2
      injection e1 with e3 e4
      subst e3 e4 e2
      refine wpAny_bind ((intKind prog w).eqBool (a := x.1) (b := y.1) (intKind_is prog w x.1 t) (intKind_is prog w y.1 t') ?_)
      by_cases hk : x.1 = y.1
      · rw [decide_eq_true hk]
        simp only [Bool.not_true, Bool.false_eq_true, if_false]
        exact wpAny_pure ⟨rfl, rfl, .inr (.inl ⟨hk, by first | rfl | trivial⟩)⟩
      · rw [decide_eq_false hk]
        simp only [Bool.not_false, if_true]
        rw [key, decide_eq_false hk, Bool.false_and] at h
        exact wpAny_bind (wpAny_pure (wpAny_pure (wpAny_pure h)))
    · injection e with e3 e2
      injection e3 with e4 e5
      subst e4 e5 e2
      refine wpAny_bind (wpAny_eqBool_tuple hu hua hub ?_)
      by_cases hk : x.2 = y.2
      · rw [decide_eq_true hk]
        simp only [Bool.not_true, Bool.false_eq_true, if_false]
        exact wpAny_pure ⟨rfl, rfl, .inr (.inr ⟨Prod.ext e1 hk, by first | rfl | trivial⟩)⟩
      · rw [decide_eq_false hk]
        simp only [Bool.not_false, if_true]
        rw [key, decide_eq_false hk, Bool.and_false] at h
        exact wpAny_bind (wpAny_pure (wpAny_pure (wpAny_pure h)))
    · cases e
  · rintro ⟨r1, r2⟩ s' ⟨hr, rfl, (e | ⟨_, e⟩ | ⟨exy, _⟩)⟩
    · cases e
    · cases e
    simp only at hr
    subst hr
    refine wpAny_pure ?_
    rw [decide_eq_true exy] at h
    exact h
theorem st_eqBool {x y : Int × List K} {a b : Addr} {Q : Bool → Shared → Prop} (hu : A.units + 1 < cLine) (hx : IsStKey knd s.heap x a) (hy : IsStKey knd s.heap y b) (h : Q (decide (x = y)) s) :
    wpAny (model prog w) A (eqBool (.ref a) (.ref b)) Q E s := by
  unfold eqBool
  try with_reducible refine wpAny_holding ?_
  show wpAny _ _ (if (Value.ref a == Value.ref b) = true then _ else _) Q E s
  by_cases hab : (Value.ref a == Value.ref b) = true
  · rw [if_pos hab]
    have e : a = b := by
      have := eq_of_beq hab
      injection this
    subst e
    obtain rfl := hx.inj hy
    exact wpAny_bind (wpAny_rule (wpAny_pure (by simpa using h)))
  · rw [if_neg hab]
    exact wpAny_bind (wpAny_richCompare_same_room (op := .Eq) hx.typeIs hy.typeIs F.slot_tuple_eq
      (wpAny_call_entry F.slot_tuple_eq hx.typeIs F.entry_tuple_eq (st_eq_tree (by first | exact hu | (show A.in1.units < cLine; exact hu)) hx hy ⟨_, rfl, (fun e => nomatch e), wpAny_truthy_bool h⟩) (F.args_tuple_eq_2 _ _)) (by omega))
end
def stKind {prog : Program} {w : World} {K : Type} [DecidableEq K] (knd : KeyKind prog w K) : HeapKind prog w (Int × List K) where
  is := IsStKey knd
  hash := stHash knd
  draws := fun k => k.2.length + 3
  room := fun A => A.units + 1 < cLine
  inj := fun hx hy => hx.inj hy
  keeps := fun x ho hd hs => x.keeps ho hd hs
  pyHash := fun hu hk h => st_pyHash hu hk h
  eqBool := fun hu hx hy h => st_eqBool hu hx hy h
  quiet := fun hk h => st_quiet hk h
end PySem

/-! a memory: a dict whose keys are pairs of a number and a tuple -/
namespace Gm
open PySem L2
abbrev MKey := Int × List Key
abbrev MEnt := MKey × Addr × V
def KeyAt (H : Hp) (k : MKey) (b : Addr) : Prop := ∃ u, H b = some (.tup [.int k.1, .ref u]) ∧ H u = some (.tup (k.2.map kV))
def KeysAt (H : Hp) (m : List MEnt) : Prop := ∀ e ∈ m, KeyAt H e.1 e.2.1
theorem KeyAt.mono {H H' : Hp} {k : MKey} {b : Addr} (x : KeyAt H k b) (t : ∀ c ys, H c = some (.tup ys) → H' c = some (.tup ys)) : KeyAt H' k b := by
  obtain ⟨u, h1, h2⟩ := x
  exact ⟨u, t _ _ h1, t _ _ h2⟩
theorem KeysAt.mono {H H' : Hp} {m : List MEnt} (x : KeysAt H m) (t : ∀ c ys, H c = some (.tup ys) → H' c = some (.tup ys)) : KeysAt H' m := fun e he => (x e he).mono t
abbrev MRel : List MEnt → List (MKey × Addr × Value) → Prop := Paired fun p q => p.1 = q.1 ∧ p.2.1 = q.2.1 ∧ RelV p.2.2 q.2.2
def mAt (m : List MEnt) (k : MKey) : Option V := (m.find? fun e => decide (e.1 = k)).map fun e => e.2.2
def mPut (m : List MEnt) (k : MKey) (b : Addr) (v : V) : List MEnt := if (mAt m k).isSome = true then m.map fun e => if e.1 = k then (e.1, e.2.1, v) else e else m ++ [(k, b, v)]
def memoO (P : Program) (w : World) (a : Addr) (m : List MEnt) : HO := .ext fun h => (m.length ≤ sizeLine ∧ (a == sysModules) = false) ∧ ∃ xs : List (MKey × Addr × Value), MRel m xs ∧
  ∃ o es ep, h.get? a = some o ∧ o.ExactDict ∧ o.data = .dict es ep ∧ es.toList = xs.map (entryOfKey (stKind (mixKind P w))) ∧ (xs.map (·.1)).Nodup
theorem mPut_len (m : List MEnt) (k : MKey) (b : Addr) (v : V) : (mPut m k b v).length ≤ m.length + 1 := by
  unfold mPut
  split
  · rw [List.length_map]; omega
  · rw [List.length_append]; exact Nat.le_refl _
theorem mAt_mem {m : List MEnt} {k : MKey} {v : V} (h : mAt m k = some v) : ∃ e ∈ m, e.1 = k ∧ e.2.2 = v := by
  unfold mAt at h
  obtain ⟨e, he, hv⟩ := Option.map_eq_some_iff.mp h
  exact ⟨e, List.mem_of_find?_eq_some he, by simpa using List.find?_some he, hv⟩
theorem mAt_some {m : List MEnt} {k : MKey} : (∃ e ∈ m, e.1 = k) → ∃ v, mAt m k = some v := by
  rintro ⟨e, he, hk⟩
  unfold mAt
  cases q : m.find? fun e => decide (e.1 = k) with
  | none =>
    have := List.find?_eq_none.mp q e he
    simp [hk] at this
  | some z => exact ⟨_, rfl⟩
theorem mPut_mem {m : List MEnt} {k : MKey} {b : Addr} {v : V} {e : MEnt} (h : e ∈ mPut m k b v) : (∃ e' ∈ m, e'.1 = e.1 ∧ e'.2.1 = e.2.1 ∧ (e = e' ∨ e.1 = k ∧ e.2.2 = v)) ∨ e = (k, b, v) := by
  unfold mPut at h
  split at h
  · obtain ⟨x, hx, rfl⟩ := List.mem_map.mp h
    refine .inl ⟨x, hx, ?_⟩
    split
    · rename_i q
      exact ⟨rfl, rfl, .inr ⟨q, rfl⟩⟩
    · exact ⟨rfl, rfl, .inl rfl⟩
  · rcases List.mem_append.mp h with h | h
    · exact .inl ⟨e, h, rfl, rfl, .inl rfl⟩
    · exact .inr (List.mem_singleton.mp h)
theorem mPut_has (m : List MEnt) (k : MKey) (b : Addr) (v : V) : ∃ e ∈ mPut m k b v, e.1 = k := by
  unfold mPut
  split
  · rename_i q
    cases r : mAt m k with
    | none => rw [r] at q; cases q
    | some y =>
      obtain ⟨e, he, hk, _⟩ := mAt_mem r
      exact ⟨_, List.mem_map.mpr ⟨e, he, rfl⟩, by rw [if_pos hk]; exact hk⟩
  · exact ⟨(k, b, v), List.mem_append.mpr (.inr List.mem_cons_self), rfl⟩
theorem MRel.val {m : List MEnt} {xs : List (MKey × Addr × Value)} (r : MRel m xs) (k : MKey) : RelO (mAt m k) ((atKey xs k).map (·.2)) := by
  induction r with
  | nil => exact True.intro
  | @cons p q ps qs h t ih =>
    obtain ⟨h1, _, h2⟩ := h
    by_cases e : p.1 = k
    · have e' : q.1 = k := h1.symm.trans e
      simp only [mAt, atKey, List.find?_cons, e, e', decide_true]
      exact h2
    · have e' : ¬ q.1 = k := fun z => e (h1.trans z)
      simp only [mAt, atKey, List.find?_cons, e, e', decide_false]
      exact ih
theorem MRel.sets {m : List MEnt} {xs : List (MKey × Addr × Value)} (r : MRel m xs) (k : MKey) {y : V} {u : Value} (ry : RelV y u) : MRel (m.map fun e => if e.1 = k then (e.1, e.2.1, y) else e) (xs.map (putAt k u)) := by
  induction r with
  | nil => exact .nil
  | @cons p q ps qs h t ih =>
    refine .cons ?_ ih
    obtain ⟨h1, h2, h3⟩ := h
    simp only [putAt]
    by_cases e : p.1 = k
    · have e' : q.1 = k := h1.symm.trans e
      rw [if_pos e, if_pos e']
      exact ⟨h1, h2, ry⟩
    · have e' : ¬ q.1 = k := fun z => e (h1.trans z)
      rw [if_neg e, if_neg e']
      exact ⟨h1, h2, h3⟩
theorem MRel.put {m : List MEnt} {xs : List (MKey × Addr × Value)} (r : MRel m xs) (k : MKey) {b : Addr} {y : V} {u : Value} (ry : RelV y u) : MRel (mPut m k b y) (storedH xs k b u) := by
  have e : (mAt m k).isSome = (atKey xs k).isSome := by rw [(r.val k).isSome_eq, Option.isSome_map]
  simp only [mPut, storedH, e]
  split
  · exact r.sets k ry
  · exact Paired.snoc r ⟨rfl, rfl, ry⟩
section
variable {P : Program} {w : World} {H : Hp} {h : Heap} {a b : Addr} {k : MKey} {m : List MEnt}
theorem key_is (ok : HOk P w H h) (x : KeyAt H k b) : (stKind (mixKind P w)).is h k b := by
  obtain ⟨u, h1, h2⟩ := x
  obtain ⟨_, its, r, o, g1, g2, n, g3⟩ := (show ObjOk P w H h b (.tup [.int k.1, .ref u]) from ok b _ h1)
  cases r with
  | cons r1 r2 =>
    cases r2 with
    | cons r3 r4 =>
      cases r4
      obtain ⟨t, rfl⟩ := r1
      cases r3
      exact ⟨o, n, t, u, g1, g2, g3, key_of ok h2⟩
theorem keys_are (ok : HOk P w H h) : ∀ {l : List MEnt} {xs : List (MKey × Addr × Value)}, MRel l xs → KeysAt H l → ∀ v ∈ xs, (stKind (mixKind P w)).is h v.1 v.2.1 := by
  intro l xs r
  induction r with
  | nil => intro _ q hq; cases hq
  | @cons p q ps qs hq t ih =>
    intro x v hv
    rcases List.mem_cons.mp hv with rfl | hv
    · have := key_is ok (x p List.mem_cons_self)
      rw [hq.1, hq.2.1] at this
      exact this
    · exact ih (fun e he => x e (List.mem_cons_of_mem _ he)) v hv
theorem memo_rd (ok : HOk P w H h) (e : H a = some (memoO P w a m)) (x : KeysAt H m) : m.length ≤ sizeLine ∧ (a == sysModules) = false ∧ ∃ xs, MRel m xs ∧ h.DictOfH (stKind (mixKind P w)) a xs := by
  obtain ⟨⟨⟨z, y⟩, xs, r, o, es, ep, h1, h2, h3, h4, h5⟩, _⟩ := (show ObjOk P w H h a (memoO P w a m) from ok a _ e)
  exact ⟨z, y, xs, r, o, es, ep, h1, h2, h3, h4, keys_are ok r x, h5⟩
theorem memo_ok {xs : List (MKey × Addr × Value)} {H' : Hp} (z : m.length ≤ sizeLine) (y : (a == sysModules) = false) (r : MRel m xs) (d : h.DictOfH (stKind (mixKind P w)) a xs) : ObjOk P w H' h a (memoO P w a m) := by
  obtain ⟨o, es, ep, h1, h2, h3, h4, _, h5⟩ := d
  refine ⟨⟨⟨z, y⟩, xs, r, o, es, ep, h1, h2, h3, h4, h5⟩, ⟨o, h1⟩, fun g1 g2 hg hk => ?_⟩
  obtain ⟨q, ys, r', o', es', ep', k1, k2⟩ := hg
  exact ⟨q, ys, r', o', es', ep', hk _ k1, k2⟩
end
section
variable {X : Cx} {pins : List (Addr × Obj)} {σ : St} {H : Hp} {s : Shared} {a b : Addr} {k : MKey} {m : List MEnt} {A : Around} {E : Value → Shared → Prop}
theorem st_room (hu : A.units + 2 < cLine) : (stKind (mixKind X.prog X.w)).room A.in1 := by
  show A.in1.units + 1 < cLine
  have : A.in1.units = A.units + 1 := rfl
  omega
theorem me_get {v : V} {Q : Value → Shared → Prop} (hu : A.units + 2 < cLine) (I : Inv X pins σ H s) (e : H a = some (memoO X.prog X.w a m)) (x : KeysAt H m) (hb : KeyAt H k b) (l : mAt m k = some v) (h : ∀ u s', Inv X pins σ H s' → RelV v u → Q u s') :
    wpAny (model X.prog X.w) A (getItem (.ref a) (.ref b)) Q E s := by
  obtain ⟨_, _, xs, r, d⟩ := memo_rd I.hok e x
  obtain ⟨u, hw, rw'⟩ := RelO.some_of (v := v) (o := (atKey xs k).map (·.2)) (by rw [← l]; exact r.val k)
  obtain ⟨p, hp, rfl⟩ := Option.map_eq_some_iff.mp hw
  exact wpAny_getItem_heap (st_room (X := X) hu) (key_is I.hok hb) d hp (h _ _ (I.tok _) rw')
theorem me_notIn {Q : Value → Shared → Prop} (hu : A.units + 2 < cLine) (I : Inv X pins σ H s) (e : H a = some (memoO X.prog X.w a m)) (x : KeysAt H m) (hb : KeyAt H k b) (h : ∀ s', Inv X pins σ H s' → Q (.bool (!(mAt m k).isSome)) s') :
    wpAny (model X.prog X.w) A (compareOp .NotIn (.ref b) (.ref a)) Q E s := by
  obtain ⟨_, nd, xs, r, d⟩ := memo_rd I.hok e x
  refine PyProof.Rows.wpAny_notIn_heap (st_room (X := X) hu) (key_is I.hok hb) nd d ?_
  have q := (r.val k).isSome_eq
  rw [Option.isSome_map] at q
  rw [← q]
  exact h _ (I.tok _)
theorem me_put {v : V} {u : Value} {Q : Unit → Shared → Prop} (hu : A.units + 2 < cLine) (I : Inv X pins σ H s) (e : H a = some (memoO X.prog X.w a m)) (x : KeysAt H m) (hb : KeyAt H k b) (l : m.length < sizeLine) (rv : RelV v u)
    (h : ∀ s', Inv X pins σ (upd H a (memoO X.prog X.w a (mPut m k b v))) s' → Q () s') : wpAny (model X.prog X.w) A (setItem (.ref a) (.ref b) u) Q E s := by
  obtain ⟨_, nd, xs, r, d⟩ := memo_rd I.hok e x
  have len := mPut_len m k b v
  have hz : xs.length ≤ sizeLine := by rw [← Paired.length r]; omega
  refine wpAny_setItem_heap (hsz := hz) (st_room (X := X) hu) (key_is I.hok hb) d fun h' d' hs => h _ ?_
  have he : ∃ q, h'.get? a = some q := let ⟨q, _, _, hq, _⟩ := d'; ⟨q, hq⟩
  exact d_write I (by rw [e]; exact True.intro) hs he (memo_ok (by omega) nd (r.put k rv) d')
end
/-- y not in d, d[y], d[y] = v -/
def tMNotIn (X : Cx) (ty td : TE) : TE := fun σ H Q => ty σ H fun y H1 => td σ H1 fun x H2 => ∃ a b k m, x = .ref a ∧ y = .ref b ∧ KeyAt H2 k b ∧ H2 a = some (memoO X.prog X.w a m) ∧ KeysAt H2 m ∧ Q (.bl (!(mAt m k).isSome)) H2
def tMGet (X : Cx) (td ty : TE) : TE := fun σ H Q => td σ H fun x H1 => ty σ H1 fun y H2 => ∃ a b k m v, x = .ref a ∧ y = .ref b ∧ KeyAt H2 k b ∧ H2 a = some (memoO X.prog X.w a m) ∧ KeysAt H2 m ∧ mAt m k = some v ∧ Q v H2
def sMPut (X : Cx) (td ty tv : TE) : TS := fun D σ H => tv σ H fun v H1 => td σ H1 fun x H2 => ty σ H2 fun y H3 => ∃ a b k m, x = .ref a ∧ y = .ref b ∧ KeyAt H3 k b ∧ H3 a = some (memoO X.prog X.w a m) ∧ KeysAt H3 m ∧ m.length < sizeLine ∧
  D.nx σ (upd H3 a (memoO X.prog X.w a (mPut m k b v)))
def tMNew (X : Cx) : TE := fun _ H Q => ∀ p, H p = none → Q (.ref p) (upd H p (memoO X.prog X.w p []))
section
variable {X : Cx} {o i value : Expr} {pos pos' : Pos} {td ty tv : TE}
theorem memo_type {pins : List (Addr × Obj)} {σ : St} {H : Hp} {s : Shared} {a : Addr} {m : List MEnt} (I : Inv X pins σ H s) (e : H a = some (memoO X.prog X.w a m)) (x : KeysAt H m) : s.TypeIs (.ref a) "dict" := by
  obtain ⟨_, _, xs, _, d⟩ := memo_rd I.hok e x
  exact d.typeIs
theorem pe_mget (hu : X.A.units + 2 < cLine) (ho : PE X o td) (hi : PE X i ty) (hs : NoSl i) : PE X (.Subscript o i pos) (tMGet X td ty) := by
  refine ⟨fun pins s σ H Q I h => ?_⟩
  refine subD_of PySem.F.slot_dict_getitem.lookup hs (thn (ho.run pins s σ H _ I h) fun u s1 hh => ?_)
  obtain ⟨x, H1, I1, rx, q1⟩ := hh
  refine thn (hi.run pins s1 σ H1 _ I1 q1) fun iv s2 hh => ?_
  obtain ⟨y, H2, I2, ry, a, b, k, m, v, rfl, rfl, hb, e, hm, l, q2⟩ := hh
  cases rx; cases ry
  exact ⟨memo_type I2 e hm, me_get hu I2 e hm hb l fun w' s3 I3 rw' => ⟨v, H2, I3, rw', q2⟩⟩
theorem pc_mnotin (hu : X.A.units + 2 < cLine) (hi : PE X i ty) (ho : PE X o td) : PC X .NotIn i o (tMNotIn X ty td) := by
  refine ⟨fun pins s σ H Q I h => ?_⟩
  refine thn (hi.run pins s σ H _ I h) fun iv s1 hh => ?_
  obtain ⟨y, H1, I1, ry, q1⟩ := hh
  refine thn (ho.run pins s1 σ H1 _ I1 q1) fun u s2 hh => ?_
  obtain ⟨x, H2, I2, rx, a, b, k, m, rfl, rfl, hb, e, hm, q2⟩ := hh
  cases rx; cases ry
  exact me_notIn hu I2 e hm hb fun s3 I3 => ⟨.bl (!(mAt m k).isSome), H2, I3, rfl, q2⟩
theorem ps_mput (hu : X.A.units + 2 < cLine) (ho : PE X o td) (hi : PE X i ty) (hv : PE X value tv) (hs : swapsWith value (some (.Subscript o i pos')) pos.line X.env = pure false) : PS X (.Assign [.Subscript o i pos'] value pos) (sMPut X td ty tv) := by
  refine ⟨fun pins s σ H D I h => ?_⟩
  refine wpAny_Assign_Subscript (thn (hv.run pins s σ H _ I h) fun r s1 hh => ?_) hs
  obtain ⟨v, H1, I1, rv, q1⟩ := hh
  refine thn (ho.run pins s1 σ H1 _ I1 q1) fun u s2 hh => ?_
  obtain ⟨x, H2, I2, rx, q2⟩ := hh
  refine thn (hi.run pins s2 σ H2 _ I2 q2) fun iv s3 hh => ?_
  obtain ⟨y, H3, I3, ry, a, b, k, m, rfl, rfl, hb, e, hm, l, q3⟩ := hh
  cases rx; cases ry
  exact me_put hu I3 e hm hb l rv fun s4 I4 => ⟨σ, _, I4, q3⟩
theorem pe_mnew : PE X (.Dict [] [] pos) (tMNew X) := by
  refine ⟨fun pins s σ H Q I h => ?_⟩
  have hb := I.big
  refine wpAny_Dict_empty ⟨.ref s.heap.objs.size, _, I.laid (a := s.heap.objs.size) (o := memoO X.prog X.w s.heap.objs.size []) (t' := s.toks) (fun _ _ q => Heap.get?_push_of_some _ q) (Nat.le_refl _) ?_, rfl, h _ (I.hok.fresh (Nat.le_refl _))⟩
  exact memo_ok (Nat.zero_le _) (beq_eq_false_iff_ne.mpr (Ne.symm (Nat.ne_of_lt hb))) .nil (Heap.DictOfH.new s.heap)
end
end Gm

/-! zip of a list and a tuple of one length -/
namespace L2
open PySem PySem.Spec PyProof.Rows
def Itzm (K : PySem.W.Frag) (a b : Addr) : It :=
  ⟨fun i H => ∃ (xs ys : List V), SqL K H a xs ∧ SqT K H b ys ∧ i < xs.length ∧ i < ys.length,
    fun i H v H' => ∃ T x y, v = .ref T ∧ H T = none ∧ H' = upd H T (.tup [x, y]) ∧ (∀ xs, SqL K H a xs → xs[i]? = some x) ∧ ∀ ys, SqT K H b ys → ys[i]? = some y,
    fun i H => ∃ xs ys : List V, SqL K H a xs ∧ SqT K H b ys ∧ i = xs.length ∧ i = ys.length⟩
theorem zm_sep {n a b : Nat} (ha : a < n) (hb : b < n) : ZipSep2 (n + 4) (n + 2) (n + 3) n (n + 1) [n, a] [n + 1, b] := by
  constructor <;> first | (refine PySem.W.neN ?_; omega) | (intro z; simp only [List.mem_cons, List.not_mem_nil, or_false] at z; rcases z with z | z <;> (have z : (_ : Nat) = _ := z; omega)) | (simp; done)
theorem turn_zipm {P : Program} {w : World} {K : PySem.W.Frag} {elts : List Expr} {kk : Nat} {tpos : Pos} {a b z TI TO i1 i2 : Addr} (D : ZipSep2 z TI TO i1 i2 [i1, a] [i2, b]) (ha1 : a ≠ i1) (hb2 : b ≠ i2) :
    Turn P w K (.Tuple elts kk tpos) (Itzm K a b) [z, TI, TO, i1, i2] z (fun i h => IsZip h z TI TO .none ∧ IsTupOf2 h TI (.ref i1) (.ref i2) ∧ (∃ x y, IsTupOf2 h TO x y) ∧ h.IsListIter i1 a i ∧ h.IsTupleIter i2 b i) where
  mem := by simp
  obj := fun i h st c hc => by
    obtain ⟨hz, hTI, ⟨x, y, hTO⟩, ⟨o1, e1, _, d1⟩, ⟨o2, e2, _, d2⟩⟩ := st
    have q : c = z ∨ c = TI ∨ c = TO ∨ c = i1 ∨ c = i2 := by simpa using hc
    rcases q with rfl | rfl | rfl | rfl | rfl
    · exact ⟨_, hz, fun v q => nomatch q⟩
    · exact ⟨_, hTI, fun v q => nomatch q⟩
    · exact ⟨_, hTO, fun v q => nomatch q⟩
    · exact ⟨o1, e1, fun v q => by rw [d1] at q; cases q⟩
    · exact ⟨o2, e2, fun v q => by rw [d2] at q; cases q⟩
  keep := fun i h h' st k => by
    obtain ⟨hz, hTI, ⟨x, y, hTO⟩, h1, h2⟩ := st
    exact ⟨k z (by simp) _ hz, k TI (by simp) _ hTI, ⟨x, y, k TO (by simp) _ hTO⟩, h1.at fun o q => k i1 (by simp) o q, h2.at fun o q => k i2 (by simp) o q⟩
  item := by
    intro X hP hw hK hc i pins s σ H E I hf st hg
    subst hP hw hK
    obtain ⟨hz, hTI, ⟨a0, b0, hTO⟩, h1, h2⟩ := st
    obtain ⟨xs, ys, hxs, hys, l1, l2⟩ := hg
    obtain ⟨its, rv, p, _⟩ := I.list hxs
    obtain ⟨its2, rv2, p2, _⟩ := I.tuple hys
    have e1 := rv.length
    have e2 := rv2.length
    have lz : z < s.heap.objs.size := Heap.lt_size hz
    refine wpAny_pyNext_zipD2_item (St1 := fun i h => h.IsListIter i1 a i ∧ h.IsList a its.toArray) (St2 := fun i h => h.IsTupleIter i2 b i ∧ h.IsTuple b its2.toArray) D (Draws.list (A := X.A.in1) (show X.A.in1.handled = none from I.ok.hd hc) i1 a ha1 its.toArray) (Draws.tuple (A := X.A.in1) (show X.A.in1.handled = none from I.ok.hd hc) i2 b hb2 its2.toArray) hz hTI hTO ⟨h1, p.isList⟩ ⟨h2, p2⟩ (by simp; omega) (by simp; omega) fun u u2 h' tk q1 q2 z' TO' h1' h2' hT hsz hk => ?_
    have q1 : its[i]? = some u := by simpa using q1
    have q2 : its2[i]? = some u2 := by simpa using q2
    obtain ⟨x, hx⟩ : ∃ x, xs[i]? = some x := ⟨_, List.getElem?_eq_getElem l1⟩
    obtain ⟨y, hy⟩ : ∃ y, ys[i]? = some y := ⟨_, List.getElem?_eq_getElem l2⟩
    obtain ⟨u', hu, ru⟩ := rv.get hx
    obtain ⟨u2', hu2, ru2⟩ := rv2.get hy
    obtain rfl : u' = u := Option.some.inj (hu.symm.trans q1)
    obtain rfl : u2' = u2 := Option.some.inj (hu2.symm.trans q2)
    refine ⟨_, rfl, wpAny_letOwnedTupleGo_zip (s := { s with heap := h', toks := tk }) z' fun g z'' sb => ?_⟩
    have hT2 := (sb.2 _ (Nat.ne_of_gt lz)).trans hT
    have fresh : ObjOk X.prog X.w (upd H s.heap.objs.size (.tup [x, y])) g s.heap.objs.size (.tup [x, y]) :=
      ⟨by show 2 ≤ sizeLine; decide, _, .cons ru (.cons ru2 .nil), ⟨_, hT2, rfl, _, rfl⟩⟩
    have J : Inv X pins σ (upd H s.heap.objs.size (.tup [x, y])) { s with heap := g, toks := tk } := by
      refine I.turnedNew (ch := [z, TI, TO, i1, i2]) (fun b o hb q => ?_) hf (Nat.le_refl _) fresh
      have nb : b ≠ z ∧ b ≠ TI ∧ b ≠ TO ∧ b ≠ i1 ∧ b ≠ i2 := by simpa using hb
      exact (sb.2 b nb.1).trans (hk b o nb.1 nb.2.2.1 nb.2.2.2.1 nb.2.2.2.2 q)
    refine ⟨.ref s.heap.objs.size, _, J, rfl, ⟨_, x, y, rfl, I.hok.fresh (Nat.le_refl _), rfl, fun l hl => by rw [I.list_inj hl hxs]; exact hx, fun l hl => by rw [I.tuple_inj hl hys]; exact hy⟩, ⟨z'', ?_, ⟨_, _, (sb.2 _ D.TOz).trans TO'⟩, ?_, ?_⟩, fun b hb => ?_⟩
    · exact (sb.2 _ D.TIz).trans (hk _ _ D.TIz D.TITO D.TIi1 D.TIi2 hTI)
    · exact h1'.1.at fun o q => (sb.2 _ D.zi1.symm).trans q
    · exact h2'.1.at fun o q => (sb.2 _ D.zi2.symm).trans q
    · have hlt : b < s.heap.objs.size := by
        have q : b = z ∨ b = TI ∨ b = TO ∨ b = i1 ∨ b = i2 := by simpa using hb
        obtain ⟨o1, e1, _⟩ := h1
        obtain ⟨o2, e2, _⟩ := h2
        rcases q with rfl | rfl | rfl | rfl | rfl
        · exact lz
        · exact Heap.lt_size hTI
        · exact Heap.lt_size hTO
        · exact Heap.lt_size e1
        · exact Heap.lt_size e2
      rw [upd_ne (Nat.ne_of_lt hlt)]
      exact (hf b hb).1
  done := by
    intro X hP hw hK hc i pins s σ H E I hf st hg
    subst hP hw hK
    obtain ⟨hz, hTI, ⟨a0, b0, hTO⟩, h1, h2⟩ := st
    obtain ⟨xs, ys, hxs, hys, l1, l2⟩ := hg
    obtain ⟨its, rv, p, _⟩ := I.list hxs
    obtain ⟨its2, rv2, p2, _⟩ := I.tuple hys
    have e1 := rv.length
    have e2 := rv2.length
    refine wpAny_pyNext_zipD2_end (St1 := fun i h => h.IsListIter i1 a i ∧ h.IsList a its.toArray) (St2 := fun i h => h.IsTupleIter i2 b i ∧ h.IsTuple b its2.toArray) D (Draws.list (A := X.A.in1) (show X.A.in1.handled = none from I.ok.hd hc) i1 a ha1 its.toArray) (Draws.tuple (A := X.A.in1) (show X.A.in1.handled = none from I.ok.hd hc) i2 b hb2 its2.toArray) hz hTI hTO ⟨h1, p.isList⟩ ⟨h2, p2⟩ (by simp; omega) (by simp; omega) (.inl (by simp; omega)) fun h' tk hk => ⟨rfl, I.turnedL (ch := [z, TI, TO, i1, i2]) (fun b o hb q => ?_) hf⟩
    have nb : b ≠ z ∧ b ≠ TI ∧ b ≠ TO ∧ b ≠ i1 ∧ b ≠ i2 := by simpa using hb
    exact hk b o nb.1 nb.2.2.1 nb.2.2.2.1 nb.2.2.2.2 q
  self := fun A i s Q E st h => wpAny_pyIter_zip st.1 h
def iZipm (K : PySem.W.Frag) (ta : TA) : TI := fun σ H R => ta σ H fun vs H1 => ∃ a b xs ys, vs = [.ref a, .ref b] ∧ SqL K H1 a xs ∧ SqT K H1 b ys ∧ R (Itzm K a b) H1
theorem pi_zipm {X : Cx} {e e2 : Expr} {ta : TA} {p pos tpos : Pos} {elts : List Expr} {kk : Nat} (hg : Gl X "zip") (hm : X.mg "zip" = none) (ha : PA X [e, e2] ta)
    (hs : starEach [e, e2] X.env = (false, eval e X.env) :: starEach [e2] X.env := by rfl) (hpl : (backTo pos (starEach [e2] X.env)).any (·.1) = false := by rfl) :
    PI X (.Tuple elts kk tpos) (.Call (.Name "zip" p) [e, e2] [] pos) (iZipm X.K ta) := by
  refine ⟨fun pins s σ H R I h => ?_⟩
  refine Call_ (ld_blt I hg hm PyProof.Rows.boot_zip (PyProof.Rows.callWith_type1 (thn (ha.run pos pins s σ H _ I h) fun us s1 hh => ?_) hs hpl))
  obtain ⟨vs, H1, I1, r1, a, b, xs, ys, rfl, hxs, hys, q⟩ := hh
  cases r1 with
  | cons r rr =>
    cases rr with
    | cons r' rr =>
      cases rr
      cases r
      cases r'
      obtain ⟨its, rv, p1, _⟩ := I1.list hxs
      obtain ⟨its2, rv2, p2, _⟩ := I1.tuple hys
      obtain ⟨o2, ho2, _⟩ := id p2
      have la : a < s1.heap.objs.size := p1.lt
      have lb : b < s1.heap.objs.size := Heap.lt_size ho2
      refine zip_begins2 (begins_list a its.toArray) (begins_tuple b its2.toArray) p1.isList p2 fun h' hz hTI hTO h1 h2 hsz hk => wpAny_pyIter_zip hz ?_
      have J : Inv X pins σ H1 { s1 with heap := h' } := I1.kept (t' := s1.toks) hk
      refine ⟨s1.heap.objs.size + 4, [s1.heap.objs.size + 4, s1.heap.objs.size + 2, s1.heap.objs.size + 3, s1.heap.objs.size, s1.heap.objs.size + 1], _, _, H1, rfl, J, turn_zipm (zm_sep la lb) (Nat.ne_of_lt la) (Nat.ne_of_lt (Nat.lt_succ_of_lt lb)), ⟨hz, hTI, ⟨_, _, hTO⟩, ⟨_, h1, rfl, rfl⟩, ⟨_, h2, rfl, rfl⟩⟩, fun c hcm => ?_, q⟩
      have hle : s1.heap.objs.size ≤ c := by
        have q : c = s1.heap.objs.size + 4 ∨ c = s1.heap.objs.size + 2 ∨ c = s1.heap.objs.size + 3 ∨ c = s1.heap.objs.size ∨ c = s1.heap.objs.size + 1 := by simpa using hcm
        rcases q with rfl | rfl | rfl | rfl | rfl
        · exact Nat.le_add_right _ _
        · exact Nat.le_add_right _ _
        · exact Nat.le_add_right _ _
        · exact Nat.le_refl _
        · exact Nat.le_add_right _ _
      exact I1.fpOk hle (I1.hok.fresh hle)
theorem walk_zipm {K : PySem.W.Frag} {a b : Addr} {xs ys : List V} {n : Nat} (h1 : n = xs.length) (h2 : n = ys.length) : Walk (Itzm K a b) n (fun H => SqL K H a xs ∧ SqT K H b ys) (YPair (fun i => xs[i]?) (fun i => ys[i]?)) :=
  ⟨fun i _ hi q => ⟨xs, ys, q.1, q.2, h1 ▸ hi, h2 ▸ hi⟩, fun _ q => ⟨xs, ys, q.1, q.2, h1, h2⟩, fun i H x H' hi q y => by
    obtain ⟨T, u, v, e1, e2, e3, hx, hy⟩ := y
    exact ⟨T, u, v, e1, e2, e3, hx _ q.1, hy _ q.2⟩⟩
end L2

/-! ways to go on, as a number -/
namespace Gm
open PySem
theorem idx_at {c : Nat} : ∀ {l : List Nat} {i : Nat}, l[i]? = some c → (∀ k, k < i → l[k]? ≠ some c) → l.idxOf c = i
  | [], i, h, _ => by simp at h
  | a :: l, 0, h, _ => by
    have : a = c := by simpa using h
    rw [this, List.idxOf_cons_self]
  | a :: l, i + 1, h, n => by
    have h0 : a ≠ c := fun e => n 0 (Nat.succ_pos _) (by simp [e])
    rw [List.idxOf_cons, cond_eq_if, if_neg (by simpa using h0), idx_at (l := l) (i := i) (by simpa using h) fun k hk e => n (k + 1) (Nat.succ_lt_succ hk) (by simpa using e)]
theorem find_one (l : List Nat) (c : Nat) : Txt.find (tx l) (one c) = if c ∈ l then ((l.idxOf c : Nat) : Int) else -1 := by
  have at_ : ∀ k, StrLaws.At (tx l) (one c) (tx l).length k ↔ l[k]? = some c := fun k => by
    have h := StrLaws.subAt_one (tx l) c k
    have e : (tx l).cps.toList = l := by simp
    rw [e] at h
    exact h
  rcases PyProof.Rows.find_whole (tx l) (one c) with ⟨e, n⟩ | ⟨i, e, a, n⟩
  · have : c ∉ l := fun h => by
      obtain ⟨j, hj, hx⟩ := List.getElem_of_mem h
      exact n j ((at_ j).mpr (List.getElem?_eq_some_iff.mpr ⟨hj, hx⟩))
    rw [e, if_neg this]
  · have hi := (at_ i).mp a
    rw [e, if_pos (List.mem_of_getElem? hi), idx_at hi fun k hk q => n k hk ((at_ k).mpr q)]
def owedI (le us : List Int) : Int := ((le.zip us).map fun p => if p.1 - p.2 > 0 then p.1 - p.2 else 0).sum
def bump (us : List Int) (i : Nat) : List Int := us.take i ++ [us.getD i 0 + 1] ++ us.drop (i + 1)
theorem bump_len {us : List Int} {i : Nat} (h : i < us.length) : (bump us i).length = us.length := by
  unfold bump
  simp only [List.length_append, List.length_take, List.length_drop, List.length_cons, List.length_nil]
  omega
/-- those of a that are among b -/
def cc (a b : List Nat) : List Nat := a.filter fun c => decide (c ∈ b)
def wayF (ct : List Nat) (le gr : List Int) : List (List Nat) → List Int → Int
  | [], us => if owedI le us > 0 then 0 else 1
  | a :: al, us => if owedI le us > ((al.length + 1 : Nat) : Int) then 0 else
      ((cc a ct).map fun c => if us.getD (ct.idxOf c) 0 = gr.getD (ct.idxOf c) 0 then 0 else wayF ct le gr al (bump us (ct.idxOf c))).sum +
      (if (a.length : Int) - ((cc a ct).length : Int) > 0 then ((a.length : Int) - ((cc a ct).length : Int)) * wayF ct le gr al us else 0)
/-- the numbers behind one more letter -/
def bumpC (ct : List Nat) (us : List Int) (c : Nat) : List Int := if c ∈ ct then bump us (ct.idxOf c) else us
theorem bumpC_len {ct : List Nat} {us : List Int} {c : Nat} (h : us.length = ct.length) : (bumpC ct us c).length = ct.length := by
  unfold bumpC
  split
  · rename_i m
    rw [bump_len (by rw [h]; exact List.idxOf_lt_length_of_mem m), h]
  · exact h
/-- the ways through a letter -/
def withF (ct : List Nat) (le gr : List Int) (al : List (List Nat)) (us : List Int) (c : Nat) : Int :=
  if c ∈ ct ∧ us.getD (ct.idxOf c) 0 = gr.getD (ct.idxOf c) 0 then 0 else wayF ct le gr al (bumpC ct us c)
theorem cc_mem {a b : List Nat} {c : Nat} : c ∈ cc a b ↔ c ∈ a ∧ c ∈ b := by
  unfold cc
  rw [List.mem_filter]
  exact and_congr_right fun _ => decide_eq_true_iff
theorem cc_le (a b : List Nat) : (cc a b).length ≤ a.length := List.length_filter_le _ _
theorem wayF_cons (ct : List Nat) (le gr : List Int) (a : List Nat) (al : List (List Nat)) (us : List Int) : wayF ct le gr (a :: al) us =
    if owedI le us > ((al.length + 1 : Nat) : Int) then 0 else ((cc a ct).map fun c => withF ct le gr al us c).sum + (if (a.length : Int) - ((cc a ct).length : Int) > 0 then ((a.length : Int) - ((cc a ct).length : Int)) * wayF ct le gr al us else 0) := by
  rw [wayF]
  have e : (cc a ct).map (fun c => if us.getD (ct.idxOf c) 0 = gr.getD (ct.idxOf c) 0 then 0 else wayF ct le gr al (bump us (ct.idxOf c))) = (cc a ct).map fun c => withF ct le gr al us c :=
    List.map_congr_left fun c hc => by
      have hm := (cc_mem.mp hc).2
      unfold withF bumpC
      rw [if_pos hm]
      simp only [hm, true_and]
  rw [e]
/-- how many entries the memory gains at most, if each place has at most b letters -/
def cap (b : Nat) : Nat → Nat
  | 0 => 0
  | r + 1 => (b + 1) * cap b r + 1
theorem cap_mono {b : Nat} {i j : Nat} (h : i ≤ j) : cap b i ≤ cap b j := by
  induction h with
  | refl => exact Nat.le_refl _
  | @step m _ ih =>
    refine Nat.le_trans ih ?_
    show _ ≤ (b + 1) * cap b m + 1
    rw [Nat.succ_mul]
    omega
theorem cap_wide {b c : Nat} (h : b ≤ c) : ∀ r, cap b r ≤ cap c r
  | 0 => Nat.le_refl _
  | r + 1 => Nat.succ_le_succ (Nat.mul_le_mul (Nat.succ_le_succ h) (cap_wide h r))
theorem cap_step (b r : Nat) : b * cap b r + cap b r ≤ cap b (r + 1) := by
  show _ ≤ (b + 1) * cap b r + 1
  rw [Nat.succ_mul]
  omega
/-- the most letters of a place -/
def wideOf (al : List (List Nat)) : Nat := al.foldr (fun a m => max a.length m) 0
theorem wide_le : ∀ {al : List (List Nat)} {a : List Nat}, a ∈ al → a.length ≤ wideOf al
  | b :: al, a, h => by
    show a.length ≤ max b.length (wideOf al)
    rcases List.mem_cons.mp h with rfl | h
    · exact Nat.le_max_left _ _
    · exact Nat.le_trans (wide_le h) (Nat.le_max_right _ _)
theorem wide_of {n : Nat} : ∀ {al : List (List Nat)}, (∀ a ∈ al, a.length ≤ n) → wideOf al ≤ n
  | [], _ => Nat.zero_le _
  | b :: al, h => Nat.max_le.mpr ⟨h b (List.mem_cons_self ..), wide_of fun a m => h a (List.mem_cons_of_mem _ m)⟩
end Gm

namespace Gm
open PySem L2







/-- what an instance of Words holds -/
structure WD where
  al : List (List Nat)
  ct : List Nat
  le : List Int
  gr : List Int
structure WOk (d : WD) : Prop where
  nl : d.le.length = d.ct.length
  ng : d.gr.length = d.ct.length
  na : d.al.length ≤ 6
  a26 : ∀ a ∈ d.al, a.length ≤ 26
  c26 : d.ct.length ≤ 26
abbrev WD.b (d : WD) : Nat := wideOf d.al
theorem WOk.fit {d : WD} (h : WOk d) : cap d.b d.al.length ≤ sizeLine := by
  refine Nat.le_trans (Nat.le_trans (cap_wide (wide_of h.a26) _) (cap_mono h.na)) ?_
  rw [sizeLine_eq]
  decide
def wF (a l g m : Addr) (ct : List Nat) : List (Str × V) := [("allowed", .ref a), ("counted", .str (tx ct)), ("least", .ref l), ("greatest", .ref g), ("known", .ref m)]
theorem wf_al (a l g m : Addr) (ct : List Nat) : (wF a l g m ct).lookup ("allowed" : Str) = some (.ref a) := by
  unfold wF; rfl
theorem wf_ct (a l g m : Addr) (ct : List Nat) : (wF a l g m ct).lookup ("counted" : Str) = some (.str (tx ct)) := by
  have h1 : (("counted" : Str) == "allowed") = false := by decide +kernel
  unfold wF
  rw [List.lookup_cons, h1]; rfl
theorem wf_le (a l g m : Addr) (ct : List Nat) : (wF a l g m ct).lookup ("least" : Str) = some (.ref l) := by
  have h1 : (("least" : Str) == "allowed") = false := by decide +kernel
  have h2 : (("least" : Str) == "counted") = false := by decide +kernel
  unfold wF
  rw [List.lookup_cons, h1, List.lookup_cons, h2]; rfl
theorem wf_gr (a l g m : Addr) (ct : List Nat) : (wF a l g m ct).lookup ("greatest" : Str) = some (.ref g) := by
  have h1 : (("greatest" : Str) == "allowed") = false := by decide +kernel
  have h2 : (("greatest" : Str) == "counted") = false := by decide +kernel
  have h3 : (("greatest" : Str) == "least") = false := by decide +kernel
  unfold wF
  rw [List.lookup_cons, h1, List.lookup_cons, h2, List.lookup_cons, h3]; rfl
theorem wf_kn (a l g m : Addr) (ct : List Nat) : (wF a l g m ct).lookup ("known" : Str) = some (.ref m) := by
  have h1 : (("known" : Str) == "allowed") = false := by decide +kernel
  have h2 : (("known" : Str) == "counted") = false := by decide +kernel
  have h3 : (("known" : Str) == "least") = false := by decide +kernel
  have h4 : (("known" : Str) == "greatest") = false := by decide +kernel
  unfold wF
  rw [List.lookup_cons, h1, List.lookup_cons, h2, List.lookup_cons, h3, List.lookup_cons, h4]; rfl
theorem wf_no (a l g m : Addr) (ct : List Nat) {x : Str} (h : (["allowed", "counted", "least", "greatest", "known"] : List Str).all (fun y => !(x == y)) = true) : (wF a l g m ct).lookup x = none := by
  simp only [List.all_cons, List.all_nil, Bool.and_true, Bool.and_eq_true, Bool.not_eq_true'] at h
  obtain ⟨h1, h2, h3, h4, h5⟩ := h
  unfold wF
  rw [List.lookup_cons, h1, List.lookup_cons, h2, List.lookup_cons, h3, List.lookup_cons, h4, List.lookup_cons, h5]; rfl
/-- the parts that stay -/
def WFix (C : Addr) (H : Hp) (p m : Addr) (d : WD) : Prop := ∃ dx a l g, H p = some (.ins C dx (wF a l g m d.ct)) ∧ H a = some (.lst (d.al.map fun t => V.str (tx t))) ∧ H l = some (.lst (d.le.map V.int)) ∧ H g = some (.lst (d.gr.map V.int))
def keyI (k : Nat) (us : List Int) : MKey := ((k : Int), us.map Sum.inl)
def ways (d : WD) (k : Nat) (us : List Int) : Int := wayF d.ct d.le d.gr (d.al.drop k) us
/-- the memory holds true numbers, at most n -/
def MemOk (P : Program) (w : World) (H : Hp) (m : Addr) (d : WD) (n : Nat) : Prop := ∃ kvs, H m = some (memoO P w m kvs) ∧ KeysAt H kvs ∧ (∀ e ∈ kvs, ∃ k us, e.1 = keyI k us ∧ e.2.2 = .int (ways d k us)) ∧ kvs.length ≤ n
def UsAt (H : Hp) (u : Addr) (us : List Int) : Prop := H u = some (.tup (us.map V.int))
theorem memo_ne {P : Program} {w : World} {H : Hp} {m b : Addr} {kvs : List MEnt} {o : HO} (h : H m = some (memoO P w m kvs)) (e : H b = some o) (n : ∀ φ, o ≠ .ext φ) : b ≠ m := by
  rintro rfl
  rw [h] at e
  exact n _ (Option.some.inj e).symm
theorem WFix.but {P : Program} {w : World} {C : Addr} {H H' : Hp} {p m : Addr} {d : WD} {n : Nat} (x : WFix C H p m d) (y : MemOk P w H m d n) (b : But m H H') : WFix C H' p m d := by
  obtain ⟨dx, a, l, g, h1, h2, h3, h4⟩ := x
  obtain ⟨kvs, hm, _⟩ := y
  exact ⟨dx, a, l, g, b _ _ (memo_ne hm h1 fun _ z => nomatch z) h1, b _ _ (memo_ne hm h2 fun _ z => nomatch z) h2, b _ _ (memo_ne hm h3 fun _ z => nomatch z) h3, b _ _ (memo_ne hm h4 fun _ z => nomatch z) h4⟩
theorem WFix.same {C : Addr} {H H' : Hp} {p m : Addr} {d : WD} (x : WFix C H p m d) (b : Same H H') : WFix C H' p m d := by
  obtain ⟨dx, a, l, g, h1, h2, h3, h4⟩ := x
  exact ⟨dx, a, l, g, b _ _ h1, b _ _ h2, b _ _ h3, b _ _ h4⟩
theorem MemOk.same {P : Program} {w : World} {H H' : Hp} {m : Addr} {d : WD} {n : Nat} (x : MemOk P w H m d n) (b : Same H H') : MemOk P w H' m d n := by
  obtain ⟨kvs, h1, h2, h3⟩ := x
  exact ⟨kvs, b _ _ h1, h2.mono fun c ys q => b _ _ q, h3⟩
theorem MemOk.mono {P : Program} {w : World} {H : Hp} {m : Addr} {d : WD} {n n' : Nat} (x : MemOk P w H m d n) (h : n ≤ n') : MemOk P w H m d n' := by
  obtain ⟨kvs, h1, h2, h3, h4⟩ := x
  exact ⟨kvs, h1, h2, h3, Nat.le_trans h4 h⟩
theorem UsAt.but {P : Program} {w : World} {H H' : Hp} {m u : Addr} {d : WD} {n : Nat} {us : List Int} (x : UsAt H u us) (y : MemOk P w H m d n) (b : But m H H') : UsAt H' u us := by
  obtain ⟨kvs, hm, _⟩ := y
  exact b _ _ (memo_ne hm x fun _ z => nomatch z) x
/-! ### promises -/
def spComm : Sp := fun vs H Q _ => ∃ (a b : List Nat), vs = [.str (tx a), .str (tx b)] ∧ a.length ≤ 26 ∧ ∀ H', Same H H' → Q (.str (tx (cc a b))) H'
def spNone (C : Addr) : Sp := fun vs H Q _ => ∃ (p m : Addr) (d : WD), vs = [.ref p] ∧ WOk d ∧ WFix C H p m d ∧ ∀ H' t, Same H H' → H t = none → UsAt H' t (List.replicate d.ct.length 0) → Q (.ref t) H'
def spUsed (C : Addr) : Sp := fun vs H Q _ => ∃ (p m u : Addr) (d : WD) (us : List Int) (c : Nat), vs = [.ref p, .ref u, .str (one c)] ∧ WOk d ∧ WFix C H p m d ∧ UsAt H u us ∧ us.length = d.ct.length ∧ ∀ H' t, Same H H' → UsAt H' t (bumpC d.ct us c) → Q (.ref t) H'
def spManyF (P : Program) (w : World) (C : Addr) (r : Nat) : Sp := fun vs H Q _ => ∃ (p m u : Addr) (d : WD) (us : List Int) (k n : Nat), vs = [.ref p, .int (k : Int), .ref u] ∧ WOk d ∧ WFix C H p m d ∧ MemOk P w H m d n ∧ UsAt H u us ∧ us.length = d.ct.length ∧ k + r = d.al.length ∧
  n + cap d.b r ≤ sizeLine ∧ ∀ H', But m H H' → MemOk P w H' m d (n + cap d.b r) → Q (.int (ways d k us)) H'
def spManyW (P : Program) (w : World) (C : Addr) (r : Nat) : Sp := fun vs H Q _ => ∃ (p m u : Addr) (d : WD) (us : List Int) (c k n : Nat), vs = [.ref p, .int (k : Int), .ref u, .str (one c)] ∧ WOk d ∧ WFix C H p m d ∧ MemOk P w H m d n ∧ UsAt H u us ∧ us.length = d.ct.length ∧ k + 1 + r = d.al.length ∧
  n + cap d.b r ≤ sizeLine ∧ ∀ H', But m H H' → MemOk P w H' m d (n + cap d.b r) → Q (.int (withF d.ct d.le d.gr (d.al.drop (k + 1)) us c)) H'
def spAddW (P : Program) (w : World) (C : Addr) (r : Nat) : Sp := fun vs H Q _ => ∃ (p m u : Addr) (d : WD) (us : List Int) (k n : Nat), vs = [.ref p, .int (k : Int), .ref u] ∧ WOk d ∧ WFix C H p m d ∧ MemOk P w H m d n ∧ UsAt H u us ∧ us.length = d.ct.length ∧ k + 1 + r = d.al.length ∧
  n + (d.b + 1) * cap d.b r ≤ sizeLine ∧ ∀ H', But m H H' → MemOk P w H' m d (n + (d.b + 1) * cap d.b r) → ∀ a, d.al[k]? = some a →
    Q (.int (((cc a d.ct).map fun c => withF d.ct d.le d.gr (d.al.drop (k + 1)) us c).sum + (if (a.length : Int) - ((cc a d.ct).length : Int) > 0 then ((a.length : Int) - ((cc a d.ct).length : Int)) * wayF d.ct d.le d.gr (d.al.drop (k + 1)) us else 0))) H'
structure TxN (K : PySem.W.Frag) (mg : Str → Option Value) (C : Addr) : Prop where
  cl : Cls K C
  nA : NoAttr K C "allowed"
  nC : NoAttr K C "counted"
  nL : NoAttr K C "least"
  nG : NoAttr K C "greatest"
  nK : NoAttr K C "known"
  len : mg "len" = none
  sum : mg "sum" = none
  max : mg "max" = none
  zip : mg "zip" = none
  tup : mg "tuple" = none
/-! ### slices and sums of tuples, told by what follows -/
theorem sl_any {K : PySem.W.Frag} {H : Hp} {u : Addr} {xs : List V} {lo hi : Option Int} {Q : VK} (e : H u = some (.tup xs)) (k : ∀ H' t, Same H H' → H' t = some (.tup (cutV xs lo hi)) → Q (.ref t) H') : rSlA K (.ref u) lo hi H Q := by
  refine ⟨u, xs, rfl, SqT.of e, fun hw => ?_, fun _ p hp => k _ p (same_upd hp) upd_same⟩
  have ec : cutV xs lo hi = xs := by
    unfold cutV
    rw [hw.1, hw.2]
    simp
  exact k H u (Same.refl H) (by rw [ec]; exact e)
theorem cat_any {K : PySem.W.Frag} {H : Hp} {a b : Addr} {xs ys : List V} {Q : VK} (ea : H a = some (.tup xs)) (eb : H b = some (.tup ys)) (hl : xs.length + ys.length ≤ sizeLine) (k : ∀ H' t, Same H H' → H' t = some (.tup (xs ++ ys)) → Q (.ref t) H') : rCatA K (.ref a) (.ref b) H Q := by
  refine ⟨a, b, xs, ys, rfl, rfl, SqT.of ea, SqT.of eb, hl, fun h => ?_, fun _ h => ?_, fun _ _ p hp => k _ p (same_upd hp) upd_same⟩
  · exact k H b (Same.refl H) (by rw [h, List.nil_append]; exact eb)
  · exact k H a (Same.refl H) (by rw [h, List.append_nil]; exact ea)
theorem cut_to (xs : List V) (i : Nat) (h : i ≤ xs.length) : cutV xs none (some (i : Int)) = xs.take i := by
  unfold cutV
  rw [HT.sIx_none, HT.sIx_nat, Nat.min_eq_left h, List.drop_zero, Nat.sub_zero]
theorem cut_from (xs : List V) (i : Nat) (h : i ≤ xs.length) : cutV xs (some (i : Int)) none = xs.drop i := by
  unfold cutV
  rw [HT.sIx_none, HT.sIx_nat, Nat.min_eq_left h]
  exact List.take_of_length_le (by rw [List.length_drop]; omega)
section
variable {P : Program} {w : World} {K : PySem.W.Frag} {mg : Str → Option Value} {base : Heap}
abbrev nCo : List Str := ["letters", "others", "letter"]
theorem scCo : FnScope nCo ["letters", "others"] (defScope sComm) := ⟨rfl, rfl, rfl, by decide +kernel, rfl, by decide +kernel, by decide +kernel⟩
theorem ok_comm {f : Addr} {fd : FuncData} (F : Fun K "common_letters" "common_letters" sComm f fd) : FnOk P w K mg base CX0 1 f fd ["letters", "others"] spComm := by
  refine F.ok scCo (fun vs H Q E h => ?_) (fun cdv A outer s H vs Q E hr h => ?_)
  · obtain ⟨a, b, rfl, _⟩ := h
    rfl
  · obtain ⟨a, b, rfl, ha, q⟩ := h
    have nd := scCo.nd
    have hline : sizeLine = 16777216 := sizeLine_eq
    refine ⟨_, pss_one (ps_ret (pe_join pe_str (pe_lc (own := [("letter", 2)]) (g := gName 2) (by rfl) nd (pi_str (pv 0)) (blkOk_by (own := [("letter", 2)]) (N := nCo) (sc := defScope sComm) (by decide +kernel))
        (fun _ _ _ _ _ => pg_name (i := 2) nd rfl (Or.inl rfl)) (fun _ _ _ _ _ => pts_one (pt_cmpR op_in_sign (pv 2) (pv 1) rfl)) (fun _ _ _ _ _ => pv 2)))), ?_⟩
    refine ⟨⟨_, rfl⟩, _, rfl, tx a, rfl, fun D hD => ?_⟩
    refine lc_it (walk_str (z := tx a)) (fun i H' => Same H H' ∧ H' D = some (.lst (((a.take i).filter fun c => decide (c ∈ b)).map fun c => V.str (one c)))) ⟨same_upd hD, upd_same⟩ (fun _ _ _ _ => trivial) ?_ ?_
    · rintro i x H1 H2 hi ⟨sm, hD1⟩ ⟨rfl, c, hc, rfl⟩
      have hc' := tx_at hc
      have hlt := (List.getElem?_eq_some_iff.mp hc').1
      have st : (a.take (i + 1)).filter (fun c => decide (c ∈ b)) = (a.take i).filter (fun c => decide (c ∈ b)) ++ (if c ∈ b then [c] else []) := by
        rw [List.take_succ_eq_append_getElem hlt, (List.getElem?_eq_some_iff.mp hc').2, List.filter_append]
        congr 1
        by_cases q : c ∈ b <;> simp [q]
      refine ⟨rfl, _, rfl, _, rfl, c, tx b, rfl, rfl, _, rfl, ?_⟩
      have eb : decide (c ∈ (tx b).cps.toList) = decide (c ∈ b) := by simp
      rw [eb]
      refine ite2 (fun hm => ?_) (fun hm => ?_)
      · rw [if_pos (of_decide_eq_true hm)] at st
        refine ⟨_, rfl, _, hD1, ?_, fun o u e => ?_, ?_⟩
        · have h1 := List.length_filter_le (fun c => decide (c ∈ b)) (a.take i)
          have h2 : (a.take i).length ≤ 26 := by rw [List.length_take]; omega
          rw [List.length_map]
          omega
        · rw [upd_ne (ne_of_none e hD)]
          exact sm o u e
        · rw [upd_same, st, List.map_append]
          rfl
      · rw [if_neg fun z => hm (decide_eq_true z), List.append_nil] at st
        exact ⟨sm, by rw [st]; exact hD1⟩
    · rintro H1 ⟨sm, hD1⟩
      rw [tx_size, List.take_length] at hD1
      refine ⟨_, D, (cc a b).map one, rfl, rfl, .inl (SqL.of (by rw [List.map_map]; exact hD1)), ?_, ?_⟩
      · rw [sum_one, List.length_map]
        have := cc_le a b
        show (cc a b).length + (cc a b).length * 0 ≤ 16777216
        omega
      · show Q (.str (Txt.join (Str.ofString "") ((cc a b).map one))) H1
        rw [join_one]
        exact q H1 sm
abbrev nNo : List Str := ["self", "letter"]
theorem scNo : FnScope nNo ["self"] (defScope sNone) := ⟨rfl, rfl, rfl, by decide +kernel, rfl, by decide +kernel, by decide +kernel⟩
theorem ok_none {f C : Addr} {fd : FuncData} (F : Fun K "none_used" "Words.none_used" sNone f fd) (T : TxN K mg C) : FnOk P w K mg base CX0 1 f fd ["self"] (spNone C) := by
  refine F.ok scNo (fun vs H Q E h => ?_) (fun cdv A outer s H vs Q E hr h => ?_)
  · obtain ⟨p, m, d, rfl, _⟩ := h
    rfl
  · obtain ⟨p, m, d, rfl, ok, ⟨dx, a, l, g, hp, ha, hl, hg⟩, q⟩ := h
    have nd := scNo.nd
    have hline : sizeLine = 16777216 := sizeLine_eq
    refine ⟨_, pss_one (ps_ret (pe_callTy call_tuple_of (by rfl) T.tup (by decide +kernel) (pa_cons (pe_lc (own := [("letter", 1)]) (g := gName 1) (by rfl) nd (pi_str (pe_fld (pv 0) rfl)) (blkOk_by (own := [("letter", 1)]) (N := nNo) (sc := defScope sNone) (by decide +kernel))
        (fun _ _ _ _ _ => pg_name (i := 1) nd rfl (Or.inl rfl)) (fun _ _ _ _ _ => pts_nil) (fun _ _ _ _ _ => pe_int)) pa_nil))), ?_⟩
    refine ⟨_, rfl, p, C, dx, _, _, rfl, hp, T.cl, T.nC, wf_ct a l g m d.ct, tx d.ct, rfl, fun D hD => ?_⟩
    refine lc_it (walk_str (z := tx d.ct)) (fun i H' => Same H H' ∧ H' D = some (.lst ((List.replicate i (0 : Int)).map V.int))) ⟨same_upd hD, upd_same⟩ (fun _ _ _ _ => trivial) ?_ ?_
    · rintro i x H1 H2 hi ⟨sm, hD1⟩ ⟨rfl, c, hc, rfl⟩
      rw [tx_size] at hi
      have c26 := ok.c26
      refine ⟨rfl, _, hD1, by rw [List.length_map, List.length_replicate]; omega, fun o u e => ?_, ?_⟩
      · rw [upd_ne (ne_of_none e hD)]
        exact sm o u e
      · rw [upd_same, List.replicate_succ', List.map_append]
        rfl
    · rintro H1 ⟨sm, hD1⟩
      rw [tx_size] at hD1
      refine ⟨D, _, rfl, .inl ⟨SqL.of hD1, fun t ht => ?_⟩⟩
      exact q _ t (sm.trans (same_upd ht)) (sm.free ht) upd_same
abbrev nUs : List Str := ["self", "used", "letter", "at"]
theorem scUs : FnScope nUs ["self", "used", "letter"] (defScope sUsed) := ⟨rfl, rfl, rfl, by decide +kernel, rfl, by decide +kernel, by decide +kernel⟩
theorem ok_used {f C : Addr} {fd : FuncData} (F : Fun K "used_with" "Words.used_with" sUsed f fd) (T : TxN K mg C) : FnOk P w K mg base CX0 1 f fd ["self", "used", "letter"] (spUsed C) := by
  refine F.ok scUs (fun vs H Q E h => ?_) (fun cdv A outer s H vs Q E hr h => ?_)
  · obtain ⟨p, m, u, d, us, c, rfl, _⟩ := h
    rfl
  · obtain ⟨p, m, u, d, us, c, rfl, ok, ⟨dx, a, l, g, hp, ha, hl, hg⟩, hu, ul, q⟩ := h
    have nd := scUs.nd
    have hline : sizeLine = 16777216 := sizeLine_eq
    refine ⟨_, pss_cons (ps_set (i := 3) nd rfl (Or.inl rfl) (pe_m1 PySem.F.slot_str_find PySem.F.type_str_find mt_find (pe_fld (pv 0) rfl) (pv 2)))
      (pss_cons (ps_if (pt_cmpR op_lt (pv 3) pe_int (nomark _)) (pss_one (ps_ret (pv 1))) pss_nil)
      (pss_one (ps_ret (pe_op op_catA (pe_op op_catA (pe_slice sl_tupA (pv 1) po_none (po_some (pv 3))) (pe_tup (pa_cons (pe_op op_add (pe_ix ix_tup (pv 1) (pv 3) (fun _ _ => rfl)) pe_int) pa_nil))) (pe_slice sl_tupA (pv 1) (po_some (pe_op op_add (pv 3) pe_int)) po_none))))), ?_⟩
    refine ⟨_, rfl, p, C, dx, _, _, rfl, hp, T.cl, T.nC, wf_ct a l g m d.ct, ⟨_, rfl⟩, _, rfl, tx d.ct, one c, rfl, rfl, ?_⟩
    rw [find_one]
    have c26 := ok.c26
    by_cases hm : c ∈ d.ct
    · have hi : d.ct.idxOf c < d.ct.length := List.idxOf_lt_length_of_mem hm
      rw [if_pos hm]
      unfold bumpC at q
      rw [if_pos hm] at q
      generalize d.ct.idxOf c = i at hi q ⊢
      have hiu : i < us.length := by omega
      refine ⟨_, rfl, _, _, rfl, rfl, _, rfl, ?_⟩
      rw [decide_eq_false (show ¬ ((i : Nat) : Int) < 0 by omega)]
      refine iteF ?_
      have ulm : (us.map V.int).length = us.length := List.length_map ..
      refine ⟨_, rfl, _, rfl, _, rfl, sl_any hu fun H1 t1 s1 e1 => ?_⟩
      rw [cut_to _ _ (by omega)] at e1
      refine ⟨_, rfl, _, rfl, u, _, _, _, rfl, rfl, SqT.of (s1 _ _ hu), atI_nat (v := V.int (us.getD i 0)) (by rw [List.getElem?_map, List.getElem?_eq_getElem hiu, List.getD_eq_getElem?_getD, List.getElem?_eq_getElem hiu]; rfl), ?_⟩
      refine ⟨_, _, rfl, rfl, ?_⟩
      refine ⟨by show 1 ≤ sizeLine; omega, fun t2 z2 => ?_⟩
      have s2 := same_upd (o := .tup [V.int (us.getD i 0 + 1)]) z2
      refine cat_any (s2 _ _ e1) upd_same (by rw [List.length_take]; show _ + 1 ≤ sizeLine; omega) fun H3 t3 s3 e3 => ?_
      have s03 := (s1.trans s2).trans s3
      have key : rSlA K (.ref u) (some (((i : Nat) : Int) + 1)) none H3 (fun y H2 => rCatA K (.ref t3) y H2 Q) := by
        refine sl_any (s03 _ _ hu) fun H4 t4 s4 e4 => ?_
        rw [show ((i : Nat) : Int) + 1 = ((i + 1 : Nat) : Int) from rfl, cut_from _ _ (by omega)] at e4
        refine cat_any (s4 _ _ e3) e4 (by rw [List.length_append, List.length_take, List.length_drop]; show _ + 1 + _ ≤ sizeLine; omega) fun H5 t5 s5 e5 => ?_
        refine q H5 t5 ((s03.trans s4).trans s5) ?_
        show H5 t5 = some (.tup ((bump us i).map V.int))
        rw [e5]
        unfold bump
        simp only [List.map_append, List.map_take, List.map_drop, List.map_cons, List.map_nil]
      exact ⟨_, rfl, _, rfl, _, _, rfl, rfl, _, rfl, key⟩
    · rw [if_neg hm]
      unfold bumpC at q
      rw [if_neg hm] at q
      refine ⟨_, rfl, _, _, rfl, rfl, _, rfl, ?_⟩
      exact iteT ⟨_, rfl, q H u (Same.refl H) hu⟩
end
/-! ### the memory -/
theorem keyI_inj {k k' : Nat} {us us' : List Int} (h : keyI k us = keyI k' us') : k = k' ∧ us = us' := by
  unfold keyI at h
  injection h with h1 h2
  refine ⟨by omega, ?_⟩
  have := congrArg (List.map fun x : Key => match x with | .inl i => i | .inr _ => 0) h2
  rw [List.map_map, List.map_map] at this
  simpa [Function.comp_def] using this
abbrev Good (d : WD) (kvs : List MEnt) : Prop := ∀ e ∈ kvs, ∃ k us, e.1 = keyI k us ∧ e.2.2 = .int (ways d k us)
theorem Good.at_ {d : WD} {kvs : List MEnt} (h : Good d kvs) {k : Nat} {us : List Int} {v : V} (e : mAt kvs (keyI k us) = some v) : v = .int (ways d k us) := by
  obtain ⟨x, hx, h1, h2⟩ := mAt_mem e
  obtain ⟨k', us', h3, h4⟩ := h x hx
  obtain ⟨rfl, rfl⟩ := keyI_inj (h3.symm.trans h1)
  exact h2.symm.trans h4
theorem Good.put {d : WD} {kvs : List MEnt} (h : Good d kvs) (k : Nat) (us : List Int) (b : Addr) : Good d (mPut kvs (keyI k us) b (.int (ways d k us))) := by
  intro e he
  rcases mPut_mem he with ⟨x, hx, h1, h2, rfl | ⟨h3, h4⟩⟩ | rfl
  · exact h _ hx
  · exact ⟨k, us, h3, h4⟩
  · exact ⟨k, us, rfl, rfl⟩
theorem keys_put {H : Hp} {kvs : List MEnt} (h : KeysAt H kvs) {k : MKey} {b : Addr} {v : V} (hb : KeyAt H k b) : KeysAt H (mPut kvs k b v) := by
  intro e he
  rcases mPut_mem he with ⟨x, hx, h1, h2, _⟩ | rfl
  · have := h x hx
    rw [h1, h2] at this
    exact this
  · exact hb
theorem upd_tups {P : Program} {w : World} {H : Hp} {m : Addr} {kvs : List MEnt} {o : HO} (h : H m = some (memoO P w m kvs)) : ∀ c ys, H c = some (.tup ys) → upd H m o c = some (.tup ys) := fun c ys e => by
  rw [upd_ne (memo_ne h e fun _ z => nomatch z)]
  exact e
theorem MemOk.updN {P : Program} {w : World} {H : Hp} {m D : Addr} {d : WD} {n : Nat} {o : HO} (x : MemOk P w H m d n) (hn : D ≠ m) (ht : ∀ ys, H D ≠ some (.tup ys)) : MemOk P w (upd H D o) m d n := by
  obtain ⟨kvs, h1, h2, h3⟩ := x
  exact ⟨kvs, by rw [upd_ne hn.symm]; exact h1, h2.mono fun c ys e => by rw [upd_ne (fun z => ht ys (by rw [← z]; exact e))]; exact e, h3⟩
theorem ints_keys (us : List Int) : (us.map (Sum.inl (β := Str))).map kV = us.map V.int := by
  rw [List.map_map]
  rfl
theorem drop_nth {α : Type} {l : List α} {k : Nat} (h : k < l.length) : ∃ x, l[k]? = some x ∧ l.drop k = x :: l.drop (k + 1) := ⟨l[k], List.getElem?_eq_getElem h, (List.getElem_cons_drop h).symm⟩
section
variable {P : Program} {w : World} {K : PySem.W.Frag} {mg : Str → Option Value} {base : Heap}
abbrev nMW : List Str := ["self", "place", "used", "letter", "at"]
theorem scMW : FnScope nMW ["self", "place", "used", "letter"] (defScope sManyW) := ⟨rfl, rfl, rfl, by decide +kernel, rfl, by decide +kernel, by decide +kernel⟩
theorem ok_manyW {r n0 : Nat} {f fU fF C : Addr} {fd fdU fdF : FuncData} (F : Fun K "many_with" "Words.many_with" sManyW f fd) (T : TxN K mg C) (mU : Meth K C "used_with" fU) (GU : FnOk P w K mg base CX0 1 fU fdU ["self", "used", "letter"] (spUsed C)) (bU : Binds K fdU ["self", "used", "letter"] [])
    (mF : Meth K C "many_from" fF) (GF : FnOk P w K mg base CX0 (n0 + 1) fF fdF ["self", "place", "used"] (spManyF P w C r)) (bF : Binds K fdF ["self", "place", "used"] []) : FnOk P w K mg base CX0 (n0 + 2) f fd ["self", "place", "used", "letter"] (spManyW P w C r) := by
  refine F.ok scMW (fun vs H Q E h => ?_) (fun cdv A outer s H vs Q E hr h => ?_)
  · obtain ⟨p, m, u, d, us, c, k, n, rfl, _⟩ := h
    rfl
  · obtain ⟨p, m, u, d, us, c, k, n, rfl, ok, fx, me, hu, ul, kr, cp, q⟩ := h
    have nd := scMW.nd
    have hline : sizeLine = 16777216 := sizeLine_eq
    have hr1 : Room 1 _ := hr.mono (by omega)
    obtain ⟨dx, a, l, g, hp, ha, hl, hg⟩ := _root_.id fx
    refine ⟨_, pss_cons (ps_set (i := 4) nd rfl (Or.inl rfl) (pe_m1 PySem.F.slot_str_find PySem.F.type_str_find mt_find (pe_fld (pv 0) rfl) (pv 3)))
      (pss_cons (ps_if (PW.pt (pw_and (pt_cmpR op_ge (pv 4) pe_int (nomark _)) (pw_and1 (pt_cmpR op_eq (pe_ix ix_tup (pv 2) (pv 4) (fun _ _ => rfl)) (pe_ix ix_list (pe_fld (pv 0) rfl) (pv 4) (fun _ _ => rfl)) (nomark _))))) (pss_one (ps_ret pe_int)) pss_nil)
      (pss_one (ps_ret (pe_meth (pv 0) T.cl mF GF hr bF .nil pass0 (pa_cons (pe_op op_add (pv 1) pe_int) (pa_cons (pe_meth (pv 0) T.cl mU GU hr1 bU .nil pass0 (pa_cons (pv 2) (pa_cons (pv 3) pa_nil))) pa_nil)))))), ?_⟩
    have last : ¬ (c ∈ d.ct ∧ us.getD (d.ct.idxOf c) 0 = d.gr.getD (d.ct.idxOf c) 0) → ∀ v4 : Option V, tMeth C "many_from" (spManyF P w C r) [] E0 (tVar 0) (tCons (tOp (rI0 fun i j => V.int (i + j)) (tVar 1) (tC (V.int 1))) (tCons (tMeth C "used_with" (spUsed C) [] E0 (tVar 0) (tCons (tVar 2) (tCons (tVar 3) tNil))) tNil))
        [some (.ref p), some (.int (k : Int)), some (.ref u), some (.str (one c)), v4] H Q := by
      intro hn v4
      refine ⟨_, rfl, p, dx, _, rfl, hp, wf_no a l g m d.ct (by decide +kernel), _, rfl, _, _, rfl, rfl, _, rfl, p, dx, _, rfl, hp, wf_no a l g m d.ct (by decide +kernel), _, rfl, _, rfl, ?_⟩
      refine ⟨p, m, u, d, us, c, rfl, ok, fx, hu, ul, fun H1 t s1 e1 => ?_⟩
      refine ⟨p, m, t, d, _, k + 1, n, rfl, ok, fx.same s1, me.same s1, e1, bumpC_len ul, kr, cp, fun H2 b2 m2 => ?_⟩
      have := q H2 ((But.of s1).trans b2) m2
      unfold withF at this
      rw [if_neg hn] at this
      exact this
    refine ⟨_, rfl, p, C, dx, _, _, rfl, hp, T.cl, T.nC, wf_ct a l g m d.ct, ⟨_, rfl⟩, _, rfl, tx d.ct, one c, rfl, rfl, ?_⟩
    rw [find_one]
    have c26 := ok.c26
    by_cases hm : c ∈ d.ct
    · have hi : d.ct.idxOf c < d.ct.length := List.idxOf_lt_length_of_mem hm
      rw [if_pos hm]
      have hiu : d.ct.idxOf c < us.length := by omega
      have hig : d.ct.idxOf c < d.gr.length := by have := ok.ng; omega
      refine ⟨_, rfl, _, _, rfl, rfl, _, rfl, ?_⟩
      rw [decide_eq_true (show (0 : Int) ≤ ((d.ct.idxOf c : Nat) : Int) by omega)]
      refine iteT ?_
      refine ⟨_, rfl, _, rfl, u, _, _, _, rfl, rfl, SqT.of hu, atI_nat (v := V.int (us.getD (d.ct.idxOf c) 0)) (by rw [List.getElem?_map, List.getElem?_eq_getElem hiu, List.getD_eq_getElem?_getD, List.getElem?_eq_getElem hiu]; rfl), ?_⟩
      refine ⟨_, rfl, p, C, dx, _, _, rfl, hp, T.cl, T.nG, wf_gr a l g m d.ct, _, rfl, g, _, _, _, rfl, rfl, SqL.of hg, atI_nat (v := V.int (d.gr.getD (d.ct.idxOf c) 0)) (by rw [List.getElem?_map, List.getElem?_eq_getElem hig, List.getD_eq_getElem?_getD, List.getElem?_eq_getElem hig]; rfl), rfl, _, rfl, ?_⟩
      refine ite2 (fun h => ?_) (fun h => ?_)
      · have h := V.int.inj (of_decide_eq_true h)
        have := q H (fun b o _ e => e) (me.mono (Nat.le_add_right _ _))
        unfold withF at this
        rw [if_pos ⟨hm, h⟩] at this
        exact this
      · exact last (fun z => h (decide_eq_true (congrArg V.int z.2))) _
    · rw [if_neg hm]
      refine ⟨_, rfl, _, _, rfl, rfl, _, rfl, ?_⟩
      exact iteF (last (fun z => hm z.1) _)
/-- what add_ways is asked with r places left at the place -/
def spAddW' (P : Program) (w : World) (C : Addr) : Nat → Sp
  | 0 => fun _ _ _ _ => False
  | r + 1 => spAddW P w C r
abbrev nMF : List Str := ["self", "place", "used", "owed", "state", "least", "number"]
theorem scMF : FnScope nMF ["self", "place", "used"] (defScope sManyF) := ⟨rfl, rfl, rfl, by decide +kernel, rfl, by decide +kernel, by decide +kernel⟩
theorem ok_manyF {r n0 : Nat} {f fA C : Addr} {fd fdA : FuncData} (F : Fun K "many_from" "Words.many_from" sManyF f fd) (T : TxN K mg C) (mA : Meth K C "add_ways" fA) (GA : FnOk P w K mg base CX0 n0 fA fdA ["self", "place", "used"] (spAddW' P w C r)) (bA : Binds K fdA ["self", "place", "used"] []) :
    FnOk P w K mg base CX0 (n0 + 1) f fd ["self", "place", "used"] (spManyF P w C r) := by
  refine F.ok scMF (fun vs H Q E h => ?_) (fun cdv A outer s H vs Q E hr h => ?_)
  · obtain ⟨p, m, u, d, us, k, n, rfl, _⟩ := h
    rfl
  · obtain ⟨p, m, u, d, us, k, n, rfl, ok, fx, me, hu, ul, kr, cp, q⟩ := h
    have nd := scMF.nd
    have hline : sizeLine = 16777216 := sizeLine_eq
    obtain ⟨dx, a, l, g, hp, ha, hl, hg⟩ := _root_.id fx
    have hu2 : (A.deeper (PyProof.Rows.envOfC "Words.many_from" (defScope sManyF) s.heap.objs.size f cdv)).units + 2 < cLine := by
      have := hr.un
      omega
    refine ⟨_, pss_cons (ps_set (i := 3) nd rfl (Or.inl rfl) (pe_callB (cr_sum rfl) (by rfl) T.sum (by decide +kernel) (pa_cons (pe_lc (own := [("least", 5), ("number", 6)]) (g := gTup K 2 (gCons (gName 5) (gCons (gName 6) gNil))) (by rfl) nd
          (pi_zipm (by rfl) T.zip (pa_cons (pe_fld (pv 0) rfl) (pa_cons (pv 2) pa_nil))) (blkOk_by (own := [("least", 5), ("number", 6)]) (N := nMF) (sc := defScope sManyF) (by decide +kernel))
          (fun _ _ _ _ _ => by exact pg_tup (by rfl) (pgs_cons (pg_name (i := 5) nd rfl (Or.inl rfl)) (pgs_cons (pg_name (i := 6) nd rfl (Or.inl rfl)) pgs_nil))) (fun _ _ _ _ _ => pts_nil)
          (fun _ _ _ _ _ => pe_callB (call_max2 rfl) (by rfl) T.max (by decide +kernel) (pa_cons pe_int (pa_cons (pe_op op_sub (pv 5) (pv 6)) pa_nil)))) pa_nil)))
      (pss_cons (ps_if (pt_cmpR op_gt (pv 3) (pe_op op_sub (pe_callB call_len_seq (by rfl) T.len PySem.boot_len (pa_cons (pe_fld (pv 0) rfl) pa_nil)) (pv 1)) (nomark _)) (pss_one (ps_ret pe_int)) pss_nil)
      (pss_cons (ps_if (pt_cmpR op_eq (pv 1) (pe_callB call_len_seq (by rfl) T.len PySem.boot_len (pa_cons (pe_fld (pv 0) rfl) pa_nil)) (nomark _)) (pss_one (ps_ret pe_int)) pss_nil)
      (pss_cons (ps_set (i := 4) nd rfl (Or.inl rfl) (pe_tup (pa_cons (pv 1) (pa_cons (pv 2) pa_nil))))
      (pss_cons (ps_if (pt_cmp (pc_mnotin hu2 (pv 4) (pe_fld (pv 0) rfl)) rfl) (pss_one (ps_mput hu2 (pe_fld (pv 0) rfl) (pv 4) (pe_meth (pv 0) T.cl mA GA hr bA .nil pass0 (pa_cons (pv 1) (pa_cons (pv 2) pa_nil))) (by rfl))) pss_nil)
      (pss_one (ps_ret (pe_mget hu2 (pe_fld (pv 0) rfl) (pv 4) (fun _ _ => rfl)))))))), ?_⟩
    have na := ok.na
    have c26 := ok.c26
    have nl := ok.nl
    refine ⟨_, rfl, p, C, dx, _, _, rfl, hp, T.cl, T.nL, wf_le a l g m d.ct, _, rfl, l, u, _, _, rfl, SqL.of hl, SqT.of hu, fun D hD => ?_⟩
    refine lc_it (walk_zipm (n := d.ct.length) (by rw [List.length_map]; exact nl.symm) (by rw [List.length_map]; exact ul.symm)) (fun i H' => Same H H' ∧ H' D = some (.lst ((((d.le.zip us).take i).map fun p => if p.1 - p.2 > 0 then p.1 - p.2 else 0).map V.int)))
      ⟨same_upd hD, upd_same⟩ (fun i H' _ h => ⟨SqL.of (h.1 _ _ hl), SqT.of (h.1 _ _ hu)⟩) ?_ ?_
    · rintro i x H1 H2 hi ⟨sm, hD1⟩ ⟨T1, x1, y1, rfl, hT, rfl, hx, hy⟩
      replace hx : (d.le.map V.int)[i]? = some x1 := hx
      replace hy : (us.map V.int)[i]? = some y1 := hy
      rw [List.getElem?_map, Option.map_eq_some_iff] at hx hy
      obtain ⟨z1, hx, rfl⟩ := hx
      obtain ⟨z2, hy, rfl⟩ := hy
      have hz : (d.le.zip us)[i]? = some (z1, z2) := List.getElem?_zip_eq_some.mpr ⟨hx, hy⟩
      have hlt := (List.getElem?_eq_some_iff.mp hz).1
      refine ⟨T1, _, rfl, SqT.of upd_same, rfl, _, _, rfl, _, _, rfl, rfl, rfl, _, rfl, _, rfl, _, _, rfl, rfl, _, _, rfl, _, (upd_ne (ne_of_none hD1 hT)).trans hD1, ?_, fun b o e => ?_, ?_⟩
      · rw [List.length_map, List.length_map, List.length_take]
        omega
      · rw [upd_ne (ne_of_none e hD)]
        exact (sm.trans (same_upd hT)) b o e
      · rw [upd_same, List.take_succ_eq_append_getElem hlt, (List.getElem?_eq_some_iff.mp hz).2, List.map_append, List.map_append]
        rfl
    rintro H1 ⟨s1, hD1⟩
    have eo : (((d.le.zip us).take d.ct.length).map fun p => if p.1 - p.2 > 0 then p.1 - p.2 else 0).sum = owedI d.le us := by
      rw [List.take_of_length_le (by rw [List.length_zip]; omega)]
      rfl
    refine ⟨D, _, rfl, SqL.of hD1, ?_⟩
    rw [eo]
    have fx1 := fx.same s1
    have me1 := me.same s1
    have hu1 : UsAt H1 u us := s1 _ _ hu
    have hp1 := s1 _ _ hp
    have ha1 := s1 _ _ ha
    refine ⟨_, rfl, _, rfl, p, C, dx, _, _, rfl, hp1, T.cl, T.nA, wf_al a l g m d.ct, a, _, rfl, .inl (SqL.of ha1), _, rfl, _, _, rfl, rfl, _, _, rfl, rfl, _, rfl, ?_⟩
    have lm : ((d.al.map fun t => V.str (tx t)).length : Int) - (k : Int) = (r : Int) := by rw [List.length_map]; omega
    rw [lm]
    have stop : ∀ {v : Int} {H' : Hp}, But m H H' → MemOk P w H' m d n → v = ways d k us → Q (.int v) H' := fun b me' e => e ▸ q _ b (me'.mono (Nat.le_add_right _ _))
    have b1 : But m H H1 := But.of s1
    refine ite2 (fun h => ?_) (fun h => ?_)
    · refine stop b1 me1 ?_
      have h := of_decide_eq_true h
      unfold ways
      cases r with
      | zero =>
        rw [List.drop_of_length_le (by omega)]
        have h : owedI d.le us > 0 := by simpa using h
        rw [wayF, if_pos h]
      | succ r =>
        obtain ⟨x, _, e⟩ := drop_nth (l := d.al) (k := k) (by omega)
        rw [e, wayF_cons, if_pos ?_]
        rw [List.length_drop]
        have : d.al.length - (k + 1) + 1 = r + 1 := by omega
        rw [this]
        exact h
    have hno : ¬ owedI d.le us > (r : Int) := fun z => h (decide_eq_true z)
    refine ⟨_, rfl, _, rfl, p, C, dx, _, _, rfl, hp1, T.cl, T.nA, wf_al a l g m d.ct, a, _, rfl, .inl (SqL.of ha1), rfl, _, rfl, ?_⟩
    rw [List.length_map]
    refine ite2 (fun h => ?_) (fun h => ?_)
    · refine stop b1 me1 ?_
      have h := V.int.inj (of_decide_eq_true h)
      have r0 : r = 0 := by omega
      subst r0
      unfold ways
      have hno : ¬ owedI d.le us > 0 := by simpa using hno
      rw [List.drop_of_length_le (by omega), wayF, if_neg hno]
    have hk : k < d.al.length := by
      have : ¬ (k : Int) = (d.al.length : Nat) := fun z => h (decide_eq_true (congrArg V.int z))
      omega
    obtain ⟨r, rfl⟩ : ∃ r', r = r' + 1 := ⟨r - 1, by omega⟩
    obtain ⟨x, hx, ex⟩ := drop_nth hk
    have ew : ways d k us = ((cc x d.ct).map fun c => withF d.ct d.le d.gr (d.al.drop (k + 1)) us c).sum + (if (x.length : Int) - ((cc x d.ct).length : Int) > 0 then ((x.length : Int) - ((cc x d.ct).length : Int)) * wayF d.ct d.le d.gr (d.al.drop (k + 1)) us else 0) := by
      unfold ways
      rw [ex, wayF_cons, if_neg]
      rw [List.length_drop]
      have : d.al.length - (k + 1) + 1 = r + 1 := by omega
      rw [this]
      exact hno
    have ecap : cap d.b (r + 1) = (d.b + 1) * cap d.b r + 1 := rfl
    rw [ecap] at cp q
    refine ⟨_, rfl, _, rfl, by show 2 ≤ sizeLine; omega, fun b zb => ?_⟩
    have s2 := s1.trans (same_upd (o := .tup [.int (k : Int), .ref u]) zb)
    have eb : upd H1 b (.tup [.int (k : Int), .ref u]) b = some (.tup [.int (k : Int), .ref u]) := upd_same
    generalize upd H1 b (.tup [.int (k : Int), .ref u]) = H2 at s2 eb
    have fx2 := fx.same s2
    obtain ⟨kvs, hm2, ks2, gd2, len2⟩ := me.same s2
    have key2 : KeyAt H2 (keyI k us) b := ⟨u, eb, by rw [show (keyI k us).2 = us.map Sum.inl from rfl, ints_keys]; exact s2 _ _ hu⟩
    refine ⟨_, rfl, _, rfl, p, C, dx, _, _, rfl, s2 _ _ hp, T.cl, T.nK, wf_kn a l g m d.ct, m, b, keyI k us, kvs, rfl, rfl, key2, hm2, ks2, _, rfl, ?_⟩
    cases hat : mAt kvs (keyI k us) with
    | some v =>
      have ev := Good.at_ gd2 hat
      subst ev
      refine iteF ?_
      refine ⟨_, rfl, p, C, dx, _, _, rfl, s2 _ _ hp, T.cl, T.nK, wf_kn a l g m d.ct, _, rfl, m, b, keyI k us, kvs, _, rfl, rfl, key2, hm2, ks2, hat, ?_⟩
      exact q H2 (But.of s2) ⟨kvs, hm2, ks2, gd2, by omega⟩
    | none =>
      refine iteT ?_
      refine ⟨_, rfl, p, dx, _, rfl, s2 _ _ hp, wf_no a l g m d.ct (by decide +kernel), _, rfl, _, rfl, ?_⟩
      refine ⟨p, m, u, d, us, k, n, rfl, ok, fx2, ⟨kvs, hm2, ks2, gd2, len2⟩, s2 _ _ hu, ul, by omega, by omega, fun H3 b3 me3 x' hx' => ?_⟩
      obtain rfl : x' = x := Option.some.inj (hx'.symm.trans hx)
      have hp3 := b3 _ _ (memo_ne hm2 (s2 _ _ hp) fun _ z => nomatch z) (s2 _ _ hp)
      have eb3 := b3 _ _ (memo_ne hm2 eb fun _ z => nomatch z) eb
      have hu3 : UsAt H3 u us := b3 _ _ (memo_ne hm2 (s2 _ _ hu) fun _ z => nomatch z) (s2 _ _ hu)
      obtain ⟨kvs3, hm3, ks3, gd3, len3⟩ := me3
      have key3 : KeyAt H3 (keyI k us) b := ⟨u, eb3, by rw [show (keyI k us).2 = us.map Sum.inl from rfl, ints_keys]; exact hu3⟩
      rw [← ew]
      refine ⟨_, rfl, p, C, dx, _, _, rfl, hp3, T.cl, T.nK, wf_kn a l g m d.ct, _, rfl, m, b, keyI k us, kvs3, rfl, rfl, key3, hm3, ks3, by omega, ?_⟩
      have tups := upd_tups (o := memoO P w m (mPut kvs3 (keyI k us) b (.int (ways d k us)))) hm3
      have key4 := key3.mono tups
      have ks4 := (keys_put (v := .int (ways d k us)) ks3 key3).mono tups
      have gd4 := Good.put gd3 k us b
      have len4 := mPut_len kvs3 (keyI k us) b (.int (ways d k us))
      obtain ⟨v, hv⟩ := mAt_some (mPut_has kvs3 (keyI k us) b (.int (ways d k us)))
      have ev := Good.at_ gd4 hv
      subst ev
      have hp4 : upd H3 m (memoO P w m (mPut kvs3 (keyI k us) b (.int (ways d k us)))) p = some (.ins C dx (wF a l g m d.ct)) := by
        rw [upd_ne (memo_ne hm3 hp3 fun _ z => nomatch z)]
        exact hp3
      refine ⟨_, rfl, p, C, dx, _, _, rfl, hp4, T.cl, T.nK, wf_kn a l g m d.ct, _, rfl, m, b, keyI k us, _, _, rfl, rfl, key4, upd_same, ks4, hv, ?_⟩
      exact q _ (((But.of s2).trans b3).trans But.upd) ⟨_, upd_same, ks4, gd4, by omega⟩
abbrev nAW : List Str := ["self", "place", "used", "counted", "total", "others", "letter"]
theorem scAW : FnScope nAW ["self", "place", "used"] (defScope sAddW) := ⟨rfl, rfl, rfl, by decide +kernel, rfl, by decide +kernel, by decide +kernel⟩
theorem ok_addW {r n0 : Nat} {f fC fW fF C : Addr} {fd fdC fdW fdF : FuncData} (F : Fun K "add_ways" "Words.add_ways" sAddW f fd) (T : TxN K mg C) (GC : FnOk P w K mg base CX0 1 fC fdC ["letters", "others"] spComm) (DC : Df K mg "common_letters" fC fdC ["letters", "others"])
    (mW : Meth K C "many_with" fW) (GW : FnOk P w K mg base CX0 (n0 + 2) fW fdW ["self", "place", "used", "letter"] (spManyW P w C r)) (bW : Binds K fdW ["self", "place", "used", "letter"] [])
    (mF : Meth K C "many_from" fF) (GF : FnOk P w K mg base CX0 (n0 + 1) fF fdF ["self", "place", "used"] (spManyF P w C r)) (bF : Binds K fdF ["self", "place", "used"] []) : FnOk P w K mg base CX0 (n0 + 3) f fd ["self", "place", "used"] (spAddW P w C r) := by
  refine F.ok scAW (fun vs H Q E h => ?_) (fun cdv A outer s H vs Q E hr h => ?_)
  · obtain ⟨p, m, u, d, us, k, n, rfl, _⟩ := h
    rfl
  · obtain ⟨p, m, u, d, us, k, n, rfl, ok, fx, me, hu, ul, kr, cp, q⟩ := h
    have nd := scAW.nd
    have hline : sizeLine = 16777216 := sizeLine_eq
    obtain ⟨dx, a, l, g, hp, ha, hl, hg⟩ := _root_.id fx
    have hr1 : Room 1 _ := hr.mono (by omega)
    have hrF : Room (n0 + 1) _ := hr.mono (by omega)
    refine ⟨_, pss_cons (ps_set (i := 3) nd rfl (Or.inl rfl) (pe_call GC hr1 (by rfl) DC.mg DC.kp DC.b .nil pass0 (pa_cons (pe_ix ix_list (pe_fld (pv 0) rfl) (pv 1) (fun _ _ => rfl)) (pa_cons (pe_fld (pv 0) rfl) pa_nil))))
      (pss_cons (ps_set (i := 4) nd rfl (Or.inl rfl) (pe_callB (cr_sum rfl) (by rfl) T.sum (by decide +kernel) (pa_cons (pe_lc (own := [("letter", 6)]) (g := gName 6) (by rfl) nd (pi_str (pv 3)) (blkOk_by (own := [("letter", 6)]) (N := nAW) (sc := defScope sAddW) (by decide +kernel))
          (fun _ _ _ _ _ => pg_name (i := 6) nd rfl (Or.inl rfl)) (fun _ _ _ _ _ => pts_nil) (fun _ _ _ _ _ => pe_meth (pv 0) T.cl mW GW hr bW .nil pass0 (pa_cons (pv 1) (pa_cons (pv 2) (pa_cons (pv 6) pa_nil))))) pa_nil)))
      (pss_cons (ps_set (i := 5) nd rfl (Or.inl rfl) (pe_op op_sub (pe_callB call_len_str (by rfl) T.len PySem.boot_len (pa_cons (pe_ix ix_list (pe_fld (pv 0) rfl) (pv 1) (fun _ _ => rfl)) pa_nil)) (pe_callB call_len_str (by rfl) T.len PySem.boot_len (pa_cons (pv 3) pa_nil))))
      (pss_cons (ps_if (pt_cmpR op_gt (pv 5) pe_int (nomark _)) (pss_one (ps_aug (i := 4) nd rfl (Or.inl rfl) (pe_op op_mul (pv 5) (pe_meth (pv 0) T.cl mF GF hrF bF .nil pass0 (pa_cons (pe_op op_add (pv 1) pe_int) (pa_cons (pv 2) pa_nil)))) iop_add)) pss_nil)
      (pss_one (ps_ret (pv 4)))))), ?_⟩
    have na := ok.na
    have c26 := ok.c26
    have hk : k < d.al.length := by omega
    obtain ⟨x, hx, ex⟩ := drop_nth hk
    have x26 : x.length ≤ 26 := ok.a26 x (List.mem_of_getElem? hx)
    have xb : x.length ≤ d.b := wide_le (List.mem_of_getElem? hx)
    have e27 : (d.b + 1) * cap d.b r = d.b * cap d.b r + cap d.b r := Nat.succ_mul _ _
    have hxa : (d.al.map fun t => V.str (tx t))[k]? = some (.str (tx x)) := by rw [List.getElem?_map, hx]; rfl
    refine ⟨_, rfl, p, C, dx, _, _, rfl, hp, T.cl, T.nA, wf_al a l g m d.ct, _, rfl, a, _, _, _, rfl, rfl, SqL.of ha, atI_nat hxa, ?_⟩
    refine ⟨_, rfl, p, C, dx, _, _, rfl, hp, T.cl, T.nC, wf_ct a l g m d.ct, ?_⟩
    refine ⟨x, d.ct, rfl, x26, fun H1 s1 => ?_⟩
    have ccl := cc_le x d.ct
    refine ⟨_, rfl, tx (cc x d.ct), rfl, fun D hD => ?_⟩
    have fx1 := fx.same s1
    have me1 := me.same s1
    have nDm : D ≠ m := by
      obtain ⟨kvs, e, _⟩ := me1
      exact (ne_of_none e hD).symm
    refine lc_it (walk_str (z := tx (cc x d.ct))) (fun i H' => (∀ b o, b ≠ m → b ≠ D → H1 b = some o → H' b = some o) ∧ MemOk P w H' m d (n + i * cap d.b r) ∧ H' D = some (.lst ((((cc x d.ct).take i).map fun c => withF d.ct d.le d.gr (d.al.drop (k + 1)) us c).map V.int)))
      ⟨fun b o _ n2 e => by rw [upd_ne n2]; exact e, by rw [Nat.zero_mul, Nat.add_zero]; exact me1.same (same_upd hD), upd_same⟩ (fun _ _ _ _ => trivial) ?_ ?_
    · rintro i y H3 H2 hi ⟨k2, me2, hD2⟩ ⟨rfl, c, hc, rfl⟩
      have hc' := tx_at hc
      have hlt := (List.getElem?_eq_some_iff.mp hc').1
      obtain ⟨kvs, hm2, _⟩ := _root_.id me2
      have keep : ∀ {b : Addr} {o : HO}, H b = some o → (∀ φ, o ≠ .ext φ) → H2 b = some o := fun {b o} e nx => by
        have e1 := s1 _ _ e
        obtain ⟨kv1, hm1, _⟩ := _root_.id me1
        exact k2 b o (memo_ne hm1 e1 nx) (ne_of_none e1 hD) e1
      have fx2 : WFix C H2 p m d := ⟨dx, a, l, g, keep hp (fun _ z => nomatch z), keep ha (fun _ z => nomatch z), keep hl (fun _ z => nomatch z), keep hg (fun _ z => nomatch z)⟩
      have hu2 : UsAt H2 u us := keep hu (fun _ z => nomatch z)
      have room : n + i * cap d.b r + cap d.b r ≤ n + (d.b + 1) * cap d.b r := by
        have : (i + 1) * cap d.b r ≤ (d.b + 1) * cap d.b r := Nat.mul_le_mul_right _ (by omega)
        rw [Nat.succ_mul] at this
        omega
      refine ⟨rfl, _, rfl, p, dx, _, rfl, keep hp (fun _ z => nomatch z), wf_no a l g m d.ct (by decide +kernel), _, rfl, _, rfl, _, rfl, ?_⟩
      refine ⟨p, m, u, d, us, c, k, n + i * cap d.b r, rfl, ok, fx2, me2, hu2, ul, kr, by omega, fun H4 b4 me4 => ?_⟩
      have hD4 : H4 D = _ := b4 D _ nDm hD2
      refine ⟨_, hD4, ?_, fun b o n1 n2 e => ?_, ?_, ?_⟩
      · rw [List.length_map, List.length_map, List.length_take]
        omega
      · rw [upd_ne n2]
        exact b4 b o n1 (k2 b o n1 n2 e)
      · have e' : n + (i + 1) * cap d.b r = n + i * cap d.b r + cap d.b r := by rw [Nat.succ_mul]; omega
        rw [e']
        exact me4.updN nDm fun ys z => by rw [hD4] at z; exact nomatch z
      · rw [upd_same, List.take_succ_eq_append_getElem hlt, (List.getElem?_eq_some_iff.mp hc').2, List.map_append, List.map_append]
        rfl
    rintro H2 ⟨k2, me2, hD2⟩
    rw [tx_size, List.take_length] at hD2
    rw [tx_size] at me2
    have keep : ∀ {b : Addr} {o : HO}, H b = some o → (∀ φ, o ≠ .ext φ) → H2 b = some o := fun {b o} e nx => by
      have e1 := s1 _ _ e
      obtain ⟨kv1, hm1, _⟩ := _root_.id me1
      exact k2 b o (memo_ne hm1 e1 nx) (ne_of_none e1 hD) e1
    have fx2 : WFix C H2 p m d := ⟨dx, a, l, g, keep hp (fun _ z => nomatch z), keep ha (fun _ z => nomatch z), keep hl (fun _ z => nomatch z), keep hg (fun _ z => nomatch z)⟩
    have hu2 : UsAt H2 u us := keep hu (fun _ z => nomatch z)
    have b2 : But m H H2 := fun b o n1 e => k2 b o n1 (ne_of_none (s1 _ _ e) hD) (s1 _ _ e)
    have lim : (cc x d.ct).length * cap d.b r ≤ d.b * cap d.b r := Nat.mul_le_mul_right _ (by omega)
    refine ⟨D, _, rfl, SqL.of hD2, ?_⟩
    refine ⟨_, rfl, p, C, dx, _, _, rfl, keep hp (fun _ z => nomatch z), T.cl, T.nA, wf_al a l g m d.ct, _, rfl, a, _, _, _, rfl, rfl, SqL.of (keep ha (fun _ z => nomatch z)), atI_nat hxa, _, rfl, by rw [tx_len]; omega, ?_⟩
    refine ⟨_, rfl, _, rfl, by rw [tx_len]; omega, _, _, rfl, rfl, ?_⟩
    rw [tx_len, tx_len]
    refine ⟨_, rfl, _, _, rfl, rfl, _, rfl, ?_⟩
    refine ite2 (fun h => ?_) (fun h => ?_)
    · have h := of_decide_eq_true h
      refine ⟨_, rfl, _, rfl, _, rfl, p, dx, _, rfl, keep hp (fun _ z => nomatch z), wf_no a l g m d.ct (by decide +kernel), _, rfl, _, _, rfl, rfl, _, rfl, ?_⟩
      refine ⟨p, m, u, d, us, k + 1, n + (cc x d.ct).length * cap d.b r, rfl, ok, fx2, me2, hu2, ul, by omega, by omega, fun H3 b3 me3 => ?_⟩
      refine ⟨_, _, rfl, rfl, .inl ⟨by omega, by omega⟩, ?_⟩
      have := q H3 (b2.trans b3) (me3.mono (by omega)) x hx
      rw [if_pos h] at this
      exact ⟨_, _, rfl, rfl, _, rfl, this⟩
    · have h : ¬ ((x.length : Int) - ((cc x d.ct).length : Int) > 0) := fun z => h (decide_eq_true z)
      have := q H2 b2 (me2.mono (by omega)) x hx
      rw [if_neg h, Int.add_zero] at this
      exact ⟨_, rfl, this⟩
abbrev nMy : List Str := ["self"]
theorem scMy : FnScope nMy ["self"] (defScope sMany) := ⟨rfl, rfl, rfl, by decide +kernel, rfl, by decide +kernel, by decide +kernel⟩
def spMany (P : Program) (w : World) (C : Addr) : Sp := fun vs H Q _ => ∃ (p m : Addr) (d : WD) (n : Nat), vs = [.ref p] ∧ WOk d ∧ WFix C H p m d ∧ MemOk P w H m d n ∧ n + cap d.b d.al.length ≤ sizeLine ∧
  ∀ H', But m H H' → MemOk P w H' m d (n + cap d.b d.al.length) → Q (.int (ways d 0 (List.replicate d.ct.length 0))) H'
theorem ok_many {n0 : Nat} {f fN fF C : Addr} {fd fdN fdF : FuncData} (F : Fun K "many" "Words.many" sMany f fd) (T : TxN K mg C) (mN : Meth K C "none_used" fN) (GN : FnOk P w K mg base CX0 1 fN fdN ["self"] (spNone C)) (bN : Binds K fdN ["self"] [])
    (mF : Meth K C "many_from" fF) (GF : ∀ r, r ≤ 6 → FnOk P w K mg base CX0 (n0 + 1) fF fdF ["self", "place", "used"] (spManyF P w C r)) (bF : Binds K fdF ["self", "place", "used"] []) : FnOk P w K mg base CX0 (n0 + 2) f fd ["self"] (spMany P w C) := by
  refine F.ok scMy (fun vs H Q E h => ?_) (fun cdv A outer s H vs Q E hr h => ?_)
  · obtain ⟨p, m, d, n, rfl, _⟩ := h
    rfl
  · obtain ⟨p, m, d, n, rfl, ok, fx, me, cp, q⟩ := h
    have nd := scMy.nd
    obtain ⟨dx, a, l, g, hp, ha, hl, hg⟩ := _root_.id fx
    have hr1 : Room 1 _ := hr.mono (by omega)
    refine ⟨_, pss_one (ps_ret (pe_meth (pv 0) T.cl mF (GF d.al.length ok.na) hr bF .nil pass0 (pa_cons pe_int (pa_cons (pe_meth0 (pv 0) T.cl mN GN hr1 bN .nil pass0) pa_nil)))), ?_⟩
    refine ⟨_, rfl, p, dx, _, rfl, hp, wf_no a l g m d.ct (by decide +kernel), _, rfl, p, dx, _, rfl, hp, wf_no a l g m d.ct (by decide +kernel), ?_⟩
    refine ⟨p, m, d, rfl, ok, fx, fun H1 t s1 nt ht => ?_⟩
    refine ⟨p, m, t, d, _, 0, n, rfl, ok, fx.same s1, me.same s1, ht, List.length_replicate .., by omega, by omega, fun H2 b2 me2 => ?_⟩
    exact q H2 ((But.of s1).trans b2) (me2.mono (by omega))
end
end Gm

/-! enumerate of a tuple, of a text -/
namespace PySem
open Builtin
set_option maxHeartbeats 1000000 in
theorem enum1_new {v : Value} {o : Obj} {H : Heap → Prop} (B : Begins v o H) :
    Meets (Builtin.«enumerate.__new__» ⟨[.type "enumerate", v], []⟩) (fun _ R s => H s.heap ∧
      R (.ok (.ret (.ref (s.heap.push o).objs.size))) { s with heap := (s.heap.push o).push { cls := .type "enumerate", data := .fields #[.none, .bool false, .ref s.heap.objs.size, rawInt 0, .none, .none] } }) :=
  .of_wp fun prog w A R s h => by
    obtain ⟨hp, g, d, tk, os⟩ := s
    obtain ⟨h1, hR⟩ := h
    have isS := sub_enumerate
    have go : ∀ {A' : Around} {E : Value → Shared → Prop} {Q : Value → Shared → Prop}, Q (.ref hp.objs.size) ⟨hp.push o, g, d, tk, os⟩ → wpAny (model prog w) A' (pyIter v) Q E ⟨hp, g, d, tk, os⟩ := fun q => B.iter prog w _ _ ⟨hp, g, d, tk, os⟩ _ h1 q
    wp_walk using go
    refine wpAny_stack_any fun st => wpAny_pure ?_
    split
    · rename_i c _ _ _ _ _
      cases (c == Value.type "enumerate") <;> (wp_walk using go; exact ⟨_, rfl, hR⟩)
    · wp_walk using go; exact ⟨_, rfl, hR⟩
theorem enum1_begins {prog : Program} {w : World} {A : Around} {E : Value → Shared → Prop} {s : Shared} {v : Value} {o : Obj} {H : Heap → Prop} {Q : Value → Shared → Prop} (B : Begins v o H) (h1 : H s.heap)
    (h : ∀ h', IsEnum h' (s.heap.objs.size + 1) s.heap.objs.size 0 .none → h'.get? s.heap.objs.size = some o → (∀ b o, s.heap.get? b = some o → h'.get? b = some o) → Q (.ref (s.heap.objs.size + 1)) { s with heap := h' }) :
    wpAny (model prog w) A (call (.type "enumerate") [v]) Q E s := by
  refine callType_new F.called_enumerate (by decide) (F.typeCall_enumerate_1 _) (F.newCall_enumerate_1 _) (fun obj => F.args_object_init_2 obj _) F.entry_enumerate_new (enum1_new B) ⟨h1, ?_⟩
  have sz : (s.heap.push o).objs.size = s.heap.objs.size + 1 := Heap.size_push ..
  show _ ∧ _
  rw [sz]
  have e : IsEnum ((s.heap.push o).push { cls := .type "enumerate", data := .fields #[.none, .bool false, .ref s.heap.objs.size, rawInt 0, .none, .none] }) (s.heap.objs.size + 1) s.heap.objs.size 0 .none := by
    rw [← sz]
    exact Heap.get?_push_size _ rfl
  exact ⟨⟨_, e, rfl⟩, h _ e (Heap.get?_push_of_some _ (Heap.get?_push_size _ B.free)) fun b u x => Heap.get?_push_of_some _ (Heap.get?_push_of_some _ x)⟩
end PySem
namespace L2
open PySem PySem.Spec PyProof.Rows
/-- pairs of a number and what Y tells of it; G stands, n turns -/
def Iten (n : Nat) (G : Hp → Prop) (Y : Nat → V → Prop) : It :=
  ⟨fun i H => i < n ∧ G H, fun i H v H' => ∃ T x, v = .ref T ∧ H T = none ∧ H' = upd H T (.tup [.int (i : Nat), x]) ∧ Y i x, fun i H => i = n ∧ G H⟩
theorem turn_enumD {P : Program} {w : World} {K : PySem.W.Frag} {elts : List Expr} {kk : Nat} {tpos : Pos} {n : Nat} {G : Hp → Prop} {Y : Nat → V → Prop} {e it : Addr} (ne : e ≠ it) (S : Nat → Heap → Prop) (sat : ∀ i h, S i h → ∃ o, h.get? it = some o ∧ ∀ v, o.data ≠ .cell v)
    (sk : ∀ i h h', S i h → (∀ o, h.get? it = some o → h'.get? it = some o) → S i h')
    (draws : ∀ (X : Cx) (pins : List (Addr × Obj)) (σ : St) (H : Hp) (s : Shared), X.prog = P → X.w = w → X.K = K → X.A.handled = none → Inv X pins σ H s → G H →
      ∃ (fp : List Addr) (V : Nat → Value → Prop) (St : Nat → Heap → Prop), Draws X.prog X.w X.A.in1 it fp n V St ∧ e ∉ fp ∧ (∀ i, S i s.heap → St i s.heap) ∧ (∀ i h', St i h' → S i h') ∧ ∀ i u, V i u → ∃ x, RelV x u ∧ Y i x) :
    Turn P w K (.Tuple elts kk tpos) (Iten n G Y) [e, it] e (fun i h => (∃ old, IsEnum h e it ((i : Nat) : Int) old) ∧ S i h) where
  mem := by simp
  obj := fun i h st b hb => by
    obtain ⟨⟨old, he⟩, hs⟩ := st
    have q : b = e ∨ b = it := by simpa using hb
    rcases q with rfl | rfl
    · exact ⟨_, he, fun v q => nomatch q⟩
    · exact sat i h hs
  keep := fun i h h' st k => by
    obtain ⟨⟨old, he⟩, hs⟩ := st
    exact ⟨⟨old, k e (by simp) _ he⟩, sk i h h' hs fun o q => k it (by simp) o q⟩
  item := by
    intro X hP hw hK hc i pins s σ H E I hf st hg
    obtain ⟨⟨old, he⟩, hs⟩ := st
    obtain ⟨hi, gg⟩ := hg
    obtain ⟨fp, Vp, St, D, nf, to, back, rel⟩ := draws X pins σ H s hP hw hK (I.ok.hd hc) I gg
    subst hP hw hK
    have hel : e < s.heap.objs.size := Heap.lt_size he
    have hil : it < s.heap.objs.size := let ⟨_, q, _⟩ := sat i _ hs; Heap.lt_size q
    refine wpAny_pyNext_enum_itemD D he (to i hs) hi ne nf fun u h' tk pu ho hs' hT hsz hk => ?_
    obtain ⟨x, rx, yx⟩ := rel i u pu
    refine ⟨_, rfl, wpAny_letOwnedTupleGo_enum (s := { s with heap := h', toks := tk + 1 }) ho fun g he' sb => ?_⟩
    have hT2 := (sb.2 _ (Nat.ne_of_gt hel)).trans hT
    have fresh : ObjOk X.prog X.w (upd H s.heap.objs.size (.tup [.int (i : Nat), x])) g s.heap.objs.size (.tup [.int (i : Nat), x]) :=
      ⟨by show 2 ≤ sizeLine; decide, _, .cons ⟨tk, rfl⟩ (.cons rx .nil), ⟨_, hT2, rfl, _, rfl⟩⟩
    have J : Inv X pins σ (upd H s.heap.objs.size (.tup [.int (i : Nat), x])) { s with heap := g, toks := tk + 1 } := by
      refine I.turnedNew (ch := [e, it]) (fun b o hb q => ?_) hf (Nat.le_refl _) fresh
      have nb : b ≠ e ∧ b ≠ it := by simpa using hb
      exact (sb.2 b nb.1).trans (hk b o nb.1 nb.2 q)
    refine ⟨.ref s.heap.objs.size, _, J, rfl, ⟨_, x, rfl, I.hok.fresh (Nat.le_refl _), rfl, yx⟩, ⟨⟨u, ?_⟩, sk _ _ _ (back _ _ hs') fun o q => (sb.2 it ne.symm).trans q⟩, fun b hb => ?_⟩
    · have c : ((i + 1 : Nat) : Int) = (i : Int) + 1 := by omega
      rw [c]
      exact he'
    · have q : b = e ∨ b = it := by simpa using hb
      have hlt : b < s.heap.objs.size := by
        rcases q with rfl | rfl
        · exact hel
        · exact hil
      rw [upd_ne (Nat.ne_of_lt hlt)]
      exact (hf b hb).1
  done := by
    intro X hP hw hK hc i pins s σ H E I hf st hg
    obtain ⟨⟨old, he⟩, hs⟩ := st
    obtain ⟨rfl, gg⟩ := hg
    obtain ⟨fp, Vp, St, D, nf, to, back, rel⟩ := draws X pins σ H s hP hw hK (I.ok.hd hc) I gg
    subst hP hw hK
    obtain ⟨f0, f1, f2, f3, f4, f5⟩ := hf it (by simp)
    exact wpAny_pyNext_enum_endD D he (to _ hs) fun h' eb => ⟨rfl, I.turned (t' := s.toks) (fun b o hb q => eb b o hb q) f0 f1 f3 f4 f5⟩
  self := fun A i s Q E st h => let ⟨⟨_, he⟩, _⟩ := st; wpAny_pyIter_enum he h
/-- enumerate(t), t a tuple -/
def iEnumT (K : PySem.W.Frag) (ta : TA) : TI := fun σ H R => ta σ H fun vs H1 => ∃ a xs, vs = [.ref a] ∧ SqT K H1 a xs ∧ R (Iten xs.length (fun H => SqT K H a xs) fun i x => xs[i]? = some x) H1
/-- enumerate(z), z a text -/
def iEnumS (ta : TA) : TI := fun σ H R => ta σ H fun vs H1 => ∃ z : Str, vs = [.str z] ∧ R (Iten z.cps.size (fun _ => True) fun i x => ∃ c, z.cps[i]? = some c ∧ x = .str ⟨#[c]⟩) H1
section
variable {X : Cx} {e : Expr} {ta : TA} {p pos tpos : Pos} {elts : List Expr} {kk : Nat}
theorem pi_enumT (hg : Gl X "enumerate") (hm : X.mg "enumerate" = none) (ha : PA X [e] ta) (hs : starEach [e] X.env = [(false, eval e X.env)] := by rfl) : PI X (.Tuple elts kk tpos) (.Call (.Name "enumerate" p) [e] [] pos) (iEnumT X.K ta) := by
  refine ⟨fun pins s σ H R I h => ?_⟩
  refine Call_ (ld_blt I hg hm boot_enumerate (PyProof.Rows.callWith_type1 (thn (ha.run pos pins s σ H _ I h) fun us s1 hh => ?_) hs rfl))
  obtain ⟨vs, H1, I1, r1, a, xs, rfl, hq, q⟩ := hh
  cases r1 with
  | cons r rr =>
    cases rr
    cases r
    obtain ⟨its, rv, pt, _⟩ := I1.tuple hq
    refine enum1_begins (begins_tuple a its.toArray) pt fun h' he hit hk => wpAny_pyIter_enum he ?_
    have J : Inv X pins σ H1 { s1 with heap := h' } := I1.kept (t' := s1.toks) hk
    have la : a < s1.heap.objs.size := let ⟨o, ho, _⟩ := pt; Heap.lt_size ho
    have na : s1.heap.objs.size + 1 ≠ a := Nat.ne_of_gt (Nat.lt_succ_of_lt la)
    have ni : a ≠ s1.heap.objs.size := Nat.ne_of_lt la
    have lx : xs.length = its.toArray.size := by rw [rv.length]; simp
    refine ⟨s1.heap.objs.size + 1, [s1.heap.objs.size + 1, s1.heap.objs.size], _, _, H1, rfl, J, turn_enumD (Nat.succ_ne_self _) (fun i h => h.IsTupleIter s1.heap.objs.size a i) (fun i h ⟨o, ho, _, hd⟩ => ⟨o, ho, fun v z => by rw [hd] at z; cases z⟩) (fun i h h' st k => st.at k) ?_, ⟨⟨.none, he⟩, ⟨_, hit, rfl, rfl⟩⟩, fun b hb => ?_, q⟩
    · intro X' pins' σ' H' s' hP hw hK hh I' g
      rw [← hK] at g
      obtain ⟨its', rv', pt', _⟩ := I'.tuple g
      have D := Draws.tuple (prog := X'.prog) (w := X'.w) (A := X'.A.in1) (show X'.A.in1.handled = none from hh) s1.heap.objs.size a ni its'.toArray
      have e' : its'.toArray.size = xs.length := by rw [rv'.length]; simp
      refine ⟨[s1.heap.objs.size, a], _, _, e' ▸ D, by simp [na], fun i st => ⟨st, pt'⟩, fun i h' st => st.1, fun i u hu => ?_⟩
      have hu' : its'[i]? = some u := by simpa using hu
      have hi : i < xs.length := by
        rw [rv'.length]
        exact (List.getElem?_eq_some_iff.mp hu').1
      obtain ⟨u2, h2, r2⟩ := rv'.get (List.getElem?_eq_getElem hi)
      rw [hu'] at h2
      cases h2
      exact ⟨_, r2, List.getElem?_eq_getElem hi⟩
    · have e' : b = s1.heap.objs.size + 1 ∨ b = s1.heap.objs.size := by simpa using hb
      have hle : s1.heap.objs.size ≤ b := e'.elim (fun z => z ▸ Nat.le_succ _) fun z => z ▸ Nat.le_refl _
      exact I1.fpOk hle (I1.hok.fresh hle)
theorem pi_enumS (hg : Gl X "enumerate") (hm : X.mg "enumerate" = none) (ha : PA X [e] ta) (hs : starEach [e] X.env = [(false, eval e X.env)] := by rfl) : PI X (.Tuple elts kk tpos) (.Call (.Name "enumerate" p) [e] [] pos) (iEnumS ta) := by
  refine ⟨fun pins s σ H R I h => ?_⟩
  refine Call_ (ld_blt I hg hm boot_enumerate (PyProof.Rows.callWith_type1 (thn (ha.run pos pins s σ H _ I h) fun us s1 hh => ?_) hs rfl))
  obtain ⟨vs, H1, I1, r1, z, rfl, q⟩ := hh
  cases r1 with
  | cons r rr =>
    cases rr
    obtain ⟨t, rfl⟩ := r
    refine enum1_begins (begins_text z t) trivial fun h' he hit hk => wpAny_pyIter_enum he ?_
    have J : Inv X pins σ H1 { s1 with heap := h' } := I1.kept (t' := s1.toks) hk
    refine ⟨s1.heap.objs.size + 1, [s1.heap.objs.size + 1, s1.heap.objs.size], _, _, H1, rfl, J, turn_enumD (Nat.succ_ne_self _) (fun i h => h.IsStrIter s1.heap.objs.size (strIterType z) z t i) (fun i h ⟨o, ho, _, hd⟩ => ⟨o, ho, fun v z => by rw [hd] at z; cases z⟩) (fun i h h' ⟨o, ho, st⟩ k => ⟨o, k o ho, st⟩) ?_, ⟨⟨.none, he⟩, ⟨_, hit, rfl, rfl⟩⟩, fun b hb => ?_, q⟩
    · intro X' pins' σ' H' s' hP hw hK hh I' g
      refine ⟨[s1.heap.objs.size], _, _, Draws.text (show X'.A.in1.handled = none from hh) s1.heap.objs.size z t, by simp, fun i st => st, fun i h' st => st, fun i u hu => ?_⟩
      obtain ⟨c, k, hc, rfl⟩ := hu
      exact ⟨.str ⟨#[c]⟩, ⟨k, rfl⟩, c, hc, rfl⟩
    · have e' : b = s1.heap.objs.size + 1 ∨ b = s1.heap.objs.size := by simpa using hb
      have hle : s1.heap.objs.size ≤ b := e'.elim (fun z => z ▸ Nat.le_succ _) fun z => z ▸ Nat.le_refl _
      exact I1.fpOk hle (I1.hok.fresh hle)
theorem walk_iten {n : Nat} {G : Hp → Prop} {Y : Nat → V → Prop} : Walk (Iten n G Y) n G (fun i H v H' => ∃ T x, v = .ref T ∧ H T = none ∧ H' = upd H T (.tup [.int (i : Nat), x]) ∧ Y i x) :=
  ⟨fun i _ hi g => ⟨hi, g⟩, fun _ g => ⟨rfl, g⟩, fun _ _ _ _ _ _ y => y⟩
end
end L2

/-! a loop over the signs of a text whose turn is told which token the sign bears -/
namespace L2
open PySem PySem.Spec PyProof.Rows
section
variable {X : Cx} {pins : List (Addr × Obj)} {σ : St} {H : Hp} {s : Shared}
/-- the local x holds the value u, as the machine has it -/
def Raw (X : Cx) (s : Shared) (x : Str) (u : Value) : Prop := ∃ m, s.heap.Ns X.env.locals m ∧ m x = some u
theorem raw_ld {M : Model} {A : Around} {E : Value → Shared → Prop} {x : Str} {u : Value} {pos : Pos} {Q : Value → Shared → Prop} (ok : X.env.scope.kind = .function) (hk : X.env.kindOf x = some .local) (r : Raw X s x u) (q : Q u s)
    (hd : (x == ("__debug__" : Str)) = false := by decide) : wpAny M A (eval (.Name x pos) X.env) Q E s := let ⟨_, hn, hm⟩ := r
  wpAny_Name (wpAny_loadName_local ok hk hn hm q) hd
theorem var_ld {M : Model} {A : Around} {E : Value → Shared → Prop} {i : Nat} {x : Str} {v : V} {pos : Pos} {Q : Value → Shared → Prop} (I : Inv X pins σ H s) (hN : X.N[i]? = some x) (e : σ[i]? = some (some v)) (hv : Vis X.env.scope x) (q : ∀ u, RelV v u → Q u s)
    (hd : (x == ("__debug__" : Str)) = false := by decide) (hcd : (x == ("__classdict__" : Str)) = false := by decide) : wpAny M A (eval (.Name x pos) X.env) Q E s := by
  obtain ⟨m, hn, hl⟩ := I.loc
  obtain ⟨u, r, ⟨hk, hm⟩ | ⟨hk | hk, c, hc, hcell⟩⟩ := hl i x v hN e hv
  · exact wpAny_Name (wpAny_loadName_local I.ok.kind hk hn hm (q u r)) hd
  · exact wpAny_Name (wpAny_loadName_cell I.ok.kind hk hc hcell (q u r)) hd
  · exact wpAny_Name (wpAny_loadName_free I.ok.kind hk hc hcell (q u r) hcd) hd
theorem raw_set {M : Model} {A : Around} {E : Value → Shared → Prop} {i : Nat} {x : Str} {v : V} {u : Value} {Q : Unit → Shared → Prop} (I : Inv X pins σ H s) (hN : X.N.Nodup) (hi : X.N[i]? = some x) (hk : X.env.kindOf x = some .local) (r : RelV v u)
    (h : ∀ s', Inv X pins (σ.set i (some v)) H s' → Raw X s' x u → s'.toks = s.toks + 1 → Q () s') : wpAny M A (storeName X.env x u) Q E s := by
  obtain ⟨m, hn, hl⟩ := id I.loc
  have hiσ : i < σ.length := I.len ▸ (List.getElem?_eq_some_iff.mp hi).1
  refine wpAny_storeName_local hk hn (fun g hg sb => ?_) (by rw [I.ok.kind]; rfl)
  obtain ⟨oL, _, _, hoL, _⟩ := id hn
  have old : ∀ b o, X.s_0.heap.get? b = some o → g.get? b = s.heap.get? b := fun b o e => sb.2 b (Nat.ne_of_lt (Nat.lt_of_lt_of_le (Heap.lt_size e) I.ok.above))
  have nL : ∀ {b ob}, H b = some ob → b ≠ X.env.locals := fun e q => by
    rw [q, I.free] at e
    cases e
  have tr : HOk X.prog X.w H g := fun b ob e => (I.hok b ob e).stay (fun c w' hc q => (sb.2 c (by
    rcases hc with rfl | hc
    · exact nL e
    · exact nL hc)).trans q) (fun _ q => q) fun _ _ q => q
  have J : Inv X pins (σ.set i (some v)) H { s with heap := g, toks := s.toks + 1 } := {
    ok := I.ok
    os := I.os
    bare := I.bare
    base := ⟨fun b o e n hb hx => (old b o e).trans (I.base.keep b o e n hb hx), fun b o e n hb hx => let ⟨sl, e1⟩ := I.base.slot b o e n hb hx; ⟨sl, (old b o e).trans e1⟩, I.base.free,
      fun b o e hx => let ⟨o', e1⟩ := I.base.there b o e hx; ⟨o', (old b o e).trans e1⟩, I.base.tups, I.base.frzs, I.base.tbls⟩
    loc := ⟨_, hg, fun j y v' e1 e2 e3 => by
      rcases Nat.decEq j i with hj | rfl
      · rw [List.getElem?_set_ne (Ne.symm hj)] at e2
        obtain ⟨u', r', q⟩ := hl j y v' e1 e2 e3
        have ny : y ≠ x := fun e => hj (nodup_ix hN e1 (e ▸ hi))
        exact ⟨u', r', q.elim (fun q => .inl ⟨q.1, by simp [ny, q.2]⟩) fun ⟨k, c, e, z⟩ => .inr ⟨k, c, e, z.sameBut sb (I.cne y c e)⟩⟩
      · cases hi.symm.trans e1
        rw [List.getElem?_set_self hiσ] at e2
        cases e2
        exact ⟨u, r, .inl ⟨hk, by simp⟩⟩⟩
    cell := fun y c e => let ⟨w', z⟩ := I.cell y c e; ⟨w', z.sameBut sb (I.cne y c e)⟩
    free := I.free
    freeC := I.freeC
    pin := fun p hp => let ⟨e, n, ne, nf, d⟩ := I.pin p hp; ⟨(sb.2 p.1 ne).trans e, n, ne, nf, d⟩
    hok := tr
    len := by simpa using I.len }
  exact h _ J ⟨_, hg, by simp⟩ rfl
/-- one turn of a loop over a text: the sign c stands in slot i, its token t is younger than the state -/
def TurnT (X : Cx) (i : Nat) (x : Str) (body : List Stmt) (tb : Nat → TS) : Prop :=
  ∀ (pins : List (Addr × Obj)) (s : Shared) (σ : St) (H : Hp) (D : Ends) (c : Nat) (t : Tok), Inv X pins (σ.set i (some (.str ⟨#[c]⟩))) H s → Raw X s x (.str ⟨#[c]⟩ t) → 1 ≤ t → t < s.toks → tb c D (σ.set i (some (.str ⟨#[c]⟩))) H →
    wpAny (model X.prog X.w) X.A (execs body X.env) (SP X pins D) X.xe s
def tForT (z : TE) (i : Nat) (tb : Nat → TS) : TS := fun D σ H => z σ H fun v H1 => ∃ y, v = .str y ∧ ∃ Pv : Nat → St → Hp → Prop, Pv 0 σ H1 ∧
  (∀ k c σ H, y.cps[k]? = some c → Pv k σ H → tb c { D with nx := Pv (k + 1), ct := Pv (k + 1), bk := D.nx } (σ.set i (some (.str ⟨#[c]⟩))) H) ∧ ∀ σ H, Pv y.cps.size σ H → D.nx σ H
theorem pst_forT {i : Nat} {x : Str} {px pos : Pos} {iter : Expr} {body : List Stmt} {z : TE} {tb : Nat → TS} (hp : PassesOwn (model X.prog X.w) X.A X.env X.xe) (hc : X.calm = true) (hz : PE X iter z) (hN : X.N.Nodup) (hi : X.N[i]? = some x) (hk : X.env.kindOf x = some .local)
    (hb : TurnT X i x body tb) (hs : ∀ x, foldedSetIterable iter X.env x = pure x := by intro _; rfl) : PST X (.For (.Name x px) iter body [] pos) (tForT z i tb) := by
  intro pins s σ H D h0 I h
  refine wpAny_For (thn (PySem.wpAny_toks (hz.run pins s σ H _ I h) |> fun q => wpAny_mono q (fun _ _ x => x) fun _ _ x => x.2) fun v s1 h1 => ?_) hs
  obtain ⟨k1, v', H1, I1, r1, y, rfl, Pv, p0, step, fin⟩ := h1
  obtain ⟨ty, rfl⟩ := r1
  have one : 1 ≤ s1.toks := Nat.le_trans h0 k1
  have go : ∀ (T : String) (hT : T = "str_ascii_iterator" ∨ T = "str_iterator"), codeAny (model X.prog X.w) X.A (.forLoop (.Name x px) (.ref s1.heap.objs.size) body [] X.env) (fun r s' => match r with | .ok f => SP X pins D f s' | .error e => cameBackBy (model X.prog X.w) X.A X.env X.xe e s')
      { s1 with heap := s1.heap.push { cls := .type T, data := .fields #[.str y ty, .int 0 0] } } := by
    intro T hT
    have I2 : Inv X pins σ H1 { s1 with heap := s1.heap.push { cls := .type T, data := .fields #[.str y ty, .int 0 0] } } := I1.kept (t' := s1.toks) fun b o e => Heap.get?_push_of_some _ e
    have fp : FpOk X pins H1 s1.heap.objs.size := I1.fpOk (Nat.le_refl _) (I1.hok.fresh (Nat.le_refl _))
    have no : ["enumerate", "zip", "dict_itemiterator", "dict_reverseitemiterator", "odict_iterator", "itertools.zip_longest", "itertools.pairwise"].contains T = false := by rcases hT with rfl | rfl <;> decide
    refine codeAny_forLoop_any (fun n s' => ∃ k σ' H', n = y.cps.size - k ∧ k ≤ y.cps.size ∧ 1 ≤ s'.toks ∧ Inv X pins σ' H' s' ∧ s'.heap.IsStrIter s1.heap.objs.size T y ty k ∧ H' s1.heap.objs.size = none ∧ Pv k σ' H') ?_ _
      ⟨0, σ, H1, rfl, Nat.zero_le _, one, I2, ⟨_, Heap.get?_push_size _ (by rcases hT with rfl | rfl <;> rfl), rfl, rfl⟩, fp.1, p0⟩
    rintro n s3 ⟨k, σ3, H3, rfl, hk3, o3, I3, it3, f3, p3⟩
    have fp3 : FpOk X pins H3 s1.heap.objs.size := ⟨f3, fp.2⟩
    rcases Nat.lt_or_ge k y.cps.size with hlt | hge
    · have hcx : y.cps[k]? = some y.cps[k] := by simp [hlt]
      have item : ∀ g, g.IsStrIter s1.heap.objs.size T y ty (k + 1) → Heap.SameBut s1.heap.objs.size s3.heap g → wpAny (model X.prog X.w) X.A (letOwnedTupleGo (.Name x px) (.ref s1.heap.objs.size) (.str ⟨#[y.cps[k]]⟩ s3.toks)) (fun _ s₁' =>
          wpAny (model X.prog X.w) X.A (assign (.Name x px) X.env (.str ⟨#[y.cps[k]]⟩ s3.toks)) (fun _ s₂ => wpAny (model X.prog X.w) X.A (execs body X.env) (fun f s₃ => match f with
            | .next | .cont => ∃ m, m < y.cps.size - k ∧ ∃ k σ' H', m = y.cps.size - k ∧ k ≤ y.cps.size ∧ 1 ≤ s₃.toks ∧ Inv X pins σ' H' s₃ ∧ s₃.heap.IsStrIter s1.heap.objs.size T y ty k ∧ H' s1.heap.objs.size = none ∧ Pv k σ' H'
            | .brk => SP X pins D .next s₃
            | .ret v => SP X pins D (.ret v) s₃) X.xe s₂) X.xe s₁') X.xe { s3 with heap := g, toks := s3.toks + 1 } := by
        intro g itg sb
        obtain ⟨og, eg, cg, dg⟩ := id itg
        have I4 : Inv X pins σ3 H3 { s3 with heap := g, toks := s3.toks + 1 } := I3.turned (fun b o hb e => (sb.2 b hb).trans e) fp3.1 fp3.2.1 fp3.2.2.2.1 fp3.2.2.2.2.1 fp3.2.2.2.2.2
        refine go_of (s := { s3 with heap := g, toks := s3.toks + 1 }) eg cg dg no ?_
        have I5 := I4.pinned (fp := [s1.heap.objs.size]) (fun b hb => by rw [List.mem_singleton.mp hb]; exact fp3) (fun b hb => by rw [List.mem_singleton.mp hb]; exact ⟨og, eg, fun v q => by rw [dg] at q; cases q⟩)
        refine wpAny_assign_Name (raw_set (v := .str ⟨#[y.cps[k]]⟩) I5 hN hi hk ⟨_, rfl⟩ fun s6 I6 R6 t6 => ?_)
        have t6 : s6.toks = s3.toks + 2 := t6
        refine thn (PySem.wpAny_toks (hb _ s6 σ3 H3 _ _ s3.toks I6 R6 o3 (by rw [t6]; exact Nat.lt_add_of_pos_right (by decide)) (step k _ σ3 H3 hcx p3)) |> fun q => wpAny_mono q (fun _ _ x => x) fun _ _ x => x.2) fun f s7 q7 => ?_
        obtain ⟨k7, q7⟩ := q7
        have again : ∀ {σ7 : St} {H7 : Hp}, Inv X (pins ++ pinsAt [s1.heap.objs.size] g) σ7 H7 s7 → Pv (k + 1) σ7 H7 → ∃ m, m < y.cps.size - k ∧ ∃ k σ' H', m = y.cps.size - k ∧ k ≤ y.cps.size ∧ 1 ≤ s7.toks ∧ Inv X pins σ' H' s7 ∧ s7.heap.IsStrIter s1.heap.objs.size T y ty k ∧ H' s1.heap.objs.size = none ∧ Pv k σ' H' := fun {σ7 H7} I7 p7 => by
          obtain ⟨e7, n7, _⟩ := I7.pin (s1.heap.objs.size, og) (List.mem_append_right _ (List.mem_append_right _ (mem_pinsAt (List.mem_singleton.mpr rfl) eg)))
          exact ⟨y.cps.size - (k + 1), by omega, k + 1, σ7, H7, rfl, hlt, by omega, I7.unpinned, ⟨og, e7, cg, dg⟩, n7, p7⟩
        cases f with
        | next => obtain ⟨σ7, H7, I7, p7⟩ := q7; exact again I7 p7
        | cont => obtain ⟨σ7, H7, I7, p7⟩ := q7; exact again I7 p7
        | brk => obtain ⟨σ7, H7, I7, p7⟩ := q7; exact ⟨σ7, H7, I7.unpinned, p7⟩
        | ret v => obtain ⟨x7, σ7, H7, I7, r7, p7⟩ := q7; exact ⟨x7, σ7, H7, I7.unpinned, r7, p7⟩
      have all : wpAny (model X.prog X.w) X.A (pyNext (.ref s1.heap.objs.size)) (fun r s₁ => r = some (.str ⟨#[y.cps[k]]⟩ s3.toks) ∧ ∃ g, s₁ = { s3 with heap := g, toks := s3.toks + 1 } ∧ g.IsStrIter s1.heap.objs.size T y ty (k + 1) ∧ Heap.SameBut s1.heap.objs.size s3.heap g) X.xe s3 := by
        rcases hT with rfl | rfl
        · exact wpAny_pyNext_ascii_item it3 hcx fun g itg sb => ⟨rfl, g, rfl, itg, sb⟩
        · exact wpAny_pyNext_wide_item it3 hcx fun g itg sb => ⟨rfl, g, rfl, itg, sb⟩
      refine wpAny_passesOwn hp (thn all fun r s4 hr => ?_)
      obtain ⟨rfl, g, rfl, itg, sb⟩ := hr
      have q := item g itg sb
      refine wpAny_passesOwn hp (thn q fun _ s5 q5 => ?_)
      exact wpAny_passesOwn hp (thn q5 fun _ s6 q6 => wpAny_passesOwn hp q6)
    · have ek : k = y.cps.size := by omega
      subst ek
      have hx : y.cps[y.cps.size]? = none := by simp
      have done : wpAny (model X.prog X.w) X.A (pyNext (.ref s1.heap.objs.size)) (fun r s₁ => r = none ∧ Inv X pins σ3 H3 s₁) X.xe s3 := by
        rcases hT with rfl | rfl
        · exact wpAny_pyNext_ascii_end (I3.ok.hd hc) it3 hx fun g eb => ⟨rfl, I3.turned (t' := s3.toks) (fun b o hb e => eb b o hb e) fp3.1 fp3.2.1 fp3.2.2.2.1 fp3.2.2.2.2.1 fp3.2.2.2.2.2⟩
        · exact wpAny_pyNext_wide_end (I3.ok.hd hc) it3 hx fun g eb => ⟨rfl, I3.turned (t' := s3.toks) (fun b o hb e => eb b o hb e) fp3.1 fp3.2.1 fp3.2.2.2.1 fp3.2.2.2.2.1 fp3.2.2.2.2.2⟩
      refine wpAny_passesOwn hp (thn done fun r s4 hr => ?_)
      obtain ⟨rfl, I4⟩ := hr
      exact wpAny_execs_nil ⟨σ3, H3, I4, fin σ3 H3 p3⟩
  cases ha : y.cps.all (· < 128)
  · exact wpAny_pyIter_wide ha (go _ (.inr rfl))
  · exact wpAny_pyIter_ascii ha (go _ (.inl rfl))
end
end L2

/-! enumerate of a text, with the tokens of its signs -/
namespace L2
open PySem PySem.Spec PyProof.Rows PySem.Builtin.SmallTypes
section
variable {prog : Program} {w : World} {A : Around} {E : Value → Shared → Prop} {s : Shared}
theorem sign_next {I : Addr} {T : String} {x : Str} {t : Tok} {k c : Nat} {Q : Value → Shared → Prop} (hT : T = "str_ascii_iterator" ∨ T = "str_iterator") (st : s.heap.IsStrIter I T x t k) (hc : x.cps[k]? = some c)
    (q : ∀ g, g.IsStrIter I T x t (k + 1) → Heap.SameBut I s.heap g → Q (.str ⟨#[c]⟩ s.toks) { s with heap := g, toks := s.toks + 1 }) : wpAny (model prog w) A (nextOf (.ref I)) Q E s := by
  rcases hT with rfl | rfl
  · exact wpAny_nextOf_ascii_item st hc q
  · exact wpAny_nextOf_wide_item st hc q
theorem enum_body {a I : Addr} {T : String} {x : Str} {t : Tok} {k c : Nat} {old : Value} {Q : Value → Shared → Prop} (hT : T = "str_ascii_iterator" ∨ T = "str_iterator") (en : IsEnum s.heap a I k old) (st : s.heap.IsStrIter I T x t k) (hc : x.cps[k]? = some c) (aI : a ≠ I)
    (q : ∀ g, IsEnumOut g a I ((k : Int) + 1) (.str ⟨#[c]⟩ s.toks) s.heap.objs.size → g.IsStrIter I T x t (k + 1) → g.get? s.heap.objs.size = some { cls := .type "tuple", data := .seq #[.int k (s.toks + 1), .str ⟨#[c]⟩ s.toks] } →
      g.objs.size = s.heap.objs.size + 1 → (∀ b o, b ≠ a → b ≠ I → s.heap.get? b = some o → g.get? b = some o) → Q (.ref s.heap.objs.size) { s with heap := g, toks := s.toks + 2 }) :
    wpAny (model prog w) A (Builtin.«enumerate.__next__» ⟨[.ref a], []⟩) (fun r z => ∃ v, r = .done (.ret v) ∧ Q v z) E s := by
  obtain ⟨h0, g0, d0, k0, o0⟩ := s
  have al : a < h0.objs.size := Heap.lt_size en
  show wpAny _ _ (field (.ref a) 2 >>= _) _ _ _
  refine wpAny_bind (wpAny_field en rfl (x := .ref I) rfl (wpAny_bind (sign_next hT st hc fun h1 st1 b1 => ?_)))
  have b1 : Heap.SameBut I h0 h1 := b1
  have en1 : IsEnum h1 a I k old := (b1.2 a aI).trans en
  show wpAny _ _ (field (.ref a) 3 >>= _) _ _ ⟨h1, g0, d0, k0 + 1, o0⟩
  refine wpAny_bind (wpAny_field en1 rfl (x := rawInt k) rfl ?_)
  show wpAny _ _ (field (.ref a) 4 >>= _) _ _ ⟨h1, g0, d0, k0 + 1, o0⟩
  refine wpAny_bind (wpAny_field en1 rfl (x := .none) rfl ?_)
  show wpAny _ _ (mkInt k >>= _) _ _ ⟨h1, g0, d0, k0 + 1, o0⟩
  refine wpAny_bind (wpAny_mkInt ?_)
  show wpAny _ _ (setField (.ref a) 3 (rawInt ((k : Int) + 1)) >>= _) _ _ ⟨h1, g0, d0, k0 + 2, o0⟩
  refine wpAny_bind (wpAny_setField_rec en1 (by simp) fun h2 en2 b2 => ?_)
  have b2 : Heap.SameBut a h1 h2 := b2
  have en2 : IsEnum h2 a I ((k : Int) + 1) old := en2
  show wpAny _ _ (setField (.ref a) 4 .none >>= _) _ _ ⟨h2, g0, d0, k0 + 2, o0⟩
  refine wpAny_bind (wpAny_setField_rec en2 (by simp) fun h3 en3 b3 => ?_)
  have b3 : Heap.SameBut a h2 h3 := b3
  have en3 : IsEnum h3 a I ((k : Int) + 1) old := en3
  show wpAny _ _ (newTuple [.int k (k0 + 1), .str ⟨#[c]⟩ k0] >>= _) _ _ ⟨h3, g0, d0, k0 + 2, o0⟩
  refine wpAny_bind (wpAny_newTuple ?_)
  have z3 : h3.objs.size = h0.objs.size := (b3.1.trans b2.1).trans b1.1
  have st3 : h3.IsStrIter I T x t (k + 1) := by
    obtain ⟨o, e, r⟩ := st1
    exact ⟨o, (b3.2 I aI.symm).trans ((b2.2 I aI.symm).trans e), r⟩
  have keep3 : ∀ b o, b ≠ a → b ≠ I → h0.get? b = some o → h3.get? b = some o := fun b o n1 n2 e => (b3.2 b n1).trans ((b2.2 b n1).trans ((b1.2 b n2).trans e))
  have en4 : IsEnum (h3.push { cls := .type "tuple", data := .seq #[.int k (k0 + 1), .str ⟨#[c]⟩ k0] }) a I ((k : Int) + 1) old := Heap.get?_push_of_some _ en3
  have T4 : (h3.push { cls := .type "tuple", data := .seq #[.int k (k0 + 1), .str ⟨#[c]⟩ k0] }).get? h0.objs.size = some { cls := .type "tuple", data := .seq #[.int k (k0 + 1), .str ⟨#[c]⟩ k0] } := by rw [← z3]; exact Heap.get?_push_size _ rfl
  have z4 : (h3.push { cls := .type "tuple", data := .seq #[.int k (k0 + 1), .str ⟨#[c]⟩ k0] }).objs.size = h0.objs.size + 1 := by rw [Heap.size_push, z3]
  have st4 : (h3.push { cls := .type "tuple", data := .seq #[.int k (k0 + 1), .str ⟨#[c]⟩ k0] }).IsStrIter I T x t (k + 1) := by
    obtain ⟨o, e, r⟩ := st3
    exact ⟨o, Heap.get?_push_of_some _ e, r⟩
  have keep4 : ∀ b o, b ≠ a → b ≠ I → h0.get? b = some o → (h3.push { cls := .type "tuple", data := .seq #[.int k (k0 + 1), .str ⟨#[c]⟩ k0] }).get? b = some o := fun b o n1 n2 e => Heap.get?_push_of_some _ (keep3 b o n1 n2 e)
  generalize h3.push { cls := .type "tuple", data := .seq #[.int k (k0 + 1), .str ⟨#[c]⟩ k0] } = h4 at en4 T4 z4 st4 keep4
  show wpAny _ _ (ownedTupleIsFree (.ref a) >>= _) _ _ ⟨h4, g0, d0, k0 + 2, o0⟩
  rw [z3]
  refine wpAny_bind ?_
  unfold ownedTupleIsFree
  refine wpAny_bind (wpAny_field en4 rfl (x := .none) rfl (wpAny_pure ?_))
  simp only [if_true]
  refine wpAny_bind (wpAny_rule (wpAny_bind (wpAny_field en4 rfl (x := old) rfl (wpAny_bind (wpAny_setField_rec en4 (by simp) fun h5 en5 b5 => ?_)))))
  have b5 : Heap.SameBut a h4 h5 := b5
  have en5 : IsEnum h5 a I ((k : Int) + 1) (.str ⟨#[c]⟩ k0) := en5
  show wpAny _ _ (ownedTupleHandOut (.ref a) (.ref h0.objs.size) >>= _) _ _ ⟨h5, g0, d0, k0 + 2, o0⟩
  refine wpAny_bind ?_
  unfold ownedTupleHandOut
  refine wpAny_bind (wpAny_setField_rec en5 (by simp) fun h6 en6 b6 => ?_)
  have b6 : Heap.SameBut a h5 h6 := b6
  have en6 : IsEnumOut h6 a I ((k : Int) + 1) (.str ⟨#[c]⟩ k0) h0.objs.size := en6
  refine wpAny_setField_rec en6 (by simp) fun h7 en7 b7 => ?_
  have b7 : Heap.SameBut a h6 h7 := b7
  have en7 : IsEnumOut h7 a I ((k : Int) + 1) (.str ⟨#[c]⟩ k0) h0.objs.size := en7
  have to7 : ∀ {b o}, b ≠ a → h4.get? b = some o → h7.get? b = some o := fun n e => (b7.2 _ n).trans ((b6.2 _ n).trans ((b5.2 _ n).trans e))
  refine wpAny_bind (wpAny_letGo (wpAny_pure ⟨_, rfl, q h7 en7 ?_ (to7 (Nat.ne_of_gt al) T4) ?_ fun b o n1 n2 e => to7 n1 (keep4 b o n1 n2 e)⟩))
  · obtain ⟨o, e, r⟩ := st4
    exact ⟨o, to7 aI.symm e, r⟩
  · rw [b7.1, b6.1, b5.1, z4]
theorem enum_next {a I : Addr} {T : String} {x : Str} {t : Tok} {k c : Nat} {old : Value} {Q : Option Value → Shared → Prop} (hT : T = "str_ascii_iterator" ∨ T = "str_iterator") (en : IsEnum s.heap a I k old) (st : s.heap.IsStrIter I T x t k) (hc : x.cps[k]? = some c) (aI : a ≠ I)
    (q : ∀ g, IsEnumOut g a I ((k : Int) + 1) (.str ⟨#[c]⟩ s.toks) s.heap.objs.size → g.IsStrIter I T x t (k + 1) → g.get? s.heap.objs.size = some { cls := .type "tuple", data := .seq #[.int k (s.toks + 1), .str ⟨#[c]⟩ s.toks] } →
      g.objs.size = s.heap.objs.size + 1 → (∀ b o, b ≠ a → b ≠ I → s.heap.get? b = some o → g.get? b = some o) → Q (some (.ref s.heap.objs.size)) { s with heap := g, toks := s.toks + 2 }) :
    wpAny (model prog w) A (pyNext (.ref a)) Q E s := by
  have ty : s.TypeIs (.ref a) "enumerate" := ⟨_, en, rfl⟩
  unfold pyNext
  refine wpAny_bind (wpAny_attempt (wpAny_callSpecial?_slot (name := Str.ofString "__next__") ty F.slot_enumerate_next (wpAny_call_entry F.slot_enumerate_next ty F.entry_enumerate_next ?_ (F.args_enumerate_next_1 _))))
  refine enum_body hT en st hc aI fun g e1 e2 e3 e4 e5 => ?_
  exact wpAny_pure (q g e1 e2 e3 e4 e5)
end
end L2

/-! a loop over enumerate of a text whose turn is told which token the sign bears -/
namespace L2
open PySem PySem.Spec PyProof.Rows
section
variable {X : Cx}
/-- one turn: the number k in slot i, the sign c in slot j, its token t younger than the state -/
def TurnE (X : Cx) (i j : Nat) (y : Str) (body : List Stmt) (tb : Nat → Nat → TS) : Prop :=
  ∀ (pins : List (Addr × Obj)) (s : Shared) (σ : St) (H : Hp) (D : Ends) (k c : Nat) (t : Tok), Inv X pins ((σ.set i (some (.int (k : Int)))).set j (some (.str ⟨#[c]⟩))) H s → Raw X s y (.str ⟨#[c]⟩ t) → 1 ≤ t → t < s.toks →
    tb k c D ((σ.set i (some (.int (k : Int)))).set j (some (.str ⟨#[c]⟩))) H → wpAny (model X.prog X.w) X.A (execs body X.env) (SP X pins D) X.xe s
def tForE (ta : TA) (i j : Nat) (tb : Nat → Nat → TS) : TS := fun D σ H => ta σ H fun vs H1 => ∃ z : Str, vs = [.str z] ∧ ∃ Pv : Nat → St → Hp → Prop, Pv 0 σ H1 ∧
  (∀ k c σ H, z.cps[k]? = some c → Pv k σ H → tb k c { D with nx := Pv (k + 1), ct := Pv (k + 1), bk := D.nx } ((σ.set i (some (.int (k : Int)))).set j (some (.str ⟨#[c]⟩))) H) ∧ ∀ σ H, Pv z.cps.size σ H → D.nx σ H
theorem pst_forE {i j : Nat} {x y : Str} {px py tpos p cpos fpos : Pos} {kk : Nat} {e : Expr} {body : List Stmt} {ta : TA} {tb : Nat → Nat → TS} (hp : PassesOwn (model X.prog X.w) X.A X.env X.xe) (hc : X.calm = true) (hg : Gl X "enumerate") (hm : X.mg "enumerate" = none) (ha : PA X [e] ta)
    (hN : X.N.Nodup) (hx : PG X (.Name x px) (gName i)) (hj : X.N[j]? = some y) (hk : X.env.kindOf y = some .local) (hb : TurnE X i j y body tb) (h1 : ∀ pins s σ H, Inv X pins σ H s → 1 ≤ s.toks → 1 ≤ s.toks)
    (hst : starEach [e] X.env = [(false, eval e X.env)] := by rfl) (hs : ∀ v, foldedSetIterable (.Call (.Name "enumerate" p) [e] [] cpos) X.env v = pure v := by intro _; rfl)
    (hn : (assignEach [.Name x px, .Name y py] X.env).map (·.2) = [assign (.Name x px) X.env, assign (.Name y py) X.env] := by rfl) (hl : (assignEach [.Name x px, .Name y py] X.env).length = 2 := by rfl) (hf : (assignEach [.Name x px, .Name y py] X.env).findIdx? (·.1) = none := by rfl) :
    PST X (.For (.Tuple [.Name x px, .Name y py] kk tpos) (.Call (.Name "enumerate" p) [e] [] cpos) body [] fpos) (tForE ta i j tb) := by
  intro pins s σ H D h0 I h
  have first : wpAny (model X.prog X.w) X.A (eval (.Call (.Name "enumerate" p) [e] [] cpos) X.env) (fun v s1 => ∃ (z : Str) (t : Tok) (H1 : Hp) (a b : Addr) (T : String), v = .ref a ∧ T = strIterType z ∧ (T = "str_ascii_iterator" ∨ T = "str_iterator") ∧ a ≠ b ∧ IsEnum s1.heap a b ((0 : Nat) : Int) .none ∧ s1.heap.IsStrIter b T z t 0 ∧ Inv X pins σ H1 s1 ∧
      FpOk X pins H1 a ∧ FpOk X pins H1 b ∧ ∃ Pv : Nat → St → Hp → Prop, Pv 0 σ H1 ∧ (∀ k c σ H, z.cps[k]? = some c → Pv k σ H → tb k c { D with nx := Pv (k + 1), ct := Pv (k + 1), bk := D.nx } ((σ.set i (some (.int (k : Int)))).set j (some (.str ⟨#[c]⟩))) H) ∧ ∀ σ H, Pv z.cps.size σ H → D.nx σ H) X.xe s := by
    refine Call_ (ld_blt I hg hm boot_enumerate (PyProof.Rows.callWith_type1 (thn (ha.run cpos pins s σ H _ I h) fun us s1 hh => ?_) hst rfl))
    obtain ⟨vs, H1, I1, r1, z, rfl, Pv, p0, step, fin⟩ := hh
    cases r1 with
    | cons r rr =>
      cases rr
      obtain ⟨t, rfl⟩ := r
      refine enum1_begins (begins_text z t) trivial fun h' he hit keep => ?_
      have J : Inv X pins σ H1 { s1 with heap := h' } := I1.kept (t' := s1.toks) keep
      refine ⟨z, t, H1, _, _, strIterType z, rfl, rfl, ?_, Nat.succ_ne_self _, he, ⟨_, hit, rfl, rfl⟩, J, I1.fpOk (Nat.le_succ _) (I1.hok.fresh (Nat.le_succ _)), I1.fpOk (Nat.le_refl _) (I1.hok.fresh (Nat.le_refl _)), Pv, p0, step, fin⟩
      unfold strIterType
      split
      · exact .inl rfl
      · exact .inr rfl
  refine wpAny_For (thn (PySem.wpAny_toks first |> fun q => wpAny_mono q (fun _ _ x => x) fun _ _ x => x.2) fun v s1 hh => ?_) hs
  obtain ⟨k1, z, tz, H1, a, b, T, rfl, eT, hT, ab, en1, st1, I1, fa, fb, Pv, p0, step, fin⟩ := hh
  have one1 : 1 ≤ s1.toks := Nat.le_trans h0 k1
  refine wpAny_pyIter_enum en1 ?_
  refine codeAny_forLoop_any (fun n s' => ∃ k σ' H', n = z.cps.size - k ∧ k ≤ z.cps.size ∧ 1 ≤ s'.toks ∧ Inv X pins σ' H' s' ∧ (∃ old, IsEnum s'.heap a b ((k : Nat) : Int) old) ∧ s'.heap.IsStrIter b T z tz k ∧ H' a = none ∧ H' b = none ∧ Pv k σ' H') ?_ _
    ⟨0, σ, H1, rfl, Nat.zero_le _, one1, I1, ⟨_, en1⟩, st1, fa.1, fb.1, p0⟩
  rintro n s3 ⟨k, σ3, H3, rfl, hk3, o3, I3, ⟨old, en3⟩, st3, na3, nb3, p3⟩
  have fa3 : FpOk X pins H3 a := ⟨na3, fa.2⟩
  have fb3 : FpOk X pins H3 b := ⟨nb3, fb.2⟩
  have fab : ∀ c ∈ [a, b], FpOk X pins H3 c := fun c hcm => by
    have q : c = a ∨ c = b := by simpa using hcm
    rcases q with rfl | rfl
    · exact fa3
    · exact fb3
  rcases Nat.lt_or_ge k z.cps.size with hlt | hge
  · have hcx : z.cps[k]? = some z.cps[k] := by simp [hlt]
    have al : a < s3.heap.objs.size := Heap.lt_size en3
    refine enum_next hT en3 st3 hcx ab fun g eo st4 tup sz keep => ?_
    refine wpAny_passesOwn hp (wpAny_letOwnedTupleGo_enum (s := { s3 with heap := g, toks := s3.toks + 2 }) eo fun g' en4 sb => ?_)
    have tup' : g'.get? s3.heap.objs.size = some { cls := .type "tuple", data := .seq #[.int (k : Nat) (s3.toks + 1), .str ⟨#[z.cps[k]]⟩ s3.toks] } := (sb.2 _ (Nat.ne_of_gt al)).trans tup
    have I4 : Inv X pins σ3 H3 { s3 with heap := g', toks := s3.toks + 2 } := I3.turnedL (ch := [a, b]) (fun c o hcm q => by
      have nc : c ≠ a ∧ c ≠ b := by simpa using hcm
      exact (sb.2 c nc.1).trans (keep c o nc.1 nc.2 q)) fab
    have st5 : g'.IsStrIter b T z tz (k + 1) := by
      obtain ⟨o, e1, r⟩ := st4
      exact ⟨o, (sb.2 b ab.symm).trans e1, r⟩
    have en5 : IsEnum g' a b (((k + 1 : Nat)) : Int) (.str ⟨#[z.cps[k]]⟩ s3.toks) := by
      have c : ((k + 1 : Nat) : Int) = (k : Int) + 1 := by omega
      rw [c]
      exact en4
    obtain ⟨ob, eb, cb, db⟩ := _root_.id st5
    have I5 := I4.pinned (fp := [a, b]) fab (fun c hcm => by
      have q : c = a ∨ c = b := by simpa using hcm
      rcases q with rfl | rfl
      · exact ⟨_, en5, fun v q => nomatch q⟩
      · exact ⟨ob, eb, fun v q => by rw [db] at q; cases q⟩)
    refine wpAny_passesOwn hp (assign_Tuple_tuple (s := { s3 with heap := g', toks := s3.toks + 2 }) (I3.ok.hd hc) ⟨_, tup', rfl, _, rfl⟩ hl hf fun g2 eb2 => ?_)
    rw [hn]
    have I6 : Inv X (pins ++ pinsAt [a, b] g') σ3 H3 { s3 with heap := g2, toks := s3.toks + 2 } := I5.kept (t' := s3.toks + 2) fun c o e1 => eb2 c o (Nat.ne_of_lt (Heap.lt_size e1)) e1
    refine assignInOrder_cons (thn (PySem.wpAny_toks (hx.run _ _ σ3 H3 (.int (k : Int)) _ (fun σ' H' => σ' = σ3.set i (some (.int (k : Int))) ∧ H' = H3) I6 ⟨_, rfl⟩ ⟨rfl, rfl⟩) |> fun q => wpAny_mono q (fun _ _ x => x) fun _ _ x => x.2) fun _ s7 hh => ?_)
    obtain ⟨k7, σ7, H7, I7, e7, e8⟩ := hh
    rw [e7, e8] at I7
    refine assignInOrder_cons (wpAny_assign_Name (raw_set (v := .str ⟨#[z.cps[k]]⟩) I7 hN hj hk ⟨_, rfl⟩ fun s8 I8 R8 t8 => assignInOrder_nil ?_))
    have k7 : s3.toks + 2 ≤ s7.toks := k7
    have t8 : s8.toks = s7.toks + 1 := t8
    have lt8 : s3.toks < s8.toks := by omega
    refine wpAny_passesOwn hp (thn (PySem.wpAny_toks (hb _ s8 σ3 H3 _ k _ s3.toks I8 R8 o3 lt8 (step k _ σ3 H3 hcx p3)) |> fun q => wpAny_mono q (fun _ _ x => x) fun _ _ x => x.2) fun f s9 q9 => ?_)
    obtain ⟨k9, q9⟩ := q9
    have again : ∀ {σ9 : St} {H9 : Hp}, Inv X (pins ++ pinsAt [a, b] g') σ9 H9 s9 → Pv (k + 1) σ9 H9 → ∃ m, m < z.cps.size - k ∧ ∃ k σ' H', m = z.cps.size - k ∧ k ≤ z.cps.size ∧ 1 ≤ s9.toks ∧ Inv X pins σ' H' s9 ∧ (∃ old, IsEnum s9.heap a b ((k : Nat) : Int) old) ∧ s9.heap.IsStrIter b T z tz k ∧ H' a = none ∧ H' b = none ∧ Pv k σ' H' := fun {σ9 H9} I9 p9 => by
      obtain ⟨ea, na, _⟩ := I9.pin (a, _) (List.mem_append_right _ (List.mem_append_right _ (mem_pinsAt (List.mem_cons_self ..) en5)))
      obtain ⟨eb', nb, _⟩ := I9.pin (b, ob) (List.mem_append_right _ (List.mem_append_right _ (mem_pinsAt (List.mem_cons_of_mem _ (List.mem_cons_self ..)) eb)))
      exact ⟨z.cps.size - (k + 1), by omega, k + 1, σ9, H9, rfl, hlt, by omega, I9.unpinned, ⟨_, ea⟩, ⟨ob, eb', cb, db⟩, na, nb, p9⟩
    cases f with
    | next => obtain ⟨σ9, H9, I9, p9⟩ := q9; exact again I9 p9
    | cont => obtain ⟨σ9, H9, I9, p9⟩ := q9; exact again I9 p9
    | brk => obtain ⟨σ9, H9, I9, p9⟩ := q9; exact ⟨σ9, H9, I9.unpinned, p9⟩
    | ret v => obtain ⟨x9, σ9, H9, I9, r9, p9⟩ := q9; exact ⟨x9, σ9, H9, I9.unpinned, r9, p9⟩
  · have ek : k = z.cps.size := by omega
    subst ek
    obtain ⟨f0, f1, f2, f3, f4, f5⟩ := fb3
    have Dt := Draws.text (prog := X.prog) (w := X.w) (A := X.A.in1) (show X.A.in1.handled = none from I3.ok.hd hc) b z tz
    subst eT
    refine wpAny_passesOwn hp (wpAny_pyNext_enum_endD Dt en3 st3 fun g eb => ?_)
    have I4 : Inv X pins σ3 H3 { s3 with heap := g } := I3.turned (t' := s3.toks) (fun c o hcm q => eb c o hcm q) f0 f1 f3 f4 f5
    exact wpAny_execs_nil ⟨σ3, H3, I4, fin σ3 H3 p3⟩
end
end L2

/-! o.f[i] = o.f[i].replace(c, "") where the token of c is known -/
namespace L2
open PySem PySem.Spec PyProof.Rows
section
variable {X : Cx} {pins : List (Addr × Obj)} {σ : St} {H : Hp} {s : Shared}
theorem fld_raw {i : Nat} {a C dx : Addr} {fs : List (Str × V)} {x f : Str} {v : V} {p1 pos : Pos} {Q E : Value → Shared → Prop} (I : Inv X pins σ H s) (hN : X.N[i]? = some x) (e : σ[i]? = some (some (.ref a))) (hv : Vis X.env.scope x) (ha : H a = some (.ins C dx fs)) (c : Cls X.K C) (n : NoAttr X.K C f)
    (l : fs.lookup f = some v) (q : ∀ u, RelV v u → Q u { s with toks := s.toks + 1 }) (hb : attributeBase (.Name x p1) f X.env (eval (.Name x p1) X.env) = eval (.Name x p1) X.env) (hd : (x == ("__debug__" : Str)) = false := by decide) (hcd : (x == ("__classdict__" : Str)) = false := by decide) :
    wpAny (model X.prog X.w) X.A (eval (.Attribute (.Name x p1) f pos) X.env) Q E s := by
  refine attr_of hb (var_ld I hN e hv (fun u ru => ?_) hd hcd)
  cases ru
  obtain ⟨mA, O, r, _, _, _⟩ := ins_get I.hok ha
  obtain ⟨u, hu, ru⟩ := RelO.some_of (v := v) (o := mA f) (by rw [← l]; exact r f)
  exact get_map I.kIn O (c.get f) c.hd n hu (handed_of ru) (q u ru)
theorem item_raw {i j : Nat} {a b C dx : Addr} {fs : List (Str × V)} {xs : List V} {x y f : Str} {v : V} {k : Nat} {p1 p2 p3 pos : Pos} {Q E : Value → Shared → Prop} (I : Inv X pins σ H s) (hN : X.N[i]? = some x) (e : σ[i]? = some (some (.ref a))) (hv : Vis X.env.scope x) (ha : H a = some (.ins C dx fs)) (c : Cls X.K C) (n : NoAttr X.K C f)
    (l : fs.lookup f = some (.ref b)) (hM : X.N[j]? = some y) (e2 : σ[j]? = some (some (.int (k : Int)))) (hw : Vis X.env.scope y) (hx : H b = some (.lst xs)) (hk : xs[k]? = some v) (q : ∀ u, RelV v u → Q u { s with toks := s.toks + 1 })
    (hb : attributeBase (.Name x p1) f X.env (eval (.Name x p1) X.env) = eval (.Name x p1) X.env) (hd : (x == ("__debug__" : Str)) = false := by decide) (hcd : (x == ("__classdict__" : Str)) = false := by decide) (hd2 : (y == ("__debug__" : Str)) = false := by decide) (hcd2 : (y == ("__classdict__" : Str)) = false := by decide) :
    wpAny (model X.prog X.w) X.A (eval (.Subscript (.Attribute (.Name x p1) f p2) (.Name y p3) pos) X.env) Q E s := by
  refine Subscript_ (fld_raw I hN e hv ha c n l (fun u ru => ?_) hb hd hcd)
  cases ru
  have J : Inv X pins σ H { s with toks := s.toks + 1 } := I.tok _
  refine var_ld J hM e2 hw (fun u ru => ?_) hd2 hcd2
  obtain ⟨ti, rfl⟩ := ru
  obtain ⟨its, r, pl, hz⟩ := J.list (SqL.of hx)
  obtain ⟨u, hu, ru⟩ := r.get hk
  have lt : k < xs.length := (List.getElem?_eq_some_iff.mp hk).1
  have h63 := line63
  exact item_listR pl.isList (by omega) (by omega) (by simpa using hu) (q u ru) rfl
theorem repl_stmt {i j : Nat} {a b C dx : Addr} {fs : List (Str × V)} {xs : List V} {x y z f : Str} {t : Str} {k c : Nat} {tc : Tok} {D : Ends} {p1 p2 p3 p4 p5 p6 p7 p8 p9 pa pb pc pd : Pos} {jj : Nat} (I : Inv X pins σ H s) (R : Raw X s z (.str ⟨#[c]⟩ tc)) (t1 : 1 ≤ tc) (t2 : tc < s.toks)
    (hN : X.N[i]? = some x) (e : σ[i]? = some (some (.ref a))) (hv : Vis X.env.scope x) (ha : H a = some (.ins C dx fs)) (cl : Cls X.K C) (n : NoAttr X.K C f)
    (l : fs.lookup f = some (.ref b)) (hM : X.N[j]? = some y) (e2 : σ[j]? = some (some (.int (k : Int)))) (hw : Vis X.env.scope y) (hx : H b = some (.lst xs)) (hk : xs[k]? = some (.str t)) (ht : t.length ≤ 1000) (kz : X.env.kindOf z = some .local)
    (q : D.nx σ (upd H b (.lst (xs.set k (.str (Txt.replace t ⟨#[c]⟩ Str.empty))))))
    (hb : attributeBase (.Name x p1) f X.env (eval (.Name x p1) X.env) = eval (.Name x p1) X.env) (hb4 : attributeBase (.Name x p4) f X.env (eval (.Name x p4) X.env) = eval (.Name x p4) X.env)
    (hb2 : attributeBase (.Subscript (.Attribute (.Name x p4) f p5) (.Name y p6) p7) "replace" X.env (eval (.Subscript (.Attribute (.Name x p4) f p5) (.Name y p6) p7) X.env) = eval (.Subscript (.Attribute (.Name x p4) f p5) (.Name y p6) p7) X.env) (hline : (p8.endLine == pb.line) = true)
    (hst : starEach [.Name z p9, .Constant (.str Str.empty) jj pa] X.env = [(false, eval (.Name z p9) X.env), (false, eval (.Constant (.str Str.empty) jj pa) X.env)])
    (hs : swapsWithSole [.Subscript (.Attribute (.Name x p1) f p2) (.Name y p3) pc] (.Call (.Attribute (.Subscript (.Attribute (.Name x p4) f p5) (.Name y p6) p7) "replace" p8) [.Name z p9, .Constant (.str Str.empty) jj pa] [] pb) pd.line X.env = pure false)
    (hw2 : swappedStores [.Subscript (.Attribute (.Name x p1) f p2) (.Name y p3) pc] (.Call (.Attribute (.Subscript (.Attribute (.Name x p4) f p5) (.Name y p6) p7) "replace" p8) [.Name z p9, .Constant (.str Str.empty) jj pa] [] pb) X.env = pure none)
    (hg : PG X (.Subscript (.Attribute (.Name x p1) f p2) (.Name y p3) pc) (gSub (tFld X.K (tVar i) f) (tVar j) rSetL))
    (hd : (x == ("__debug__" : Str)) = false := by decide) (hcd : (x == ("__classdict__" : Str)) = false := by decide) (hd2 : (y == ("__debug__" : Str)) = false := by decide) (hcd2 : (y == ("__classdict__" : Str)) = false := by decide) (hd3 : (z == ("__debug__" : Str)) = false := by decide) :
    wpAny (model X.prog X.w) X.A (exec (.Assign [.Subscript (.Attribute (.Name x p1) f p2) (.Name y p3) pc] (.Call (.Attribute (.Subscript (.Attribute (.Name x p4) f p5) (.Name y p6) p7) "replace" p8) [.Name z p9, .Constant (.str Str.empty) jj pa] [] pb) pd) X.env) (SP X pins D) X.xe s := by
  have lt : k < xs.length := (List.getElem?_eq_some_iff.mp hk).1
  have hix : ixN xs.length (k : Int) = some k := by
    show (if (0 : Int) ≤ (k : Nat) then _ else _) = _
    rw [if_pos (by omega), if_pos (by omega)]
    rfl
  refine wpAny_Assign_stores (PySem.Call_method2 hb2 hst hline (item_raw I hN e hv ha cl n l hM e2 hw hx hk (fun u ru => ?_) hb4 hd hcd hd2 hcd2)) hs hw2
  obtain ⟨tt, rfl⟩ := ru
  refine ⟨"str", _, PySem.F.plainAttrs_str, PySem.F.slot_str_replace, PySem.F.type_str_replace, typeIs_str _ _ _, (fun _ e => nomatch e), Calls.callWith_builtin rfl (Calls.evalArgs_plain (Calls.spliced_cons ?_))⟩
  have R1 : Raw X { s with toks := s.toks + 1 } z (.str ⟨#[c]⟩ tc) := R
  refine raw_ld I.ok.kind kz R1 ?_ hd3
  refine Calls.spliced_cons (Calls.Constant_str (Calls.spliced_nil ?_))
  refine PySem.SC.replace (Nat.ne_of_gt t1) (Nat.succ_ne_zero _) (Nat.ne_of_lt (Nat.lt_succ_of_lt t2)) (by rfl) (by show t.length + (t.length + 1) * 0 ≤ 16777216; omega) fun t' k' => ?_
  exact (hg.run pins _ σ H (.str (Txt.replace t ⟨#[c]⟩ Str.empty)) _ D.nx (I.tok k') ⟨t', rfl⟩ ⟨_, e, a, C, dx, fs, _, rfl, ha, cl, n, l, _, e2, b, xs, _, k, rfl, rfl, hx, hix, q⟩)
end
end L2

namespace Gm
open PySem L2








/-! ### what an instance of Bounds holds -/
structure BS where
  al : List (List Nat)
  le : Nat → Int
  gr : Nat → Int
def bF (a l g : Addr) : List (Str × V) := [("allowed", .ref a), ("least", .ref l), ("greatest", .ref g)]
theorem bf_al (a l g : Addr) : (bF a l g).lookup ("allowed" : Str) = some (.ref a) := by unfold bF; rfl
theorem bf_le (a l g : Addr) : (bF a l g).lookup ("least" : Str) = some (.ref l) := by
  have h1 : (("least" : Str) == "allowed") = false := by decide +kernel
  unfold bF
  rw [List.lookup_cons, h1]; rfl
theorem bf_gr (a l g : Addr) : (bF a l g).lookup ("greatest" : Str) = some (.ref g) := by
  have h1 : (("greatest" : Str) == "allowed") = false := by decide +kernel
  have h2 : (("greatest" : Str) == "least") = false := by decide +kernel
  unfold bF
  rw [List.lookup_cons, h1, List.lookup_cons, h2]; rfl
theorem bf_no (a l g : Addr) {x : Str} (h : (["allowed", "least", "greatest"] : List Str).all (fun y => !(x == y)) = true) : (bF a l g).lookup x = none := by
  simp only [List.all_cons, List.all_nil, Bool.and_true, Bool.and_eq_true, Bool.not_eq_true'] at h
  obtain ⟨h1, h2, h3⟩ := h
  unfold bF
  rw [List.lookup_cons, h1, List.lookup_cons, h2, List.lookup_cons, h3]; rfl
def kvsOf (l : List Nat) (f : Nat → Int) : List (Key × V) := l.map fun c => (Sum.inr (one c), V.int (f c))
def alV (al : List (List Nat)) : List V := al.map fun t => V.str (tx t)
structure BParts where
  dx : Addr
  a : Addr
  l : Addr
  g : Addr
structure BAt (C : Addr) (H : Hp) (p : Addr) (q : BParts) (ls : List Nat) (b : BS) : Prop where
  p : H p = some (.ins C q.dx (bF q.a q.l q.g))
  a : H q.a = some (.lst (alV b.al))
  l : H q.l = some (.dK (kvsOf ls b.le))
  g : H q.g = some (.dK (kvsOf ls b.gr))
  n : q.l ≠ q.g
theorem valV_of {l : List Nat} {f : Nat → Int} {c : Nat} (h : c ∈ l) : valV (kvsOf l f) (Sum.inr (one c)) = some (.int (f c)) := by
  unfold kvsOf
  induction l with
  | nil => cases h
  | cons a l ih =>
    rw [List.map_cons]
    by_cases e : a = c
    · subst e
      exact valV_pos rfl
    · rw [valV_neg (fun z => e (ones_inj (Sum.inr.inj z)))]
      rcases List.mem_cons.mp h with h | h
      · exact absurd h.symm e
      · exact ih h
def setF (f : Nat → Int) (c : Nat) (v : Int) : Nat → Int := fun x => if x = c then v else f x
theorem putK_of {l : List Nat} {f : Nat → Int} {c : Nat} {v : Int} (h : c ∈ l) : putK (kvsOf l f) (Sum.inr (one c)) (.int v) = kvsOf l (setF f c v) := by
  unfold putK
  have e : ((kvsOf l f).any fun kv => decide (kv.1 = (Sum.inr (one c) : Key))) = true := by
    rw [valV_any, valV_of h]; rfl
  rw [if_pos e]
  unfold kvsOf
  rw [List.map_map]
  refine List.map_congr_left fun x _ => ?_
  show (if (Sum.inr (one x) : Key) = Sum.inr (one c) then (Sum.inr (one x), V.int v) else (Sum.inr (one x), V.int (f x))) = (Sum.inr (one x), V.int (setF f c v x))
  unfold setF
  by_cases q : x = c
  · rw [if_pos (by rw [q]), if_pos q]
  · rw [if_neg (fun z => q (ones_inj (Sum.inr.inj z))), if_neg q]
/-- no copy of c -/
def rid (c : Nat) (t : List Nat) : List Nat := t.filter fun x => !decide (x = c)
theorem repl_rid (t : List Nat) (c : Nat) : Txt.replace (tx t) (one c) Str.empty = tx (rid c t) := by
  apply TL.ext_tl
  show (Txt.replace (tx t) (one c) Str.empty).cps.toList = _
  rw [StrLaws.replace_list (by exact Nat.le_refl 1)]
  show StrLaws.replL [c] [] t = rid c t
  unfold rid
  induction t with
  | nil => exact StrLaws.replL_nil
  | cons a t ih =>
    by_cases e : a = c
    · subst e
      rw [StrLaws.replL_hit (by simp) (by simp)]
      simpa using ih
    · rw [StrLaws.replL_miss (by simpa using e), ih]
      simp [e]
def leaveB (b : BS) (k c : Nat) : BS := { b with al := b.al.modify k (rid c) }
def keepB (b : BS) (k c : Nat) : BS := { b with al := b.al.modify k fun t => if c ∈ t then [c] else [] }
def leastB (b : BS) (c : Nat) (v : Int) : BS := { b with le := setF b.le c (if v > b.le c then v else b.le c) }
def mostB (b : BS) (c : Nat) (v : Int) : BS := { b with gr := setF b.gr c (if v < b.gr c then v else b.gr c) }
structure TxBd (K : PySem.W.Frag) (mg : Str → Option Value) (C : Addr) : Prop where
  cl : Cls K C
  nA : NoAttr K C "allowed"
  nL : NoAttr K C "least"
  nG : NoAttr K C "greatest"
  max : mg "max" = none
  min : mg "min" = none
section
variable {P : Program} {w : World} {K : PySem.W.Frag} {mg : Str → Option Value} {base : Heap}
/-! ### leave_out: its letter comes with its token -/
def LeaveRun (P : Program) (w : World) (K : PySem.W.Frag) (mg : Str → Option Value) (base : Heap) (C : Addr) (k : Nat) (f : Addr) : Prop :=
  ∀ (A : Around) (outer : List Env) (s : Shared) (H : Hp) (p : Addr) (q : BParts) (ls : List Nat) (b : BS) (i c : Nat) (ti t : Tok) (Q : VK), Room k A → Env0 P w K mg base A outer s H → 1 ≤ t → t < s.toks → BAt C H p q ls b → i < b.al.length → (∀ x ∈ b.al, x.length ≤ 26) →
    (∀ H', But q.a H H' → BAt C H' p q ls (leaveB b i c) → Q .non H') → codeAny (model P w) A (.call (.ref f) ⟨[.ref p, .int (i : Int) ti, .str (one c) t], []⟩) (CR CX0 outer P w H s Q E0) s
theorem BAt.setA {C : Addr} {H : Hp} {p : Addr} {q : BParts} {ls : List Nat} {b : BS} (x : BAt C H p q ls b) (al : List (List Nat)) : BAt C (upd H q.a (.lst (alV al))) p q ls { b with al := al } :=
  ⟨by rw [upd_ne (ne_of x.p x.a fun z => nomatch z)]; exact x.p, upd_same, by rw [upd_ne (ne_of x.l x.a fun z => nomatch z)]; exact x.l, by rw [upd_ne (ne_of x.g x.a fun z => nomatch z)]; exact x.g, x.n⟩
theorem BAt.same {C : Addr} {H H' : Hp} {p : Addr} {q : BParts} {ls : List Nat} {b : BS} (x : BAt C H p q ls b) (s : Same H H') : BAt C H' p q ls b := ⟨s _ _ x.p, s _ _ x.a, s _ _ x.l, s _ _ x.g, x.n⟩
theorem alV_set (al : List (List Nat)) (i : Nat) (t : List Nat) : (alV al).set i (.str (tx t)) = alV (al.set i t) := by
  unfold alV
  rw [List.map_set]
theorem modify_at {al : List (List Nat)} {i : Nat} {x : List Nat} (f : List Nat → List Nat) (h : al[i]? = some x) : al.modify i f = al.set i (f x) := by
  apply List.ext_getElem?
  intro j
  rw [List.getElem?_modify, List.getElem?_set]
  obtain ⟨hi, e⟩ := List.getElem?_eq_some_iff.mp h
  by_cases q : i = j
  · subst q
    simp [hi, e]
  · simp [q]
abbrev nLv : List Str := ["self", "place", "letter"]
theorem scLv : FnScope nLv ["self", "place", "letter"] (defScope sLeave) := ⟨rfl, rfl, rfl, by decide +kernel, rfl, by decide +kernel, by decide +kernel⟩
theorem leave_run {f C : Addr} {fd : FuncData} (F : Fun K "leave_out" "Bounds.leave_out" sLeave f fd) (T : TxBd K mg C) : LeaveRun P w K mg base C 1 f := by
  obtain ⟨oc, od, kV, doc, pm, an, cdv, ct, osl, rfl, lk, hcd⟩ := F.ex
  intro A outer s H p q ls b i c ti t Q hr e0 t1 t2 bt hi h26 fin
  have S := scLv
  have KX : K.In s.heap := e0.mod.kin.keeps fun b o e => (e0.bs b o e).1
  have lim : s.heap.NoLimit := e0.mod.nolimit.keeps fun b o e => (e0.bs b o e).1
  have kinds : ∀ v ∈ (["self", "place", "letter"] : List Str).zip [Value.ref p, .int (i : Int) ti, .str (one c) t], (defScope sLeave).names.lookup v.1 = some .local ∨ ((defScope sLeave).names.lookup v.1 = some .cell ∧ ((cellsFrom (s.heap.objs.size + 1) (defScope sLeave).names []).lookup v.1).isSome = true) := fun ⟨n, v⟩ hy => by
    rcases S.par n (List.of_mem_zip hy).1 with z | z
    · exact .inl z
    · exact .inr ⟨z, PySem.W.cellsFrom_some _ _ _ (.inl z)⟩
  refine codeAny_call_function hr.depth (KX _ _ lk) rfl S.co S.gen rfl (PySem.W.codeRec_of KX hcd) (BindsTo.of_eq (binds := (["self", "place", "letter"] : List Str).zip [Value.ref p, .int (i : Int) ti, .str (one c) t]) (by rfl) _ _ _ _ ?_)
  refine wpAny_mono (PySem.wpAny_toks (wpAny_newFunctionEnv_cells (Q := fun env s1 => env = PyProof.Rows.envOfC "Bounds.leave_out" (defScope sLeave) s.heap.objs.size f cdv ∧ InCallC s s.heap.objs.size (bindL (PyProof.Rows.envOfC "Bounds.leave_out" (defScope sLeave) s.heap.objs.size f cdv).kindOf ((["self", "place", "letter"] : List Str).zip [Value.ref p, .int (i : Int) ti, .str (one c) t]) fun _ => none)
      (cellsFrom (s.heap.objs.size + 1) (defScope sLeave).names []) (bindC (PyProof.Rows.envOfC "Bounds.leave_out" (defScope sLeave) s.heap.objs.size f cdv).kindOf ((["self", "place", "letter"] : List Str).zip [Value.ref p, .int (i : Int) ti, .str (one c) t]) fun _ => none) s1) S.kind kinds fun env he s1 xx => by subst he; exact ⟨rfl, xx⟩)) (fun env s1 hh => ?_) fun _ _ z => z.2
  obtain ⟨tk1, rfl, xx⟩ := hh
  refine ⟨lim.keeps xx.toInCall.keep, codeAny_func ?_⟩
  have rv : Vals [V.ref p, .int (i : Int), .str (one c)] [Value.ref p, .int (i : Int) ti, .str (one c) t] := .cons rfl (.cons ⟨ti, rfl⟩ (.cons ⟨t, rfl⟩ .nil))
  have I : Inv (cxOf CX0 P w K mg base nLv "Bounds.leave_out" (defScope sLeave) f cdv A outer s H E0) [] (L2.start nLv [.ref p, .int (i : Int), .str (one c)]) H s1 := inv_start S hr.hd e0 rfl rv xx
  have hn := xx.toInCall.ns
  have nd3 : (["self", "place", "letter"] : List Str).Nodup := by decide +kernel
  have m2 := bindL_get (kindOf := (PyProof.Rows.envOfC "Bounds.leave_out" (defScope sLeave) s.heap.objs.size f cdv).kindOf) (x := "letter") (v := Value.str (one c) t) (P := ["self", "place", "letter"]) (vs := [.ref p, .int (i : Int) ti, .str (one c) t]) (i := 2) (m := fun _ => none) nd3 rfl rfl rfl
  have k2 : (PyProof.Rows.envOfC "Bounds.leave_out" (defScope sLeave) s.heap.objs.size f cdv).kindOf "letter" = some .local := by rfl
  have nd := scLv.nd
  obtain ⟨x, hx, _⟩ := drop_nth hi
  have hxa : (alV b.al)[i]? = some (.str (tx x)) := by unfold alV; rw [List.getElem?_map, hx]; rfl
  have fin' : Q .non (upd H q.a (.lst ((alV b.al).set i (.str (Txt.replace (tx x) ⟨#[c]⟩ Str.empty))))) := by
    rw [repl_rid, alV_set, ← modify_at (rid c) hx]
    exact fin _ But.upd (bt.setA _)
  have x26 : (tx x).length ≤ 1000 := by
    rw [tx_len]
    have := h26 x (List.mem_of_getElem? hx)
    omega
  refine wpAny_execs_cons (wpAny_mono (repl_stmt (i := 0) (j := 1) (c := c) (tc := t) (D := { nx := fun _ H' => Q .non H', rt := Q }) I ⟨_, hn, m2⟩ t1 (Nat.lt_of_lt_of_le t2 tk1) rfl rfl (Or.inl rfl) bt.p T.cl T.nA (bf_al q.a q.l q.g) rfl rfl (Or.inl rfl) bt.a hxa x26 k2 fin'
    rfl rfl rfl (by rfl) rfl (by rfl) (by rfl) (pg_sub (pe_fld (pv 0) rfl) (pv 1) set_list)) (fun fl s2 hh => ?_) fun _ _ z => z)
  cases fl with
  | next =>
    obtain ⟨σ', H', J, z⟩ := hh
    exact wpAny_execs_nil ⟨.non, H', J.os, J.bare, J.base, J.hok, rfl, z⟩
  | ret u =>
    obtain ⟨v, σ', H', J, rv', z⟩ := hh
    exact ⟨v, H', J.os, J.bare, J.base, J.hok, rv', z⟩
  | brk =>
    obtain ⟨_, _, _, z⟩ := hh
    exact z.elim
  | cont =>
    obtain ⟨_, _, _, z⟩ := hh
    exact z.elim
end
section
variable {X : Cx} {pins : List (Addr × Obj)} {σ : L2.St} {H : Hp} {s : Shared}
theorem leave_call {k f p C : Addr} {q : BParts} {ls : List Nat} {b : BS} {i0 i1 i c : Nat} {x y z : Str} {tc : Tok} {D : Ends} {p1 p2 p3 p4 p5 p6 : Pos} {pl : Sem Bool} (I : Inv X pins σ H s) (R : L2.Raw X s z (.str (one c) tc)) (t1 : 1 ≤ tc) (t2 : tc < s.toks)
    (hN : X.N[i0]? = some x) (e : σ[i0]? = some (some (.ref p))) (hv : Vis X.env.scope x) (hM : X.N[i1]? = some y) (e2 : σ[i1]? = some (some (.int (i : Int)))) (hw : Vis X.env.scope y) (kz : X.env.kindOf z = some .local)
    (bt : BAt C H p q ls b) (hi : i < b.al.length) (h26 : ∀ x ∈ b.al, x.length ≤ 26) (cl : Cls X.K C) (hm : Meth X.K C "leave_out" f) (L : LeaveRun X.prog X.w X.K X.mg X.base C k f) (hr : Room k X.A) (fin : ∀ H', But q.a H H' → BAt C H' p q ls (leaveB b i c) → D.nx σ H')
    (hs : swapsWith (.Call (.Attribute (.Name x p1) "leave_out" p2) [.Name y p3, .Name z p4] [] p5) none p6.line X.env = pure false)
    (hst : starEach [.Name y p3, .Name z p4] X.env = (false, eval (.Name y p3) X.env) :: starEach [.Name z p4] X.env) (hst2 : starEach [.Name z p4] X.env = [(false, eval (.Name z p4) X.env)]) (hpl : (backTo p5 (starEach [.Name z p4] X.env)).any (·.1) = false)
    (ht : eval (.Call (.Attribute (.Name x p1) "leave_out" p2) [.Name y p3, .Name z p4] [] p5) X.env = (do
      let ov ← eval (.Name x p1) X.env
      standAt p2.atName
      let (f, first) ← holding [ov] (getMethod ov "leave_out" pl)
      callWith p5 f first (backTo p5 (starEach [.Name y p3, .Name z p4] X.env)) (backToKw p5 (keywordEach [] X.env))))
    (hd : (x == ("__debug__" : Str)) = false := by decide) (hcd : (x == ("__classdict__" : Str)) = false := by decide) (hd2 : (y == ("__debug__" : Str)) = false := by decide) (hcd2 : (y == ("__classdict__" : Str)) = false := by decide) (hd3 : (z == ("__debug__" : Str)) = false := by decide) :
    wpAny (model X.prog X.w) X.A (exec (.Expr (.Call (.Attribute (.Name x p1) "leave_out" p2) [.Name y p3, .Name z p4] [] p5) p6) X.env) (SP X pins D) X.xe s := by
  refine wpAny_Expr_any ?_ I.quiet hs
  refine PySem.W.methodCall_KW (pl := pl) (L2.var_ld I hN e hv (fun u ru => ?_) hd hcd) ht
  cases ru
  refine getmeth_ok I bt.p cl hm (bf_no q.a q.l q.g (by decide +kernel)) ?_
  refine PySem.W.callWith_K (first := [.ref p]) (h₀ := X.base) I.ok.mod.kin hm.kp ?_ hst hpl
  rw [hst, hst2]
  show wpAny _ _ (spliced ((false, eval (.Name y p3) X.env) :: (false, eval (.Name z p4) X.env) :: [])) _ _ _
  refine Calls.spliced_cons (L2.var_ld I hM e2 hw (fun u ru => ?_) hd2 hcd2)
  obtain ⟨ti, rfl⟩ := ru
  refine Calls.spliced_cons (L2.raw_ld I.ok.kind kz R (Calls.spliced_nil ⟨I.kIn, ?_⟩) hd3)
  refine wpAny_call (codeAny_mono (L X.A X.stack s H p q ls b i c ti tc (fun _ H' => D.nx σ H') hr I.env0 t1 t2 bt hi h26 fin) fun r s' hq => ?_)
  cases r with
  | error e => exact hq.elim
  | ok fl =>
    cases fl with
    | ret u =>
      obtain ⟨v, H', I', rv, z⟩ := I.after hq
      exact ⟨σ, H', I', z⟩
    | next => exact hq.elim
    | brk => exact hq.elim
    | cont => exact hq.elim
/-- what is left to ask of a turn: the place k, the letter c -/
def tbRow (C : Addr) (k c : Nat) : TS := fun D σ H => ∃ (p : Addr) (q : BParts) (ls t : List Nat) (b : BS) (m : Nat), σ[0]? = some (some (.ref p)) ∧ σ[2]? = some (some (.str (tx t))) ∧ σ[3]? = some (some (.int (k : Int))) ∧ σ[4]? = some (some (.str (one c))) ∧ BAt C H p q ls b ∧ k < b.al.length ∧ (∀ x ∈ b.al, x.length ≤ 26) ∧ t[k]? = some m ∧ t.length ≤ 1000 ∧
  ∀ H', But q.a H H' → BAt C H' p q ls (if m = 50 then keepB b k c else leaveB b k c) → D.nx σ H'
def spKeep (C : Addr) : Sp := fun vs H Q _ => ∃ (p : Addr) (q : BParts) (ls : List Nat) (b : BS) (i c : Nat), vs = [.ref p, .int (i : Int), .str (one c)] ∧ BAt C H p q ls b ∧ i < b.al.length ∧ ∀ H', But q.a H H' → BAt C H' p q ls (keepB b i c) → Q .non H'
def spAskL (C : Addr) : Sp := fun vs H Q _ => ∃ (p : Addr) (q : BParts) (ls : List Nat) (b : BS) (c : Nat) (v : Int), vs = [.ref p, .str (one c), .int v] ∧ BAt C H p q ls b ∧ c ∈ ls ∧ ls.length ≤ 26 ∧ ∀ H', But q.l H H' → BAt C H' p q ls (leastB b c v) → Q .non H'
def spAskM (C : Addr) : Sp := fun vs H Q _ => ∃ (p : Addr) (q : BParts) (ls : List Nat) (b : BS) (c : Nat) (v : Int), vs = [.ref p, .str (one c), .int v] ∧ BAt C H p q ls b ∧ c ∈ ls ∧ ls.length ≤ 26 ∧ ∀ H', But q.g H H' → BAt C H' p q ls (mostB b c v) → Q .non H'
end
section
variable {P : Program} {w : World} {K : PySem.W.Frag} {mg : Str → Option Value} {base : Heap}
theorem BAt.setL {C : Addr} {H : Hp} {p : Addr} {q : BParts} {ls : List Nat} {b : BS} (x : BAt C H p q ls b) (f : Nat → Int) : BAt C (upd H q.l (.dK (kvsOf ls f))) p q ls { b with le := f } :=
  ⟨by rw [upd_ne (ne_of x.p x.l fun z => nomatch z)]; exact x.p, by rw [upd_ne (ne_of x.a x.l fun z => nomatch z)]; exact x.a, upd_same, by rw [upd_ne x.n.symm]; exact x.g, x.n⟩
theorem BAt.setG {C : Addr} {H : Hp} {p : Addr} {q : BParts} {ls : List Nat} {b : BS} (x : BAt C H p q ls b) (f : Nat → Int) : BAt C (upd H q.g (.dK (kvsOf ls f))) p q ls { b with gr := f } :=
  ⟨by rw [upd_ne (ne_of x.p x.g fun z => nomatch z)]; exact x.p, by rw [upd_ne (ne_of x.a x.g fun z => nomatch z)]; exact x.a, by rw [upd_ne x.n]; exact x.l, upd_same, x.n⟩
theorem kvs_len (ls : List Nat) (f : Nat → Int) : (kvsOf ls f).length = ls.length := List.length_map ..
theorem scKp : FnScope nLv ["self", "place", "letter"] (defScope sKeep) := ⟨rfl, rfl, rfl, by decide +kernel, rfl, by decide +kernel, by decide +kernel⟩
theorem ok_keep {f C : Addr} {fd : FuncData} (F : Fun K "keep_only" "Bounds.keep_only" sKeep f fd) (T : TxBd K mg C) : FnOk P w K mg base CX0 1 f fd ["self", "place", "letter"] (spKeep C) := by
  refine F.ok scKp (fun vs H Q E h => ?_) (fun cdv A outer s H vs Q E hr h => ?_)
  · obtain ⟨p, q, ls, b, i, c, rfl, _⟩ := h
    rfl
  · obtain ⟨p, q, ls, b, i, c, rfl, bt, hi, fin⟩ := h
    have nd := scKp.nd
    refine ⟨_, pss_one (ps_asg (pe_ifExp (pt_cmpR op_in_sign (pv 2) (pe_ix ix_list (pe_fld (pv 0) rfl) (pv 1) (fun _ _ => rfl)) rfl) (pv 2) pe_str) (pg_sub (pe_fld (pv 0) rfl) (pv 1) set_list)), ?_⟩
    obtain ⟨x, hx, _⟩ := drop_nth hi
    have hxa : (alV b.al)[i]? = some (.str (tx x)) := by unfold alV; rw [List.getElem?_map, hx]; rfl
    have hl : (alV b.al).length = b.al.length := List.length_map ..
    refine ⟨_, rfl, _, rfl, p, C, q.dx, _, _, rfl, bt.p, T.cl, T.nA, bf_al q.a q.l q.g, _, rfl, q.a, _, _, _, rfl, rfl, SqL.of bt.a, atI_nat hxa, c, tx x, rfl, rfl, _, rfl, ?_⟩
    have ei : decide (c ∈ (tx x).cps.toList) = decide (c ∈ x) := by simp
    rw [ei]
    have put : ∀ t : List Nat, (if c ∈ x then [c] else []) = t → gSub (tFld K (tVar 0) "allowed") (tVar 1) rSetL (.str (tx t)) [some (.ref p), some (.int (i : Int)), some (.str (one c))] H (fun _ H' => Q .non H') := fun t ht => by
      refine ⟨_, rfl, p, C, q.dx, _, _, rfl, bt.p, T.cl, T.nA, bf_al q.a q.l q.g, _, rfl, q.a, _, _, i, rfl, rfl, bt.a, ?_, ?_⟩
      · rw [hl]
        show (if (0 : Int) ≤ (i : Nat) then _ else _) = _
        rw [if_pos (by omega), if_pos (by omega)]
        rfl
      · rw [alV_set, ← ht, ← modify_at (fun t => if c ∈ t then [c] else []) hx]
        exact fin _ But.upd (bt.setA _)
    refine ite2 (fun h => ?_) (fun h => ?_)
    · exact ⟨_, rfl, put [c] (if_pos (of_decide_eq_true h))⟩
    · exact put [] (if_neg fun z => h (decide_eq_true z))
abbrev nAk : List Str := ["self", "letter", "many"]
theorem scAkL : FnScope nAk ["self", "letter", "many"] (defScope sAskL) := ⟨rfl, rfl, rfl, by decide +kernel, rfl, by decide +kernel, by decide +kernel⟩
theorem scAkM : FnScope nAk ["self", "letter", "many"] (defScope sAskM) := ⟨rfl, rfl, rfl, by decide +kernel, rfl, by decide +kernel, by decide +kernel⟩
theorem ok_askL {f C : Addr} {fd : FuncData} (F : Fun K "ask_least" "Bounds.ask_least" sAskL f fd) (T : TxBd K mg C) : FnOk P w K mg base CX0 1 f fd ["self", "letter", "many"] (spAskL C) := by
  refine F.ok scAkL (fun vs H Q E h => ?_) (fun cdv A outer s H vs Q E hr h => ?_)
  · obtain ⟨p, q, ls, b, c, v, rfl, _⟩ := h
    rfl
  · obtain ⟨p, q, ls, b, c, v, rfl, bt, hc, l26, fin⟩ := h
    have nd := scAkL.nd
    have hline : sizeLine = 16777216 := sizeLine_eq
    have hu1 : (A.deeper (PyProof.Rows.envOfC "Bounds.ask_least" (defScope sAskL) s.heap.objs.size f cdv)).units + 1 < cLine := by
      have := hr.un
      omega
    refine ⟨_, pss_one (ps_dput hu1 (pe_fld (pv 0) rfl) (pv 1) (pe_callB (call_max2 rfl) (by rfl) T.max (by decide +kernel) (pa_cons (pe_dget hu1 (pe_fld (pv 0) rfl) (pv 1) (fun _ _ => rfl)) (pa_cons (pv 2) pa_nil))) (by rfl)), ?_⟩
    have g0 := DGet.k (k := Sum.inr (one c)) bt.l
    rw [valV_of hc] at g0
    refine ⟨_, rfl, p, C, q.dx, _, _, rfl, bt.p, T.cl, T.nL, bf_le q.a q.l q.g, _, rfl, q.l, _, rfl, g0, _, rfl, _, _, rfl, ?_⟩
    have p0 := DPut.k (k := Sum.inr (one c)) (v := .int (if v > b.le c then v else b.le c)) bt.l (by rw [kvs_len]; omega)
    rw [putK_of hc] at p0
    exact ⟨_, rfl, p, C, q.dx, _, _, rfl, bt.p, T.cl, T.nL, bf_le q.a q.l q.g, _, rfl, q.l, _, rfl, p0, fin _ But.upd (bt.setL _)⟩
theorem ok_askM {f C : Addr} {fd : FuncData} (F : Fun K "ask_most" "Bounds.ask_most" sAskM f fd) (T : TxBd K mg C) : FnOk P w K mg base CX0 1 f fd ["self", "letter", "many"] (spAskM C) := by
  refine F.ok scAkM (fun vs H Q E h => ?_) (fun cdv A outer s H vs Q E hr h => ?_)
  · obtain ⟨p, q, ls, b, c, v, rfl, _⟩ := h
    rfl
  · obtain ⟨p, q, ls, b, c, v, rfl, bt, hc, l26, fin⟩ := h
    have nd := scAkM.nd
    have hline : sizeLine = 16777216 := sizeLine_eq
    have hu1 : (A.deeper (PyProof.Rows.envOfC "Bounds.ask_most" (defScope sAskM) s.heap.objs.size f cdv)).units + 1 < cLine := by
      have := hr.un
      omega
    refine ⟨_, pss_one (ps_dput hu1 (pe_fld (pv 0) rfl) (pv 1) (pe_callB (call_min2 rfl) (by rfl) T.min (by decide +kernel) (pa_cons (pe_dget hu1 (pe_fld (pv 0) rfl) (pv 1) (fun _ _ => rfl)) (pa_cons (pv 2) pa_nil))) (by rfl)), ?_⟩
    have g0 := DGet.k (k := Sum.inr (one c)) bt.g
    rw [valV_of hc] at g0
    refine ⟨_, rfl, p, C, q.dx, _, _, rfl, bt.p, T.cl, T.nG, bf_gr q.a q.l q.g, _, rfl, q.g, _, rfl, g0, _, rfl, _, _, rfl, ?_⟩
    have p0 := DPut.k (k := Sum.inr (one c)) (v := .int (if v < b.gr c then v else b.gr c)) bt.g (by rw [kvs_len]; omega)
    rw [putK_of hc] at p0
    exact ⟨_, rfl, p, C, q.dx, _, _, rfl, bt.p, T.cl, T.nG, bf_gr q.a q.l q.g, _, rfl, q.g, _, rfl, p0, fin _ But.upd (bt.setG _)⟩
/-! ### marks of one letter -/
def mgv (g t : List Nat) (c : Nat) : List Nat := ((g.zip t).filter fun p => decide (p.1 = c)).map (·.2)
theorem mgv_le (g t : List Nat) (c : Nat) : (mgv g t c).length ≤ g.length := by
  unfold mgv
  rw [List.length_map]
  refine Nat.le_trans (List.length_filter_le _ _) ?_
  rw [List.length_zip]
  omega
def spGiven : Sp := fun vs H Q _ => ∃ (g t : List Nat) (c : Nat), vs = [.str (tx g), .str (tx t), .str (one c)] ∧ g.length = t.length ∧ g.length ≤ 6 ∧ ∀ H', Same H H' → Q (.str (tx (mgv g t c))) H'
abbrev nGv : List Str := ["guess", "told", "letter", "guessed", "mark"]
theorem scGv : FnScope nGv ["guess", "told", "letter"] (defScope sGiven) := ⟨rfl, rfl, rfl, by decide +kernel, rfl, by decide +kernel, by decide +kernel⟩
theorem ok_given {f : Addr} {fd : FuncData} (F : Fun K "marks_given" "marks_given" sGiven f fd) (zip : mg "zip" = none) : FnOk P w K mg base CX0 1 f fd ["guess", "told", "letter"] spGiven := by
  refine F.ok scGv (fun vs H Q E h => ?_) (fun cdv A outer s H vs Q E hr h => ?_)
  · obtain ⟨g, t, c, rfl, _⟩ := h
    rfl
  · obtain ⟨g, t, l, rfl, hl, h6, q⟩ := h
    have nd := scGv.nd
    have hline : sizeLine = 16777216 := sizeLine_eq
    refine ⟨_, pss_one (ps_ret (pe_join pe_str (pe_lc (own := [("guessed", 3), ("mark", 4)]) (g := gTup K 2 (gCons (gName 3) (gCons (gName 4) gNil))) (by rfl) nd
        (pi_zips (by rfl) zip (pa_cons (pv 0) (pa_cons (pv 1) pa_nil))) (blkOk_by (own := [("guessed", 3), ("mark", 4)]) (N := nGv) (sc := defScope sGiven) (by decide +kernel))
        (fun _ _ _ _ _ => by exact pg_tup (by rfl) (pgs_cons (pg_name (i := 3) nd rfl (Or.inl rfl)) (pgs_cons (pg_name (i := 4) nd rfl (Or.inl rfl)) pgs_nil)))
        (fun _ _ _ _ _ => pts_one (pt_cmpR op_eq (pv 3) (pv 2) (nomark _))) (fun _ _ _ _ _ => pv 4)))), ?_⟩
    have sz : (tx g).cps.size = (tx t).cps.size := by rw [tx_size, tx_size, hl]
    refine ⟨⟨_, rfl⟩, _, rfl, _, rfl, tx g, tx t, rfl, sz, fun D hD => ?_⟩
    refine lc_it (walk_zips sz) (fun i H' => Same H H' ∧ H' D = some (.lst (((((g.zip t).take i).filter fun p => decide (p.1 = l)).map (·.2)).map fun c => V.str (one c)))) ⟨same_upd hD, upd_same⟩ (fun _ _ _ _ => trivial) ?_ ?_
    · rintro i x H1 H2 hi ⟨sm, hDi⟩ ⟨T, c, e, rfl, hT, rfl, hx, hy⟩
      have hz := zip_at (tx_at hx) (tx_at hy)
      have nDT : D ≠ T := ne_of_none hDi hT
      have st := take_map_filter (fun p => decide (p.1 = l)) (fun p => p.2) hz
      have hD2 : upd H1 T (.tup [.str (one c), .str (one e)]) D = _ := (upd_ne nDT).trans hDi
      have sm2 : Same H (upd H1 T (.tup [.str (one c), .str (one e)])) := sm.trans (same_upd hT)
      refine ⟨T, _, rfl, SqT.of upd_same, rfl, _, _, rfl, _, _, rfl, rfl, rfl, ?_⟩
      have ei : decide (V.str (one c) = V.str (one l)) = decide (c = l) := decide_eq_decide.mpr ⟨fun q => ones_inj (V.str.inj q), fun q => by rw [q]⟩
      refine ⟨_, rfl, _, rfl, rfl, _, rfl, ?_⟩
      rw [ei]
      refine ite2 (fun hm => ?_) (fun hm => ?_)
      · rw [if_pos hm] at st
        refine ⟨_, rfl, _, hD2, ?_, fun b o q => ?_, ?_⟩
        · have h1 := List.length_filter_le (fun p : Nat × Nat => decide (p.1 = l)) ((g.zip t).take i)
          have h2 : ((g.zip t).take i).length ≤ 6 := by rw [List.length_take, List.length_zip]; omega
          rw [List.length_map, List.length_map]
          omega
        · rw [upd_ne (ne_of_none q hD)]
          exact sm2 b o q
        · rw [upd_same, st, List.map_append]
          rfl
      · rw [if_neg hm, List.append_nil] at st
        exact ⟨sm2, by rw [st]; exact hD2⟩
    rintro H1 ⟨sm, hD1⟩
    rw [tx_size, List.take_of_length_le (by rw [List.length_zip]; omega)] at hD1
    refine ⟨_, D, (mgv g t l).map one, rfl, rfl, .inl (SqL.of (by rw [List.map_map]; exact hD1)), ?_, ?_⟩
    · have h3 := mgv_le g t l
      rw [sum_one, List.length_map]
      show (mgv g t l).length + (mgv g t l).length * 0 ≤ 16777216
      omega
    · show Q (.str (Txt.join (Str.ofString "") ((mgv g t l).map one))) H1
      rw [join_one]
      exact q H1 sm
end
/-! ### no 0 ahead of a 1 -/
def zo : List Nat → Bool
  | a :: b :: r => (decide (a = 48) && decide (b = 49)) || zo (b :: r)
  | _ => false
theorem zo_iff : ∀ l : List Nat, zo l = true ↔ ∃ i, l[i]? = some 48 ∧ l[i + 1]? = some 49
  | [] => by simp [zo]
  | [a] => by
    simp only [zo, Bool.false_eq_true, false_iff]
    rintro ⟨i, _, h⟩
    simp at h
  | a :: b :: r => by
    have ih := zo_iff (b :: r)
    simp only [zo, Bool.or_eq_true, Bool.and_eq_true, decide_eq_true_iff]
    constructor
    · rintro (⟨h1, h2⟩ | h)
      · exact ⟨0, by simp [h1], by simp [h2]⟩
      · obtain ⟨i, h1, h2⟩ := ih.mp h
        exact ⟨i + 1, by simpa using h1, by simpa using h2⟩
    · rintro ⟨i, h1, h2⟩
      cases i with
      | zero => exact .inl ⟨by simpa using h1, by simpa using h2⟩
      | succ i => exact .inr (ih.mpr ⟨i, by simpa using h1, by simpa using h2⟩)
theorem occ_zo (l : List Nat) : (!(Builtin.Str.occurrences (tx l) (Str.ofString "01") 0 (tx l).length 1).isEmpty) = zo l := by
  rw [Bool.eq_iff_iff, StrLaws.found_iff, zo_iff]
  have el : (Str.ofString "01").length = 2 := rfl
  have ec : (Str.ofString "01").cps.toList = [48, 49] := rfl
  constructor
  · rintro ⟨i, h1, h2⟩
    rw [StrLaws.subAt_eq, el, ec] at h2
    have h2 := eq_of_beq h2
    have e : ((tx l).cps.toList.drop i) = l.drop i := by simp
    rw [e] at h2
    refine ⟨i, ?_, ?_⟩
    · have := congrArg (fun z : List Nat => z[0]?) h2
      simpa [List.getElem?_take, List.getElem?_drop] using this
    · have := congrArg (fun z : List Nat => z[1]?) h2
      simpa [List.getElem?_take, List.getElem?_drop] using this
  · rintro ⟨i, h1, h2⟩
    obtain ⟨l1, e1⟩ := List.getElem?_eq_some_iff.mp h1
    obtain ⟨l2, e2⟩ := List.getElem?_eq_some_iff.mp h2
    refine ⟨i, by rw [el, tx_len]; omega, ?_⟩
    rw [StrLaws.subAt_eq, el, ec]
    have e : ((tx l).cps.toList.drop i) = l.drop i := by simp
    rw [e, List.drop_eq_getElem_cons l1, List.drop_eq_getElem_cons l2, e1, e2]
    rfl
def ordOk (g t : List Nat) : Bool := g.all fun c => !zo (rid 50 (mgv g t c))
def tNotInR (a y z : Str) (te : TE) : TE := fun σ H Q => CwR.tReplC te y z σ H fun v H1 => ∃ b, v = .str b ∧ Q (.bl (!(!(Builtin.Str.occurrences b a 0 b.length 1).isEmpty))) H1
section
variable {X : Cx} {e : Expr} {te : TE} {a y z : Str} {j j1 k1 : Nat} {p1 p2 c0 c1 apos pos : Pos}
theorem pe_notinR (he : PE X e te) (hyz : (y == z) = false) (hm : behindInMarks .NotIn (.Call (.Attribute e "replace" apos) [.Constant (.str y) j1 c0, .Constant (.str z) k1 c1] [] pos) = false)
    (hst : starEach [.Constant (.str y) j1 c0, .Constant (.str z) k1 c1] X.env = [(false, eval (.Constant (.str y) j1 c0) X.env), (false, eval (.Constant (.str z) k1 c1) X.env)] := by rfl)
    (hbase : attributeBase e "replace" X.env (eval e X.env) = eval e X.env := by rfl) (hline : (apos.endLine == pos.line) = true := by rfl) :
    PE X (.Compare (.Constant (.str a) j p1) [.NotIn] [.Call (.Attribute e "replace" apos) [.Constant (.str y) j1 c0, .Constant (.str z) k1 c1] [] pos] p2) (tNotInR a y z te) := by
  refine ⟨fun pins s σ H Q I h => ?_⟩
  refine wpAny_Compare1 (Calls.Constant_str ?_) hm
  have J : Inv X pins σ H { s with toks := s.toks + 1 } := I.tok _
  refine thn (CwR.pet_replC he hyz hst hbase hline pins _ σ H _ (Nat.succ_le_succ (Nat.zero_le _)) J h) fun u s2 hh => ?_
  obtain ⟨y', H2, I2, ry, b, rfl, q⟩ := hh
  obtain ⟨t', rfl⟩ := ry
  exact PyProof.Rows.notIn_str (fin_bl I2 q rfl)
end
def spOrd : Sp := fun vs H Q _ => ∃ (g t : List Nat), vs = [.str (tx g), .str (tx t)] ∧ g.length = t.length ∧ g.length ≤ 6 ∧ ∀ H', Same H H' → Q (.bl (ordOk g t)) H'
section
variable {P : Program} {w : World} {K : PySem.W.Frag} {mg : Str → Option Value} {base : Heap}
abbrev nOr : List Str := ["guess", "told", "letter"]
theorem scOr : FnScope nOr ["guess", "told"] (defScope sOrd) := ⟨rfl, rfl, rfl, by decide +kernel, rfl, by decide +kernel, by decide +kernel⟩
theorem ok_ord {f fG : Addr} {fd fdG : FuncData} (F : Fun K "is_in_order" "is_in_order" sOrd f fd) (all : mg "all" = none) (GG : FnOk P w K mg base CX0 1 fG fdG ["guess", "told", "letter"] spGiven) (DG : Df K mg "marks_given" fG fdG ["guess", "told", "letter"]) : FnOk P w K mg base CX0 2 f fd ["guess", "told"] spOrd := by
  refine F.ok scOr (fun vs H Q E h => ?_) (fun cdv A outer s H vs Q E hr h => ?_)
  · obtain ⟨g, t, rfl, _⟩ := h
    rfl
  · obtain ⟨g, t, rfl, hl, h6, q⟩ := h
    have nd := scOr.nd
    have hline : sizeLine = 16777216 := sizeLine_eq
    refine ⟨_, pss_one (ps_ret (pe_callB (cr_all rfl) (by rfl) all (by decide +kernel) (pa_cons (pe_lc (own := [("letter", 2)]) (g := gName 2) (by rfl) nd (pi_str (pv 0)) (blkOk_by (own := [("letter", 2)]) (N := nOr) (sc := defScope sOrd) (by decide +kernel))
        (fun _ _ _ _ _ => pg_name (i := 2) nd rfl (Or.inl rfl)) (fun _ _ _ _ _ => pts_nil) (fun _ _ _ _ _ => pe_notinR (pe_call GG hr (by rfl) DG.mg DG.kp DG.b .nil pass0 (pa_cons (pv 0) (pa_cons (pv 1) (pa_cons (pv 2) pa_nil)))) (by decide +kernel) rfl)) pa_nil))), ?_⟩
    refine ⟨_, rfl, tx g, rfl, fun D hD => ?_⟩
    refine lc_it (walk_str (z := tx g)) (fun i H' => Same H H' ∧ H' D = some (.lst (((g.take i).map fun c => !zo (rid 50 (mgv g t c))).map V.bl))) ⟨same_upd hD, upd_same⟩ (fun _ _ _ _ => trivial) ?_ ?_
    · rintro i x H2 H1 hi ⟨sm, hD1⟩ ⟨rfl, c, hc, rfl⟩
      have hc' := tx_at hc
      have hlt := (List.getElem?_eq_some_iff.mp hc').1
      refine ⟨rfl, _, rfl, _, rfl, _, rfl, g, t, c, rfl, hl, h6, fun H3 s3 => ?_⟩
      refine ⟨_, rfl, ?_, _, rfl, _, s3 _ _ hD1, ?_, fun b o e => ?_, ?_⟩
      · rw [tx_len]
        have := mgv_le g t c
        show (mgv g t c).length + ((mgv g t c).length + 1) * 0 ≤ 16777216
        omega
      · rw [List.length_map, List.length_map, List.length_take]
        omega
      · rw [upd_ne (ne_of_none e hD)]
        exact (sm.trans s3) b o e
      · rw [upd_same]
        have er : Txt.replace (tx (mgv g t c)) (Str.ofString "2") (Str.ofString "") = tx (rid 50 (mgv g t c)) := repl_rid _ 50
        rw [er, occ_zo, List.take_succ_eq_append_getElem hlt, (List.getElem?_eq_some_iff.mp hc').2, List.map_append, List.map_append]
        rfl
    · rintro H1 ⟨sm, hD1⟩
      rw [tx_size, List.take_length] at hD1
      refine ⟨D, _, rfl, SqL.of hD1, ?_⟩
      have ea : ((g.map fun c => !zo (rid 50 (mgv g t c))).all id) = ordOk g t := by
        unfold ordOk
        rw [List.all_map]
        rfl
      rw [ea]
      exact q H1 sm
abbrev nTR : List Str := ["self", "guess", "told", "place", "letter", "given", "found"]
theorem scTR : FnScope nTR ["self", "guess", "told"] (defScope sTakeR) := ⟨rfl, rfl, rfl, by decide +kernel, rfl, by decide +kernel, by decide +kernel⟩
open PyProof.Rows in
theorem sign_at {prog : Program} {w' : World} {A : Around} {E : Value → Shared → Prop} {s : Shared} {z : List Nat} {k m : Nat} {tz ti : Tok} {value slice : Expr} {Q : Value → Shared → Prop} (hk : z[k]? = some m) (hz : z.length ≤ 1000) (q : Q (.str (one m) s.toks) { s with toks := s.toks + 1 })
    (hs : subscripted slice false (.str (tx z) tz) (.int (k : Int) ti) = operate [.str (tx z) tz, .int (k : Int) ti] (getItem (.str (tx z) tz) (.int (k : Int) ti))) : wpAny (model prog w') A (subscriptTail value slice (.str (tx z) tz) (.int (k : Int) ti)) Q E s := by
  have lt : k < z.length := (List.getElem?_eq_some_iff.mp hk).1
  refine PyProof.Rows.tail_any (typeIs_str s (tx z) tz) PyProof.Rows.slot_str_getitem.lookup (PySem.P.getItem_str (c := m) ?_ ?_ q) hs
  · rw [decide_eq_false (by omega), decide_eq_false (by omega), Bool.or_false]
  · rw [show (tx z).length = z.length from tx_len z, seqIndex_of (by omega) (by omega)]
    simpa using hk
theorem turn_row {f fL C : Addr} {cdv : Value} {A : Around} {outer : List Env} {s0 : Shared} {H0 : Hp} {E : XK} {a1 a2 a3 a4 a5 b1 b2 b3 b4 b5 b6 d1 d2 d3 d4 d5 d6 c1 : Pos} {j : Nat} {pl : Sem Bool} (T : TxBd K mg C) (hr : Room 1 (A.deeper (PyProof.Rows.envOfC "Bounds.take_row" (defScope sTakeR) s0.heap.objs.size f cdv)))
    (mL : Meth K C "leave_out" fL) (GL : LeaveRun P w K mg base C 1 fL)
    (ps : PSs (cxOf CX0 P w K mg base nTR "Bounds.take_row" (defScope sTakeR) f cdv A outer s0 H0 E).nox [.Expr (.Call (.Attribute (.Name "self" b1) "keep_only" b2) [.Name "place" b3, .Name "letter" b4] [] b5) b6] (tDrop (tMeth C "keep_only" (spKeep C) [] E0 (tVar 0) (tCons (tVar 3) (tCons (tVar 4) tNil)))))
    (hLs : swapsWith (.Call (.Attribute (.Name "self" d1) "leave_out" d2) [.Name "place" d3, .Name "letter" d4] [] d5) none d6.line (cxOf CX0 P w K mg base nTR "Bounds.take_row" (defScope sTakeR) f cdv A outer s0 H0 E).nox.env = pure false)
    (hLt : eval (.Call (.Attribute (.Name "self" d1) "leave_out" d2) [.Name "place" d3, .Name "letter" d4] [] d5) (cxOf CX0 P w K mg base nTR "Bounds.take_row" (defScope sTakeR) f cdv A outer s0 H0 E).nox.env = (do
      let ov ← eval (.Name "self" d1) (cxOf CX0 P w K mg base nTR "Bounds.take_row" (defScope sTakeR) f cdv A outer s0 H0 E).nox.env
      standAt d2.atName
      let (g, first) ← holding [ov] (getMethod ov "leave_out" pl)
      callWith d5 g first (backTo d5 (starEach [.Name "place" d3, .Name "letter" d4] (cxOf CX0 P w K mg base nTR "Bounds.take_row" (defScope sTakeR) f cdv A outer s0 H0 E).nox.env)) (backToKw d5 (keywordEach [] (cxOf CX0 P w K mg base nTR "Bounds.take_row" (defScope sTakeR) f cdv A outer s0 H0 E).nox.env)))) :
    TurnE (cxOf CX0 P w K mg base nTR "Bounds.take_row" (defScope sTakeR) f cdv A outer s0 H0 E).nox 3 4 "letter" [.If (.Compare (.Subscript (.Name "told" a1) (.Name "place" a2) a3) [.Eq] [.Constant (.str "2") j a4] a5)
      [.Expr (.Call (.Attribute (.Name "self" b1) "keep_only" b2) [.Name "place" b3, .Name "letter" b4] [] b5) b6] [.Expr (.Call (.Attribute (.Name "self" d1) "leave_out" d2) [.Name "place" d3, .Name "letter" d4] [] d5) d6] c1] (tbRow C) := by
  intro pins s σ H D k c t I R t1 t2 h
  generalize (σ.set 3 (some (.int (k : Int)))).set 4 (some (.str ⟨#[c]⟩)) = σ' at I h
  obtain ⟨p, q, ls, tt, b, m, e0, e2, e3, e4, bt, hk, h26, hm, htl, fin⟩ := h
  have nd := scTR.nd
  have J : Inv _ pins σ' H { s with toks := s.toks + 2 } := I.tok _
  refine wpAny_execs_cons (wpAny_If (wpAny_isTrue_Compare1 (PyProof.Rows.Subscript_ (L2.var_ld I (i := 2) (x := "told") rfl e2 (Or.inl rfl) (fun u ru => ?_))) rfl))
  obtain ⟨tz, rfl⟩ := ru
  refine L2.var_ld I (i := 3) (x := "place") rfl e3 (Or.inl rfl) (fun u ru => ?_)
  obtain ⟨ti, rfl⟩ := ru
  refine sign_at hm htl ?_ rfl
  refine Calls.Constant_str (PyProof.Rows.eq_str (wpAny_truthy_bool ?_))
  have ee : ((one m : Str) == Str.ofString "2") = decide (m = 50) := by
    by_cases q : m = 50
    · subst q; rfl
    · have : one m ≠ one 50 := fun z => q (ones_inj z)
      rw [decide_eq_false q]
      exact beq_eq_false_iff_ne.mpr this
  rw [ee]
  cases hb : decide (m = 50) with
  | true =>
    have fin := fun H' b r => fin H' b (by rw [if_pos (of_decide_eq_true hb)]; exact r)
    refine iteT (wpAny_mono (ps.run pins _ σ' H D J ⟨_, e0, p, q.dx, _, rfl, bt.p, bf_no q.a q.l q.g (by decide +kernel), _, e3, _, e4, p, q, ls, b, k, c, rfl, bt, hk, fin⟩) (fun fl s1 hh => ?_) fun _ _ z => z)
    cases fl with
    | next =>
      obtain ⟨σ1, H1, I1, z⟩ := hh
      exact wpAny_execs_nil ⟨σ1, H1, I1, z⟩
    | ret v => exact hh
    | brk => exact hh
    | cont => exact hh
  | false =>
    have fin := fun H' b r => fin H' b (by rw [if_neg (of_decide_eq_false hb)]; exact r)
    refine iteF (wpAny_execs_cons (wpAny_mono (leave_call (i0 := 0) (i1 := 3) (c := c) (tc := t) J R t1 (Nat.lt_succ_of_lt (Nat.lt_succ_of_lt t2)) rfl e0 (Or.inl rfl) rfl e3 (Or.inl rfl) rfl bt hk h26 T.cl mL GL hr fin hLs rfl rfl rfl hLt) (fun fl s1 hh => ?_) fun _ _ z => z))
    cases fl with
    | next =>
      obtain ⟨σ1, H1, I1, z⟩ := hh
      exact wpAny_execs_nil (wpAny_execs_nil ⟨σ1, H1, I1, z⟩)
    | ret v => exact hh
    | brk => exact hh
    | cont => exact hh
theorem okT {x qual : Str} {st : Stmt} {f : Addr} {fd : FuncData} {N ps : List Str} {k : Nat} {sp : Sp} (F : Fun K x qual st f fd) (S : FnScope N ps (defScope st)) (hnc : ∀ y ∈ (defScope st).names, y.2 ≠ .cell) (hps : 1 ≤ ps.length) (many : ∀ vs H Q E, sp vs H Q E → vs.length = ps.length)
    (body : ∀ (cdv : Value) (A : Around) (outer : List Env) (s : Shared) (H : Hp) (vs : List V) (Q : VK) (E : XK), Room k (A.deeper (PyProof.Rows.envOfC qual (defScope st) s.heap.objs.size f cdv)) → sp vs H Q E →
      ∃ t, PSsT (cxOf CX0 P w K mg base N qual (defScope st) f cdv A outer s H E).nox (defBody st) t ∧ t { nx := fun _ H' => Q .non H', rt := Q } (L2.start N vs) H) : FnOk P w K mg base CX0 (k + 1) f fd ps sp := by
  obtain ⟨oc, od, kV, doc, pm, an, cdv, ct, osl, rfl, lk, hcd⟩ := F.ex
  refine fn_ofT lk hcd S hnc hps many fun A outer s H vs Q E hr h => ?_
  obtain ⟨t, ht, q⟩ := body cdv A outer s H vs Q E hr h
  exact ⟨t, fun pins s1 σ H1 D h0 I hw => wpAny_mono (ht pins s1 σ H1 D h0 (I.wish _) hw) (fun _ _ q => q.unwish) fun _ _ z => z.elim, q⟩
theorem cnt_one (w : List Nat) (a : Nat) : Txt.count (tx w) (one a) = ((w.count a : Nat) : Int) := by
  rw [PyProof.Rows.count_cnt]
  show PyProof.Rows.cnt a w = _
  induction w with
  | nil => rfl
  | cons b w ih =>
    rw [PyProof.Rows.cnt_cons, ih, List.count_cons]
    by_cases h : b = a <;> simp [h] <;> omega
/-- a row, taken in -/
def placeB (g t : List Nat) : Nat → BS → BS
  | 0, b => b
  | k + 1, b => if t[k]? = some 50 then keepB (placeB g t k b) k (g.getD k 0) else leaveB (placeB g t k b) k (g.getD k 0)
def countB (g t : List Nat) (b : BS) (c : Nat) : BS := (fun v : Int => if 48 ∈ mgv g t c then mostB (leastB b c v) c v else leastB b c v) (((mgv g t c).length : Int) - ((mgv g t c).count 48 : Int))
def rowB (b : BS) (r : List Nat × List Nat) : BS := r.1.foldl (countB r.1 r.2) (placeB r.1 r.2 r.1.length b)
theorem placeB_al (g t : List Nat) (b : BS) : ∀ k, (placeB g t k b).al.length = b.al.length
  | 0 => rfl
  | k + 1 => by
    have ih := placeB_al g t b k
    unfold placeB
    split
    · show (List.modify _ _ _).length = _
      rw [List.length_modify, ih]
    · show (List.modify _ _ _).length = _
      rw [List.length_modify, ih]
theorem mem_modify {al : List (List Nat)} {k : Nat} {f : List Nat → List Nat} {x : List Nat} (h : x ∈ al.modify k f) : x ∈ al ∨ ∃ y ∈ al, x = f y := by
  obtain ⟨j, hj⟩ := List.mem_iff_getElem?.mp h
  rw [List.getElem?_modify] at hj
  obtain ⟨y, hy, e⟩ := Option.map_eq_some_iff.mp hj
  by_cases q : k = j
  · rw [if_pos q] at e
    exact .inr ⟨y, List.mem_of_getElem? hy, e.symm⟩
  · rw [if_neg q] at e
    exact .inl (e ▸ List.mem_of_getElem? hy)
theorem placeB_26 (g t : List Nat) (b : BS) (h : ∀ x ∈ b.al, x.length ≤ 26) : ∀ k, ∀ x ∈ (placeB g t k b).al, x.length ≤ 26
  | 0 => h
  | k + 1 => by
    have ih := placeB_26 g t b h k
    intro x hx
    unfold placeB at hx
    split at hx
    · rcases mem_modify hx with hx | ⟨y, hy, rfl⟩
      · exact ih x hx
      · split <;> simp
    · rcases mem_modify hx with hx | ⟨y, hy, rfl⟩
      · exact ih x hx
      · exact Nat.le_trans (List.length_filter_le _ _) (ih y hy)
def spTakeR (C : Addr) : Sp := fun vs H Q _ => ∃ (p : Addr) (q : BParts) (ls g t : List Nat) (b : BS), vs = [.ref p, .str (tx g), .str (tx t)] ∧ BAt C H p q ls b ∧ ls.length ≤ 26 ∧ g.length = t.length ∧ g.length = b.al.length ∧ g.length ≤ 6 ∧ (∀ c ∈ g, c ∈ ls) ∧ (∀ x ∈ b.al, x.length ≤ 26) ∧
  ∀ H', (∀ a o, a ≠ q.a → a ≠ q.l → a ≠ q.g → H a = some o → H' a = some o) → BAt C H' p q ls (rowB b (g, t)) → Q .non H'
theorem ok_takeR {f fK fL fG fA fM C : Addr} {fd fdK fdG fdA fdM : FuncData} (F : Fun K "take_row" "Bounds.take_row" sTakeR f fd) (T : TxBd K mg C) (len : mg "len" = none) (enu : mg "enumerate" = none) (mK : Meth K C "keep_only" fK) (GK : FnOk P w K mg base CX0 1 fK fdK ["self", "place", "letter"] (spKeep C)) (bK : Binds K fdK ["self", "place", "letter"] [])
    (mL : Meth K C "leave_out" fL) (GL : LeaveRun P w K mg base C 1 fL) (GG : FnOk P w K mg base CX0 1 fG fdG ["guess", "told", "letter"] spGiven) (DG : Df K mg "marks_given" fG fdG ["guess", "told", "letter"])
    (mA : Meth K C "ask_least" fA) (GA : FnOk P w K mg base CX0 1 fA fdA ["self", "letter", "many"] (spAskL C)) (bA : Binds K fdA ["self", "letter", "many"] []) (mM : Meth K C "ask_most" fM) (GM : FnOk P w K mg base CX0 1 fM fdM ["self", "letter", "many"] (spAskM C)) (bM : Binds K fdM ["self", "letter", "many"] []) :
    FnOk P w K mg base CX0 2 f fd ["self", "guess", "told"] (spTakeR C) := by
  refine okT F scTR (by decide +kernel) (by decide) (fun vs H Q E h => ?_) (fun cdv A outer s H vs Q E hr h => ?_)
  · obtain ⟨p, q, ls, g, t, b, rfl, _⟩ := h
    rfl
  · obtain ⟨p, q, ls, g, t, b, rfl, bt, l26, hl, gl, g6, hg, h26, fin⟩ := h
    have nd := scTR.nd
    have hline : sizeLine = 16777216 := sizeLine_eq
    refine ⟨_, psst_cons (pst_forE (i := 3) (j := 4) (tb := tbRow C) PassesOwn.never rfl (by rfl) enu (pa_cons (pv 1) pa_nil) nd (pg_name (i := 3) nd rfl (Or.inl rfl)) rfl rfl (by exact turn_row T hr mL GL (pss_one (ps_expr (pe_meth (pv 0) T.cl mK GK hr bK .nil pass0 (pa_cons (pv 3) (pa_cons (pv 4) pa_nil))))) rfl rfl) (fun _ _ _ _ _ h => h))
      (psst_cons (PST.of (ps_for PassesOwn.never rfl (pi_str (pv 1)) (pg_name (i := 4) nd rfl (Or.inl rfl)) (pss_cons (ps_set (i := 5) nd rfl (Or.inl rfl) (pe_call GG hr (by rfl) DG.mg DG.kp DG.b .nil pass0 (pa_cons (pv 1) (pa_cons (pv 2) (pa_cons (pv 4) pa_nil)))))
          (pss_cons (ps_set (i := 6) nd rfl (Or.inl rfl) (pe_op op_sub (pe_callB call_len_str (by rfl) len PySem.boot_len (pa_cons (pv 5) pa_nil)) (pe_m1 PySem.F.slot_str_count PySem.F.type_str_count mt_count (pv 5) pe_str)))
          (pss_cons (ps_expr (pe_meth (pv 0) T.cl mA GA hr bA .nil pass0 (pa_cons (pv 4) (pa_cons (pv 6) pa_nil))))
          (pss_one (ps_if (pt_cmpR op_in_sign pe_str (pv 5) rfl) (pss_one (ps_expr (pe_meth (pv 0) T.cl mM GM hr bM .nil pass0 (pa_cons (pv 4) (pa_cons (pv 6) pa_nil))))) pss_nil))))))) (PSsT.of pss_nil)), ?_⟩
    refine ⟨_, rfl, tx g, rfl, fun k σ H' => (∃ v3 v4 v5 v6 : Option V, σ = [some (.ref p), some (.str (tx g)), some (.str (tx t)), v3, v4, v5, v6]) ∧ (∀ a o, a ≠ q.a → a ≠ q.l → a ≠ q.g → H a = some o → H' a = some o) ∧ BAt C H' p q ls (placeB g t k b), ⟨⟨_, _, _, _, rfl⟩, fun _ _ _ _ _ e => e, bt⟩, ?_, ?_⟩
    · rintro k c σ H1 hc ⟨⟨v3, v4, v5, v6, rfl⟩, keep, b1⟩
      have hc' := tx_at hc
      have hk : k < g.length := (List.getElem?_eq_some_iff.mp hc').1
      have hm : t[k]? = some (t[k]'(by omega)) := List.getElem?_eq_getElem _
      generalize t[k]'(by omega) = m at hm
      refine ⟨p, q, ls, t, placeB g t k b, m, rfl, rfl, rfl, rfl, b1, by rw [placeB_al]; omega, placeB_26 g t b h26 k, hm, by omega, fun H2 b2 bt2 => ⟨⟨_, _, _, _, rfl⟩, fun a o n1 n2 n3 e => b2 a o n1 (keep a o n1 n2 n3 e), ?_⟩⟩
      have e : placeB g t (k + 1) b = if m = 50 then keepB (placeB g t k b) k c else leaveB (placeB g t k b) k c := by
        rw [placeB]
        have ec : g.getD k 0 = c := by rw [List.getD_eq_getElem?_getD, hc']; rfl
        rw [hm, ec]
        by_cases z : m = 50
        · rw [if_pos (by rw [z]), if_pos z]
        · rw [if_neg (fun y => z (Option.some.inj y)), if_neg z]
      rw [e]
      exact bt2
    rintro σ H1 ⟨⟨v3, v4, v5, v6, rfl⟩, keep1, b1⟩
    rw [tx_size] at b1
    refine ⟨_, rfl, tx g, rfl, for_it (walk_str (z := tx g)) (fun i σ H' => (∃ v3 v4 v5 v6 : Option V, σ = [some (.ref p), some (.str (tx g)), some (.str (tx t)), v3, v4, v5, v6]) ∧ (∀ a o, a ≠ q.a → a ≠ q.l → a ≠ q.g → H a = some o → H' a = some o) ∧ BAt C H' p q ls ((g.take i).foldl (countB g t) (placeB g t g.length b)))
      ⟨⟨_, _, _, _, rfl⟩, keep1, b1⟩ (fun _ _ _ _ _ => trivial) ?_ ?_⟩
    · rintro i x σ H3 H2 hi ⟨⟨v3, v4, v5, v6, rfl⟩, keep, b2⟩ ⟨rfl, c, hc, rfl⟩
      have hc' := tx_at hc
      have hlt := (List.getElem?_eq_some_iff.mp hc').1
      have hcl : c ∈ ls := hg c (List.mem_of_getElem? hc')
      have ef : (g.take (i + 1)).foldl (countB g t) (placeB g t g.length b) = countB g t ((g.take i).foldl (countB g t) (placeB g t g.length b)) c := by
        rw [List.take_succ_eq_append_getElem hlt, (List.getElem?_eq_some_iff.mp hc').2, List.foldl_append]
        rfl
      rw [ef]
      generalize (g.take i).foldl (countB g t) (placeB g t g.length b) = B at b2 ⊢
      have m6 := mgv_le g t c
      refine ⟨_, rfl, _, rfl, _, rfl, g, t, c, rfl, hl, g6, fun H4 s4 => ?_⟩
      have b4 := b2.same s4
      refine ⟨_, rfl, _, rfl, by rw [tx_len]; omega, _, rfl, ⟨_, rfl⟩, tx (mgv g t c), Str.ofString "0", rfl, rfl, _, _, rfl, rfl, ?_⟩
      have ecnt : Txt.count (tx (mgv g t c)) (Str.ofString "0") = (((mgv g t c).count 48 : Nat) : Int) := cnt_one _ 48
      rw [ecnt, tx_len]
      refine ⟨_, rfl, p, q.dx, _, rfl, b4.p, bf_no q.a q.l q.g (by decide +kernel), _, rfl, _, rfl, p, q, ls, B, c, _, rfl, b4, hcl, l26, fun H5 b5 bt5 => ?_⟩
      refine ⟨_, rfl, 48, tx (mgv g t c), rfl, rfl, _, rfl, ?_⟩
      have e48 : decide (48 ∈ (tx (mgv g t c)).cps.toList) = decide (48 ∈ mgv g t c) := by simp
      rw [e48]
      refine ite2 (fun h => ?_) (fun h => ?_)
      · refine ⟨_, rfl, p, q.dx, _, rfl, bt5.p, bf_no q.a q.l q.g (by decide +kernel), _, rfl, _, rfl, p, q, ls, _, c, _, rfl, bt5, hcl, l26, fun H6 b6 bt6 => ?_⟩
        refine ⟨⟨_, _, _, _, rfl⟩, fun a o n1 n2 n3 e => b6 a o n3 (b5 a o n2 (s4 a o (keep a o n1 n2 n3 e))), ?_⟩
        unfold countB
        simp only
        rw [if_pos (of_decide_eq_true h)]
        exact bt6
      · refine ⟨⟨_, _, _, _, rfl⟩, fun a o n1 n2 n3 e => b5 a o n2 (s4 a o (keep a o n1 n2 n3 e)), ?_⟩
        unfold countB
        simp only
        rw [if_neg (fun z => h (decide_eq_true z))]
        exact bt5
    · rintro σ H2 ⟨_, keep, b2⟩
      rw [tx_size, List.take_length] at b2
      exact fin H2 keep b2
end
end Gm

/-! o.m(k = v, ..); C(e, .., *y) -/
namespace L2
open PySem PySem.Spec PyProof.Rows
section
variable {X : Cx} {CX : CXT} {k : Nat} {f C : Addr} {fd : FuncData} {ps ks : List Str} {sp : Sp} {E : XK} {x m : Str} {o e : Expr} {es : List Expr} {kws : List Keyword} {ta : TE} {t tk : TA} {p pos apos : Pos} {g : List Value → List Value → List Value} {gV : List V → List V → List V}
def tMethK (C : Addr) (m : Str) (n : Nat) (sp : Sp) (gV : List V → List V → List V) (E : XK) (ta : TE) (tk : TA) : TE := fun σ H Q => ta σ H fun x H1 => ∃ a dx fs, x = .ref a ∧ H1 a = some (.ins C dx fs) ∧ fs.lookup m = none ∧
  tk σ H1 fun zs H2 => zs.length = n ∧ sp (gV [x] zs) H2 Q E
/-- o.m(k = v, ..), keywords alone -/
theorem pe_methK0 {pl : Sem Bool} (he : PE X o ta) (c : Cls X.K C) (hm : Meth X.K C m f) (F : FnOk X.prog X.w X.K X.mg X.base CX k f fd ps sp) (hr : Room k X.A) (hb : KBn X.K fd ps 1 ks g gV) (hx : Passes CX X E) (hkw : PK X kws tk)
    (hall : (backToKw pos (keywordEach kws X.env)).all (·.1.isSome) = true := by rfl) (hks : (backToKw pos (keywordEach kws X.env)).filterMap (·.1) = ks := by rfl)
    (hpl : ((backTo pos (starEach [] X.env)).any (·.1) || (backToKw pos (keywordEach kws X.env)).any (·.1.isNone)) = false := by rfl)
    (ht : eval (.Call (.Attribute o m apos) [] kws pos) X.env = (do
      let ov ← eval o X.env
      standAt apos.atName
      let (f, first) ← holding [ov] (getMethod ov m pl)
      callWith pos f first (backTo pos (starEach [] X.env)) (backToKw pos (keywordEach kws X.env))) := by rfl) :
    PE X (.Call (.Attribute o m apos) [] kws pos) (tMethK C m ks.length sp gV E ta tk) := by
  constructor
  intro pins s σ H Q I h
  refine PySem.W.methodCall_KW (pl := pl) (thn (he.run pins s σ H _ I h) fun u s1 hh => ?_) ht
  obtain ⟨y, H1, I1, ry, a, dx, fs, rfl, ea, l, q⟩ := hh
  obtain rfl : u = Value.ref a := ry
  refine getmeth_ok I1 ea c hm l ?_
  refine PySem.W.callWith_KW0 (first := [.ref a]) (h₀ := X.base) I.ok.mod.kin hm.kp hall (thn (hkw.run pos pins s1 σ H1 _ I1 q) fun ws s2 h2 => ?_) hpl
  obtain ⟨zs, H2, I2, rz, lz, q2⟩ := h2
  refine ⟨I2.kIn, ?_⟩
  rw [hks]
  exact run_fnN (us := [.ref a]) (vs := [.ref a]) F hr hb hx I2 (.cons rfl .nil) rz rfl lz q2
/-- C(e, .., *y, ..) -/
theorem pe_makeS2 (M : Mk X.K C f) (F : FnR X.prog X.w X.K X.mg X.base CX k f sp) (hr : Room (k + 1) X.A) (hg : Gl X x) (hm : X.mg x = some (.ref C)) (hx : Passes CX X E) (ha : PA X (e :: es) t) (hdb : (x == ("__debug__" : Str)) = false := by decide)
    (he : starEach (e :: es) X.env = (false, eval e X.env) :: starEach es X.env := by rfl) (hst : (backTo pos (starEach es X.env)).any (·.1) = true := by rfl) : PE X (.Call (.Name x p) (e :: es) [] pos) (StX.tMakeR C sp E t) := by
  constructor
  intro pins s σ H Q I h
  refine wpAny_Call_Name_kw (ld_glob I hg hm ?_ hdb)
  refine PySem.W.callWith_S2 (h₀ := X.base) I.ok.mod.kin M.kp (thn (ha.run pos pins s σ H _ I h) fun us s1 hh => ?_) he hst
  obtain ⟨vs, H1, I1, r, q⟩ := hh
  exact ⟨I1.kIn, StX.run_makeR M F hr hx I1 r q⟩
end
end L2

namespace Gm
open PySem L2







def spOver (K : PySem.W.Frag) : Sp := fun vs H Q _ => ∃ (v : V) (ch : List Nat) (n : Int), vs = [v, .str (tx ch), .int n] ∧
  ((∃ s : List Nat, v = .str (tx s) ∧ s.length ≤ 1000 ∧ ∀ H', Same H H' → Q (.bl (decide ((s.length : Int) = n ∧ ∀ c ∈ s, c ∈ ch))) H') ∨ (∃ t, TyX K H v t ∧ PySem.W.kitOne K t (.type "str") = some false ∧ Q (.bl false) H))
/-- words of the board of l and n -/
def Wd (l : List Nat) (n : Int) (s : List Nat) : Prop := (s.length : Int) = n ∧ ∀ c ∈ s, c ∈ l
def Bd (C : Addr) (H : Hp) (p : Addr) (l : List Nat) (n : Int) : Prop := BoardAt C H p (tx l) n ∧ l.length ≤ 26 ∧ 1 ≤ n ∧ n ≤ 6
theorem Bd.same {C p : Addr} {H H' : Hp} {l : List Nat} {n : Int} (h : Bd C H p l n) (e : Same H H') : Bd C H' p l n := ⟨let ⟨dx, h⟩ := h.1; ⟨dx, e _ _ h⟩, h.2⟩
def spChkW (C : Addr) : Sp := fun vs H Q _ => ∃ (p : Addr) (l s : List Nat) (n : Int), vs = [.ref p, .str (tx s)] ∧ Bd C H p l n ∧ Wd l n s ∧ ∀ H', Same H H' → Q .non H'
def spChkM (C : Addr) : Sp := fun vs H Q _ => ∃ (p : Addr) (l s : List Nat) (n : Int), vs = [.ref p, .str (tx s)] ∧ Bd C H p l n ∧ Wd [48, 49, 50] n s ∧ ∀ H', Same H H' → Q .non H'
def spChkB (C : Addr) : Sp := fun vs H Q _ => ∃ (p : Addr) (l : List Nat) (n : Int), vs = [.ref p] ∧ Bd C H p l n ∧ Q .non H
instance {l : List Nat} {n : Int} {s : List Nat} : Decidable (Wd l n s) := by unfold Wd; infer_instance
/-- is_word, are_marks: ch = none: the board's letters -/
def spIsW (K : PySem.W.Frag) (C : Addr) (ch : Option (List Nat)) : Sp := fun vs H Q _ => ∃ (p : Addr) (l : List Nat) (n : Int) (v : V), vs = [.ref p, v] ∧ Bd C H p l n ∧
  ((∃ s : List Nat, v = .str (tx s) ∧ s.length ≤ 1000 ∧ ∀ H', Same H H' → Q (.bl (decide (Wd (ch.getD l) n s))) H') ∨ (∃ t, TyX K H v t ∧ PySem.W.kitOne K t (.type "str") = some false ∧ Q (.bl false) H))
/-- a row stands at a -/
def RowAt (H : Hp) (a : Addr) (r : List Nat × List Nat) : Prop := H a = some (.tup [.str (tx r.1), .str (tx r.2)])
def RowOk (l : List Nat) (n : Int) (r : List Nat × List Nat) : Prop := Wd l n r.1 ∧ Wd [48, 49, 50] n r.2
def spIsRow (C : Addr) : Sp := fun vs H Q _ => ∃ (p a : Addr) (l : List Nat) (n : Int) (r : List Nat × List Nat), vs = [.ref p, .ref a] ∧ Bd C H p l n ∧ RowAt H a r ∧ RowOk l n r ∧ ∀ H', Same H H' → Q (.bl true) H'
theorem in_tx {c : Nat} {l : List Nat} : decide (c ∈ (tx l).cps.toList) = decide (c ∈ l) := by simp
section
variable {P : Program} {w : World} {K : PySem.W.Frag} {mg : Str → Option Value} {base : Heap}
abbrev nO : List Str := ["value", "characters", "length", "character"]
theorem scOv : FnScope nO ["value", "characters", "length"] (defScope sOver) := ⟨rfl, rfl, rfl, by decide +kernel, rfl, by decide +kernel, by decide +kernel⟩
theorem ok_over {f : Addr} {fd : FuncData} (F : Fun K "is_text_over" "is_text_over" sOver f fd) (T : TxW mg) (mall : mg "all" = none) : FnOk P w K mg base CX0 1 f fd ["value", "characters", "length"] (spOver K) := by
  refine F.ok scOv (fun vs H Q E h => ?_) (fun cdv A outer s H vs Q E hr h => ?_)
  · obtain ⟨v, ch, n, rfl, _⟩ := h
    rfl
  · obtain ⟨v, ch, n, rfl, h⟩ := h
    have nd := scOv.nd
    have hline : sizeLine = 16777216 := sizeLine_eq
    refine ⟨_, pss_cons (ps_if (PW.pt (pw_or (pt_not (pt_val (pe_callB call_isi (by rfl) T.isi (by decide +kernel) (pa_cons (pv 0) (pa_cons (pe_bltn (v := .ty "str") (by rfl) T.str (by decide +kernel) rfl) pa_nil)))))
        (pw_or1 (pt_cmpR op_ne (pe_callB call_len_str (by rfl) T.len PySem.boot_len (pa_cons (pv 0) pa_nil)) (pv 2) (nomark _)))))
        (pss_one (ps_ret pe_bl)) pss_nil)
      (pss_one (ps_ret (pe_callB (cr_all rfl) (by rfl) mall (by decide +kernel) (pa_cons
        (pe_lc (own := [("character", 3)]) (g := gName 3) (by rfl) nd (pi_str (pv 0)) (blkOk_by (own := [("character", 3)]) (N := nO) (sc := defScope sOver) (by decide +kernel))
          (fun _ _ _ _ _ => pg_name (i := 3) nd rfl (Or.inl rfl)) (fun _ _ _ _ _ => pts_nil) (fun _ _ _ _ _ => pe_cmpR op_in_sign (pv 3) (pv 1) rfl)) pa_nil)))), ?_⟩
    rcases h with ⟨z, rfl, hz, q⟩ | ⟨t, ty, no, q⟩
    · have zl : (tx z).length = z.length := tx_len z
      refine ⟨_, rfl, _, _, _, _, _, rfl, .ty "str", .base (.str _), kit_ty (r := true) (by decide +kernel), _, rfl, iteF ?_⟩
      refine ⟨_, rfl, _, rfl, by omega, _, rfl, rfl, _, rfl, ?_⟩
      have ei : decide (V.int ((tx z).length : Nat) = V.int n) = decide ((z.length : Int) = n) := decide_eq_decide.mpr ⟨fun e => by rw [← zl]; exact V.int.inj e, fun e => by rw [zl, e]⟩
      rw [ei]
      refine ite2 (fun h => ?_) (fun h => ?_)
      · have e : decide ((z.length : Int) = n ∧ ∀ c ∈ z, c ∈ ch) = false := decide_eq_false fun a => by rw [decide_eq_true a.1] at h; cases h
        rw [e] at q
        exact q _ (Same.refl H)
      · have hn : (z.length : Int) = n := by
          refine Decidable.byContradiction fun c => h ?_
          rw [decide_eq_false c]
          rfl
        refine ⟨_, rfl, tx z, rfl, fun D hD => ?_⟩
        refine lc_it (walk_str (z := tx z)) (fun i H' => Same H H' ∧ H' D = some (.lst (((z.take i).map fun c => decide (c ∈ ch)).map V.bl))) ⟨same_upd hD, upd_same⟩ (fun _ _ _ _ => trivial) ?_ ?_
        · rintro i x H1 H2 hi ⟨sm, hDi⟩ ⟨rfl, c, hc, rfl⟩
          have hc' := tx_at hc
          have hi' : i < z.length := (List.getElem?_eq_some_iff.mp hc').1
          refine ⟨rfl, ⟨_, rfl, _, rfl, c, tx ch, rfl, rfl, _, hDi, ?_, fun b o q => ?_, ?_⟩⟩
          · rw [List.length_map, List.length_map, List.length_take]
            omega
          · rw [upd_ne (ne_of_none q hD)]
            exact sm b o q
          · have e2 : z.take (i + 1) = z.take i ++ [c] := by rw [List.take_succ_eq_append_getElem hi', (List.getElem?_eq_some_iff.mp hc').2]
            rw [upd_same, e2, List.map_append, List.map_append, in_tx]
            rfl
        · rintro H1 ⟨sm, hD1⟩
          refine ⟨D, _, rfl, SqL.of hD1, ?_⟩
          have e : decide ((z.length : Int) = n ∧ ∀ c ∈ z, c ∈ ch) = ((z.take (tx z).cps.size).map fun c => decide (c ∈ ch)).all id := by
            rw [tx_size, List.take_length, List.all_map]
            have : (List.all z (id ∘ fun c => decide (c ∈ ch))) = decide (∀ c ∈ z, c ∈ ch) := by
              rw [Bool.eq_iff_iff, List.all_eq_true, decide_eq_true_iff]
              exact ⟨fun h c hc => of_decide_eq_true (h c hc), fun h c hc => decide_eq_true (h c hc)⟩
            rw [this]
            exact decide_eq_decide.mpr ⟨fun a => a.2, fun a => ⟨hn, a⟩⟩
          rw [e] at q
          exact q _ sm
    · exact ⟨_, rfl, _, _, _, _, _, rfl, .ty "str", ty, no, _, rfl, iteT q⟩
theorem scIW : FnScope ["board", "value"] ["board", "value"] (defScope sIsW) := ⟨rfl, rfl, rfl, by decide +kernel, rfl, by decide +kernel, by decide +kernel⟩
theorem ok_isW {f C fO : Addr} {fd fdO : FuncData} (F : Fun K "is_word" "is_word" sIsW f fd) (TC : TxC K mg C) (GO : FnOk P w K mg base CX0 1 fO fdO ["value", "characters", "length"] (spOver K)) (DO : Df K mg "is_text_over" fO fdO ["value", "characters", "length"]) :
    FnOk P w K mg base CX0 2 f fd ["board", "value"] (spIsW K C none) := by
  refine F.ok scIW (fun vs H Q E h => ?_) (fun cdv A outer s H vs Q E hr h => ?_)
  · obtain ⟨p, l, n, v, rfl, _⟩ := h
    rfl
  · obtain ⟨p, l, n, v, rfl, ⟨⟨dx, hp⟩, l26, n1, n6⟩, h⟩ := h
    refine ⟨_, pss_one (ps_ret (pe_call GO hr (by rfl) DO.mg DO.kp DO.b .nil pass0 (pa_cons (pv 1) (pa_cons (pe_fld (pv 0) rfl) (pa_cons (pe_fld (pv 0) rfl) pa_nil))))), ?_⟩
    refine ⟨_, rfl, _, rfl, p, C, dx, _, _, rfl, hp, TC.cl, TC.nL, bf_letters _ _, _, rfl, p, C, dx, _, _, rfl, hp, TC.cl, TC.nN, bf_length _ _, _, _, _, rfl, ?_⟩
    exact h
theorem scAM : FnScope ["board", "value"] ["board", "value"] (defScope sAreM) := ⟨rfl, rfl, rfl, by decide +kernel, rfl, by decide +kernel, by decide +kernel⟩
theorem ok_areM {f C fO : Addr} {fd fdO : FuncData} (F : Fun K "are_marks" "are_marks" sAreM f fd) (TC : TxC K mg C) (tM : ∃ t, mg "MARKS" = some (.str (tx [48, 49, 50]) t)) (GO : FnOk P w K mg base CX0 1 fO fdO ["value", "characters", "length"] (spOver K)) (DO : Df K mg "is_text_over" fO fdO ["value", "characters", "length"]) :
    FnOk P w K mg base CX0 2 f fd ["board", "value"] (spIsW K C (some [48, 49, 50])) := by
  refine F.ok scAM (fun vs H Q E h => ?_) (fun cdv A outer s H vs Q E hr h => ?_)
  · obtain ⟨p, l, n, v, rfl, _⟩ := h
    rfl
  · obtain ⟨p, l, n, v, rfl, ⟨⟨dx, hp⟩, l26, n1, n6⟩, h⟩ := h
    obtain ⟨tm, mgM⟩ := tM
    refine ⟨_, pss_one (ps_ret (pe_call GO hr (by rfl) DO.mg DO.kp DO.b .nil pass0 (pa_cons (pv 1) (pa_cons (pe_glob (v := .str (tx [48, 49, 50])) (by rfl) mgM ⟨_, rfl⟩) (pa_cons (pe_fld (pv 0) rfl) pa_nil))))), ?_⟩
    refine ⟨_, rfl, _, rfl, p, C, dx, _, _, rfl, hp, TC.cl, TC.nN, bf_length _ _, _, _, _, rfl, ?_⟩
    exact h
theorem scIR : FnScope ["board", "value"] ["board", "value"] (defScope sIsRow) := ⟨rfl, rfl, rfl, by decide +kernel, rfl, by decide +kernel, by decide +kernel⟩
theorem ok_isRow {f C fW fM : Addr} {fd fdW fdM : FuncData} (F : Fun K "is_row" "is_row" sIsRow f fd) (T : TxW mg) (tt : mg "tuple" = none) (GW : FnOk P w K mg base CX0 2 fW fdW ["board", "value"] (spIsW K C none)) (DW : Df K mg "is_word" fW fdW ["board", "value"])
    (GM : FnOk P w K mg base CX0 2 fM fdM ["board", "value"] (spIsW K C (some [48, 49, 50]))) (DM : Df K mg "are_marks" fM fdM ["board", "value"]) : FnOk P w K mg base CX0 3 f fd ["board", "value"] (spIsRow C) := by
  refine F.ok scIR (fun vs H Q E h => ?_) (fun cdv A outer s H vs Q E hr h => ?_)
  · obtain ⟨p, a, l, n, r, rfl, _⟩ := h
    rfl
  · obtain ⟨p, a, l, n, r, rfl, hb, ha, ok, q⟩ := h
    have n6 := hb.2.2.2
    have l1 := ok.1.1
    have l2 := ok.2.1
    refine ⟨_, pss_cons (ps_if (PW.pt (pw_or (pt_not (pt_val (pe_callB call_isi (by rfl) T.isi (by decide +kernel) (pa_cons (pv 1) (pa_cons (pe_bltn (v := .ty "tuple") (by rfl) tt (by decide +kernel) rfl) pa_nil)))))
        (pw_or1 (pt_cmpR op_ne (pe_callB call_len_seq (by rfl) T.len PySem.boot_len (pa_cons (pv 1) pa_nil)) pe_int (nomark _))))) (pss_one (ps_ret pe_bl)) pss_nil)
      (pss_one (ps_ret (pe_and (pe_call GW hr (by rfl) DW.mg DW.kp DW.b .nil pass0 (pa_cons (pv 0) (pa_cons (pe_ix ix_tup (pv 1) pe_int (fun _ _ => rfl)) pa_nil)))
        (pe_one (pe_call GM hr (by rfl) DM.mg DM.kp DM.b .nil pass0 (pa_cons (pv 0) (pa_cons (pe_ix ix_tup (pv 1) pe_int (fun _ _ => rfl)) pa_nil))))))), ?_⟩
    refine ⟨_, rfl, _, _, _, _, _, rfl, .ty "tuple", .base (.tup ha), kit_ty (r := true) (by decide +kernel), _, rfl, iteF ?_⟩
    refine ⟨_, rfl, a, _, rfl, .inr (SqT.of ha), rfl, _, rfl, iteF ?_⟩
    refine ⟨_, rfl, _, rfl, a, _, _, _, rfl, rfl, SqT.of ha, rfl, p, l, n, _, rfl, hb, .inl ⟨r.1, rfl, by omega, fun H1 s1 => ⟨_, rfl, ?_⟩⟩⟩
    rw [decide_eq_true (show Wd ((none : Option (List Nat)).getD l) n r.1 from ok.1)]
    refine iteT ⟨_, rfl, _, rfl, a, _, _, _, rfl, rfl, SqT.of (s1 _ _ ha), rfl, p, l, n, _, rfl, hb.same s1, .inl ⟨r.2, rfl, by omega, fun H2 s2 => ?_⟩⟩
    rw [decide_eq_true (show Wd ((some [48, 49, 50] : Option (List Nat)).getD l) n r.2 from ok.2)]
    exact q H2 fun b o e => s2 _ _ (s1 _ _ e)
theorem scCW : FnScope ["board", "word"] ["board", "word"] (defScope sChkW) := ⟨rfl, rfl, rfl, by decide +kernel, rfl, by decide +kernel, by decide +kernel⟩
theorem ok_chkW {f C fO : Addr} {fd fdO : FuncData} (F : Fun K "check_word" "check_word" sChkW f fd) (GO : FnOk P w K mg base CX0 2 fO fdO ["board", "value"] (spIsW K C none)) (DO : Df K mg "is_word" fO fdO ["board", "value"]) :
    FnOk P w K mg base CX0 3 f fd ["board", "word"] (spChkW C) := by
  refine F.ok scCW (fun vs H Q E h => ?_) (fun cdv A outer s H vs Q E hr h => ?_)
  · obtain ⟨p, l, s, n, rfl, _⟩ := h
    rfl
  · obtain ⟨p, l, z, n, rfl, hb, hw, q⟩ := h
    have n6 := hb.2.2.2
    refine ⟨_, pss_one (ps_if (pt_not (pt_val (pe_call GO hr (by rfl) DO.mg DO.kp DO.b .nil pass0 (pa_cons (pv 0) (pa_cons (pv 1) pa_nil))))) (pss_one ps_never) pss_nil), ?_⟩
    refine ⟨_, rfl, _, rfl, p, l, n, _, rfl, hb, .inl ⟨z, rfl, by have := hw.1; omega, fun H1 s1 => ⟨_, rfl, ?_⟩⟩⟩
    rw [decide_eq_true (show Wd ((none : Option (List Nat)).getD l) n z from hw)]
    exact iteF (q H1 s1)
theorem scCM : FnScope ["board", "told"] ["board", "told"] (defScope sChkM) := ⟨rfl, rfl, rfl, by decide +kernel, rfl, by decide +kernel, by decide +kernel⟩
theorem ok_chkM {f C fO : Addr} {fd fdO : FuncData} (F : Fun K "check_marks" "check_marks" sChkM f fd) (GO : FnOk P w K mg base CX0 2 fO fdO ["board", "value"] (spIsW K C (some [48, 49, 50]))) (DO : Df K mg "are_marks" fO fdO ["board", "value"]) :
    FnOk P w K mg base CX0 3 f fd ["board", "told"] (spChkM C) := by
  refine F.ok scCM (fun vs H Q E h => ?_) (fun cdv A outer s H vs Q E hr h => ?_)
  · obtain ⟨p, l, s, n, rfl, _⟩ := h
    rfl
  · obtain ⟨p, l, z, n, rfl, hb, hw, q⟩ := h
    have n6 := hb.2.2.2
    refine ⟨_, pss_one (ps_if (pt_not (pt_val (pe_call GO hr (by rfl) DO.mg DO.kp DO.b .nil pass0 (pa_cons (pv 0) (pa_cons (pv 1) pa_nil))))) (pss_one ps_never) pss_nil), ?_⟩
    refine ⟨_, rfl, _, rfl, p, l, n, _, rfl, hb, .inl ⟨z, rfl, by have := hw.1; omega, fun H1 s1 => ⟨_, rfl, ?_⟩⟩⟩
    rw [decide_eq_true (show Wd ((some [48, 49, 50] : Option (List Nat)).getD l) n z from hw)]
    exact iteF (q H1 s1)
theorem scCB : FnScope ["board"] ["board"] (defScope sChkB) := ⟨rfl, rfl, rfl, by decide +kernel, rfl, by decide +kernel, by decide +kernel⟩
theorem ok_chkB {f C : Addr} {fd : FuncData} (F : Fun K "check_board" "check_board" sChkB f fd) (T : TxW mg) (TC : TxC K mg C) : FnOk P w K mg base CX0 1 f fd ["board"] (spChkB C) := by
  refine F.ok scCB (fun vs H Q E h => ?_) (fun cdv A outer s H vs Q E hr h => ?_)
  · obtain ⟨p, l, n, rfl, _⟩ := h
    rfl
  · obtain ⟨p, l, n, rfl, ⟨⟨dx, hp⟩, l26, n1, n6⟩, q⟩ := h
    refine ⟨_, pss_one (ps_if (pt_not (pt_val (pe_callB call_isi (by rfl) T.isi (by decide +kernel) (pa_cons (pv 0) (pa_cons (pe_glob (v := .ref C) (by rfl) TC.mgC rfl) pa_nil))))) (pss_one ps_never) pss_nil), ?_⟩
    exact ⟨_, rfl, _, _, _, _, _, rfl, .own C, ty_board TC hp, TC.own, _, rfl, iteF q⟩
end
end Gm

namespace Gm
open PySem L2




abbrev Row := List Nat × List Nat
inductive Rws (H : Hp) : List V → List Row → Prop
  | nil : Rws H [] []
  | cons {a : Addr} {r : Row} {vs : List V} {rs : List Row} : RowAt H a r → Rws H vs rs → Rws H (.ref a :: vs) (r :: rs)
theorem Rws.same {H H' : Hp} {vs : List V} {rs : List Row} (h : Rws H vs rs) (s : Same H H') : Rws H' vs rs := by
  induction h with
  | nil => exact .nil
  | cons a _ ih => exact .cons (s _ _ a) ih
theorem Rws.len {H : Hp} {vs : List V} {rs : List Row} (h : Rws H vs rs) : vs.length = rs.length := by
  induction h with
  | nil => rfl
  | cons _ _ ih => rw [List.length_cons, List.length_cons, ih]
theorem Rws.get {H : Hp} {vs : List V} {rs : List Row} (h : Rws H vs rs) : ∀ {i : Nat} {x : V}, vs[i]? = some x → ∃ a r, x = .ref a ∧ rs[i]? = some r ∧ RowAt H a r := by
  induction h with
  | nil =>
    intro i x e
    cases e
  | @cons a r vs rs ha _ ih =>
    intro i x e
    cases i with
    | zero =>
      cases e
      exact ⟨a, r, rfl, rfl, ha⟩
    | succ i => exact ih (by simpa using e)
theorem Rws.app {H : Hp} {vs ws : List V} {rs qs : List Row} (h : Rws H vs rs) (k : Rws H ws qs) : Rws H (vs ++ ws) (rs ++ qs) := by
  induction h with
  | nil => exact k
  | cons a _ ih => exact .cons a ih
def RowsAt (H : Hp) (r : Addr) (rows : List Row) : Prop := ∃ vs, H r = some (.tup vs) ∧ Rws H vs rows
theorem RowsAt.same {H H' : Hp} {r : Addr} {rows : List Row} (h : RowsAt H r rows) (s : Same H H') : RowsAt H' r rows := let ⟨vs, e, k⟩ := h; ⟨vs, s _ _ e, k.same s⟩
def RowsOk (l : List Nat) (n : Int) (rows : List Row) : Prop := (∀ r ∈ rows, RowOk l n r) ∧ rows.length ≤ 20
def histF (b r : Addr) : List (Str × V) := putF "rows" (.ref r) (putF "board" (.ref b) [])
theorem hf_eq (b r : Addr) : histF b r = ([("board", V.ref b), ("rows", V.ref r)] : List (Str × V)) := by
  have h1 : ¬ (("board" : Str) = "rows") := by decide +kernel
  unfold histF
  simp only [putF]
  rw [if_neg h1]
theorem hf_board (b r : Addr) : (histF b r).lookup ("board" : Str) = some (.ref b) := by rw [hf_eq]; rfl
theorem hf_rows (b r : Addr) : (histF b r).lookup ("rows" : Str) = some (.ref r) := by
  have h1 : (("rows" : Str) == "board") = false := by decide +kernel
  rw [hf_eq, List.lookup_cons, h1]
  rfl
theorem hf_none (b r : Addr) {x : Str} (h1 : (x == ("board" : Str)) = false) (h2 : (x == ("rows" : Str)) = false) : (histF b r).lookup x = none := by
  rw [hf_eq, List.lookup_cons, h1, List.lookup_cons, h2]
  rfl
/-- a history stands at p -/
def HistAt (C CH : Addr) (H : Hp) (p : Addr) (l : List Nat) (n : Int) (rows : List Row) : Prop := ∃ dx b r, H p = some (.ins CH dx (histF b r)) ∧ Bd C H b l n ∧ RowsAt H r rows ∧ RowsOk l n rows
theorem HistAt.same {C CH p : Addr} {H H' : Hp} {l : List Nat} {n : Int} {rows : List Row} (h : HistAt C CH H p l n rows) (s : Same H H') : HistAt C CH H' p l n rows := by
  obtain ⟨dx, b, r, e, hb, hr, ok⟩ := h
  exact ⟨dx, b, r, s _ _ e, hb.same s, hr.same s, ok⟩
structure TxH (K : PySem.W.Frag) (mg : Str → Option Value) (CH : Addr) : Prop where
  cl : Cls K CH
  mgC : mg "History" = some (.ref CH)
  nB : NoAttr K CH "board"
  nR : NoAttr K CH "rows"
def spChkR (C : Addr) : Sp := fun vs H Q _ => ∃ (p r : Addr) (l : List Nat) (n : Int) (rows : List Row), vs = [.ref p, .ref r] ∧ Bd C H p l n ∧ RowsAt H r rows ∧ RowsOk l n rows ∧ ∀ H', Same H H' → Q .non H'
def spHInit (C CH : Addr) : Sp := fun vs H Q _ => ∃ (p dx b r : Addr) (l : List Nat) (n : Int) (rows : List Row), vs = [.ref p, .ref b, .ref r] ∧ H p = some (.ins CH dx []) ∧ Bd C H b l n ∧ RowsAt H r rows ∧ RowsOk l n rows ∧
  ∀ H' dx', But p H H' → H' p = some (.ins CH dx' (histF b r)) → Q .non H'
def spHInitR (C CH : Addr) : Sp := fun vs H Q E => ∃ ws rest, vs = ws ++ rest ∧ ws.length = (["self", "board"] : List Str).length ∧ rest.length ≤ sizeLine ∧ ∀ p, H p = none → spHInit C CH (ws ++ [V.ref p]) (upd H p (.tup rest)) Q E
def spThen (C CH : Addr) : Sp := fun vs H Q _ => ∃ (p : Addr) (l g t : List Nat) (n : Int) (rows : List Row), vs = [.ref p, .str (tx g), .str (tx t)] ∧ HistAt C CH H p l n rows ∧ RowOk l n (g, t) ∧ rows.length < 20 ∧
  ∀ H' q, Same H H' → H q = none → HistAt C CH H' q l n (rows ++ [(g, t)]) → Q (.ref q) H'
def fitsB (rows : List Row) (w : List Nat) : Bool := rows.all fun r => decide (mk r.1 w = r.2)
def spFits (C CH : Addr) : Sp := fun vs H Q _ => ∃ (p : Addr) (l w : List Nat) (n : Int) (rows : List Row), vs = [.ref p, .str (tx w)] ∧ HistAt C CH H p l n rows ∧ Wd l n w ∧ ∀ H', Same H H' → Q (.bl (fitsB rows w)) H'
theorem sm_tr {A B D : Hp} (x : Same A B) (y : Same B D) : Same A D := fun b o e => y _ _ (x _ _ e)
section
variable {P : Program} {w : World} {K : PySem.W.Frag} {mg : Str → Option Value} {base : Heap}
abbrev nCR : List Str := ["board", "rows", "index", "row"]
theorem scCR : FnScope nCR ["board", "rows"] (defScope sChkR) := ⟨rfl, rfl, rfl, by decide +kernel, rfl, by decide +kernel, by decide +kernel⟩
theorem ok_chkR {f C fR : Addr} {fd fdR : FuncData} (F : Fun K "check_rows" "check_rows" sChkR f fd) (tl : mg "len" = none) (te : mg "enumerate" = none) (tm : ∃ t, mg "MOST_ROWS" = some (.int 20 t)) (GR : FnOk P w K mg base CX0 3 fR fdR ["board", "value"] (spIsRow C)) (DR : Df K mg "is_row" fR fdR ["board", "value"]) :
    FnOk P w K mg base CX0 4 f fd ["board", "rows"] (spChkR C) := by
  refine F.ok scCR (fun vs H Q E h => ?_) (fun cdv A outer s H vs Q E hr h => ?_)
  · obtain ⟨p, r, l, n, rows, rfl, _⟩ := h
    rfl
  · obtain ⟨p, r, l, n, rows, rfl, hb, ⟨vs, hv, hw⟩, ok, q⟩ := h
    have nd := scCR.nd
    obtain ⟨t20, m20⟩ := tm
    refine ⟨_, pss_cons (ps_if (pt_cmpR op_gt (pe_callB call_len_seq (by rfl) tl PySem.boot_len (pa_cons (pv 1) pa_nil)) (pe_glob (v := .int 20) (by rfl) m20 ⟨_, rfl⟩) (nomark _)) (pss_one ps_never) pss_nil)
      (pss_one (ps_for PassesOwn.never rfl (pi_enumT (by rfl) te (pa_cons (pv 1) pa_nil)) (pg_tup (by rfl) (pgs_cons (pg_name (i := 2) nd rfl (Or.inl rfl)) (pgs_cons (pg_name (i := 3) nd rfl (Or.inl rfl)) pgs_nil)))
        (pss_one (ps_if (pt_not (pt_val (pe_call GR hr (by rfl) DR.mg DR.kp DR.b .nil pass0 (pa_cons (pv 0) (pa_cons (pv 3) pa_nil))))) (pss_one ps_never) pss_nil)))), ?_⟩
    have hl := hw.len
    refine ⟨_, rfl, r, _, rfl, .inr (SqT.of hv), _, _, rfl, rfl, _, rfl, ?_⟩
    rw [decide_eq_false (show ¬ ((vs.length : Nat) : Int) > 20 from by have := ok.2; omega)]
    refine iteF ⟨_, rfl, r, vs, rfl, SqT.of hv, for_it walk_iten (fun i σ H' => (∃ v2 v3 : Option V, σ = [some (.ref p), some (.ref r), v2, v3]) ∧ Same H H') ⟨⟨_, _, rfl⟩, Same.refl H⟩ (fun i σ H' _ ⟨_, sm⟩ => SqT.of (sm _ _ hv)) ?_ ?_⟩
    · rintro i x σ H1 H2 hi ⟨⟨v2, v3, rfl⟩, sm⟩ ⟨T, y, rfl, hT, rfl, hy⟩
      obtain ⟨a, rw_, rfl, hrow, ha⟩ := hw.get hy
      have sm2 : Same H (upd H1 T (.tup [.int (i : Nat), .ref a])) := sm_tr sm (same_upd hT)
      refine ⟨T, _, rfl, SqT.of upd_same, rfl, _, _, rfl, _, _, rfl, rfl, ?_⟩
      refine ⟨_, rfl, _, rfl, p, a, l, n, rw_, rfl, hb.same sm2, sm2 _ _ ha, ok.1 _ (List.mem_of_getElem? hrow), fun H3 s3 => ⟨_, rfl, iteF ⟨⟨_, _, rfl⟩, sm_tr sm2 s3⟩⟩⟩
    · rintro σ H1 ⟨_, sm⟩
      exact q _ sm
abbrev nHI : List Str := ["self", "board", "rows"]
theorem scHI : FnScope nHI ((["self", "board"] : List Str) ++ (["rows"] : List Str)) (defScope sHInit) := ⟨rfl, rfl, rfl, by decide +kernel, rfl, by decide +kernel, by decide +kernel⟩
theorem ok_hinit {f C CH fB fR : Addr} {fd fdB fdR : FuncData} (F : Fun K "__init__" "History.__init__" sHInit f fd) (TH : TxH K mg CH) (GB : FnOk P w K mg base CX0 1 fB fdB ["board"] (spChkB C)) (DB : Df K mg "check_board" fB fdB ["board"])
    (GR : FnOk P w K mg base CX0 4 fR fdR ["board", "rows"] (spChkR C)) (DR : Df K mg "check_rows" fR fdR ["board", "rows"]) : FnR P w K mg base CX0 5 f (spHInitR C CH) := by
  obtain ⟨oc, od, kV, doc, pm, an, cdv, ct, osl, rfl, lk, hcd⟩ := F.ex
  refine StX.fn_star (ps := ["self", "board"]) (pv := "rows") (k := 4) lk hcd scHI StX.cxUp_none (StX.bind_star2 (B := fun us => bindArgs (PySem.W.fnOf "__init__" "History.__init__" (defArgs sHInit) (defBody sHInit) (defScope sHInit) .none kV doc pm an cdv ct) ⟨us, []⟩) (p1 := "self") (p2 := "board") (pv := "rows") (fun a b => rfl) (fun a b r rs => rfl)) fun A outer s H vs Q E hr h => ?_
  obtain ⟨p, dx, b, r, l, n, rows, rfl, hp, hb, hrw, ok, q⟩ := h
  have hr1 : Room 1 _ := hr.mono (by decide)
  have body : ∃ t, PSs (cxOf CX0 P w K mg base nHI "History.__init__" (defScope sHInit) f cdv A outer s H E).nox (defBody sHInit) t ∧ t { nx := fun _ H' => Q .non H', rt := Q } (L2.start nHI [V.ref p, V.ref b, V.ref r]) H := by
    refine ⟨_, pss_cons (ps_expr (pe_call GB hr1 (by rfl) DB.mg DB.kp DB.b .nil pass0 (pa_cons (pv 1) pa_nil))) (pss_cons (ps_expr (pe_call GR hr (by rfl) DR.mg DR.kp DR.b .nil pass0 (pa_cons (pv 1) (pa_cons (pv 2) pa_nil))))
      (pss_cons (ps_fld (pv 0) (pv 1) rfl) (pss_one (ps_fld (pv 0) (pv 2) rfl)))), ?_⟩
    refine ⟨_, rfl, b, l, n, rfl, hb, _, rfl, _, rfl, b, r, l, n, rows, rfl, hb, hrw, ok, fun H1 s1 => ?_⟩
    refine ⟨_, rfl, _, rfl, p, CH, dx, _, rfl, s1 _ _ hp, TH.cl, TH.nB, by show 0 < 1000; decide, ?_⟩
    refine ⟨_, rfl, _, rfl, p, CH, dx, _, rfl, upd_same, TH.cl, TH.nR, by show 1 < 1000; decide, ?_⟩
    exact q _ dx ((But.of s1).trans (But.upd.trans But.upd)) upd_same
  obtain ⟨t, ht, hq⟩ := body
  exact ⟨t, ht.nox, hq⟩
end
end Gm

namespace Gm
open PySem L2
theorem made_same2 {H H' : Hp} {x dx C : Addr} (hx : H x = none) (hd : H dx = none) (b : But x (upd (upd H dx (.own x)) x (.ins C dx [])) H') : Same H H' := fun a o e => by
  have n1 : a ≠ x := ne_of_none e hx
  exact b a o n1 (by rw [upd_ne n1, upd_ne (ne_of_none e hd)]; exact e)
/-- History(..) of a board and rows that stand -/
theorem hist_made {C CH b : Addr} {H : Hp} {l : List Nat} {n : Int} {vs : List V} {rows : List Row} {Q : Addr → Hp → Prop} (hb : Bd C H b l n) (hv : Rws H vs rows) (ok : RowsOk l n rows) (k : ∀ H' x, Same H H' → H x = none → HistAt C CH H' x l n rows → Q x H') :
    ∀ x dx, H x = none → H dx = none → dx ≠ x → spHInitR C CH (.ref x :: .ref b :: vs) (upd (upd H dx (.own x)) x (.ins CH dx [])) (fun v H2 => v = .non ∧ Q x H2) E0 := by
  intro x dx nx nd ne
  have sm : Same H (upd (upd H dx (.own x)) x (.ins CH dx [])) := fun c o e => by rw [upd_ne (ne_of_none e nx), upd_ne (ne_of_none e nd)]; exact e
  refine ⟨[.ref x, .ref b], vs, rfl, rfl, ?_, fun r zr => ?_⟩
  · rw [hv.len, sizeLine_eq]
    have := ok.2
    omega
  · have nrx : x ≠ r := ne_of_none upd_same zr
    have sr := same_upd (o := .tup vs) zr
    refine ⟨x, dx, b, r, l, n, rows, rfl, (upd_ne nrx).trans upd_same, (hb.same sm).same sr, ⟨vs, upd_same, (hv.same sm).same sr⟩, ok, fun H' dx' bt e => ⟨rfl, ?_⟩⟩
    have keep : ∀ c o, c ≠ x → upd (upd (upd H dx (.own x)) x (.ins CH dx [])) r (.tup vs) c = some o → H' c = some o := fun c o n e => bt c o n e
    have sm' : Same H H' := fun c o e => keep c o (ne_of_none e nx) (sr _ _ (sm _ _ e))
    exact k H' x sm' nx ⟨dx', b, r, e, hb.same sm', ⟨vs, keep r _ nrx.symm upd_same, hv.same sm'⟩, ok⟩
section
variable {P : Program} {w : World} {K : PySem.W.Frag} {mg : Str → Option Value} {base : Heap}
abbrev nTh : List Str := ["self", "guess", "told"]
theorem scTh : FnScope nTh ["self", "guess", "told"] (defScope sThen) := ⟨rfl, rfl, rfl, by decide +kernel, rfl, by decide +kernel, by decide +kernel⟩
theorem ok_then {f C CH fW fM fI : Addr} {fd fdW fdM : FuncData} (F : Fun K "then" "History.then" sThen f fd) (TH : TxH K mg CH) (tl : mg "len" = none) (tm : ∃ t, mg "MOST_ROWS" = some (.int 20 t))
    (GW : FnOk P w K mg base CX0 3 fW fdW ["board", "word"] (spChkW C)) (DW : Df K mg "check_word" fW fdW ["board", "word"]) (GM : FnOk P w K mg base CX0 3 fM fdM ["board", "told"] (spChkM C)) (DM : Df K mg "check_marks" fM fdM ["board", "told"])
    (GI : FnR P w K mg base CX0 5 fI (spHInitR C CH)) (M : Mk K CH fI) : FnOk P w K mg base CX0 7 f fd ["self", "guess", "told"] (spThen C CH) := by
  refine F.ok scTh (fun vs H Q E h => ?_) (fun cdv A outer s H vs Q E hr h => ?_)
  · obtain ⟨p, l, g, t, n, rows, rfl, _⟩ := h
    rfl
  · obtain ⟨p, l, g, t, n, rows, rfl, ⟨dx, b, r, hp, hb, ⟨vs, hv, hw⟩, ok⟩, rok, lt, q⟩ := h
    have nd := scTh.nd
    obtain ⟨t20, m20⟩ := tm
    have hr3 : Room 3 _ := hr.mono (by decide)
    refine ⟨_, pss_cons (ps_expr (pe_call GW hr3 (by rfl) DW.mg DW.kp DW.b .nil pass0 (pa_cons (pe_fld (pv 0) rfl) (pa_cons (pv 1) pa_nil))))
      (pss_cons (ps_expr (pe_call GM hr3 (by rfl) DM.mg DM.kp DM.b .nil pass0 (pa_cons (pe_fld (pv 0) rfl) (pa_cons (pv 2) pa_nil))))
      (pss_cons (ps_if (pt_cmpR op_eq (pe_callB call_len_seq (by rfl) tl PySem.boot_len (pa_cons (pe_fld (pv 0) rfl) pa_nil)) (pe_glob (v := .int 20) (by rfl) m20 ⟨_, rfl⟩) (nomark _)) (pss_one ps_never) pss_nil)
      (pss_one (ps_ret (pe_makeS2 M GI hr (by rfl) TH.mgC pass0 (pa_cons (pe_fld (pv 0) rfl) (StX.pa_star (pe_fld (pv 0) rfl) (pa_cons (pe_tup (pa_cons (pv 1) (pa_cons (pv 2) pa_nil))) pa_nil)))))))), ?_⟩
    have hl := hw.len
    refine ⟨_, rfl, p, CH, dx, _, _, rfl, hp, TH.cl, TH.nB, hf_board b r, _, rfl, b, l, g, n, rfl, hb, rok.1, fun H1 s1 => ?_⟩
    have hp1 := s1 _ _ hp
    refine ⟨_, rfl, p, CH, dx, _, _, rfl, hp1, TH.cl, TH.nB, hf_board b r, _, rfl, b, l, t, n, rfl, hb.same s1, rok.2, fun H2 s2 => ?_⟩
    have hp2 := s2 _ _ hp1
    have s02 := sm_tr s1 s2
    have hv2 := s02 _ _ hv
    refine ⟨_, rfl, p, CH, dx, _, _, rfl, hp2, TH.cl, TH.nR, hf_rows b r, r, _, rfl, .inr (SqT.of hv2), rfl, _, rfl, ?_⟩
    rw [decide_eq_false (show ¬ V.int ((vs.length : Nat) : Int) = V.int 20 from fun e => by have := V.int.inj e; omega)]
    refine iteF ?_
    refine ⟨_, rfl, p, CH, dx, _, _, rfl, hp2, TH.cl, TH.nB, hf_board b r, ?_⟩
    refine ⟨_, rfl, p, CH, dx, _, _, rfl, hp2, TH.cl, TH.nR, hf_rows b r, r, vs, rfl, .inl (SqT.of hv2), ?_⟩
    refine ⟨_, rfl, _, rfl, by show 2 ≤ sizeLine; decide, fun T zT => ?_⟩
    have s3 := sm_tr s02 (same_upd (o := .tup [.str (tx g), .str (tx t)]) zT)
    refine hist_made (hb.same s3) ((hw.same s3).app (.cons (r := (g, t)) upd_same .nil)) ⟨fun x hx => ?_, by rw [List.length_append]; show rows.length + 1 ≤ 20; omega⟩ fun H' x s4 nx hh => q H' x (sm_tr s3 s4) (s3.free nx) hh
    rcases List.mem_append.mp hx with hx | hx
    · exact ok.1 x hx
    · rw [List.mem_singleton.mp hx]
      exact rok
abbrev nFt : List Str := ["self", "word", "guess", "told"]
theorem scFt : FnScope nFt ["self", "word"] (defScope sFits) := ⟨rfl, rfl, rfl, by decide +kernel, rfl, by decide +kernel, by decide +kernel⟩
theorem ok_fits {f C CH fW fM : Addr} {fd fdW fdM : FuncData} (F : Fun K "fits" "History.fits" sFits f fd) (TH : TxH K mg CH) (ta : mg "all" = none)
    (GW : FnOk P w K mg base CX0 3 fW fdW ["board", "word"] (spChkW C)) (DW : Df K mg "check_word" fW fdW ["board", "word"]) (GM : FnOk P w K mg base CX0 1 fM fdM ["guess", "word"] spMarksOf) (DM : Df K mg "marks_of" fM fdM ["guess", "word"]) :
    FnOk P w K mg base CX0 4 f fd ["self", "word"] (spFits C CH) := by
  refine F.ok scFt (fun vs H Q E h => ?_) (fun cdv A outer s H vs Q E hr h => ?_)
  · obtain ⟨p, l, z, n, rows, rfl, _⟩ := h
    rfl
  · obtain ⟨p, l, z, n, rows, rfl, ⟨dx, b, r, hp, hb, ⟨vs, hv, hw⟩, ok⟩, hz, q⟩ := h
    have nd := scFt.nd
    have hr1 : Room 1 _ := hr.mono (by decide)
    have hline : sizeLine = 16777216 := sizeLine_eq
    refine ⟨_, pss_cons (ps_expr (pe_call GW hr (by rfl) DW.mg DW.kp DW.b .nil pass0 (pa_cons (pe_fld (pv 0) rfl) (pa_cons (pv 1) pa_nil))))
      (pss_one (ps_ret (pe_callB (cr_all rfl) (by rfl) ta (by decide +kernel) (pa_cons
        (pe_lc (own := [("guess", 2), ("told", 3)]) (g := gTup K 2 (gCons (gName 2) (gCons (gName 3) gNil))) (by rfl) nd (pi_tup (pe_fld (pv 0) rfl)) (blkOk_by (own := [("guess", 2), ("told", 3)]) (N := nFt) (sc := defScope sFits) (by decide +kernel))
          (fun _ _ _ _ _ => by exact pg_tup (by rfl) (pgs_cons (pg_name (i := 2) nd rfl (Or.inl rfl)) (pgs_cons (pg_name (i := 3) nd rfl (Or.inl rfl)) pgs_nil))) (fun _ _ _ _ _ => pts_nil)
          (fun _ _ _ _ _ => pe_cmpR op_eq (pe_call GM hr1 (by rfl) DM.mg DM.kp DM.b .nil pass0 (pa_cons (pv 2) (pa_cons (pv 1) pa_nil))) (pv 3) (nomark _))) pa_nil)))), ?_⟩
    have hl := hw.len
    have h20 := ok.2
    refine ⟨_, rfl, p, CH, dx, _, _, rfl, hp, TH.cl, TH.nB, hf_board b r, _, rfl, b, l, z, n, rfl, hb, hz, fun H1 s1 => ?_⟩
    refine ⟨_, rfl, p, CH, dx, _, _, rfl, s1 _ _ hp, TH.cl, TH.nR, hf_rows b r, r, rfl, ⟨_, SqT.of (s1 _ _ hv)⟩, fun D hD => ?_⟩
    refine lc_it walk_tup (fun i H' => Same H1 H' ∧ H' D = some (.lst (((rows.take i).map fun r => decide (mk r.1 z = r.2)).map V.bl))) ⟨same_upd hD, upd_same⟩ (fun i H' _ hh => SqT.of (hh.1 _ _ (s1 _ _ hv))) ?_ ?_
    · rintro i x H2 H3 hi ⟨sm, hDi⟩ ⟨rfl, hx⟩
      obtain ⟨a, rw_, rfl, hrow, ha⟩ := hw.get hx
      have ha2 := sm _ _ (s1 _ _ ha)
      have rk := ok.1 _ (List.mem_of_getElem? hrow)
      have g1 := rk.1.1
      have n6 := hb.2.2.2
      have z1 := hz.1
      refine ⟨a, _, rfl, SqT.of ha2, rfl, _, _, rfl, _, _, rfl, rfl, rfl, ?_⟩
      refine ⟨_, rfl, _, rfl, rw_.1, z, rfl, by omega, by omega, fun H4 s4 => ⟨_, rfl, rfl, ?_⟩⟩
      have hD4 := s4 _ _ hDi
      refine ⟨_, hD4, ?_, fun c o e => ?_, ?_⟩
      · rw [List.length_map, List.length_map, List.length_take]
        omega
      · rw [upd_ne (ne_of_none e hD)]
        exact s4 _ _ (sm _ _ e)
      · have e1 : rows.take (i + 1) = rows.take i ++ [rw_] := by
          rw [List.take_succ_eq_append_getElem (List.getElem?_eq_some_iff.mp hrow).1, (List.getElem?_eq_some_iff.mp hrow).2]
        have e2 : decide (V.str (tx (mk rw_.1 z)) = V.str (tx rw_.2)) = decide (mk rw_.1 z = rw_.2) := decide_eq_decide.mpr ⟨fun e => by
          have := congrArg (fun s : Str => s.cps.toList) (V.str.inj e)
          simpa using this, fun e => by rw [e]⟩
        rw [upd_same, e1, List.map_append, List.map_append]
        show some (HO.lst (_ ++ [V.bl _])) = some (HO.lst (_ ++ [V.bl _]))
        rw [e2]
    · rintro H2 ⟨sm, hD2⟩
      refine ⟨D, _, rfl, SqL.of hD2, ?_⟩
      have e : ((rows.take vs.length).map fun r => decide (mk r.1 z = r.2)).all id = fitsB rows z := by
        rw [hl, List.take_length, List.all_map]
        rfl
      rw [e]
      exact q _ (sm_tr s1 sm)
end
end Gm

/-! dict comprehensions over any walk -/
namespace L2
open PySem PySem.Spec PyProof.Rows
theorem dc_it {J : It} {n : Nat} {G : Hp → Prop} {Y : Nat → Hp → V → Hp → Prop} (w : Walk J n G Y) {g : TG} {tt : TT} {tk tv : TE} {vs : List Nat} {σ : St} {H1 : Hp} {D : Addr} {Qd : Hp → Prop} (Pv : Nat → Hp → Prop) (h0 : Pv 0 (upd H1 D (.dK []))) (hG : ∀ i H, i ≤ n → Pv i H → G H)
    (hs : ∀ i x H H', i < n → Pv i H → Y i H x H' → g x (wipe σ vs) H' fun σ2 H2 => wipe σ2 vs = wipe σ vs ∧ tt σ2 H2 fun b H3 =>
      if b = true then tk σ2 H3 fun y H4 => tv σ2 H4 fun z H5 => ∃ kvs k, y = kV k ∧ H5 D = some (.dK kvs) ∧ kvs.length < sizeLine ∧ Pv (i + 1) (upd H5 D (.dK (putK kvs k z))) else Pv (i + 1) H3) (hd : ∀ H, Pv n H → Qd H) :
    ∃ W : Nat → Nat → Hp → Prop, (∃ m, W 0 m (upd H1 D (.dK []))) ∧ ∀ i m H, W i m H →
      (J.stop i H ∧ Qd H) ∨ (J.go i H ∧ ∃ Nx : Hp → Prop, (∀ H', Nx H' → ∃ m', m' < m ∧ W (i + 1) m' H') ∧ ∀ x H', J.yld i H x H' → g x (wipe σ vs) H' fun σ2 H2 => wipe σ2 vs = wipe σ vs ∧ tt σ2 H2 fun b H3 =>
        if b = true then tk σ2 H3 fun y H4 => tv σ2 H4 fun z H5 => ∃ kvs k, y = kV k ∧ H5 D = some (.dK kvs) ∧ kvs.length < sizeLine ∧ Nx (upd H5 D (.dK (putK kvs k z))) else Nx H3) := by
  refine ⟨fun i m H => m = n - i ∧ i ≤ n ∧ Pv i H, ⟨n, rfl, Nat.zero_le _, h0⟩, fun i m H hh => ?_⟩
  obtain ⟨rfl, hi, p⟩ := hh
  rcases Nat.lt_or_ge i n with lt | ge
  · exact .inr ⟨w.goes i H lt (hG i H hi p), Pv (i + 1), fun H' p' => ⟨n - (i + 1), by omega, rfl, lt, p'⟩, fun x H' y => hs i x H H' lt p (w.yields i H x H' lt (hG i H hi p) y)⟩
  · obtain rfl : i = n := by omega
    exact .inl ⟨w.stops H (hG _ H hi p), hd H p⟩
end L2

namespace Gm
open PySem L2



theorem putK_app {l : List Nat} {f : Nat → Int} {c : Nat} (h : ¬ c ∈ l) : putK (kvsOf l f) (Sum.inr (one c)) (.int (f c)) = kvsOf (l ++ [c]) f := by
  have e : ((kvsOf l f).any fun kv => decide (kv.1 = (Sum.inr (one c) : Key))) = false := by
    rw [List.any_eq_false]
    intro x hx
    unfold kvsOf at hx
    obtain ⟨d, hd, rfl⟩ := List.mem_map.mp hx
    intro z
    have := of_decide_eq_true z
    exact h (by rw [← ones_inj (Sum.inr.inj this)]; exact hd)
  unfold putK
  rw [if_neg (by rw [e]; exact Bool.false_ne_true)]
  unfold kvsOf
  rw [List.map_append]
  rfl
theorem fresh_at {l : List Nat} (h : l.Nodup) {i c : Nat} (hc : l[i]? = some c) : ¬ c ∈ l.take i := by
  intro z
  obtain ⟨j, hj⟩ := List.mem_iff_getElem?.mp z
  rw [List.getElem?_take] at hj
  split at hj
  · rename_i lt
    have := (List.getElem?_inj (List.getElem?_eq_some_iff.mp hj).1 h).mp (hj.trans hc.symm)
    omega
  · cases hj
/-- a board of letters that all differ -/
def Bn (C : Addr) (H : Hp) (p : Addr) (l : List Nat) (n : Int) : Prop := Bd C H p l n ∧ l.Nodup
theorem Bn.same {C p : Addr} {H H' : Hp} {l : List Nat} {n : Int} (h : Bn C H p l n) (e : Same H H') : Bn C H' p l n := ⟨h.1.same e, h.2⟩
/-- the bounds without rows -/
def bs0 (l : List Nat) (n : Nat) : BS := ⟨List.replicate n l, fun _ => 0, fun _ => (n : Int)⟩
def bsOf (l : List Nat) (n : Nat) (rows : List Row) : BS := rows.foldl rowB (bs0 l n)
def spBInit (C CB : Addr) : Sp := fun vs H Q _ => ∃ (p dx b r e : Addr) (l : List Nat) (n : Int) (rows : List Row), vs = [.ref p, .ref b, .ref r, .ref e] ∧ H p = some (.ins CB dx []) ∧ Bn C H b l n ∧ RowsAt H r rows ∧ (∀ x ∈ rows, RowOk l n x) ∧ H e = some (.tup []) ∧
  ∀ H' q, But p H H' → BAt CB H' p q l (bsOf l n.toNat rows) → Q .non H'
theorem countB_al (g t : List Nat) (b : BS) (c : Nat) : (countB g t b c).al = b.al := by
  unfold countB
  simp only
  split <;> rfl
theorem countF_al (g t : List Nat) : ∀ (cs : List Nat) (b : BS), (cs.foldl (countB g t) b).al = b.al
  | [], _ => rfl
  | c :: cs, b => by rw [List.foldl_cons, countF_al g t cs, countB_al]
theorem rowB_al (b : BS) (r : Row) : (rowB b r).al = (placeB r.1 r.2 r.1.length b).al := countF_al ..
theorem bsF_ok {n : Nat} : ∀ (rows : List Row) (b : BS), b.al.length = n → (∀ x ∈ b.al, x.length ≤ 26) → (rows.foldl rowB b).al.length = n ∧ ∀ x ∈ (rows.foldl rowB b).al, x.length ≤ 26
  | [], b, h1, h2 => ⟨h1, h2⟩
  | r :: rows, b, h1, h2 => by
    rw [List.foldl_cons]
    refine bsF_ok rows (rowB b r) ?_ ?_
    · rw [rowB_al, placeB_al, h1]
    · rw [rowB_al]
      exact placeB_26 r.1 r.2 b h2 r.1.length
theorem bf_put (a l g : Addr) : putF "greatest" (V.ref g) (putF "least" (.ref l) (putF "allowed" (.ref a) [])) = bF a l g := by
  have h1 : ¬ (("allowed" : Str) = "least") := by decide +kernel
  have h2 : ¬ (("allowed" : Str) = "greatest") := by decide +kernel
  have h3 : ¬ (("least" : Str) = "greatest") := by decide +kernel
  simp only [putF]
  rw [if_neg h1]
  simp only [putF]
  rw [if_neg h2, if_neg h3]
  rfl
section
variable {P : Program} {w : World} {K : PySem.W.Frag} {mg : Str → Option Value} {base : Heap}
abbrev nBI : List Str := ["self", "board", "rows", "facts", "guess", "told", "fact", "place", "letter"]
theorem scBI : FnScope nBI ["self", "board", "rows", "facts"] (defScope sBInit) := ⟨rfl, rfl, rfl, by decide +kernel, rfl, by decide +kernel, by decide +kernel⟩
theorem ok_binit {f fT C CB : Addr} {fd fdT : FuncData} (F : Fun K "__init__" "Bounds.__init__" sBInit f fd) (T : TxBd K mg CB) (TC : TxC K mg C) (range : mg "range" = none) (mT : Meth K CB "take_row" fT) (GT : FnOk P w K mg base CX0 2 fT fdT ["self", "guess", "told"] (spTakeR CB)) (bT : Binds K fdT ["self", "guess", "told"] []) :
    FnOk P w K mg base CX0 3 f fd ["self", "board", "rows", "facts"] (spBInit C CB) := by
  refine F.ok scBI (fun vs H Q E h => ?_) (fun cdv A outer s H vs Q E hr h => ?_)
  · obtain ⟨p, dx, b, r, e, l, n, rows, rfl, _⟩ := h
    rfl
  · obtain ⟨p, dx, b, r, e, l, n, rows, rfl, hp, hb, ⟨vs, hv, hw⟩, rok, he, fin⟩ := h
    have nd := scBI.nd
    have hline : sizeLine = 16777216 := sizeLine_eq
    obtain ⟨⟨⟨dxb, hbd⟩, l26, n1, n6⟩, lnd⟩ := _root_.id hb
    refine ⟨_, pss_cons (ps_fld (pv 0) (pe_lc (te := tFld K (tVar 1) "letters") (own := [("place", 7)]) (g := gName 7) (by rfl) nd (pi_range1 (by rfl) range (pa_cons (pe_fld (pv 1) rfl) pa_nil)) (blkOk_by (own := [("place", 7)]) (N := nBI) (sc := defScope sBInit) (by decide +kernel))
          (fun _ _ _ _ _ => pg_name (i := 7) nd rfl (Or.inl rfl)) (fun _ _ _ _ _ => pts_nil) (fun _ _ _ _ _ => by exact pe_fld (pv 1) rfl)) rfl)
      (pss_cons (ps_fld (pv 0) (pe_dc (own := [("letter", 8)]) (g := gName 8) (by rfl) nd (pi_str (pe_fld (pv 1) rfl)) (blkOk_by (own := [("letter", 8)]) (N := nBI) (sc := defScope sBInit) (by decide +kernel))
          (fun _ _ _ _ _ => pg_name (i := 8) nd rfl (Or.inl rfl)) (fun _ _ _ _ _ => pts_nil) (fun _ _ _ _ _ => pv 8) (fun _ _ _ _ _ => pe_int)) rfl)
      (pss_cons (ps_fld (pv 0) (pe_dc (tv := tFld K (tVar 1) "length") (own := [("letter", 8)]) (g := gName 8) (by rfl) nd (pi_str (pe_fld (pv 1) rfl)) (blkOk_by (own := [("letter", 8)]) (N := nBI) (sc := defScope sBInit) (by decide +kernel))
          (fun _ _ _ _ _ => pg_name (i := 8) nd rfl (Or.inl rfl)) (fun _ _ _ _ _ => pts_nil) (fun _ _ _ _ _ => pv 8) (fun _ _ _ _ _ => by exact pe_fld (pv 1) rfl)) rfl)
      (pss_cons (ps_for PassesOwn.never rfl (pi_tup (pv 2)) (pg_tup (by rfl) (pgs_cons (pg_name (i := 4) nd rfl (Or.inl rfl)) (pgs_cons (pg_name (i := 5) nd rfl (Or.inl rfl)) pgs_nil))) (pss_one (ps_expr (pe_meth (pv 0) T.cl mT GT hr bT .nil pass0 (pa_cons (pv 4) (pa_cons (pv 5) pa_nil))))))
      (pss_one (ps_for PassesOwn.never rfl (pi_tup (pv 3)) (pg_name (i := 6) nd rfl (Or.inl rfl)) (pss_one ps_never)))))), ?_⟩
    refine ⟨_, rfl, b, C, dxb, _, _, rfl, hbd, TC.cl, TC.nN, bf_length _ _, n, rfl, by omega, by omega, fun D hD => ?_⟩
    refine lc_range (lo := 0) (n := n.toNat) (fun i H' => Same H H' ∧ H' D = some (.lst (alV (List.replicate i l)))) ⟨same_upd hD, upd_same⟩ ?_ ?_
    · rintro i H1 hi ⟨sm, hD1⟩
      refine ⟨rfl, _, rfl, b, C, dxb, _, _, rfl, sm _ _ hbd, TC.cl, TC.nL, bf_letters _ _, _, hD1, ?_, fun a o z => ?_, ?_⟩
      · unfold alV
        rw [List.length_map, List.length_replicate]
        omega
      · rw [upd_ne (ne_of_none z hD)]
        exact sm a o z
      · rw [upd_same, List.replicate_succ']
        unfold alV
        rw [List.map_append]
        rfl
    rintro H1 ⟨s1, hD1⟩
    refine ⟨_, rfl, p, CB, dx, _, rfl, s1 _ _ hp, T.cl, T.nA, by show 0 < 1000; decide, ?_⟩
    have pD : p ≠ D := ne_of_none hp hD
    have eA : upd H1 p (.ins CB dx (putF "allowed" (.ref D) [])) p = some (.ins CB dx (putF "allowed" (.ref D) [])) := upd_same
    have kA : ∀ a o, a ≠ p → H1 a = some o → upd H1 p (.ins CB dx (putF "allowed" (.ref D) [])) a = some o := fun a o n z => by rw [upd_ne n]; exact z
    generalize upd H1 p (.ins CB dx (putF "allowed" (.ref D) [])) = HA at eA kA
    have pb : b ≠ p := by
      intro z
      rw [z, hp] at hbd
      have := HO.ins.inj (Option.some.inj hbd)
      have h3 := this.2.2
      rw [bf_eq] at h3
      cases h3
    have hbdA := kA _ _ pb (s1 _ _ hbd)
    have hDA := kA _ _ pD.symm hD1
    refine ⟨_, rfl, b, C, dxb, _, _, rfl, hbdA, TC.cl, TC.nL, bf_letters _ _, tx l, rfl, fun D2 hD2 => ?_⟩
    refine dc_it (walk_str (z := tx l)) (fun i H' => Same HA H' ∧ H' D2 = some (.dK (kvsOf (l.take i) fun _ => 0))) ⟨same_upd hD2, upd_same⟩ (fun _ _ _ _ => trivial) ?_ ?_
    · rintro i x H3 H2 hi ⟨sm, hd⟩ ⟨rfl, c, hc, rfl⟩
      have hc' := tx_at hc
      have hlt := (List.getElem?_eq_some_iff.mp hc').1
      have hnot : ¬ c ∈ l.take i := fresh_at lnd hc'
      refine ⟨rfl, _, rfl, _, Sum.inr (one c), rfl, hd, ?_, fun a o z => ?_, ?_⟩
      · rw [kvs_len, List.length_take]
        omega
      · rw [upd_ne (ne_of_none z hD2)]
        exact sm a o z
      · rw [upd_same, List.take_succ_eq_append_getElem hlt, (List.getElem?_eq_some_iff.mp hc').2]
        exact congrArg (fun z => some (HO.dK z)) (putK_app hnot)
    rintro H2 ⟨s2, hD2'⟩
    rw [tx_size, List.take_length] at hD2'
    have eA2 := s2 _ _ eA
    have pD2 : p ≠ D2 := ne_of_none eA hD2
    refine ⟨_, rfl, p, CB, dx, _, rfl, eA2, T.cl, T.nL, by show 1 < 1000; decide, ?_⟩
    have eB : upd H2 p (.ins CB dx (putF "least" (.ref D2) (putF "allowed" (.ref D) []))) p = some (.ins CB dx (putF "least" (.ref D2) (putF "allowed" (.ref D) []))) := upd_same
    have kB : ∀ a o, a ≠ p → H2 a = some o → upd H2 p (.ins CB dx (putF "least" (.ref D2) (putF "allowed" (.ref D) []))) a = some o := fun a o n z => by rw [upd_ne n]; exact z
    generalize upd H2 p (.ins CB dx (putF "least" (.ref D2) (putF "allowed" (.ref D) []))) = HB at eB kB
    have hbdB := kB _ _ pb (s2 _ _ hbdA)
    have hDB := kB _ _ pD.symm (s2 _ _ hDA)
    have hD2B := kB _ _ pD2.symm hD2'
    refine ⟨_, rfl, b, C, dxb, _, _, rfl, hbdB, TC.cl, TC.nL, bf_letters _ _, tx l, rfl, fun D3 hD3 => ?_⟩
    refine dc_it (walk_str (z := tx l)) (fun i H' => Same HB H' ∧ H' D3 = some (.dK (kvsOf (l.take i) fun _ => ((n.toNat : Nat) : Int)))) ⟨same_upd hD3, upd_same⟩ (fun _ _ _ _ => trivial) ?_ ?_
    · rintro i x H3 H2 hi ⟨sm, hd⟩ ⟨rfl, c, hc, rfl⟩
      have hc' := tx_at hc
      have hlt := (List.getElem?_eq_some_iff.mp hc').1
      have hnot : ¬ c ∈ l.take i := fresh_at lnd hc'
      refine ⟨rfl, _, rfl, _, rfl, b, C, dxb, _, _, rfl, sm _ _ hbdB, TC.cl, TC.nN, bf_length _ _, _, Sum.inr (one c), rfl, hd, ?_, fun a o z => ?_, ?_⟩
      · rw [kvs_len, List.length_take]
        omega
      · rw [upd_ne (ne_of_none z hD3)]
        exact sm a o z
      · rw [upd_same, List.take_succ_eq_append_getElem hlt, (List.getElem?_eq_some_iff.mp hc').2]
        exact congrArg (fun z => some (HO.dK z)) (by have := putK_app (f := fun _ => ((n.toNat : Nat) : Int)) hnot; rw [← this, show ((n.toNat : Nat) : Int) = n by omega])
    rintro H3 ⟨s3, hD3'⟩
    rw [tx_size, List.take_length] at hD3'
    have eB3 := s3 _ _ eB
    have pD3 : p ≠ D3 := ne_of_none eB hD3
    refine ⟨_, rfl, p, CB, dx, _, rfl, eB3, T.cl, T.nG, by show 2 < 1000; decide, ?_⟩
    rw [bf_put]
    have eC : upd H3 p (.ins CB dx (bF D D2 D3)) p = some (.ins CB dx (bF D D2 D3)) := upd_same
    have kC : ∀ a o, a ≠ p → H3 a = some o → upd H3 p (.ins CB dx (bF D D2 D3)) a = some o := fun a o n z => by rw [upd_ne n]; exact z
    generalize upd H3 p (.ins CB dx (bF D D2 D3)) = HC at eC kC
    have keep0 : ∀ a o, a ≠ p → H a = some o → HC a = some o := fun a o n z => kC a o n (s3 _ _ (kB a o n (s2 _ _ (kA a o n (s1 _ _ z)))))
    have bt0 : BAt CB HC p ⟨dx, D, D2, D3⟩ l (bs0 l n.toNat) := ⟨eC, kC _ _ pD.symm (s3 _ _ hDB), kC _ _ pD2.symm (s3 _ _ hD2B), kC _ _ pD3.symm hD3', fun z => by
      have z : D2 = D3 := z
      rw [← z, hD2B] at hD3
      cases hD3⟩
    have fA : H D = none := hD
    have fD2 : H D2 = none := by
      cases z : H D2 with
      | none => rfl
      | some o =>
        have := kA D2 o (fun y => pD2 y.symm) (s1 _ _ z)
        rw [hD2] at this
        cases this
    have fD3 : H D3 = none := by
      cases z : H D3 with
      | none => rfl
      | some o =>
        have := kB D3 o (fun y => pD3 y.symm) (s2 _ _ (kA D3 o (fun y => pD3 y.symm) (s1 _ _ z)))
        rw [hD3] at this
        cases this
    have rp : r ≠ p := ne_of hv hp fun z => nomatch z
    have ep : e ≠ p := ne_of he hp fun z => nomatch z
    have base0 : (bs0 l n.toNat).al.length = n.toNat ∧ ∀ x ∈ (bs0 l n.toNat).al, x.length ≤ 26 := ⟨List.length_replicate .., fun x hx => by rw [(List.mem_replicate.mp hx).2]; exact l26⟩
    refine ⟨_, rfl, r, rfl, ⟨vs, SqT.of (keep0 _ _ rp hv)⟩, for_it (walk_tup (xs := vs)) (fun i σ H' => (∃ v4 v5 v6 v7 v8 : Option V, σ = [some (.ref p), some (.ref b), some (.ref r), some (.ref e), v4, v5, v6, v7, v8]) ∧ (∀ a o, a ≠ p → H a = some o → H' a = some o) ∧ BAt CB H' p ⟨dx, D, D2, D3⟩ l ((rows.take i).foldl rowB (bs0 l n.toNat)))
      ⟨⟨_, _, _, _, _, rfl⟩, keep0, bt0⟩ (fun i σ H' _ h => SqT.of (h.2.1 _ _ rp hv)) ?_ ?_⟩
    · rintro i x σ H5 H4 hi ⟨⟨v4, v5, v6, v7, v8, rfl⟩, keep, bt⟩ ⟨rfl, hx⟩
      obtain ⟨a, row, rfl, hrow, ha⟩ := hw.get hx
      have ap : a ≠ p := ne_of ha hp fun z => nomatch z
      have rk := rok row (List.mem_of_getElem? hrow)
      have hlt := (List.getElem?_eq_some_iff.mp hrow).1
      have ef : (rows.take (i + 1)).foldl rowB (bs0 l n.toNat) = rowB ((rows.take i).foldl rowB (bs0 l n.toNat)) row := by
        rw [List.take_succ_eq_append_getElem hlt, (List.getElem?_eq_some_iff.mp hrow).2, List.foldl_append]
        rfl
      rw [ef]
      have bo := bsF_ok (rows.take i) (bs0 l n.toNat) base0.1 base0.2
      generalize (rows.take i).foldl rowB (bs0 l n.toNat) = B at bt bo ⊢
      have g1 := rk.1.1
      have g2 := rk.2.1
      refine ⟨a, _, rfl, SqT.of (keep _ _ ap ha), rfl, _, _, rfl, _, _, rfl, rfl, ?_⟩
      refine ⟨_, rfl, p, dx, _, rfl, bt.p, bf_no D D2 D3 (by decide +kernel), _, rfl, _, rfl, p, ⟨dx, D, D2, D3⟩, l, row.1, row.2, B, rfl, bt, l26, by omega, by rw [bo.1]; omega, by omega, rk.1.2, bo.2, fun H6 k6 bt6 => ⟨⟨_, _, _, _, _, rfl⟩, fun c o n z => k6 c o (ne_of_none z fA) (ne_of_none z fD2) (ne_of_none z fD3) (keep c o n z), bt6⟩⟩
    rintro σ H4 ⟨⟨v4, v5, v6, v7, v8, rfl⟩, keep, bt⟩
    rw [hw.len, List.take_length] at bt
    refine ⟨_, rfl, e, rfl, ⟨[], SqT.of (keep _ _ ep he)⟩, for_it (walk_tup (xs := [])) (fun _ _ H' => H' = H4) rfl (fun _ _ H' _ h => by rw [h]; exact SqT.of (keep _ _ ep he)) ?_ ?_⟩
    · rintro i x σ H5 H6 hi _ _
      exact absurd hi (Nat.not_lt_zero _)
    · rintro σ H5 rfl
      exact fin _ _ (fun a o n z => keep a o n z) bt
end
end Gm

/-! facts in Bounds: at, least, most (a letter left out of a place comes with its token: not here) -/
namespace Gm
open PySem L2

inductive Fct
  | at_ (i c : Nat)
  | out (i c : Nat)
  | least (c : Nat) (v : Int)
  | most (c : Nat) (v : Int)
def fctV : Fct → List V
  | .at_ i c => [.str "at", .int (i : Int), .str (one c)]
  | .out i c => [.str "not", .int (i : Int), .str (one c)]
  | .least c v => [.str "least", .str (one c), .int v]
  | .most c v => [.str "most", .str (one c), .int v]
def FctAt (H : Hp) (a : Addr) (f : Fct) : Prop := H a = some (.tup (fctV f))
def FctOk (l : List Nat) (n : Nat) : Fct → Prop
  | .at_ i c => i < n ∧ c ∈ l
  | .out i c => i < n ∧ c ∈ l
  | .least c v => c ∈ l ∧ 0 ≤ v ∧ v ≤ (n : Int)
  | .most c v => c ∈ l ∧ 0 ≤ v ∧ v ≤ (n : Int)
/-- no token is wanted for it -/
def Easy : Fct → Prop
  | .out _ _ => False
  | _ => True
def fctB (b : BS) : Fct → BS
  | .at_ i c => keepB b i c
  | .out i c => leaveB b i c
  | .least c v => leastB b c v
  | .most c v => mostB b c v
inductive Fcs (H : Hp) : List V → List Fct → Prop
  | nil : Fcs H [] []
  | cons {a : Addr} {f : Fct} {vs : List V} {fs : List Fct} : FctAt H a f → Fcs H vs fs → Fcs H (.ref a :: vs) (f :: fs)
theorem Fcs.same {H H' : Hp} {vs : List V} {fs : List Fct} (h : Fcs H vs fs) (s : Same H H') : Fcs H' vs fs := by
  induction h with
  | nil => exact .nil
  | cons a _ ih => exact .cons (s _ _ a) ih
theorem Fcs.len {H : Hp} {vs : List V} {fs : List Fct} (h : Fcs H vs fs) : vs.length = fs.length := by
  induction h with
  | nil => rfl
  | cons _ _ ih => rw [List.length_cons, List.length_cons, ih]
theorem Fcs.get {H : Hp} {vs : List V} {fs : List Fct} (h : Fcs H vs fs) : ∀ {i : Nat} {x : V}, vs[i]? = some x → ∃ a f, x = .ref a ∧ fs[i]? = some f ∧ FctAt H a f := by
  induction h with
  | nil =>
    intro i x e
    cases e
  | @cons a f vs fs ha _ ih =>
    intro i x e
    cases i with
    | zero =>
      cases e
      exact ⟨a, f, rfl, rfl, ha⟩
    | succ i => exact ih (by simpa using e)
theorem fctB_ok {n : Nat} {b : BS} (h1 : b.al.length = n) (h2 : ∀ x ∈ b.al, x.length ≤ 26) (f : Fct) : (fctB b f).al.length = n ∧ ∀ x ∈ (fctB b f).al, x.length ≤ 26 := by
  have md : ∀ (k : Nat) (g : List Nat → List Nat), (∀ t, t.length ≤ 26 → (g t).length ≤ 26) → (b.al.modify k g).length = n ∧ ∀ x ∈ b.al.modify k g, x.length ≤ 26 := fun k g hg => by
    refine ⟨by rw [List.length_modify]; exact h1, fun x hx => ?_⟩
    rcases mem_modify hx with hx | ⟨y, hy, rfl⟩
    · exact h2 x hx
    · exact hg y (h2 y hy)
  cases f with
  | at_ i c =>
    refine md i _ fun t _ => ?_
    show (if c ∈ t then [c] else []).length ≤ 26
    split
    · exact Nat.succ_le_of_lt (by decide)
    · exact Nat.zero_le _
  | out i c => exact md i _ fun t ht => Nat.le_trans (List.length_filter_le _ _) ht
  | least c v => exact ⟨h1, h2⟩
  | most c v => exact ⟨h1, h2⟩
theorem bsG_ok {n : Nat} : ∀ (fs : List Fct) (b : BS), b.al.length = n → (∀ x ∈ b.al, x.length ≤ 26) → (fs.foldl fctB b).al.length = n ∧ ∀ x ∈ (fs.foldl fctB b).al, x.length ≤ 26
  | [], b, h1, h2 => ⟨h1, h2⟩
  | f :: fs, b, h1, h2 => by
    rw [List.foldl_cons]
    have h := fctB_ok h1 h2 f
    exact bsG_ok fs (fctB b f) h.1 h.2
/-- the bounds of rows and facts -/
def bsG (l : List Nat) (n : Nat) (rows : List Row) (facts : List Fct) : BS := facts.foldl fctB (bsOf l n rows)
def spTakeF (C : Addr) : Sp := fun vs H Q _ => ∃ (p a : Addr) (q : BParts) (ls : List Nat) (b : BS) (f : Fct), vs = [.ref p, .ref a] ∧ BAt C H p q ls b ∧ H a = some (.tup (fctV f)) ∧ ls.length ≤ 26 ∧ FctOk ls b.al.length f ∧ Easy f ∧
  ∀ H', (∀ c o, c ≠ q.a → c ≠ q.l → c ≠ q.g → H c = some o → H' c = some o) → BAt C H' p q ls (fctB b f) → Q .non H'
def spBInitF (C CB : Addr) : Sp := fun vs H Q _ => ∃ (p dx b r e : Addr) (l : List Nat) (n : Int) (rows : List Row) (facts : List Fct) (fvs : List V), vs = [.ref p, .ref b, .ref r, .ref e] ∧ H p = some (.ins CB dx []) ∧ Bn C H b l n ∧ RowsAt H r rows ∧ (∀ x ∈ rows, RowOk l n x) ∧ H e = some (.tup fvs) ∧ Fcs H fvs facts ∧ (∀ f ∈ facts, FctOk l n.toNat f ∧ Easy f) ∧
  ∀ H' q, But p H H' → BAt CB H' p q l (bsG l n.toNat rows facts) → Q .non H'
section
variable {P : Program} {w : World} {K : PySem.W.Frag} {mg : Str → Option Value} {base : Heap}
abbrev nTF : List Str := ["self", "fact", "kind", "first", "second"]
theorem scTF : FnScope nTF ["self", "fact"] (defScope sTakeF) := ⟨rfl, rfl, rfl, by decide +kernel, rfl, by decide +kernel, by decide +kernel⟩
theorem ok_takeF {f fK fL fM C : Addr} {fd fdK fdL fdM : FuncData} (F : Fun K "take_fact" "Bounds.take_fact" sTakeF f fd) (T : TxBd K mg C) (mK : Meth K C "keep_only" fK) (GK : FnOk P w K mg base CX0 1 fK fdK ["self", "place", "letter"] (spKeep C)) (bK : Binds K fdK ["self", "place", "letter"] [])
    (mL : Meth K C "ask_least" fL) (GL : FnOk P w K mg base CX0 1 fL fdL ["self", "letter", "many"] (spAskL C)) (bL : Binds K fdL ["self", "letter", "many"] []) (mM : Meth K C "ask_most" fM) (GM : FnOk P w K mg base CX0 1 fM fdM ["self", "letter", "many"] (spAskM C)) (bM : Binds K fdM ["self", "letter", "many"] []) :
    FnOk P w K mg base CX0 2 f fd ["self", "fact"] (spTakeF C) := by
  refine F.ok scTF (fun vs H Q E h => ?_) (fun cdv A outer s H vs Q E hr h => ?_)
  · obtain ⟨p, a, q, ls, b, f, rfl, _⟩ := h
    rfl
  · obtain ⟨p, a, q, ls, b, f, rfl, bt, ha, l26, fk, ez, fin⟩ := h
    have nd := scTF.nd
    refine ⟨_, pss_cons (ps_asg (pv 1) (pg_tup (by rfl) (pgs_cons (pg_name (i := 2) nd rfl (Or.inl rfl)) (pgs_cons (pg_name (i := 3) nd rfl (Or.inl rfl)) (pgs_cons (pg_name (i := 4) nd rfl (Or.inl rfl)) pgs_nil)))))
      (pss_one (ps_if (pt_cmpR op_eq (pv 2) pe_str (nomark _)) (pss_one (ps_expr (pe_meth (pv 0) T.cl mK GK hr bK .nil pass0 (pa_cons (pv 3) (pa_cons (pv 4) pa_nil)))))
        (pss_one (ps_if (pt_cmpR op_eq (pv 2) pe_str (nomark _)) (pss_one ps_never)
          (pss_one (ps_if (pt_cmpR op_eq (pv 2) pe_str (nomark _)) (pss_one (ps_expr (pe_meth (pv 0) T.cl mL GL hr bL .nil pass0 (pa_cons (pv 3) (pa_cons (pv 4) pa_nil)))))
            (pss_one (ps_expr (pe_meth (pv 0) T.cl mM GM hr bM .nil pass0 (pa_cons (pv 3) (pa_cons (pv 4) pa_nil))))))))))), ?_⟩
    have ne : ∀ x y : Str, (x == y) = false → decide (V.str x = V.str y) = false := fun x y h => decide_eq_false fun z => by
      rw [V.str.inj z] at h
      simp at h
    cases f with
    | at_ i c =>
      refine ⟨_, rfl, a, _, rfl, SqT.of ha, rfl, _, _, rfl, _, _, rfl, _, _, rfl, rfl, ?_⟩
      refine ⟨_, rfl, rfl, _, rfl, ?_⟩
      rw [decide_eq_true rfl]
      exact iteT ⟨_, rfl, p, q.dx, _, rfl, bt.p, bf_no q.a q.l q.g (by decide +kernel), _, rfl, _, rfl, p, q, ls, b, i, c, rfl, bt, fk.1, fun H' k bt' => fin H' (fun c o n _ _ z => k c o n z) bt'⟩
    | out i c => exact ez.elim
    | least c v =>
      refine ⟨_, rfl, a, _, rfl, SqT.of ha, rfl, _, _, rfl, _, _, rfl, _, _, rfl, rfl, ?_⟩
      refine ⟨_, rfl, rfl, _, rfl, ?_⟩
      rw [ne _ _ (by decide +kernel)]
      refine iteF ⟨_, rfl, rfl, _, rfl, ?_⟩
      rw [ne _ _ (by decide +kernel)]
      refine iteF ⟨_, rfl, rfl, _, rfl, ?_⟩
      rw [decide_eq_true rfl]
      exact iteT ⟨_, rfl, p, q.dx, _, rfl, bt.p, bf_no q.a q.l q.g (by decide +kernel), _, rfl, _, rfl, p, q, ls, b, c, v, rfl, bt, fk.1, l26, fun H' k bt' => fin H' (fun c o _ n _ z => k c o n z) bt'⟩
    | most c v =>
      refine ⟨_, rfl, a, _, rfl, SqT.of ha, rfl, _, _, rfl, _, _, rfl, _, _, rfl, rfl, ?_⟩
      refine ⟨_, rfl, rfl, _, rfl, ?_⟩
      rw [ne _ _ (by decide +kernel)]
      refine iteF ⟨_, rfl, rfl, _, rfl, ?_⟩
      rw [ne _ _ (by decide +kernel)]
      refine iteF ⟨_, rfl, rfl, _, rfl, ?_⟩
      rw [ne _ _ (by decide +kernel)]
      exact iteF ⟨_, rfl, p, q.dx, _, rfl, bt.p, bf_no q.a q.l q.g (by decide +kernel), _, rfl, _, rfl, p, q, ls, b, c, v, rfl, bt, fk.1, l26, fun H' k bt' => fin H' (fun c o _ _ n z => k c o n z) bt'⟩
theorem ok_binitF {f fT fF C CB : Addr} {fd fdT fdF : FuncData} (F : Fun K "__init__" "Bounds.__init__" sBInit f fd) (T : TxBd K mg CB) (TC : TxC K mg C) (range : mg "range" = none) (mT : Meth K CB "take_row" fT) (GT : FnOk P w K mg base CX0 2 fT fdT ["self", "guess", "told"] (spTakeR CB)) (bT : Binds K fdT ["self", "guess", "told"] []) (mF : Meth K CB "take_fact" fF) (GF : FnOk P w K mg base CX0 2 fF fdF ["self", "fact"] (spTakeF CB)) (bFf : Binds K fdF ["self", "fact"] []) :
    FnOk P w K mg base CX0 3 f fd ["self", "board", "rows", "facts"] (spBInitF C CB) := by
  refine F.ok scBI (fun vs H Q E h => ?_) (fun cdv A outer s H vs Q E hr h => ?_)
  · obtain ⟨p, dx, b, r, e, l, n, rows, facts, fvs, rfl, _⟩ := h
    rfl
  · obtain ⟨p, dx, b, r, e, l, n, rows, facts, fvs, rfl, hp, hb, ⟨vs, hv, hw⟩, rok, he, hfs, fok, fin⟩ := h
    have nd := scBI.nd
    have hline : sizeLine = 16777216 := sizeLine_eq
    obtain ⟨⟨⟨dxb, hbd⟩, l26, n1, n6⟩, lnd⟩ := _root_.id hb
    refine ⟨_, pss_cons (ps_fld (pv 0) (pe_lc (te := tFld K (tVar 1) "letters") (own := [("place", 7)]) (g := gName 7) (by rfl) nd (pi_range1 (by rfl) range (pa_cons (pe_fld (pv 1) rfl) pa_nil)) (blkOk_by (own := [("place", 7)]) (N := nBI) (sc := defScope sBInit) (by decide +kernel))
          (fun _ _ _ _ _ => pg_name (i := 7) nd rfl (Or.inl rfl)) (fun _ _ _ _ _ => pts_nil) (fun _ _ _ _ _ => by exact pe_fld (pv 1) rfl)) rfl)
      (pss_cons (ps_fld (pv 0) (pe_dc (own := [("letter", 8)]) (g := gName 8) (by rfl) nd (pi_str (pe_fld (pv 1) rfl)) (blkOk_by (own := [("letter", 8)]) (N := nBI) (sc := defScope sBInit) (by decide +kernel))
          (fun _ _ _ _ _ => pg_name (i := 8) nd rfl (Or.inl rfl)) (fun _ _ _ _ _ => pts_nil) (fun _ _ _ _ _ => pv 8) (fun _ _ _ _ _ => pe_int)) rfl)
      (pss_cons (ps_fld (pv 0) (pe_dc (tv := tFld K (tVar 1) "length") (own := [("letter", 8)]) (g := gName 8) (by rfl) nd (pi_str (pe_fld (pv 1) rfl)) (blkOk_by (own := [("letter", 8)]) (N := nBI) (sc := defScope sBInit) (by decide +kernel))
          (fun _ _ _ _ _ => pg_name (i := 8) nd rfl (Or.inl rfl)) (fun _ _ _ _ _ => pts_nil) (fun _ _ _ _ _ => pv 8) (fun _ _ _ _ _ => by exact pe_fld (pv 1) rfl)) rfl)
      (pss_cons (ps_for PassesOwn.never rfl (pi_tup (pv 2)) (pg_tup (by rfl) (pgs_cons (pg_name (i := 4) nd rfl (Or.inl rfl)) (pgs_cons (pg_name (i := 5) nd rfl (Or.inl rfl)) pgs_nil))) (pss_one (ps_expr (pe_meth (pv 0) T.cl mT GT hr bT .nil pass0 (pa_cons (pv 4) (pa_cons (pv 5) pa_nil))))))
      (pss_one (ps_for PassesOwn.never rfl (pi_tup (pv 3)) (pg_name (i := 6) nd rfl (Or.inl rfl)) (pss_one (ps_expr (pe_meth (pv 0) T.cl mF GF hr bFf .nil pass0 (pa_cons (pv 6) pa_nil))))))))), ?_⟩
    refine ⟨_, rfl, b, C, dxb, _, _, rfl, hbd, TC.cl, TC.nN, bf_length _ _, n, rfl, by omega, by omega, fun D hD => ?_⟩
    refine lc_range (lo := 0) (n := n.toNat) (fun i H' => Same H H' ∧ H' D = some (.lst (alV (List.replicate i l)))) ⟨same_upd hD, upd_same⟩ ?_ ?_
    · rintro i H1 hi ⟨sm, hD1⟩
      refine ⟨rfl, _, rfl, b, C, dxb, _, _, rfl, sm _ _ hbd, TC.cl, TC.nL, bf_letters _ _, _, hD1, ?_, fun a o z => ?_, ?_⟩
      · unfold alV
        rw [List.length_map, List.length_replicate]
        omega
      · rw [upd_ne (ne_of_none z hD)]
        exact sm a o z
      · rw [upd_same, List.replicate_succ']
        unfold alV
        rw [List.map_append]
        rfl
    rintro H1 ⟨s1, hD1⟩
    refine ⟨_, rfl, p, CB, dx, _, rfl, s1 _ _ hp, T.cl, T.nA, by show 0 < 1000; decide, ?_⟩
    have pD : p ≠ D := ne_of_none hp hD
    have eA : upd H1 p (.ins CB dx (putF "allowed" (.ref D) [])) p = some (.ins CB dx (putF "allowed" (.ref D) [])) := upd_same
    have kA : ∀ a o, a ≠ p → H1 a = some o → upd H1 p (.ins CB dx (putF "allowed" (.ref D) [])) a = some o := fun a o n z => by rw [upd_ne n]; exact z
    generalize upd H1 p (.ins CB dx (putF "allowed" (.ref D) [])) = HA at eA kA
    have pb : b ≠ p := by
      intro z
      rw [z, hp] at hbd
      have := HO.ins.inj (Option.some.inj hbd)
      have h3 := this.2.2
      rw [bf_eq] at h3
      cases h3
    have hbdA := kA _ _ pb (s1 _ _ hbd)
    have hDA := kA _ _ pD.symm hD1
    refine ⟨_, rfl, b, C, dxb, _, _, rfl, hbdA, TC.cl, TC.nL, bf_letters _ _, tx l, rfl, fun D2 hD2 => ?_⟩
    refine dc_it (walk_str (z := tx l)) (fun i H' => Same HA H' ∧ H' D2 = some (.dK (kvsOf (l.take i) fun _ => 0))) ⟨same_upd hD2, upd_same⟩ (fun _ _ _ _ => trivial) ?_ ?_
    · rintro i x H3 H2 hi ⟨sm, hd⟩ ⟨rfl, c, hc, rfl⟩
      have hc' := tx_at hc
      have hlt := (List.getElem?_eq_some_iff.mp hc').1
      have hnot : ¬ c ∈ l.take i := fresh_at lnd hc'
      refine ⟨rfl, _, rfl, _, Sum.inr (one c), rfl, hd, ?_, fun a o z => ?_, ?_⟩
      · rw [kvs_len, List.length_take]
        omega
      · rw [upd_ne (ne_of_none z hD2)]
        exact sm a o z
      · rw [upd_same, List.take_succ_eq_append_getElem hlt, (List.getElem?_eq_some_iff.mp hc').2]
        exact congrArg (fun z => some (HO.dK z)) (putK_app hnot)
    rintro H2 ⟨s2, hD2'⟩
    rw [tx_size, List.take_length] at hD2'
    have eA2 := s2 _ _ eA
    have pD2 : p ≠ D2 := ne_of_none eA hD2
    refine ⟨_, rfl, p, CB, dx, _, rfl, eA2, T.cl, T.nL, by show 1 < 1000; decide, ?_⟩
    have eB : upd H2 p (.ins CB dx (putF "least" (.ref D2) (putF "allowed" (.ref D) []))) p = some (.ins CB dx (putF "least" (.ref D2) (putF "allowed" (.ref D) []))) := upd_same
    have kB : ∀ a o, a ≠ p → H2 a = some o → upd H2 p (.ins CB dx (putF "least" (.ref D2) (putF "allowed" (.ref D) []))) a = some o := fun a o n z => by rw [upd_ne n]; exact z
    generalize upd H2 p (.ins CB dx (putF "least" (.ref D2) (putF "allowed" (.ref D) []))) = HB at eB kB
    have hbdB := kB _ _ pb (s2 _ _ hbdA)
    have hDB := kB _ _ pD.symm (s2 _ _ hDA)
    have hD2B := kB _ _ pD2.symm hD2'
    refine ⟨_, rfl, b, C, dxb, _, _, rfl, hbdB, TC.cl, TC.nL, bf_letters _ _, tx l, rfl, fun D3 hD3 => ?_⟩
    refine dc_it (walk_str (z := tx l)) (fun i H' => Same HB H' ∧ H' D3 = some (.dK (kvsOf (l.take i) fun _ => ((n.toNat : Nat) : Int)))) ⟨same_upd hD3, upd_same⟩ (fun _ _ _ _ => trivial) ?_ ?_
    · rintro i x H3 H2 hi ⟨sm, hd⟩ ⟨rfl, c, hc, rfl⟩
      have hc' := tx_at hc
      have hlt := (List.getElem?_eq_some_iff.mp hc').1
      have hnot : ¬ c ∈ l.take i := fresh_at lnd hc'
      refine ⟨rfl, _, rfl, _, rfl, b, C, dxb, _, _, rfl, sm _ _ hbdB, TC.cl, TC.nN, bf_length _ _, _, Sum.inr (one c), rfl, hd, ?_, fun a o z => ?_, ?_⟩
      · rw [kvs_len, List.length_take]
        omega
      · rw [upd_ne (ne_of_none z hD3)]
        exact sm a o z
      · rw [upd_same, List.take_succ_eq_append_getElem hlt, (List.getElem?_eq_some_iff.mp hc').2]
        exact congrArg (fun z => some (HO.dK z)) (by have := putK_app (f := fun _ => ((n.toNat : Nat) : Int)) hnot; rw [← this, show ((n.toNat : Nat) : Int) = n by omega])
    rintro H3 ⟨s3, hD3'⟩
    rw [tx_size, List.take_length] at hD3'
    have eB3 := s3 _ _ eB
    have pD3 : p ≠ D3 := ne_of_none eB hD3
    refine ⟨_, rfl, p, CB, dx, _, rfl, eB3, T.cl, T.nG, by show 2 < 1000; decide, ?_⟩
    rw [bf_put]
    have eC : upd H3 p (.ins CB dx (bF D D2 D3)) p = some (.ins CB dx (bF D D2 D3)) := upd_same
    have kC : ∀ a o, a ≠ p → H3 a = some o → upd H3 p (.ins CB dx (bF D D2 D3)) a = some o := fun a o n z => by rw [upd_ne n]; exact z
    generalize upd H3 p (.ins CB dx (bF D D2 D3)) = HC at eC kC
    have keep0 : ∀ a o, a ≠ p → H a = some o → HC a = some o := fun a o n z => kC a o n (s3 _ _ (kB a o n (s2 _ _ (kA a o n (s1 _ _ z)))))
    have bt0 : BAt CB HC p ⟨dx, D, D2, D3⟩ l (bs0 l n.toNat) := ⟨eC, kC _ _ pD.symm (s3 _ _ hDB), kC _ _ pD2.symm (s3 _ _ hD2B), kC _ _ pD3.symm hD3', fun z => by
      have z : D2 = D3 := z
      rw [← z, hD2B] at hD3
      cases hD3⟩
    have fA : H D = none := hD
    have fD2 : H D2 = none := by
      cases z : H D2 with
      | none => rfl
      | some o =>
        have := kA D2 o (fun y => pD2 y.symm) (s1 _ _ z)
        rw [hD2] at this
        cases this
    have fD3 : H D3 = none := by
      cases z : H D3 with
      | none => rfl
      | some o =>
        have := kB D3 o (fun y => pD3 y.symm) (s2 _ _ (kA D3 o (fun y => pD3 y.symm) (s1 _ _ z)))
        rw [hD3] at this
        cases this
    have rp : r ≠ p := ne_of hv hp fun z => nomatch z
    have ep : e ≠ p := ne_of he hp fun z => nomatch z
    have base0 : (bs0 l n.toNat).al.length = n.toNat ∧ ∀ x ∈ (bs0 l n.toNat).al, x.length ≤ 26 := ⟨List.length_replicate .., fun x hx => by rw [(List.mem_replicate.mp hx).2]; exact l26⟩
    refine ⟨_, rfl, r, rfl, ⟨vs, SqT.of (keep0 _ _ rp hv)⟩, for_it (walk_tup (xs := vs)) (fun i σ H' => (∃ v4 v5 v6 v7 v8 : Option V, σ = [some (.ref p), some (.ref b), some (.ref r), some (.ref e), v4, v5, v6, v7, v8]) ∧ (∀ a o, a ≠ p → H a = some o → H' a = some o) ∧ BAt CB H' p ⟨dx, D, D2, D3⟩ l ((rows.take i).foldl rowB (bs0 l n.toNat)))
      ⟨⟨_, _, _, _, _, rfl⟩, keep0, bt0⟩ (fun i σ H' _ h => SqT.of (h.2.1 _ _ rp hv)) ?_ ?_⟩
    · rintro i x σ H5 H4 hi ⟨⟨v4, v5, v6, v7, v8, rfl⟩, keep, bt⟩ ⟨rfl, hx⟩
      obtain ⟨a, row, rfl, hrow, ha⟩ := hw.get hx
      have ap : a ≠ p := ne_of ha hp fun z => nomatch z
      have rk := rok row (List.mem_of_getElem? hrow)
      have hlt := (List.getElem?_eq_some_iff.mp hrow).1
      have ef : (rows.take (i + 1)).foldl rowB (bs0 l n.toNat) = rowB ((rows.take i).foldl rowB (bs0 l n.toNat)) row := by
        rw [List.take_succ_eq_append_getElem hlt, (List.getElem?_eq_some_iff.mp hrow).2, List.foldl_append]
        rfl
      rw [ef]
      have bo := bsF_ok (rows.take i) (bs0 l n.toNat) base0.1 base0.2
      generalize (rows.take i).foldl rowB (bs0 l n.toNat) = B at bt bo ⊢
      have g1 := rk.1.1
      have g2 := rk.2.1
      refine ⟨a, _, rfl, SqT.of (keep _ _ ap ha), rfl, _, _, rfl, _, _, rfl, rfl, ?_⟩
      refine ⟨_, rfl, p, dx, _, rfl, bt.p, bf_no D D2 D3 (by decide +kernel), _, rfl, _, rfl, p, ⟨dx, D, D2, D3⟩, l, row.1, row.2, B, rfl, bt, l26, by omega, by rw [bo.1]; omega, by omega, rk.1.2, bo.2, fun H6 k6 bt6 => ⟨⟨_, _, _, _, _, rfl⟩, fun c o n z => k6 c o (ne_of_none z fA) (ne_of_none z fD2) (ne_of_none z fD3) (keep c o n z), bt6⟩⟩
    rintro σ H4 ⟨⟨v4, v5, v6, v7, v8, rfl⟩, keep, bt⟩
    rw [hw.len, List.take_length] at bt
    refine ⟨_, rfl, e, rfl, ⟨fvs, SqT.of (keep _ _ ep he)⟩, for_it (walk_tup (xs := fvs)) (fun i σ H' => (∃ v4 v5 v6 v7 v8 : Option V, σ = [some (.ref p), some (.ref b), some (.ref r), some (.ref e), v4, v5, v6, v7, v8]) ∧ (∀ a o, a ≠ p → H a = some o → H' a = some o) ∧ BAt CB H' p ⟨dx, D, D2, D3⟩ l ((facts.take i).foldl fctB (bsOf l n.toNat rows)))
      ⟨⟨_, _, _, _, _, rfl⟩, keep, bt⟩ (fun i σ H' _ h => SqT.of (h.2.1 _ _ ep he)) ?_ ?_⟩
    · rintro i x σ H5 H6 hi ⟨⟨v4, v5, v6, v7, v8, rfl⟩, keep, bt⟩ ⟨rfl, hx⟩
      obtain ⟨a, fc, rfl, hf, ha⟩ := hfs.get hx
      have ha' : H a = some (.tup (fctV fc)) := ha
      have ap : a ≠ p := ne_of ha' hp fun z => nomatch z
      have fk := fok fc (List.mem_of_getElem? hf)
      have hlt := (List.getElem?_eq_some_iff.mp hf).1
      have ef : (facts.take (i + 1)).foldl fctB (bsOf l n.toNat rows) = fctB ((facts.take i).foldl fctB (bsOf l n.toNat rows)) fc := by
        rw [List.take_succ_eq_append_getElem hlt, (List.getElem?_eq_some_iff.mp hf).2, List.foldl_append]
        rfl
      rw [ef]
      have b0 := bsF_ok rows (bs0 l n.toNat) base0.1 base0.2
      have bo := bsG_ok (facts.take i) (bsOf l n.toNat rows) b0.1 b0.2
      generalize (facts.take i).foldl fctB (bsOf l n.toNat rows) = B at bt bo ⊢
      refine ⟨_, rfl, p, dx, _, rfl, bt.p, bf_no D D2 D3 (by decide +kernel), _, rfl, p, a, ⟨dx, D, D2, D3⟩, l, B, fc, rfl, bt, keep _ _ ap ha', l26, by rw [bo.1]; exact fk.1, fk.2, fun H6 k6 bt6 => ⟨⟨_, _, _, _, _, rfl⟩, fun c o n z => k6 c o (ne_of_none z fA) (ne_of_none z fD2) (ne_of_none z fD3) (keep c o n z), bt6⟩⟩
    · rintro σ H5 ⟨⟨v4, v5, v6, v7, v8, rfl⟩, keep, bt⟩
      rw [hfs.len, List.take_length] at bt
      exact fin _ _ (fun a o n z => keep a o n z) bt
end
end Gm

namespace Gm
open PySem L2
/-- the letters that are counted -/
def ctOf (l : List Nat) (n : Int) (b : BS) : List Nat := l.filter fun c => decide (0 < b.le c) || (decide (0 < b.gr c) && decide (b.gr c < n))
def usOf (l : List Nat) (b : BS) (rows : List Row) : List Nat := if rows.all (fun r => ordOk r.1 r.2) = true then l.filter (fun c => decide (0 < b.gr c)) else []
def wdOf (l : List Nat) (n : Int) (rows : List Row) : WD :=
  ⟨(bsOf l n.toNat rows).al.map fun t => cc t (usOf l (bsOf l n.toNat rows) rows), ctOf l n (bsOf l n.toNat rows), (ctOf l n (bsOf l n.toNat rows)).map (bsOf l n.toNat rows).le, (ctOf l n (bsOf l n.toNat rows)).map (bsOf l n.toNat rows).gr⟩
def spCnt (C CB : Addr) : Sp := fun vs H Q _ => ∃ (d p : Addr) (q : BParts) (l : List Nat) (n : Int) (b : BS), vs = [.ref d, .ref p] ∧ Bd C H d l n ∧ BAt CB H p q l b ∧ Q (.str (tx (ctOf l n b))) H
def spWInit (P : Program) (w : World) (C CB CW : Addr) : Sp := fun vs H Q _ => ∃ (p dx b r e : Addr) (l : List Nat) (n : Int) (rows : List Row), vs = [.ref p, .ref b, .ref r, .ref e] ∧ H p = some (.ins CW dx []) ∧ Bn C H b l n ∧ RowsAt H r rows ∧ (∀ x ∈ rows, RowOk l n x) ∧ rows.length ≤ 1000 ∧ H e = some (.tup []) ∧
  ∀ H' m, But p H H' → H m = none → WFix CW H' p m (wdOf l n rows) → MemOk P w H' m (wdOf l n rows) 0 → Q .non H'
theorem wf_p2 (a : Addr) (c : V) : putF "counted" c (putF "allowed" (.ref a) []) = ([("allowed", V.ref a), ("counted", c)] : List (Str × V)) := by
  have h1 : ¬ (("allowed" : Str) = "counted") := by decide +kernel
  simp only [putF]
  rw [if_neg h1]
theorem wf_p3 (a l : Addr) (c : V) : putF "least" (V.ref l) ([("allowed", V.ref a), ("counted", c)] : List (Str × V)) = ([("allowed", V.ref a), ("counted", c), ("least", .ref l)] : List (Str × V)) := by
  have h1 : ¬ (("allowed" : Str) = "least") := by decide +kernel
  have h2 : ¬ (("counted" : Str) = "least") := by decide +kernel
  simp only [putF]
  rw [if_neg h1, if_neg h2]
theorem wf_p4 (a l g : Addr) (c : V) : putF "greatest" (V.ref g) ([("allowed", V.ref a), ("counted", c), ("least", .ref l)] : List (Str × V)) = ([("allowed", V.ref a), ("counted", c), ("least", .ref l), ("greatest", .ref g)] : List (Str × V)) := by
  have h1 : ¬ (("allowed" : Str) = "greatest") := by decide +kernel
  have h2 : ¬ (("counted" : Str) = "greatest") := by decide +kernel
  have h3 : ¬ (("least" : Str) = "greatest") := by decide +kernel
  simp only [putF]
  rw [if_neg h1, if_neg h2, if_neg h3]
theorem wf_p5 (a l g m : Addr) (ct : List Nat) : putF "known" (V.ref m) ([("allowed", V.ref a), ("counted", .str (tx ct)), ("least", .ref l), ("greatest", .ref g)] : List (Str × V)) = wF a l g m ct := by
  have h1 : ¬ (("allowed" : Str) = "known") := by decide +kernel
  have h2 : ¬ (("counted" : Str) = "known") := by decide +kernel
  have h3 : ¬ (("least" : Str) = "known") := by decide +kernel
  have h4 : ¬ (("greatest" : Str) = "known") := by decide +kernel
  simp only [putF]
  rw [if_neg h1, if_neg h2, if_neg h3, if_neg h4]
  rfl
theorem wl_ct (a : V) (c : V) (r : List (Str × V)) : (("allowed", a) :: ("counted", c) :: r : List (Str × V)).lookup ("counted" : Str) = some c := by
  have h1 : (("counted" : Str) == "allowed") = false := by decide +kernel
  rw [List.lookup_cons, h1]; rfl
theorem ct_sub {l : List Nat} {n : Int} {b : BS} {c : Nat} (h : c ∈ ctOf l n b) : c ∈ l := (List.mem_filter.mp h).1
section
variable {P : Program} {w : World} {K : PySem.W.Frag} {mg : Str → Option Value} {base : Heap}
abbrev nCn : List Str := ["board", "bounds", "counted", "letter"]
theorem scCn : FnScope nCn ["board", "bounds"] (defScope sCnt) := ⟨rfl, rfl, rfl, by decide +kernel, rfl, by decide +kernel, by decide +kernel⟩
theorem ok_cnt {f C CB : Addr} {fd : FuncData} (F : Fun K "counted_letters" "counted_letters" sCnt f fd) (T : TxBd K mg CB) (TC : TxC K mg C) : FnOk P w K mg base CX0 1 f fd ["board", "bounds"] (spCnt C CB) := by
  refine F.ok scCn (fun vs H Q E h => ?_) (fun cdv A outer s H vs Q E hr h => ?_)
  · obtain ⟨d, p, q, l, n, b, rfl, _⟩ := h
    rfl
  · obtain ⟨d, p, q, l, n, b, rfl, ⟨⟨dxb, hbd⟩, l26, n1, n6⟩, bt, fin⟩ := h
    have nd := scCn.nd
    have hline : sizeLine = 16777216 := sizeLine_eq
    have hu1 : (A.deeper (PyProof.Rows.envOfC "counted_letters" (defScope sCnt) s.heap.objs.size f cdv)).units + 1 < cLine := by
      have := hr.un
      omega
    refine ⟨_, pss_cons (ps_set (i := 2) nd rfl (Or.inl rfl) pe_str)
      (pss_cons (ps_for PassesOwn.never rfl (pi_str (pe_fld (pv 0) rfl)) (pg_name (i := 3) nd rfl (Or.inl rfl)) (pss_one (ps_if (PW.pt (pw_or (pt_cmpR op_gt (pe_dget hu1 (pe_fld (pv 1) rfl) (pv 3) (fun _ _ => rfl)) pe_int (nomark _))
          (pw_or1 (pt_chain op_lt op_lt pe_int (pe_dget hu1 (pe_fld (pv 1) rfl) (pv 3) (fun _ _ => rfl)) (pe_fld (pv 0) rfl))))) (pss_one (ps_aug (i := 2) nd rfl (Or.inl rfl) (pv 3) iop_add_str)) pss_nil)))
      (pss_one (ps_ret (pv 2)))), ?_⟩
    refine ⟨_, rfl, d, C, dxb, _, _, rfl, hbd, TC.cl, TC.nL, bf_letters _ _, tx l, rfl, for_it (walk_str (z := tx l)) (fun i σ H' => (∃ v3 : Option V, σ = [some (.ref d), some (.ref p), some (.str (tx (ctOf (l.take i) n b))), v3]) ∧ H' = H) ⟨⟨_, rfl⟩, rfl⟩ (fun _ _ _ _ _ => trivial) ?_ ?_⟩
    · rintro i x σ H3 H2 hi ⟨⟨v3, rfl⟩, e2⟩ ⟨rfl, c, hc, rfl⟩
      subst e2
      have hc' := tx_at hc
      have hlt := (List.getElem?_eq_some_iff.mp hc').1
      have hcl := List.mem_of_getElem? hc'
      have st : ctOf (l.take (i + 1)) n b = ctOf (l.take i) n b ++ (if (decide (0 < b.le c) || (decide (0 < b.gr c) && decide (b.gr c < n))) = true then [c] else []) := by
        unfold ctOf
        rw [List.take_succ_eq_append_getElem hlt, (List.getElem?_eq_some_iff.mp hc').2, List.filter_append, List.filter_cons, List.filter_nil]
      have len : (tx (ctOf (l.take i) n b)).length + 1 ≤ sizeLine := by
        rw [tx_len]
        have h1 : (ctOf (l.take i) n b).length ≤ (l.take i).length := List.length_filter_le _ _
        rw [List.length_take] at h1
        omega
      have add : (decide (0 < b.le c) || (decide (0 < b.gr c) && decide (b.gr c < n))) = true → tx (ctOf (l.take i) n b) ++ one c = tx (ctOf (l.take (i + 1)) n b) := fun h => by
        rw [st, if_pos h, ← tx_app]
      have no : (decide (0 < b.le c) || (decide (0 < b.gr c) && decide (b.gr c < n))) = false → ctOf (l.take i) n b = ctOf (l.take (i + 1)) n b := fun h => by
        rw [st, h]; simp
      have g0 := DGet.k (k := Sum.inr (one c)) bt.l
      rw [valV_of hcl] at g0
      have g1 := DGet.k (k := Sum.inr (one c)) bt.g
      rw [valV_of hcl] at g1
      refine ⟨_, rfl, p, CB, q.dx, _, _, rfl, bt.p, T.cl, T.nL, bf_le q.a q.l q.g, _, rfl, q.l, _, rfl, g0, _, _, rfl, rfl, _, rfl, ?_⟩
      cases h1 : decide (0 < b.le c) with
      | true =>
        refine iteT ⟨_, rfl, _, rfl, _, _, rfl, rfl, len, ⟨some (.str (one c)), ?_⟩, rfl⟩
        rw [← add (by rw [h1]; rfl)]
        rfl
      | false =>
        refine iteF ⟨_, rfl, p, CB, q.dx, _, _, rfl, bt.p, T.cl, T.nG, bf_gr q.a q.l q.g, _, rfl, q.g, _, rfl, g1, _, _, rfl, rfl, _, rfl, ?_⟩
        cases h2 : decide (0 < b.gr c) with
        | false =>
          refine iteF ⟨_, rfl, ⟨some (.str (one c)), ?_⟩, rfl⟩
          rw [← no (by rw [h1, h2]; rfl)]
          rfl
        | true =>
          refine iteT ⟨_, rfl, d, C, dxb, _, _, rfl, hbd, TC.cl, TC.nN, bf_length _ _, _, _, rfl, rfl, _, rfl, ?_⟩
          refine ite2 (fun h => ?_) (fun h => ?_)
          · refine ⟨_, rfl, _, rfl, _, _, rfl, rfl, len, ⟨some (.str (one c)), ?_⟩, rfl⟩
            rw [← add (by rw [h1, h2, h]; rfl)]
            rfl
          · refine ⟨⟨some (.str (one c)), ?_⟩, rfl⟩
            rw [← no (by rw [h1, h2, Bool.eq_false_iff.mpr h]; rfl)]
            rfl
    · rintro σ H2 ⟨⟨v3, rfl⟩, rfl⟩
      rw [tx_size, List.take_length]
      exact ⟨_, rfl, fin⟩
abbrev nWI : List Str := ["self", "board", "rows", "facts", "bounds", "usable", "letter", "guess", "told", "letters"]
theorem scWI : FnScope nWI ["self", "board", "rows", "facts"] (defScope sWInit) := ⟨rfl, rfl, rfl, by decide +kernel, rfl, by decide +kernel, by decide +kernel⟩
theorem ok_winit {f fI fO fC fN C CB CW : Addr} {fd fdI fdO fdC fdN : FuncData} (F : Fun K "__init__" "Words.__init__" sWInit f fd) (T : TxN K mg CW) (TB : TxBd K mg CB) (TC : TxC K mg C) (all : mg "all" = none) (mB : mg "Bounds" = some (.ref CB))
    (M : Mk K CB fI) (GI : FnOk P w K mg base CX0 3 fI fdI ["self", "board", "rows", "facts"] (spBInit C CB)) (bI : Binds K fdI ["self", "board", "rows", "facts"] []) (GO : FnOk P w K mg base CX0 2 fO fdO ["guess", "told"] spOrd) (DO : Df K mg "is_in_order" fO fdO ["guess", "told"])
    (GC : FnOk P w K mg base CX0 1 fC fdC ["letters", "others"] spComm) (DC : Df K mg "common_letters" fC fdC ["letters", "others"]) (GN : FnOk P w K mg base CX0 1 fN fdN ["board", "bounds"] (spCnt C CB)) (DN : Df K mg "counted_letters" fN fdN ["board", "bounds"]) :
    FnOk P w K mg base CX0 5 f fd ["self", "board", "rows", "facts"] (spWInit P w C CB CW) := by
  refine F.ok scWI (fun vs H Q E h => ?_) (fun cdv A outer s H vs Q E hr h => ?_)
  · obtain ⟨p, dx, b, r, e, l, n, rows, rfl, _⟩ := h
    rfl
  · obtain ⟨p, dx, b, r, e, l, n, rows, rfl, hp, hb, hrw, rok, r1000, he, fin⟩ := h
    have nd := scWI.nd
    have hline : sizeLine = 16777216 := sizeLine_eq
    have hu1 : (A.deeper (PyProof.Rows.envOfC "Words.__init__" (defScope sWInit) s.heap.objs.size f cdv)).units + 1 < cLine := by
      have := hr.un
      omega
    have hr1 : Room 1 _ := hr.mono (by decide)
    have hr2 : Room 2 _ := hr.mono (by decide)
    have hr4 : Room (3 + 1) _ := hr
    refine ⟨_, pss_cons (ps_set (i := 4) nd rfl (Or.inr rfl) (pe_make M GI hr4 (by rfl) mB bI .nil pass0 (pa_cons (pv 1) (pa_cons (pv 2) (pa_cons (pv 3) pa_nil)))))
      (pss_cons (ps_set (i := 5) nd rfl (Or.inr rfl) (pe_join pe_str (pe_lc (tt := tTest (tOp (rI0 fun i j => .bl (decide (j < i))) (tDGet (tFld K (tVar 4) "greatest") (tVar 6)) (tC (.int 0)))) (own := [("letter", 6)]) (g := gName 6) (by rfl) nd (pi_str (pe_fld (pv 1) rfl)) (blkOk_by (own := [("letter", 6)]) (N := nWI) (sc := defScope sWInit) (by decide +kernel))
          (fun _ _ _ _ _ => pg_name (i := 6) nd rfl (Or.inl rfl)) (fun _ _ _ _ _ => by exact pts_one (pt_cmpR op_gt (pe_dget hu1 (pe_fld (pv 4) rfl) (pv 6) (fun _ _ => rfl)) pe_int (nomark _))) (fun _ _ _ _ _ => pv 6))))
      (C8.pss_cut (ps_if (pt_not (pt_val (pe_callB (cr_all rfl) (by rfl) all (by decide +kernel) (pa_cons (pe_lc (own := [("guess", 7), ("told", 8)]) (g := gTup K 2 (gCons (gName 7) (gCons (gName 8) gNil))) (by rfl) nd (pi_tup (pv 2)) (blkOk_by (own := [("guess", 7), ("told", 8)]) (N := nWI) (sc := defScope sWInit) (by decide +kernel))
          (fun _ _ _ _ _ => by exact pg_tup (by rfl) (pgs_cons (pg_name (i := 7) nd rfl (Or.inl rfl)) (pgs_cons (pg_name (i := 8) nd rfl (Or.inl rfl)) pgs_nil))) (fun _ _ _ _ _ => pts_nil) (fun _ _ _ _ _ => pe_call GO hr2 (by rfl) DO.mg DO.kp DO.b .nil pass0 (pa_cons (pv 7) (pa_cons (pv 8) pa_nil)))) pa_nil)))) (pss_one (ps_set (i := 5) nd rfl (Or.inr rfl) pe_str)) pss_nil)
      (pss_cons (ps_fld (pv 0) (pe_lc (own := [("letters", 9)]) (g := gName 9) (by rfl) nd (pi_list (pe_fld (pv 4) rfl)) (blkOk_by (own := [("letters", 9)]) (N := nWI) (sc := defScope sWInit) (by decide +kernel))
          (fun _ _ _ _ _ => pg_name (i := 9) nd rfl (Or.inl rfl)) (fun _ _ _ _ _ => pts_nil) (fun _ _ _ _ _ => pe_call GC hr1 (by rfl) DC.mg DC.kp DC.b .nil pass0 (pa_cons (pv 9) (pa_cons (pv 5) pa_nil)))) rfl)
      (pss_cons (ps_fld (pv 0) (pe_call GN hr1 (by rfl) DN.mg DN.kp DN.b .nil pass0 (pa_cons (pv 1) (pa_cons (pv 4) pa_nil))) rfl)
      (pss_cons (ps_fld (pv 0) (pe_lc (te := tDGet (tFld K (tVar 4) "least") (tVar 6)) (own := [("letter", 6)]) (g := gName 6) (by rfl) nd (pi_str (pe_fld (pv 0) rfl)) (blkOk_by (own := [("letter", 6)]) (N := nWI) (sc := defScope sWInit) (by decide +kernel))
          (fun _ _ _ _ _ => pg_name (i := 6) nd rfl (Or.inl rfl)) (fun _ _ _ _ _ => pts_nil) (fun _ _ _ _ _ => by exact pe_dget hu1 (pe_fld (pv 4) rfl) (pv 6) (fun _ _ => rfl))) rfl)
      (pss_cons (ps_fld (pv 0) (pe_lc (te := tDGet (tFld K (tVar 4) "greatest") (tVar 6)) (own := [("letter", 6)]) (g := gName 6) (by rfl) nd (pi_str (pe_fld (pv 0) rfl)) (blkOk_by (own := [("letter", 6)]) (N := nWI) (sc := defScope sWInit) (by decide +kernel))
          (fun _ _ _ _ _ => pg_name (i := 6) nd rfl (Or.inl rfl)) (fun _ _ _ _ _ => pts_nil) (fun _ _ _ _ _ => by exact pe_dget hu1 (pe_fld (pv 4) rfl) (pv 6) (fun _ _ => rfl))) rfl)
      (pss_one (ps_fld (pv 0) pe_mnew rfl)))))))), ?_⟩
    obtain ⟨vs, hv, hw⟩ := _root_.id hrw
    obtain ⟨⟨⟨dxb, hbd⟩, l26, n1, n6⟩, lnd⟩ := _root_.id hb
    refine ⟨_, rfl, _, rfl, _, rfl, fun x dxx nx ndx ne => ?_⟩
    have sm0 : Same H (upd (upd H dxx (.own x)) x (.ins CB dxx [])) := fun a o z => by rw [upd_ne (ne_of_none z nx), upd_ne (ne_of_none z ndx)]; exact z
    refine ⟨x, dxx, b, r, e, l, n, rows, rfl, upd_same, hb.same sm0, hrw.same sm0, rok, sm0 _ _ he, fun H1 q b1 bt1 => ⟨rfl, ?_⟩⟩
    have s1 : Same H H1 := fun a o z => b1 a o (ne_of_none z nx) (sm0 a o z)
    have bo := bsF_ok rows (bs0 l n.toNat) (n := n.toNat) (List.length_replicate ..) (fun y hy => by rw [(List.mem_replicate.mp hy).2]; exact l26)
    have bo : (bsOf l n.toNat rows).al.length = n.toNat ∧ ∀ y ∈ (bsOf l n.toNat rows).al, y.length ≤ 26 := bo
    have ewd : wdOf l n rows = ⟨(bsOf l n.toNat rows).al.map fun t => cc t (usOf l (bsOf l n.toNat rows) rows), ctOf l n (bsOf l n.toNat rows), (ctOf l n (bsOf l n.toNat rows)).map (bsOf l n.toNat rows).le, (ctOf l n (bsOf l n.toNat rows)).map (bsOf l n.toNat rows).gr⟩ := rfl
    rw [ewd] at fin
    clear ewd
    generalize bsOf l n.toNat rows = B at bt1 bo fin
    have ct26 : (ctOf l n B).length ≤ 26 := Nat.le_trans (List.length_filter_le _ _) l26
    have hbd1 := s1 _ _ hbd
    have hv1 := s1 _ _ hv
    have hw1 := hw.same s1
    refine ⟨⟨_, rfl⟩, _, rfl, b, C, dxb, _, _, rfl, hbd1, TC.cl, TC.nL, bf_letters _ _, tx l, rfl, fun D hD => ?_⟩
    refine lc_it (walk_str (z := tx l)) (fun i H' => Same H1 H' ∧ H' D = some (.lst (((l.take i).filter fun c => decide (0 < B.gr c)).map fun c => V.str (one c)))) ⟨same_upd hD, upd_same⟩ (fun _ _ _ _ => trivial) ?_ ?_
    · rintro i x0 H3 H2 hi ⟨sm, hd⟩ ⟨rfl, c, hc, rfl⟩
      have hc' := tx_at hc
      have hlt := (List.getElem?_eq_some_iff.mp hc').1
      have hcl := List.mem_of_getElem? hc'
      have bt' := bt1.same sm
      have g1 := DGet.k (k := Sum.inr (one c)) bt'.g
      rw [valV_of hcl] at g1
      have st : (l.take (i + 1)).filter (fun c => decide (0 < B.gr c)) = (l.take i).filter (fun c => decide (0 < B.gr c)) ++ (if decide (0 < B.gr c) = true then [c] else []) := by
        rw [List.take_succ_eq_append_getElem hlt, (List.getElem?_eq_some_iff.mp hc').2, List.filter_append, List.filter_cons, List.filter_nil]
      refine ⟨rfl, _, rfl, x, CB, q.dx, _, _, rfl, bt'.p, TB.cl, TB.nG, bf_gr q.a q.l q.g, _, rfl, q.g, _, rfl, g1, _, _, rfl, rfl, _, rfl, ?_⟩
      refine ite2 (fun hm => ?_) (fun hm => ?_)
      · rw [if_pos hm] at st
        refine ⟨_, rfl, _, hd, ?_, fun o u z => ?_, ?_⟩
        · have h1 := List.length_filter_le (fun c => decide (0 < B.gr c)) (l.take i)
          rw [List.length_take] at h1
          rw [List.length_map]
          omega
        · rw [upd_ne (ne_of_none z hD)]
          exact sm o u z
        · rw [upd_same, st, List.map_append]
          rfl
      · rw [if_neg hm, List.append_nil] at st
        exact ⟨sm, by rw [st]; exact hd⟩
    rintro H2 ⟨s2, hD2⟩
    rw [tx_size, List.take_length] at hD2
    refine ⟨_, D, (l.filter fun c => decide (0 < B.gr c)).map one, rfl, rfl, .inl (SqL.of (by rw [List.map_map]; exact hD2)), ?_, ?_⟩
    · have h1 := List.length_filter_le (fun c => decide (0 < B.gr c)) l
      rw [sum_one, List.length_map]
      show (l.filter fun c => decide (0 < B.gr c)).length + (l.filter fun c => decide (0 < B.gr c)).length * 0 ≤ 16777216
      omega
    rw [join_one]
    refine ⟨fun σ H' => ∃ us : List Nat, σ = [some (.ref p), some (.ref b), some (.ref r), some (.ref e), some (.ref x), some (.str (tx us)), none, none, none, none] ∧ Same H1 H' ∧ us = usOf l B rows, ?_, ?_⟩
    · refine ⟨_, rfl, r, rfl, ⟨vs, SqT.of (s2 _ _ hv1)⟩, fun D2 hD2 => ?_⟩
      refine lc_it (walk_tup (xs := vs)) (fun i H' => Same H2 H' ∧ H' D2 = some (.lst (((rows.take i).map fun r => ordOk r.1 r.2).map V.bl))) ⟨same_upd hD2, upd_same⟩ (fun i H' _ h => SqT.of (h.1 _ _ (s2 _ _ hv1))) ?_ ?_
      · rintro i x0 H4 H3 hi ⟨sm, hd⟩ ⟨rfl, hx⟩
        obtain ⟨a, row, rfl, hrow, ha⟩ := hw1.get hx
        have rk := rok row (List.mem_of_getElem? hrow)
        have hlt := (List.getElem?_eq_some_iff.mp hrow).1
        have k1 := rk.1.1
        have k2 := rk.2.1
        refine ⟨a, _, rfl, SqT.of (sm _ _ (s2 _ _ ha)), rfl, _, _, rfl, _, _, rfl, rfl, rfl, _, rfl, _, rfl, row.1, row.2, rfl, by omega, by omega, fun H5 s5 => ⟨_, s5 _ _ hd, ?_, fun o u z => ?_, ?_⟩⟩
        · rw [List.length_map, List.length_map, List.length_take]
          omega
        · rw [upd_ne (ne_of_none z hD2)]
          exact (sm.trans s5) o u z
        · rw [upd_same, List.take_succ_eq_append_getElem hlt, (List.getElem?_eq_some_iff.mp hrow).2, List.map_append, List.map_append]
          rfl
      · rintro H3 ⟨sm, hd⟩
        rw [hw1.len, List.take_length] at hd
        refine ⟨D2, _, rfl, SqL.of hd, _, rfl, ?_⟩
        have ea : ((rows.map fun r => ordOk r.1 r.2).all _root_.id) = rows.all fun r => ordOk r.1 r.2 := by
          rw [List.all_map]
          rfl
        rw [ea]
        cases eo : rows.all fun r => ordOk r.1 r.2 with
        | true => exact iteF ⟨_, rfl, s2.trans sm, by unfold usOf; rw [if_pos eo]⟩
        | false => exact iteT ⟨[], rfl, s2.trans sm, by unfold usOf; rw [if_neg (by rw [eo]; exact Bool.false_ne_true)]⟩
    rintro σ H3 ⟨us, rfl, s3, eus⟩
    rw [← eus] at fin
    clear eus hD2 s2 hD D
    have bt3 := bt1.same s3
    have s03 := s1.trans s3
    have hp3 := s03 _ _ hp
    have hb3 := hb.same s03
    have px : p ≠ x := ne_of_none hp nx
    refine ⟨_, rfl, x, CB, q.dx, _, _, rfl, bt3.p, TB.cl, TB.nA, bf_al q.a q.l q.g, q.a, rfl, ⟨_, SqL.of bt3.a⟩, fun D hD => ?_⟩
    refine lc_it (walk_list (xs := alV B.al)) (fun i H' => Same H3 H' ∧ H' D = some (.lst (alV ((B.al.take i).map fun t => cc t us)))) ⟨same_upd hD, upd_same⟩ (fun i H' _ h => SqL.of (h.1 _ _ bt3.a)) ?_ ?_
    · rintro i x0 H5 H4 hi ⟨sm, hd⟩ ⟨rfl, hx⟩
      obtain ⟨t, ht, rfl⟩ : ∃ t, B.al[i]? = some t ∧ V.str (tx t) = x0 := by
        unfold alV at hx
        rw [List.getElem?_map] at hx
        obtain ⟨t, h1, h2⟩ := Option.map_eq_some_iff.mp hx
        exact ⟨t, h1, h2⟩
      have hlt := (List.getElem?_eq_some_iff.mp ht).1
      have b6 := bo.1
      refine ⟨rfl, _, rfl, _, rfl, t, us, rfl, bo.2 t (List.mem_of_getElem? ht), fun H6 s6 => ⟨_, s6 _ _ hd, ?_, fun o u z => ?_, ?_⟩⟩
      · unfold alV
        rw [List.length_map, List.length_map, List.length_take]
        omega
      · rw [upd_ne (ne_of_none z hD)]
        exact (sm.trans s6) o u z
      · rw [upd_same, List.take_succ_eq_append_getElem hlt, (List.getElem?_eq_some_iff.mp ht).2, List.map_append]
        unfold alV
        rw [List.map_append]
        rfl
    rintro H4 ⟨s4, hD4⟩
    have lal : (alV B.al).length = B.al.length := List.length_map ..
    rw [lal, List.take_length] at hD4
    refine ⟨_, rfl, p, CW, dx, _, rfl, s4 _ _ hp3, T.cl, T.nA, by show 0 < 1000; decide, ?_⟩
    have pD : p ≠ D := ne_of_none hp3 hD
    have eA : upd H4 p (.ins CW dx (putF "allowed" (.ref D) [])) p = some (.ins CW dx (putF "allowed" (.ref D) [])) := upd_same
    have kA : ∀ a o, a ≠ p → H4 a = some o → upd H4 p (.ins CW dx (putF "allowed" (.ref D) [])) a = some o := fun a o n z => by rw [upd_ne n]; exact z
    generalize upd H4 p (.ins CW dx (putF "allowed" (.ref D) [])) = HA at eA kA
    have keep : ∀ a o, a ≠ p → H a = some o → HA a = some o := fun a o n z => kA a o n (s4 _ _ (s03 _ _ z))
    have pb : b ≠ p := by
      intro z
      rw [z, hp] at hbd
      have h3 := (HO.ins.inj (Option.some.inj hbd)).2.2
      rw [bf_eq] at h3
      cases h3
    have hbA : Bd C HA b l n := ⟨⟨dxb, keep _ _ pb hbd⟩, l26, n1, n6⟩
    have pqa : q.a ≠ p := ne_of bt3.a hp3 fun z => nomatch z
    have pql : q.l ≠ p := ne_of bt3.l hp3 fun z => nomatch z
    have pqg : q.g ≠ p := ne_of bt3.g hp3 fun z => nomatch z
    have btK : ∀ {HX HY : Hp}, BAt CB HX x q l B → (∀ a o, a ≠ p → HX a = some o → HY a = some o) → BAt CB HY x q l B := fun {HX HY} y k => ⟨k _ _ px.symm y.p, k _ _ pqa y.a, k _ _ pql y.l, k _ _ pqg y.g, y.n⟩
    have btA : BAt CB HA x q l B := btK (bt3.same s4) kA
    have dA := kA _ _ pD.symm hD4
    refine ⟨_, rfl, _, rfl, b, x, q, l, n, B, rfl, hbA, btA, ?_⟩
    refine ⟨_, rfl, p, CW, dx, _, rfl, eA, T.cl, T.nC, by show 1 < 1000; decide, ?_⟩
    rw [wf_p2]
    have eB : upd HA p (.ins CW dx [("allowed", .ref D), ("counted", .str (tx (ctOf l n B)))]) p = some (.ins CW dx [("allowed", .ref D), ("counted", .str (tx (ctOf l n B)))]) := upd_same
    have kB : ∀ a o, a ≠ p → HA a = some o → upd HA p (.ins CW dx [("allowed", .ref D), ("counted", .str (tx (ctOf l n B)))]) a = some o := fun a o n z => by rw [upd_ne n]; exact z
    generalize upd HA p (.ins CW dx [("allowed", .ref D), ("counted", .str (tx (ctOf l n B)))]) = HB at eB kB
    have btB := btK btA kB
    have dB := kB _ _ pD.symm dA
    refine ⟨_, rfl, p, CW, dx, _, _, rfl, eB, T.cl, T.nC, wl_ct _ _ _, tx (ctOf l n B), rfl, fun E hE => ?_⟩
    refine lc_it (walk_str (z := tx (ctOf l n B))) (fun i H' => Same HB H' ∧ H' E = some (.lst ((((ctOf l n B).take i).map B.le).map V.int))) ⟨same_upd hE, upd_same⟩ (fun _ _ _ _ => trivial) ?_ ?_
    · rintro i x0 H7 H6 hi ⟨sm, hd⟩ ⟨rfl, c, hc, rfl⟩
      have hc' := tx_at hc
      have hlt := (List.getElem?_eq_some_iff.mp hc').1
      have hcl := ct_sub (List.mem_of_getElem? hc')
      have bt' := btB.same sm
      have g0 := DGet.k (k := Sum.inr (one c)) bt'.l
      rw [valV_of hcl] at g0
      refine ⟨rfl, _, rfl, x, CB, q.dx, _, _, rfl, bt'.p, TB.cl, TB.nL, bf_le q.a q.l q.g, _, rfl, q.l, _, rfl, g0, _, hd, ?_, fun a o z => ?_, ?_⟩
      · rw [List.length_map, List.length_map, List.length_take]
        omega
      · rw [upd_ne (ne_of_none z hE)]
        exact sm a o z
      · rw [upd_same, List.take_succ_eq_append_getElem hlt, (List.getElem?_eq_some_iff.mp hc').2, List.map_append, List.map_append]
        rfl
    rintro HE ⟨sE, dE⟩
    rw [tx_size, List.take_length] at dE
    have eB' := sE _ _ eB
    have pE : p ≠ E := ne_of_none eB hE
    refine ⟨_, rfl, p, CW, dx, _, rfl, eB', T.cl, T.nL, by show 2 < 1000; decide, ?_⟩
    rw [wf_p3]
    have eC : upd HE p (.ins CW dx [("allowed", .ref D), ("counted", .str (tx (ctOf l n B))), ("least", .ref E)]) p = some (.ins CW dx [("allowed", .ref D), ("counted", .str (tx (ctOf l n B))), ("least", .ref E)]) := upd_same
    have kC : ∀ a o, a ≠ p → HE a = some o → upd HE p (.ins CW dx [("allowed", .ref D), ("counted", .str (tx (ctOf l n B))), ("least", .ref E)]) a = some o := fun a o n z => by rw [upd_ne n]; exact z
    generalize upd HE p (.ins CW dx [("allowed", .ref D), ("counted", .str (tx (ctOf l n B))), ("least", .ref E)]) = HC at eC kC
    have btC := btK (btB.same sE) kC
    have dC := kC _ _ pD.symm (sE _ _ dB)
    have dEC := kC _ _ pE.symm dE
    refine ⟨_, rfl, p, CW, dx, _, _, rfl, eC, T.cl, T.nC, wl_ct _ _ _, tx (ctOf l n B), rfl, fun G hG => ?_⟩
    refine lc_it (walk_str (z := tx (ctOf l n B))) (fun i H' => Same HC H' ∧ H' G = some (.lst ((((ctOf l n B).take i).map B.gr).map V.int))) ⟨same_upd hG, upd_same⟩ (fun _ _ _ _ => trivial) ?_ ?_
    · rintro i x0 H7 H6 hi ⟨sm, hd⟩ ⟨rfl, c, hc, rfl⟩
      have hc' := tx_at hc
      have hlt := (List.getElem?_eq_some_iff.mp hc').1
      have hcl := ct_sub (List.mem_of_getElem? hc')
      have bt' := btC.same sm
      have g0 := DGet.k (k := Sum.inr (one c)) bt'.g
      rw [valV_of hcl] at g0
      refine ⟨rfl, _, rfl, x, CB, q.dx, _, _, rfl, bt'.p, TB.cl, TB.nG, bf_gr q.a q.l q.g, _, rfl, q.g, _, rfl, g0, _, hd, ?_, fun a o z => ?_, ?_⟩
      · rw [List.length_map, List.length_map, List.length_take]
        omega
      · rw [upd_ne (ne_of_none z hG)]
        exact sm a o z
      · rw [upd_same, List.take_succ_eq_append_getElem hlt, (List.getElem?_eq_some_iff.mp hc').2, List.map_append, List.map_append]
        rfl
    rintro HG ⟨sG, dG⟩
    rw [tx_size, List.take_length] at dG
    have eC' := sG _ _ eC
    have pG : p ≠ G := ne_of_none eC hG
    refine ⟨_, rfl, p, CW, dx, _, rfl, eC', T.cl, T.nG, by show 3 < 1000; decide, ?_⟩
    rw [wf_p4]
    have eD : upd HG p (.ins CW dx [("allowed", .ref D), ("counted", .str (tx (ctOf l n B))), ("least", .ref E), ("greatest", .ref G)]) p = some (.ins CW dx [("allowed", .ref D), ("counted", .str (tx (ctOf l n B))), ("least", .ref E), ("greatest", .ref G)]) := upd_same
    have kD : ∀ a o, a ≠ p → HG a = some o → upd HG p (.ins CW dx [("allowed", .ref D), ("counted", .str (tx (ctOf l n B))), ("least", .ref E), ("greatest", .ref G)]) a = some o := fun a o n z => by rw [upd_ne n]; exact z
    generalize upd HG p (.ins CW dx [("allowed", .ref D), ("counted", .str (tx (ctOf l n B))), ("least", .ref E), ("greatest", .ref G)]) = HD at eD kD
    have dD := kD _ _ pD.symm (sG _ _ dC)
    have dED := kD _ _ pE.symm (sG _ _ dEC)
    have dGD := kD _ _ pG.symm dG
    refine fun m hm => ?_
    have sm := same_upd (o := memoO P w m []) hm
    have pm : p ≠ m := ne_of_none eD hm
    refine ⟨_, rfl, p, CW, dx, _, rfl, sm _ _ eD, T.cl, T.nK, by show 4 < 1000; decide, ?_⟩
    rw [wf_p5]
    have hm0 : H m = none := by
      cases z : H m with
      | none => rfl
      | some o =>
        have := kD _ _ (fun y => pm y.symm) (sG _ _ (kC _ _ (fun y => pm y.symm) (sE _ _ (kB _ _ (fun y => pm y.symm) (keep _ _ (fun y => pm y.symm) z)))))
        rw [hm] at this
        cases this
    refine fin _ m (fun a o n z => ?_) hm0 ⟨dx, D, E, G, upd_same, ?_, ?_, ?_⟩ ⟨[], ?_, (fun _ z => nomatch z), (fun _ z => nomatch z), Nat.le_refl _⟩
    · rw [upd_ne n]
      exact sm _ _ (kD _ _ n (sG _ _ (kC _ _ n (sE _ _ (kB _ _ n (keep _ _ n z))))))
    · rw [upd_ne pD.symm]
      exact sm _ _ dD
    · rw [upd_ne pE.symm]
      exact sm _ _ dED
    · rw [upd_ne pG.symm]
      exact sm _ _ dGD
    · rw [upd_ne pm.symm]
      exact upd_same
/-! ### has_word -/
def spHas (C : Addr) : Sp := fun vs H Q _ => ∃ (b r e : Addr) (l : List Nat) (n : Int) (rows : List Row), vs = [.ref b, .ref r, .ref e] ∧ Bn C H b l n ∧ RowsAt H r rows ∧ (∀ x ∈ rows, RowOk l n x) ∧ rows.length ≤ 1000 ∧ H e = some (.tup []) ∧
  ∀ H', Same H H' → Q (.bl (decide (0 < ways (wdOf l n rows) 0 (List.replicate (wdOf l n rows).ct.length 0)))) H'
theorem wd_ok {l : List Nat} {n : Int} {rows : List Row} (l26 : l.length ≤ 26) (n0 : 0 ≤ n) (n6 : n ≤ 6) : WOk (wdOf l n rows) := by
  have bo := bsF_ok rows (bs0 l n.toNat) (n := n.toNat) (List.length_replicate ..) (fun y hy => by rw [(List.mem_replicate.mp hy).2]; exact l26)
  have bo : (bsOf l n.toNat rows).al.length = n.toNat ∧ ∀ y ∈ (bsOf l n.toNat rows).al, y.length ≤ 26 := bo
  refine ⟨?_, ?_, ?_, fun a ha => ?_, ?_⟩
  · exact List.length_map ..
  · exact List.length_map ..
  · show (List.map _ _).length ≤ 6
    rw [List.length_map, bo.1]
    omega
  · obtain ⟨t, ht, rfl⟩ := List.mem_map.mp ha
    exact Nat.le_trans (cc_le _ _) (bo.2 t ht)
  · exact Nat.le_trans (List.length_filter_le _ _) l26
abbrev nHW : List Str := ["board", "rows", "facts"]
theorem scHW : FnScope nHW ["board", "rows", "facts"] (defScope sHas) := ⟨rfl, rfl, rfl, by decide +kernel, rfl, by decide +kernel, by decide +kernel⟩
theorem ok_has {n0 : Nat} {f fI fM C CB CW : Addr} {fd fdI fdM : FuncData} (F : Fun K "has_word" "has_word" sHas f fd) (T : TxN K mg CW) (mW : mg "Words" = some (.ref CW)) (M : Mk K CW fI) (GI : FnOk P w K mg base CX0 5 fI fdI ["self", "board", "rows", "facts"] (spWInit P w C CB CW)) (bI : Binds K fdI ["self", "board", "rows", "facts"] [])
    (mM : Meth K CW "many" fM) (GM : FnOk P w K mg base CX0 (n0 + 6) fM fdM ["self"] (spMany P w CW)) (bM : Binds K fdM ["self"] []) : FnOk P w K mg base CX0 (n0 + 7) f fd ["board", "rows", "facts"] (spHas C) := by
  refine F.ok scHW (fun vs H Q E h => ?_) (fun cdv A outer s H vs Q E hr h => ?_)
  · obtain ⟨b, r, e, l, n, rows, rfl, _⟩ := h
    rfl
  · obtain ⟨b, r, e, l, n, rows, rfl, hb, hrw, rok, r1000, he, fin⟩ := h
    have nd := scHW.nd
    have hr6 : Room (5 + 1) _ := hr.mono (by omega)
    have hn := hb.1.2
    refine ⟨_, pss_one (ps_ret (pe_cmpR op_gt (pe_meth0 (pe_make M GI hr6 (by rfl) mW bI .nil pass0 (pa_cons (pv 0) (pa_cons (pv 1) (pa_cons (pv 2) pa_nil)))) T.cl mM GM hr bM .nil pass0) pe_int (nomark _))), ?_⟩
    refine ⟨_, rfl, _, rfl, _, rfl, fun x dx nx ndx ne => ?_⟩
    have sm0 : Same H (upd (upd H dx (.own x)) x (.ins CW dx [])) := fun a o z => by rw [upd_ne (ne_of_none z nx), upd_ne (ne_of_none z ndx)]; exact z
    refine ⟨x, dx, b, r, e, l, n, rows, rfl, upd_same, hb.same sm0, hrw.same sm0, rok, r1000, sm0 _ _ he, fun H1 m b1 m0 fx me => ⟨rfl, ?_⟩⟩
    have s1 : Same H H1 := fun a o z => b1 a o (ne_of_none z nx) (sm0 a o z)
    obtain ⟨dx', a, l', g, hp, _⟩ := _root_.id fx
    refine ⟨x, dx', _, rfl, hp, wf_no a l' g m _ (by decide +kernel), x, m, _, 0, rfl, wd_ok hn.1 (by omega) hn.2.2, fx, me, by rw [Nat.zero_add]; exact (wd_ok hn.1 (by omega) hn.2.2).fit, fun H2 b2 me2 => ?_⟩
    refine ⟨_, _, rfl, rfl, fin H2 fun c o z => ?_⟩
    exact b2 c o (ne_of_none (sm0 c o z) m0) (s1 c o z)
end
end Gm

/-! can_come as lists of codes -/
namespace Gm
def lm (g t wd : List Nat) : List Nat := ((g.zip t).filter fun p => decide (p.2 ∈ wd)).map (·.1)
def ordB : List (Nat × Nat) → List Nat → Bool
  | [], _ => true
  | (a, m) :: r, u => if m = 49 ∧ a ∈ u then false else ordB r (if m = 48 then u ++ [a] else u)
def fillB : List Nat → List Nat → List Nat → Bool
  | [], o, _ => o.isEmpty
  | g :: gs, o, s => if gs.length + 1 < o.length then false else (o.any fun c => !decide (c = g) && fillB gs (o.erase c) s) || (s.any (fun c => !decide (c = g)) && fillB gs o s)
def spare (l used : List Nat) : List Nat := l.filter fun c => !decide (c ∈ used)
def comeB (l g t : List Nat) : Bool := ordB (g.zip t) [] && fillB (lm g t [48, 49]) (lm g t [49]) (spare l (lm g t [48]))
end Gm

/-! which marks can come: comeB tells whether a word gives them -/
namespace Gm
theorem lm_cons (a m : Nat) (g t wd : List Nat) : lm (a :: g) (m :: t) wd = if m ∈ wd then a :: lm g t wd else lm g t wd := by
  unfold lm
  rw [List.zip_cons_cons, List.filter_cons]
  by_cases h : m ∈ wd <;> simp [h]
theorem un_cons (a b : Nat) (g w : List Nat) : un (a :: g) (b :: w) = if a = b then un g w else b :: un g w := by
  unfold un
  rw [List.zip_cons_cons, List.filter_cons]
  by_cases h : a = b <;> simp [h]
theorem cnt_cons (a b : Nat) (l : List Nat) : (b :: l).count a = l.count a + if b = a then 1 else 0 := by
  rw [List.count_cons]
  by_cases h : b = a <;> simp [h]
theorem cnt_erase (a b : Nat) (l : List Nat) : (l.erase b).count a = l.count a - if b = a then 1 else 0 := by
  rw [List.count_erase]
  by_cases h : b = a <;> simp [h]
theorem mem_cnt {a : Nat} {l : List Nat} : a ∈ l ↔ 0 < l.count a := List.count_pos_iff.symm
def Hits : List Nat → List Nat → List Nat → Prop
  | [], [], [] => True
  | a :: g, b :: w, m :: t => (m = 50 ↔ a = b) ∧ (m = 48 ∨ m = 49 ∨ m = 50) ∧ Hits g w t
  | _, _, _ => False
theorem ord_zero : ∀ (g t : List Nat) (U : List Nat) (a : Nat), ordB (g.zip t) U = true → a ∈ U → (lm g t [49]).count a = 0
  | [], t, U, a, _, _ => by simp [lm]
  | b :: g, [], U, a, _, _ => by simp [lm]
  | b :: g, m :: t, U, a, h, ha => by
    rw [List.zip_cons_cons, ordB] at h
    by_cases c : m = 49 ∧ b ∈ U
    · rw [if_pos c] at h; cases h
    · rw [if_neg c] at h
      have ih := ord_zero g t _ a h (by split <;> simp [ha])
      rw [lm_cons]
      by_cases c2 : m ∈ [49]
      · rw [if_pos c2, cnt_cons, ih]
        have : m = 49 := by simpa using c2
        have : ¬ b = a := fun e => c ⟨this, e ▸ ha⟩
        simp [this]
      · rw [if_neg c2]; exact ih
theorem go_of : ∀ (g w t u U : List Nat), Hits g w t → ordB (g.zip t) U = true → (∀ a, (lm g t [49]).count a ≤ u.count a) → (∀ a, a ∈ lm g t [48] → u.count a = (lm g t [49]).count a) → go (g.zip w) u = t
  | [], [], [], _, _, _, _, _, _ => rfl
  | a :: g, b :: w, m :: t, u, U, hh, ho, h1, h2 => by
    obtain ⟨hm, hd, hh⟩ := hh
    rw [List.zip_cons_cons, ordB] at ho
    by_cases c : m = 49 ∧ a ∈ U
    · rw [if_pos c] at ho; cases ho
    rw [if_neg c] at ho
    rw [List.zip_cons_cons, go]
    by_cases e : a = b
    · have m50 := hm.mpr e
      subst m50
      rw [if_pos e]
      refine congrArg _ (go_of g w t u _ hh ho (fun x => ?_) fun x hx => ?_)
      · have := h1 x
        rw [lm_cons, if_neg (by decide)] at this
        exact this
      · have := h2 x (by rw [lm_cons, if_neg (by decide)]; exact hx)
        rw [lm_cons, if_neg (by decide)] at this
        exact this
    · rw [if_neg e]
      have n50 : ¬ m = 50 := fun z => e (hm.mp z)
      by_cases m49 : m = 49
      · subst m49
        have ha := h1 a
        rw [lm_cons, if_pos (by decide), cnt_cons, if_pos rfl] at ha
        have hu : a ∈ u := mem_cnt.mpr (by omega)
        rw [if_pos hu]
        refine congrArg _ (go_of g w t (u.erase a) _ hh ho (fun x => ?_) fun x hx => ?_)
        · have := h1 x
          rw [lm_cons, if_pos (by decide), cnt_cons] at this
          rw [cnt_erase]
          omega
        · have := h2 x (by rw [lm_cons, if_neg (by decide)]; exact hx)
          rw [lm_cons, if_pos (by decide), cnt_cons] at this
          rw [cnt_erase]
          omega
      · have m48 : m = 48 := by omega
        subst m48
        rw [if_pos rfl] at ho
        have z := ord_zero g t _ a ho (by simp)
        have h2a := h2 a (by rw [lm_cons, if_pos (by decide)]; exact List.mem_cons_self)
        rw [lm_cons, if_neg (by decide), z] at h2a
        have hu : ¬ a ∈ u := fun q => by have := mem_cnt.mp q; omega
        rw [if_neg hu]
        refine congrArg _ (go_of g w t u _ hh ho (fun x => ?_) fun x hx => ?_)
        · have := h1 x
          rw [lm_cons, if_neg (by decide)] at this
          exact this
        · have := h2 x (by rw [lm_cons, if_pos (by decide)]; exact List.mem_cons_of_mem _ hx)
          rw [lm_cons, if_neg (by decide)] at this
          exact this
theorem of_go : ∀ (g w u U : List Nat), g.length = w.length → (∀ a, a ∈ U → ¬ a ∈ u) → Hits g w (go (g.zip w) u) ∧ ordB (g.zip (go (g.zip w) u)) U = true ∧ (∀ a, (lm g (go (g.zip w) u) [49]).count a ≤ u.count a) ∧
    (∀ a, a ∈ lm g (go (g.zip w) u) [48] → u.count a = (lm g (go (g.zip w) u) [49]).count a)
  | [], [], u, U, _, _ => ⟨trivial, rfl, fun a => by simp [lm], fun a h => by simp [lm] at h⟩
  | a :: g, b :: w, u, U, hl, hU => by
    have hl' : g.length = w.length := by simpa using hl
    rw [List.zip_cons_cons, go]
    by_cases e : a = b
    · rw [if_pos e]
      obtain ⟨i1, i2, i3, i4⟩ := of_go g w u U hl' hU
      refine ⟨⟨by simp [e], by simp, i1⟩, ?_, ?_, ?_⟩
      · rw [List.zip_cons_cons, ordB, if_neg (fun q => absurd q.1 (by decide)), if_neg (by decide)]
        exact i2
      · intro x; rw [lm_cons, if_neg (by decide)]; exact i3 x
      · intro x hx; rw [lm_cons, if_neg (by decide)] at hx ⊢; exact i4 x hx
    · rw [if_neg e]
      by_cases hu : a ∈ u
      · rw [if_pos hu]
        have hU2 : ∀ x, x ∈ U → ¬ x ∈ u.erase a := fun x hx q => hU x hx (List.mem_of_mem_erase q)
        obtain ⟨i1, i2, i3, i4⟩ := of_go g w (u.erase a) U hl' hU2
        have ca := mem_cnt.mp hu
        refine ⟨⟨by simp [e], by simp, i1⟩, ?_, ?_, ?_⟩
        · rw [List.zip_cons_cons, ordB, if_neg (fun q => hU a q.2 hu), if_neg (by decide)]
          exact i2
        · intro x
          have := i3 x
          rw [cnt_erase] at this
          rw [lm_cons, if_pos (by decide), cnt_cons]
          by_cases q : a = x
          · subst q; simp only [if_true] at this ⊢; omega
          · simp only [q, if_false] at this ⊢; omega
        · intro x hx
          rw [lm_cons, if_neg (by decide)] at hx
          have := i4 x hx
          rw [cnt_erase] at this
          rw [lm_cons, if_pos (by decide), cnt_cons]
          by_cases q : a = x
          · subst q; simp only [if_true] at this ⊢; omega
          · simp only [q, if_false] at this ⊢; omega
      · rw [if_neg hu]
        have hU2 : ∀ x, x ∈ U ++ [a] → ¬ x ∈ u := fun x hx => by
          rcases List.mem_append.mp hx with q | q
          · exact hU x q
          · rw [List.mem_singleton.mp q]; exact hu
        obtain ⟨i1, i2, i3, i4⟩ := of_go g w u (U ++ [a]) hl' hU2
        refine ⟨⟨by simp [e], by simp, i1⟩, ?_, ?_, ?_⟩
        · rw [List.zip_cons_cons, ordB, if_neg (by simp), if_pos rfl]
          exact i2
        · intro x; rw [lm_cons, if_neg (by decide)]; exact i3 x
        · intro x hx
          rw [lm_cons, if_pos (by decide)] at hx
          rw [lm_cons, if_neg (by decide)]
          rcases List.mem_cons.mp hx with q | q
          · subst q
            have z := ord_zero g _ _ x i2 (by simp)
            have : u.count x = 0 := by
              have : ¬ 0 < u.count x := fun z => hu (mem_cnt.mpr z)
              omega
            omega
          · exact i4 x q
/-! ### the gaps are filled -/
def Ne2 : List Nat → List Nat → Prop
  | [], [] => True
  | y :: ys, g :: gs => y ≠ g ∧ Ne2 ys gs
  | _, _ => False
theorem ne2_len : ∀ (ys gs : List Nat), Ne2 ys gs → ys.length = gs.length
  | [], [], _ => rfl
  | y :: ys, g :: gs, h => by rw [List.length_cons, List.length_cons, ne2_len ys gs h.2]
theorem len_of_cnt : ∀ (o ys : List Nat), (∀ a, o.count a ≤ ys.count a) → o.length ≤ ys.length
  | [], ys, _ => Nat.zero_le _
  | a :: o, ys, h => by
    have ha := h a
    rw [cnt_cons, if_pos rfl] at ha
    have hm : a ∈ ys := mem_cnt.mpr (by omega)
    have ih := len_of_cnt o (ys.erase a) fun x => by
      have := h x
      rw [cnt_cons] at this
      rw [cnt_erase]
      omega
    rw [List.length_erase_of_mem hm] at ih
    have := List.length_pos_of_mem hm
    rw [List.length_cons]
    omega
theorem fill_of : ∀ (gs o s ys : List Nat), Ne2 ys gs → (∀ a, o.count a ≤ ys.count a) → (∀ a, ¬ a ∈ s → ys.count a = o.count a) → fillB gs o s = true
  | [], o, s, [], _, h1, _ => by
    have : o.length ≤ 0 := len_of_cnt o [] h1
    rw [fillB, List.length_eq_zero_iff.mp (Nat.le_zero.mp this)]
    rfl
  | g :: gs, o, s, y :: ys, hn, h1, h2 => by
    have hl := len_of_cnt o _ h1
    have hy := ne2_len _ _ hn.2
    rw [List.length_cons] at hl
    rw [fillB, if_neg (by omega), Bool.or_eq_true]
    by_cases ho : y ∈ o
    · refine .inl (List.any_eq_true.mpr ⟨y, ho, ?_⟩)
      have co := mem_cnt.mp ho
      rw [fill_of gs (o.erase y) s ys hn.2 (fun a => ?_) fun a ha => ?_]
      · simp [hn.1]
      · have := h1 a
        rw [cnt_cons] at this
        rw [cnt_erase]
        omega
      · have := h2 a ha
        rw [cnt_cons] at this
        rw [cnt_erase]
        omega
    · have co : o.count y = 0 := by
        have : ¬ 0 < o.count y := fun z => ho (mem_cnt.mpr z)
        omega
      have hs : y ∈ s := by
        refine Decidable.byContradiction fun q => ?_
        have := h2 y q
        rw [cnt_cons, if_pos rfl] at this
        omega
      refine .inr ?_
      rw [Bool.and_eq_true]
      refine ⟨List.any_eq_true.mpr ⟨y, hs, by simp [hn.1]⟩, fill_of gs o s ys hn.2 (fun a => ?_) fun a ha => ?_⟩
      · have := h1 a
        rw [cnt_cons] at this
        by_cases q : y = a
        · subst q; omega
        · simp only [q, if_false] at this; omega
      · have := h2 a ha
        rw [cnt_cons] at this
        have q : ¬ y = a := fun e => ha (e ▸ hs)
        simp only [q, if_false] at this
        omega
theorem of_fill : ∀ (gs o s : List Nat), fillB gs o s = true → ∃ ys, Ne2 ys gs ∧ (∀ a, o.count a ≤ ys.count a) ∧ (∀ a, ¬ a ∈ s → ys.count a = o.count a)
  | [], o, s, h => by
    have : o = [] := by simpa [fillB] using h
    subst this
    exact ⟨[], trivial, fun a => Nat.le_refl _, fun a _ => rfl⟩
  | g :: gs, o, s, h => by
    rw [fillB] at h
    by_cases hl : gs.length + 1 < o.length
    · rw [if_pos hl] at h; cases h
    rw [if_neg hl, Bool.or_eq_true] at h
    rcases h with h | h
    · obtain ⟨c, hc, h⟩ := List.any_eq_true.mp h
      rw [Bool.and_eq_true] at h
      have hcg : c ≠ g := by simpa using h.1
      obtain ⟨ys, y1, y2, y3⟩ := of_fill gs (o.erase c) s h.2
      have co := mem_cnt.mp hc
      refine ⟨c :: ys, ⟨hcg, y1⟩, fun a => ?_, fun a ha => ?_⟩
      · have := y2 a
        rw [cnt_erase] at this
        rw [cnt_cons]
        by_cases q : c = a
        · subst q; simp only [if_true] at this ⊢; omega
        · simp only [q, if_false] at this ⊢; omega
      · have := y3 a ha
        rw [cnt_erase] at this
        rw [cnt_cons]
        by_cases q : c = a
        · subst q; simp only [if_true] at this ⊢; omega
        · simp only [q, if_false] at this ⊢; omega
    · rw [Bool.and_eq_true] at h
      obtain ⟨c, hc, hcg⟩ := List.any_eq_true.mp h.1
      have hcg : c ≠ g := by simpa using hcg
      obtain ⟨ys, y1, y2, y3⟩ := of_fill gs o s h.2
      refine ⟨c :: ys, ⟨hcg, y1⟩, fun a => ?_, fun a ha => ?_⟩
      · have := y2 a
        rw [cnt_cons]
        omega
      · have := y3 a ha
        rw [cnt_cons]
        have q : ¬ c = a := fun e => ha (e ▸ hc)
        simp only [q, if_false]
        omega
/-! ### words from fillings -/
def weave : List Nat → List Nat → List Nat → List Nat
  | [], _, _ => []
  | _ :: _, [], _ => []
  | a :: g, m :: t, ys => if m = 50 then a :: weave g t ys else ys.headD 0 :: weave g t ys.tail
def Marks (t : List Nat) : Prop := ∀ m ∈ t, m = 48 ∨ m = 49 ∨ m = 50
theorem weave_ok : ∀ (g t ys : List Nat), g.length = t.length → Marks t → Ne2 ys (lm g t [48, 49]) → Hits g (weave g t ys) t ∧ un g (weave g t ys) = ys ∧ (∀ c ∈ weave g t ys, c ∈ g ∨ c ∈ ys) ∧ (weave g t ys).length = g.length
  | [], [], ys, _, _, h => by
    cases ys with
    | nil => exact ⟨trivial, rfl, fun c hc => (by cases hc), rfl⟩
    | cons y ys => exact h.elim
  | a :: g, m :: t, ys, hl, hm, h => by
    have hl' : g.length = t.length := by simpa using hl
    have hm' : Marks t := fun x hx => hm x (List.mem_cons_of_mem _ hx)
    rw [lm_cons] at h
    by_cases e : m = 50
    · subst e
      rw [if_neg (by decide)] at h
      obtain ⟨i1, i2, i3, i4⟩ := weave_ok g t ys hl' hm' h
      rw [weave, if_pos rfl]
      refine ⟨⟨by simp, by simp, i1⟩, by rw [un_cons, if_pos rfl]; exact i2, fun c hc => ?_, by rw [List.length_cons, i4]; rfl⟩
      rcases List.mem_cons.mp hc with q | q
      · exact .inl (by rw [q]; exact List.mem_cons_self)
      · exact (i3 c q).elim (fun z => .inl (List.mem_cons_of_mem _ z)) .inr
    · have h4 : m ∈ [48, 49] := by
        rcases hm m List.mem_cons_self with q | q | q
        · simp [q]
        · simp [q]
        · exact absurd q e
      rw [if_pos h4] at h
      cases ys with
      | nil => exact h.elim
      | cons y ys =>
        obtain ⟨i1, i2, i3, i4⟩ := weave_ok g t ys hl' hm' h.2
        rw [weave, if_neg e, List.headD_cons, List.tail_cons]
        have ne : ¬ a = y := fun q => h.1 q.symm
        refine ⟨⟨⟨fun q => absurd q e, fun q => absurd q ne⟩, hm m List.mem_cons_self, i1⟩, by rw [un_cons, if_neg ne, i2], fun c hc => ?_, by show (weave g t ys).length + 1 = g.length + 1; rw [i4]⟩
        rcases List.mem_cons.mp hc with q | q
        · exact .inr (by rw [q]; exact List.mem_cons_self)
        · exact (i3 c q).elim (fun z => .inl (List.mem_cons_of_mem _ z)) fun z => .inr (List.mem_cons_of_mem _ z)
theorem hits_ne2 : ∀ (g w t : List Nat), Hits g w t → Ne2 (un g w) (lm g t [48, 49])
  | [], [], [], _ => trivial
  | a :: g, b :: w, m :: t, ⟨h1, h2, h3⟩ => by
    rw [un_cons, lm_cons]
    by_cases e : a = b
    · have := h1.mpr e
      subst this
      rw [if_pos e, if_neg (by decide)]
      exact hits_ne2 g w t h3
    · have n : ¬ m = 50 := fun q => e (h1.mp q)
      have h4 : m ∈ [48, 49] := by
        rcases h2 with q | q | q
        · simp [q]
        · simp [q]
        · exact absurd q n
      rw [if_neg e, if_pos h4]
      exact ⟨fun q => e q.symm, hits_ne2 g w t h3⟩
theorem un_sub : ∀ (g w : List Nat) (c : Nat), c ∈ un g w → c ∈ w := fun g w c h => by
  unfold un at h
  obtain ⟨p, hp, rfl⟩ := List.mem_map.mp h
  exact (List.of_mem_zip (List.mem_filter.mp hp).1).2
theorem lm_sub : ∀ (g t wd : List Nat) (c : Nat), c ∈ lm g t wd → c ∈ g := fun g t wd c h => by
  unfold lm at h
  obtain ⟨p, hp, rfl⟩ := List.mem_map.mp h
  exact (List.of_mem_zip (List.mem_filter.mp hp).1).1
theorem mem_spare {l used : List Nat} {c : Nat} : c ∈ spare l used ↔ c ∈ l ∧ ¬ c ∈ used := by
  unfold spare
  rw [List.mem_filter]
  simp
/-- can_come tells it: some word of the letters l gets the guess g the marks t -/
theorem come_iff {l g t : List Nat} (hl : g.length = t.length) (hm : Marks t) (hg : ∀ c ∈ g, c ∈ l) : comeB l g t = true ↔ ∃ w, w.length = g.length ∧ (∀ c ∈ w, c ∈ l) ∧ mk g w = t := by
  constructor
  · intro h
    unfold comeB at h
    rw [Bool.and_eq_true] at h
    obtain ⟨ys, y1, y2, y3⟩ := of_fill _ _ _ h.2
    obtain ⟨w1, w2, w3, w4⟩ := weave_ok g t ys hl hm y1
    refine ⟨weave g t ys, w4, fun c hc => ?_, ?_⟩
    · rcases w3 c hc with q | q
      · exact hg c q
      · by_cases hs : c ∈ spare l (lm g t [48])
        · exact (mem_spare.mp hs).1
        · have := y3 c hs
          have cy := mem_cnt.mp q
          exact hg c (lm_sub g t [49] c (mem_cnt.mpr (by omega)))
    · unfold mk
      rw [w2]
      exact go_of g _ t ys [] w1 h.1 y2 fun a ha => y3 a fun q => (mem_spare.mp q).2 ha
  · rintro ⟨w, hw, hwl, rfl⟩
    obtain ⟨i1, i2, i3, i4⟩ := of_go g w (un g w) [] hw.symm fun a ha => by cases ha
    unfold comeB
    rw [Bool.and_eq_true]
    refine ⟨i2, fill_of _ _ _ (un g w) (hits_ne2 g w _ i1) i3 fun a ha => ?_⟩
    by_cases hz : a ∈ lm g (go (g.zip w) (un g w)) [48]
    · exact i4 a hz
    · have hal : ¬ a ∈ l := fun q => ha (mem_spare.mpr ⟨q, hz⟩)
      have c0 : (un g w).count a = 0 := by
        have : ¬ 0 < (un g w).count a := fun z => hal (hwl a (un_sub g w a (mem_cnt.mpr z)))
        omega
      have := i3 a
      show (un g w).count a = (lm g (go (g.zip w) (un g w)) [49]).count a
      omega
theorem hits_marks : ∀ (g w t : List Nat), Hits g w t → Marks t
  | [], [], [], _ => fun m hm => (by cases hm)
  | a :: g, b :: w, m :: t, ⟨_, h2, h3⟩ => fun x hx => by
    rcases List.mem_cons.mp hx with q | q
    · rw [q]; exact h2
    · exact hits_marks g w t h3 x q
theorem mk_marks {g w : List Nat} (h : g.length = w.length) : Marks (mk g w) := hits_marks g w _ (of_go g w (un g w) [] h fun a ha => by cases ha).1
theorem mk_len {g w : List Nat} (h : g.length = w.length) : (mk g w).length = g.length := by
  unfold mk
  rw [go_length, List.length_zip]
  omega
theorem hits_all : ∀ (g w t : List Nat), Hits g w t → (t = List.replicate t.length 50 ↔ g = w)
  | [], [], [], _ => by simp
  | a :: g, b :: w, m :: t, ⟨h1, _, h3⟩ => by
    have ih := hits_all g w t h3
    rw [List.length_cons, List.replicate_succ, List.cons.injEq, List.cons.injEq, ih, h1]
/-- marks 2 alone: the word itself -/
theorem mk_all {g w : List Nat} (h : g.length = w.length) : mk g w = List.replicate g.length 50 ↔ g = w := by
  have := hits_all g w _ (of_go g w (un g w) [] h fun a ha => by cases ha).1
  have hl : (mk g w).length = g.length := mk_len h
  unfold mk at hl ⊢
  rw [hl] at this
  exact this
end Gm

/-! the marks as the law works them out, place by place -/
namespace Gm
abbrev PL := List (Nat × Nat)
def us (a : Nat) (z : PL) : Nat := (z.filter fun p => decide (p.1 = a) && !decide (p.2 = 48)).length
def hs (a : Nat) (z : PL) : Nat := (z.filter fun p => decide (p.1 = a) && decide (p.1 = p.2)).length
def hitL (g w : List Nat) : List Nat := (g.zip w).map fun p => if p.1 = p.2 then 50 else 48
theorem us_cons (a x y : Nat) (z : PL) : us a ((x, y) :: z) = us a z + if x = a ∧ ¬ y = 48 then 1 else 0 := by
  unfold us
  rw [List.filter_cons]
  by_cases h1 : x = a <;> by_cases h2 : y = 48 <;> simp [h1, h2]
theorem hs_cons (a x y : Nat) (z : PL) : hs a ((x, y) :: z) = hs a z + if x = a ∧ x = y then 1 else 0 := by
  unfold hs
  rw [List.filter_cons]
  by_cases h1 : x = a <;> by_cases h2 : x = y <;> simp_all
theorem us_app (a : Nat) (z z' : PL) : us a (z ++ z') = us a z + us a z' := by
  unfold us
  rw [List.filter_append, List.length_append]
theorem hitL_cons (a b : Nat) (g w : List Nat) : hitL (a :: g) (b :: w) = (if a = b then 50 else 48) :: hitL g w := rfl
theorem us_hit : ∀ (a : Nat) (g w : List Nat), us a (g.zip (hitL g w)) = hs a (g.zip w)
  | a, [], w => by simp [us, hs]
  | a, b :: g, [] => by simp [us, hs, hitL]
  | a, b :: g, c :: w => by
    rw [hitL_cons, List.zip_cons_cons, List.zip_cons_cons, us_cons, hs_cons, us_hit a g w]
    by_cases h1 : b = a <;> by_cases h2 : b = c <;> simp_all
/-- what is used at step k -/
theorem us_mix : ∀ (a : Nat) (g w m : List Nat) (k : Nat), g.length = w.length → g.length = m.length → us a (g.zip (m.take k ++ (hitL g w).drop k)) = us a ((g.zip m).take k) + hs a ((g.zip w).drop k)
  | a, g, w, m, 0, _, _ => by
    rw [List.take_zero, List.nil_append, List.drop_zero, us_hit, List.take_zero, List.drop_zero]
    show _ = 0 + _
    omega
  | a, [], w, m, k + 1, _, _ => by simp [us, hs]
  | a, b :: g, [], m, k + 1, h, _ => by simp at h
  | a, b :: g, c :: w, [], k + 1, _, h => by simp at h
  | a, b :: g, c :: w, x :: m, k + 1, h1, h2 => by
    have ih := us_mix a g w m k (by simpa using h1) (by simpa using h2)
    rw [hitL_cons, List.take_succ_cons, List.drop_succ_cons, List.cons_append, List.zip_cons_cons, us_cons, ih, List.zip_cons_cons, List.zip_cons_cons, List.take_succ_cons, List.drop_succ_cons, us_cons]
    omega
theorem count_split : ∀ (a : Nat) (g w : List Nat), g.length = w.length → w.count a = hs a (g.zip w) + (un g w).count a
  | a, [], [], _ => rfl
  | a, b :: g, c :: w, h => by
    have ih := count_split a g w (by simpa using h)
    rw [List.zip_cons_cons, hs_cons, un_cons, cnt_cons, ih]
    by_cases e : b = c
    · subst e
      rw [if_pos rfl]
      by_cases q : b = a
      · rw [if_pos q, if_pos ⟨q, rfl⟩]
        omega
      · rw [if_neg q, if_neg (fun z => q z.1)]
        omega
    · rw [if_neg e, cnt_cons, if_neg (show ¬ (b = a ∧ b = c) from fun z => e z.2)]
      omega
/-- what stands between two steps: W a the copies of a in the hidden word -/
def Mid (g w : List Nat) (k : Nat) (u : List Nat) : Prop := (∀ a, w.count a = us a ((g.zip (mk g w)).take k) + hs a ((g.zip w).drop k) + u.count a) ∧ go ((g.zip w).drop k) u = (mk g w).drop k
theorem mid_start {g w : List Nat} (h : g.length = w.length) : Mid g w 0 (un g w) := by
  refine ⟨fun a => ?_, rfl⟩
  have := count_split a g w h
  rw [List.take_zero, List.drop_zero]
  show _ = 0 + _ + _
  omega
/-- step k: a the guess's letter there, b the hidden one's -/
theorem mid_step {g w u : List Nat} {k a b : Nat} (hl : g.length = w.length) (ha : g[k]? = some a) (hb : w[k]? = some b) (M : Mid g w k u) :
    (a = b → (mk g w)[k]? = some 50 ∧ Mid g w (k + 1) u) ∧
    (¬ a = b → us a ((g.zip (mk g w)).take k) + hs a ((g.zip w).drop k) < w.count a → (mk g w)[k]? = some 49 ∧ Mid g w (k + 1) (u.erase a)) ∧
    (¬ a = b → ¬ us a ((g.zip (mk g w)).take k) + hs a ((g.zip w).drop k) < w.count a → (mk g w)[k]? = some 48 ∧ Mid g w (k + 1) u) := by
  obtain ⟨h1, h2⟩ := M
  have hz := zip_at ha hb
  have hk : k < g.length := (List.getElem?_eq_some_iff.mp ha).1
  have hml : (mk g w).length = g.length := mk_len hl
  have hmk : (mk g w)[k]? = some (mk g w)[k] := List.getElem?_eq_getElem (by omega)
  have hzm := zip_at ha hmk
  rw [drop_at hz, drop_at hmk] at h2
  have tk : (g.zip (mk g w)).take (k + 1) = (g.zip (mk g w)).take k ++ [(a, (mk g w)[k])] := by
    have hlt := (List.getElem?_eq_some_iff.mp hzm).1
    rw [List.take_succ_eq_append_getElem hlt, (List.getElem?_eq_some_iff.mp hzm).2]
  have cnt : ∀ x, us x ((g.zip (mk g w)).take (k + 1)) = us x ((g.zip (mk g w)).take k) + if a = x ∧ ¬ (mk g w)[k] = 48 then 1 else 0 := fun x => by
    rw [tk, us_app, us_cons]
    show _ + (0 + _) = _
    rw [Nat.zero_add]
  have hsd : ∀ x, hs x ((g.zip w).drop k) = hs x ((g.zip w).drop (k + 1)) + if a = x ∧ a = b then 1 else 0 := fun x => by
    rw [drop_at hz, hs_cons]
  have ca := h1 a
  refine ⟨fun e => ?_, fun e q => ?_, fun e q => ?_⟩
  · rw [go, if_pos e] at h2
    obtain ⟨e1, e2⟩ := List.cons.inj h2
    refine ⟨by rw [hmk, ← e1], fun x => ?_, e2⟩
    have := h1 x
    rw [cnt x, ← e1]
    rw [hsd x] at this
    by_cases z : a = x
    · rw [if_pos ⟨z, e⟩] at this
      rw [if_pos ⟨z, by decide⟩]
      omega
    · rw [if_neg (fun q => z q.1)] at this
      rw [if_neg (fun q => z q.1)]
      omega
  · have hu : a ∈ u := mem_cnt.mpr (by omega)
    rw [go, if_neg e, if_pos hu] at h2
    obtain ⟨e1, e2⟩ := List.cons.inj h2
    refine ⟨by rw [hmk, ← e1], fun x => ?_, e2⟩
    have := h1 x
    rw [cnt x, ← e1, cnt_erase]
    rw [hsd x, if_neg (fun q => e q.2)] at this
    have cu := mem_cnt.mp hu
    by_cases z : a = x
    · subst z
      rw [if_pos ⟨rfl, by decide⟩, if_pos rfl]
      omega
    · rw [if_neg (fun q => z q.1), if_neg z]
      omega
  · have hu : ¬ a ∈ u := fun z => by have := mem_cnt.mp z; omega
    rw [go, if_neg e, if_neg hu] at h2
    obtain ⟨e1, e2⟩ := List.cons.inj h2
    refine ⟨by rw [hmk, ← e1], fun x => ?_, e2⟩
    have := h1 x
    rw [cnt x, ← e1, if_neg (fun q => q.2 rfl)]
    rw [hsd x, if_neg (fun q => e q.2)] at this
    omega
end Gm

namespace Gm
/-! ### a row's marks, letter by letter -/
def nb : List Nat → Bool
  | [] => true
  | m :: r => (if m = 48 then !decide (49 ∈ r) else true) && nb r
theorem mem_rid {c x : Nat} {l : List Nat} : x ∈ rid c l ↔ x ∈ l ∧ x ≠ c := by
  unfold rid
  rw [List.mem_filter]
  simp
theorem rid_cons (c a : Nat) (l : List Nat) : rid c (a :: l) = if a = c then rid c l else a :: rid c l := by
  unfold rid
  rw [List.filter_cons]
  by_cases h : a = c <;> simp [h]
theorem nb_rid : ∀ l : List Nat, nb l = nb (rid 50 l)
  | [] => rfl
  | m :: r => by
    have ih := nb_rid r
    rw [rid_cons]
    by_cases h : m = 50
    · rw [if_pos h, nb, if_neg (by omega), ← ih]
      rfl
    · rw [if_neg h, nb, nb, ih]
      have e : decide (49 ∈ r) = decide (49 ∈ rid 50 r) := decide_eq_decide.mpr ⟨fun z => mem_rid.mpr ⟨z, by omega⟩, fun z => (mem_rid.mp z).1⟩
      rw [e]
theorem nb_zo : ∀ l : List Nat, (∀ m ∈ l, m = 48 ∨ m = 49) → nb l = !zo l
  | [], _ => rfl
  | [a], _ => by simp [nb, zo]
  | a :: b :: r, h => by
    have ih := nb_zo (b :: r) fun m hm => h m (List.mem_cons_of_mem _ hm)
    rw [nb, zo, ih]
    rcases h a (List.mem_cons_self ..) with rfl | rfl
    · rcases h b (by simp) with rfl | rfl
      · rw [if_pos rfl]
        rw [nb, if_pos rfl] at ih
        cases z : decide (49 ∈ r) with
        | true =>
          rw [z] at ih
          have : zo (48 :: r) = true := by
            cases y : zo (48 :: r) with
            | true => rfl
            | false => rw [y] at ih; simp at ih
          simp [this]
        | false =>
          have : ¬ 49 ∈ r := of_decide_eq_false z
          simp [this]
      · simp
    · simp
theorem nb_all {l : List Nat} (h : ∀ m ∈ l, m = 48 ∨ m = 49 ∨ m = 50) : nb l = !zo (rid 50 l) := by
  rw [nb_rid]
  refine nb_zo _ fun m hm => ?_
  have h1 := mem_rid.mp hm
  rcases h m h1.1 with h | h | h
  · exact .inl h
  · exact .inr h
  · exact absurd h h1.2
def ml (z : List (Nat × Nat)) (a : Nat) : List Nat := (z.filter fun p => decide (p.1 = a)).map (·.2)
theorem ml_cons (x m a : Nat) (z : List (Nat × Nat)) : ml ((x, m) :: z) a = if x = a then m :: ml z a else ml z a := by
  unfold ml
  rw [List.filter_cons]
  by_cases h : x = a <;> simp [h]
theorem ord_iff : ∀ (z : List (Nat × Nat)) (u : List Nat), ordB z u = true ↔ ∀ a, (a ∈ u → ¬ 49 ∈ ml z a) ∧ nb (ml z a) = true
  | [], u => by
    simp [ordB, ml, nb]
  | (x, m) :: r, u => by
    have ih := ord_iff r (if m = 48 then u ++ [x] else u)
    have up : ∀ a, a ∈ u → a ∈ (if m = 48 then u ++ [x] else u) := fun a h => by
      split
      · exact List.mem_append_left _ h
      · exact h
    rw [ordB]
    by_cases c : m = 49 ∧ x ∈ u
    · rw [if_pos c]
      refine ⟨fun h => absurd h Bool.false_ne_true, fun h => ?_⟩
      have := (h x).1 c.2
      rw [ml_cons, if_pos rfl, c.1] at this
      exact absurd (List.mem_cons_self ..) this
    · rw [if_neg c, ih]
      constructor
      · intro h a
        obtain ⟨h1, h2⟩ := h a
        rw [ml_cons]
        by_cases e : x = a
        · subst e
          rw [if_pos rfl]
          refine ⟨fun hu z => ?_, ?_⟩
          · rcases List.mem_cons.mp z with z | z
            · exact c ⟨z.symm, hu⟩
            · exact h1 (up x hu) z
          · rw [nb, h2, Bool.and_true]
            by_cases m8 : m = 48
            · rw [if_pos m8]
              rw [if_pos m8] at h1
              simpa using h1 (by simp)
            · rw [if_neg m8]
        · rw [if_neg e]
          exact ⟨fun hu => h1 (up a hu), h2⟩
      · intro h a
        obtain ⟨h1, h2⟩ := h a
        rw [ml_cons] at h1 h2
        by_cases e : x = a
        · subst e
          rw [if_pos rfl] at h1 h2
          rw [nb, Bool.and_eq_true] at h2
          refine ⟨fun hu z => ?_, h2.2⟩
          by_cases m8 : m = 48
          · rw [if_pos m8] at h2
            have := h2.1
            simp at this
            exact this z
          · rw [if_neg m8] at hu
            exact h1 hu (List.mem_cons_of_mem _ z)
        · rw [if_neg e] at h1 h2
          refine ⟨fun hu => ?_, h2⟩
          by_cases m8 : m = 48
          · rw [if_pos m8] at hu
            rcases List.mem_append.mp hu with hu | hu
            · exact h1 hu
            · exact absurd (List.mem_singleton.mp hu).symm e
          · rw [if_neg m8] at hu
            exact h1 hu
theorem ml_nil {z : List (Nat × Nat)} {a : Nat} (h : ∀ p ∈ z, p.1 ≠ a) : ml z a = [] := by
  unfold ml
  rw [List.filter_eq_nil_iff.mpr fun p hp => by simpa using h p hp]
  rfl
theorem ml_sub {z : List (Nat × Nat)} {a m : Nat} (h : m ∈ ml z a) : (a, m) ∈ z := by
  unfold ml at h
  obtain ⟨p, hp, rfl⟩ := List.mem_map.mp h
  obtain ⟨h1, h2⟩ := List.mem_filter.mp hp
  have := of_decide_eq_true h2
  rw [← this]
  exact h1
theorem ordOk_eq {g t : List Nat} (hm : Marks t) : ordOk g t = ordB (g.zip t) [] := by
  rw [Bool.eq_iff_iff, ord_iff]
  have all : ∀ a, ∀ m ∈ ml (g.zip t) a, m = 48 ∨ m = 49 ∨ m = 50 := fun a m h => hm m (List.of_mem_zip (ml_sub h)).2
  unfold ordOk
  rw [List.all_eq_true]
  constructor
  · intro h a
    refine ⟨fun z => (by cases z), ?_⟩
    by_cases ha : a ∈ g
    · rw [nb_all (all a)]
      exact h a ha
    · have e0 : ml (g.zip t) a = [] := ml_nil fun p hp e => ha (by rw [← e]; exact (List.of_mem_zip (a := p.1) (b := p.2) hp).1)
      rw [e0]
      rfl
  · intro h a ha
    have := (h a).2
    rw [nb_all (all a)] at this
    exact this
/-! ### numbers of letters -/
def fd (g t : List Nat) (a : Nat) : Nat := ((mgv g t a).filter fun m => !decide (m = 48)).length
theorem fd_eq (g t : List Nat) (a : Nat) : (((mgv g t a).length : Int) - ((mgv g t a).count 48 : Int)) = (fd g t a : Int) := by
  unfold fd
  induction mgv g t a with
  | nil => rfl
  | cons m r ih =>
    rw [List.length_cons, List.count_cons, List.filter_cons]
    by_cases h : m = 48
    · subst h
      simp
      omega
    · simp [h]
      omega
theorem mgv_cons (x m a : Nat) (g t : List Nat) : mgv (x :: g) (m :: t) a = if x = a then m :: mgv g t a else mgv g t a := ml_cons x m a (g.zip t)
theorem hits_found : ∀ (g w t : List Nat) (a : Nat), Hits g w t → hs a (g.zip w) + (lm g t [49]).count a = fd g t a
  | [], [], [], a, _ => rfl
  | x :: g, y :: w, m :: t, a, h => by
    obtain ⟨h1, h2, h3⟩ := h
    have ih := hits_found g w t a h3
    rw [List.zip_cons_cons, hs_cons, lm_cons]
    have ef : fd (x :: g) (m :: t) a = fd g t a + if x = a ∧ ¬ m = 48 then 1 else 0 := by
      unfold fd
      rw [mgv_cons]
      by_cases e : x = a
      · rw [if_pos e, List.filter_cons]
        by_cases e2 : m = 48 <;> simp [e, e2]
      · rw [if_neg e]; simp [e]
    rw [ef, ← ih]
    have n9 : ¬ ((48 : Nat) ∈ [49]) := by decide
    have n5 : ¬ ((50 : Nat) ∈ [49]) := by decide
    have y9 : ((49 : Nat) ∈ [49]) := by decide
    rcases h2 with rfl | rfl | rfl
    · have ne : ¬ x = y := fun z => absurd (h1.mpr z) (by decide)
      rw [if_neg n9, if_neg (fun z => ne z.2), if_neg (fun z => z.2 rfl)]
      omega
    · have ne : ¬ x = y := fun z => absurd (h1.mpr z) (by decide)
      rw [if_pos y9, cnt_cons, if_neg (fun z => ne z.2)]
      by_cases e : x = a
      · rw [if_pos e, if_pos ⟨e, by decide⟩]
        omega
      · rw [if_neg e, if_neg (fun z => e z.1)]
        omega
    · have eq : x = y := h1.mp rfl
      rw [if_neg n5]
      by_cases e : x = a
      · rw [if_pos ⟨e, eq⟩, if_pos ⟨e, by decide⟩]
        omega
      · rw [if_neg (fun z => e z.1), if_neg (fun z => e z.1)]
        omega
theorem zero_iff : ∀ (g t : List Nat) (a : Nat), a ∈ lm g t [48] ↔ 48 ∈ mgv g t a := fun g t a => by
  unfold lm mgv
  constructor
  · intro h
    obtain ⟨p, hp, rfl⟩ := List.mem_map.mp h
    obtain ⟨h1, h2⟩ := List.mem_filter.mp hp
    have h2 : p.2 = 48 := by simpa using h2
    exact List.mem_map.mpr ⟨p, List.mem_filter.mpr ⟨h1, by simp⟩, h2⟩
  · intro h
    obtain ⟨p, hp, h2⟩ := List.mem_map.mp h
    obtain ⟨h1, h3⟩ := List.mem_filter.mp hp
    exact List.mem_map.mpr ⟨p, List.mem_filter.mpr ⟨h1, by simp [h2]⟩, of_decide_eq_true h3⟩
theorem fits_iff {g w t : List Nat} (hw : g.length = w.length) : mk g w = t ↔ Hits g w t ∧ ordOk g t = true ∧ ∀ a ∈ g, fd g t a ≤ w.count a ∧ (48 ∈ mgv g t a → w.count a ≤ fd g t a) := by
  constructor
  · rintro rfl
    obtain ⟨h1, h2, h3, h4⟩ := of_go g w (un g w) [] hw fun a ha => by cases ha
    refine ⟨h1, by rw [ordOk_eq (mk_marks hw)]; exact h2, fun a _ => ?_⟩
    have e1 := hits_found g w (mk g w) a h1
    have e2 := count_split a g w hw
    have e3 : (lm g (mk g w) [49]).count a ≤ (un g w).count a := h3 a
    refine ⟨by omega, fun hz => ?_⟩
    have e4 : (un g w).count a = (lm g (mk g w) [49]).count a := h4 a ((zero_iff _ _ _).mpr hz)
    omega
  · rintro ⟨h1, h2, h3⟩
    rw [ordOk_eq (hits_marks g w t h1)] at h2
    refine go_of g w t (un g w) [] h1 h2 (fun a => ?_) fun a ha => ?_
    · have e1 := hits_found g w t a h1
      have e2 := count_split a g w hw
      by_cases hg : a ∈ g
      · have := (h3 a hg).1
        omega
      · have : (lm g t [49]).count a = 0 := List.count_eq_zero.mpr fun z => hg (lm_sub g t [49] a z)
        omega
    · have e1 := hits_found g w t a h1
      have e2 := count_split a g w hw
      have hg := lm_sub g t [48] a ha
      have h5 := h3 a hg
      have h6 := h5.2 ((zero_iff _ _ _).mp ha)
      omega
end Gm

namespace Gm
/-! ### ways to go on, counted by listing -/
def sufs : List (List Nat) → List (List Nat)
  | [] => [[]]
  | a :: al => a.flatMap fun c => (sufs al).map fun s => c :: s
def okc (ct : List Nat) (le gr us : List Int) (s : List Nat) : Bool := decide (∀ j, j < ct.length → le.getD j 0 ≤ us.getD j 0 + (s.count (ct.getD j 0) : Int) ∧ us.getD j 0 + (s.count (ct.getD j 0) : Int) ≤ gr.getD j 0)
theorem okc_iff {ct : List Nat} {le gr us : List Int} {s : List Nat} : okc ct le gr us s = true ↔ ∀ j, j < ct.length → le.getD j 0 ≤ us.getD j 0 + (s.count (ct.getD j 0) : Int) ∧ us.getD j 0 + (s.count (ct.getD j 0) : Int) ≤ gr.getD j 0 := decide_eq_true_iff
theorem sufs_len : ∀ {al : List (List Nat)} {s : List Nat}, s ∈ sufs al → s.length = al.length
  | [], s, h => by
    have h : s ∈ [[]] := h
    rw [List.mem_singleton.mp h]; rfl
  | a :: al, s, h => by
    obtain ⟨c, _, h⟩ := List.mem_flatMap.mp h
    obtain ⟨r, hr, rfl⟩ := List.mem_map.mp h
    rw [List.length_cons, List.length_cons, sufs_len hr]
theorem mem_sufs : ∀ {al : List (List Nat)} {s : List Nat}, s ∈ sufs al ↔ s.length = al.length ∧ ∀ i c, s[i]? = some c → c ∈ al.getD i []
  | [], s => by
    constructor
    · intro h
      have h : s ∈ [[]] := h
      rw [List.mem_singleton.mp h]
      exact ⟨rfl, fun i c h => by simp at h⟩
    · rintro ⟨h, _⟩
      show s ∈ [[]]
      rw [List.length_eq_zero_iff.mp h]
      exact List.mem_singleton.mpr rfl
  | a :: al, s => by
    constructor
    · intro h
      obtain ⟨c, hc, h⟩ := List.mem_flatMap.mp h
      obtain ⟨r, hr, rfl⟩ := List.mem_map.mp h
      obtain ⟨h1, h2⟩ := mem_sufs.mp hr
      refine ⟨by rw [List.length_cons, List.length_cons, h1], fun i x hx => ?_⟩
      cases i with
      | zero =>
        have : c = x := by simpa using hx
        subst this
        simpa using hc
      | succ i =>
        have := h2 i x (by simpa using hx)
        simpa using this
    · rintro ⟨h1, h2⟩
      cases s with
      | nil => simp at h1
      | cons c r =>
        refine List.mem_flatMap.mpr ⟨c, by simpa using h2 0 c rfl, List.mem_map.mpr ⟨r, mem_sufs.mpr ⟨by simpa using h1, fun i x hx => ?_⟩, rfl⟩⟩
        have := h2 (i + 1) x (by simpa using hx)
        simpa using this
theorem flat_sum (p : List Nat → Bool) (S : List (List Nat)) : ∀ a : List Nat, (((a.flatMap fun c => S.map fun s => c :: s).filter p).length : Int) = (a.map fun c => ((S.filter fun s => p (c :: s)).length : Int)).sum
  | [] => rfl
  | c :: a => by
    rw [List.flatMap_cons, List.filter_append, List.length_append, List.map_cons, List.sum_cons, ← flat_sum p S a]
    have e : ((S.map fun s => c :: s).filter p).length = (S.filter fun s => p (c :: s)).length := by
      rw [List.filter_map, List.length_map]
      rfl
    rw [e]
    omega
theorem sum_split (ct : List Nat) (f : Nat → Int) (W : Int) : ∀ a : List Nat, (a.map fun c => if c ∈ ct then f c else W).sum = ((cc a ct).map f).sum + ((a.length : Int) - ((cc a ct).length : Int)) * W
  | [] => by simp [cc]
  | c :: a => by
    rw [List.map_cons, List.sum_cons, sum_split ct f W a]
    unfold cc
    rw [List.filter_cons]
    by_cases h : c ∈ ct
    · rw [if_pos h, if_pos (decide_eq_true h), List.map_cons, List.sum_cons, List.length_cons, List.length_cons]
      have : ((a.length + 1 : Nat) : Int) - (((a.filter fun c => decide (c ∈ ct)).length + 1 : Nat) : Int) = (a.length : Int) - ((a.filter fun c => decide (c ∈ ct)).length : Int) := by omega
      rw [this]
      omega
    · rw [if_neg h, if_neg (fun z => h (of_decide_eq_true z)), List.length_cons]
      have : ((a.length + 1 : Nat) : Int) - ((a.filter fun c => decide (c ∈ ct)).length : Int) = ((a.length : Int) - ((a.filter fun c => decide (c ∈ ct)).length : Int)) + 1 := by omega
      rw [this, Int.add_mul]
      omega
/-! ### what is owed -/
theorem owed_nil (us : List Int) : owedI [] us = 0 := by simp [owedI]
theorem owed_cons (x y : Int) (le us : List Int) : owedI (x :: le) (y :: us) = (if x - y > 0 then x - y else 0) + owedI le us := by
  simp [owedI]
theorem owed_nonneg : ∀ le us : List Int, 0 ≤ owedI le us
  | [], us => by rw [owed_nil]; omega
  | x :: le, [] => by simp [owedI]
  | x :: le, y :: us => by
    have ih := owed_nonneg le us
    rw [owed_cons]
    split <;> omega
theorem flen (ct : List Nat) (d : Nat) (s : List Nat) : ((d :: s).filter fun c => decide (c ∈ ct)).length = (s.filter fun c => decide (c ∈ ct)).length + (if d ∈ ct then 1 else 0) := by
  rw [List.filter_cons]
  by_cases h : d ∈ ct <;> simp [h]
theorem owed_le : ∀ (ct : List Nat) (le us : List Int) (s : List Nat), ct.Nodup → le.length = ct.length → us.length = ct.length → (∀ j, j < ct.length → le.getD j 0 ≤ us.getD j 0 + (s.count (ct.getD j 0) : Int)) → owedI le us ≤ ((s.filter fun c => decide (c ∈ ct)).length : Int)
  | [], [], us, s, _, _, _, _ => by rw [owed_nil]; omega
  | c :: ct, x :: le, y :: us, s, hn, h1, h2, h => by
    have hn' := List.nodup_cons.mp hn
    have ih := owed_le ct le us s hn'.2 (by simpa using h1) (by simpa using h2) fun j hj => by simpa using h (j + 1) (by simpa using hj)
    have h0 := h 0 (by simp)
    simp only [List.getD_cons_zero] at h0
    rw [owed_cons]
    have e : (s.filter fun d => decide (d ∈ c :: ct)).length = s.count c + (s.filter fun d => decide (d ∈ ct)).length := by
      clear ih h0 h
      induction s with
      | nil => rfl
      | cons d s ih =>
        rw [flen, flen, cnt_cons, ih]
        by_cases e1 : d = c
        · subst e1
          rw [if_pos (List.mem_cons_self ..), if_pos rfl, if_neg hn'.1]
          omega
        · rw [if_neg e1]
          by_cases e2 : d ∈ ct
          · rw [if_pos (List.mem_cons_of_mem _ e2), if_pos e2]
            omega
          · rw [if_neg (fun z => (List.mem_cons.mp z).elim e1 e2), if_neg e2]
            omega
    rw [e]
    split <;> omega
theorem owed_zero : ∀ (le us : List Int), le.length = us.length → owedI le us ≤ 0 → ∀ j, j < le.length → le.getD j 0 ≤ us.getD j 0
  | [], us, _, _, j, hj => by simp at hj
  | x :: le, y :: us, hl, h, j, hj => by
    have h1 := owed_nonneg le us
    rw [owed_cons] at h
    cases j with
    | zero =>
      simp only [List.getD_cons_zero]
      split at h <;> omega
    | succ j =>
      simp only [List.getD_cons_succ]
      refine owed_zero le us (by simpa using hl) ?_ j (by simpa using hj)
      split at h <;> omega
theorem bump_at {us : List Int} {j : Nat} (h : j < us.length) (i : Nat) : (bump us j).getD i 0 = us.getD i 0 + if i = j then 1 else 0 := by
  unfold bump
  simp only [List.getD_eq_getElem?_getD]
  rcases Nat.lt_trichotomy i j with c | c | c
  · rw [List.append_assoc, List.getElem?_append_left (by rw [List.length_take]; omega), List.getElem?_take, if_pos c, if_neg (by omega)]
    omega
  · subst c
    rw [List.append_assoc, List.getElem?_append_right (by rw [List.length_take]; omega), List.length_take, Nat.min_eq_left (by omega), Nat.sub_self, if_pos rfl]
    rfl
  · rw [List.getElem?_append_right (by rw [List.length_append, List.length_take]; simp; omega), List.length_append, List.length_take, Nat.min_eq_left (by omega), List.getElem?_drop, if_neg (by omega)]
    have : j + 1 + (i - (j + ([us[j]?.getD 0 + 1] : List Int).length)) = i := by
      show j + 1 + (i - (j + 1)) = i
      omega
    rw [this]
    omega
theorem at_idx {ct : List Nat} {c : Nat} (h : c ∈ ct) : ct.getD (ct.idxOf c) 0 = c := by
  have hi := List.idxOf_lt_length_of_mem h
  rw [List.getD_eq_getElem?_getD, List.getElem?_eq_getElem hi, List.getElem_idxOf hi]
  rfl
theorem idx_of {ct : List Nat} (hn : ct.Nodup) {j : Nat} (hj : j < ct.length) {c : Nat} : ct.getD j 0 = c ↔ c ∈ ct ∧ j = ct.idxOf c := by
  constructor
  · intro h
    have e : ct[j]? = some c := by
      rw [List.getElem?_eq_getElem hj]
      rw [List.getD_eq_getElem?_getD, List.getElem?_eq_getElem hj] at h
      exact congrArg some h
    have m := List.mem_of_getElem? e
    refine ⟨m, ?_⟩
    have hi := List.idxOf_lt_length_of_mem m
    have e2 : ct[ct.idxOf c]? = some c := by rw [List.getElem?_eq_getElem hi, List.getElem_idxOf hi]
    exact (List.getElem?_inj hj hn).mp (e.trans e2.symm)
  · rintro ⟨m, rfl⟩
    exact at_idx m
theorem okc_in {ct : List Nat} {le gr us : List Int} (hn : ct.Nodup) (hu : us.length = ct.length) {c : Nat} (h : c ∈ ct) (s : List Nat) : okc ct le gr us (c :: s) = okc ct le gr (bump us (ct.idxOf c)) s := by
  have hi : ct.idxOf c < us.length := by rw [hu]; exact List.idxOf_lt_length_of_mem h
  rw [Bool.eq_iff_iff, okc_iff, okc_iff]
  have key : ∀ j, j < ct.length → us.getD j 0 + ((c :: s).count (ct.getD j 0) : Int) = (bump us (ct.idxOf c)).getD j 0 + (s.count (ct.getD j 0) : Int) := fun j hj => by
    rw [bump_at hi, cnt_cons]
    by_cases e : j = ct.idxOf c
    · have := (idx_of hn hj).mpr ⟨h, e⟩
      rw [if_pos e, if_pos this.symm]
      omega
    · have : ¬ c = ct.getD j 0 := fun z => e ((idx_of hn hj).mp z.symm).2
      rw [if_neg e, if_neg this]
      omega
  constructor
  · intro x j hj
    rw [← key j hj]
    exact x j hj
  · intro x j hj
    rw [key j hj]
    exact x j hj
theorem okc_out {ct : List Nat} {le gr us : List Int} {c : Nat} (h : ¬ c ∈ ct) (s : List Nat) : okc ct le gr us (c :: s) = okc ct le gr us s := by
  rw [Bool.eq_iff_iff, okc_iff, okc_iff]
  have key : ∀ j, j < ct.length → (c :: s).count (ct.getD j 0) = s.count (ct.getD j 0) := fun j hj => by
    have : ¬ c = ct.getD j 0 := fun z => h (by rw [z, List.getD_eq_getElem?_getD, List.getElem?_eq_getElem hj]; exact List.getElem_mem hj)
    rw [cnt_cons, if_neg this]
    rfl
  constructor
  · intro x j hj
    rw [← key j hj]
    exact x j hj
  · intro x j hj
    rw [key j hj]
    exact x j hj
theorem way_count {ct : List Nat} {le gr : List Int} (hn : ct.Nodup) (hl : le.length = ct.length) : ∀ (al : List (List Nat)) (us : List Int), us.length = ct.length → (∀ j, j < ct.length → us.getD j 0 ≤ gr.getD j 0) → wayF ct le gr al us = (((sufs al).filter (okc ct le gr us)).length : Int)
  | [], us, hu, hg => by
    rw [wayF]
    show _ = (((([[]] : List (List Nat))).filter (okc ct le gr us)).length : Int)
    rw [List.filter_cons, List.filter_nil]
    by_cases c : owedI le us > 0
    · rw [if_pos c, if_neg]
      · rfl
      · intro z
        have z := okc_iff.mp z
        have := owed_le ct le us [] hn hl hu fun j hj => (z j hj).1
        simp at this
        omega
    · rw [if_neg c, if_pos]
      · rfl
      · refine okc_iff.mpr fun j hj => ?_
        have h1 := owed_zero le us (by rw [hl, hu]) (by omega) j (by omega)
        have h2 := hg j hj
        simp only [List.count_nil]
        omega
  | a :: al, us, hu, hg => by
    rw [wayF_cons]
    by_cases c : owedI le us > ((al.length + 1 : Nat) : Int)
    · rw [if_pos c]
      have e : (sufs (a :: al)).filter (okc ct le gr us) = [] := by
        refine List.filter_eq_nil_iff.mpr fun s hs z => ?_
        have z := okc_iff.mp z
        have h1 := owed_le ct le us s hn hl hu fun j hj => (z j hj).1
        have h2 := List.length_filter_le (fun d => decide (d ∈ ct)) s
        have h3 := sufs_len hs
        rw [List.length_cons] at h3
        omega
      rw [e]
      rfl
    · rw [if_neg c]
      show _ = (((a.flatMap fun c => (sufs al).map fun s => c :: s).filter (okc ct le gr us)).length : Int)
      rw [flat_sum]
      have e : (a.map fun c => (((sufs al).filter fun s => okc ct le gr us (c :: s)).length : Int)) = a.map fun c => if c ∈ ct then withF ct le gr al us c else wayF ct le gr al us := by
        refine List.map_congr_left fun c _ => ?_
        by_cases h : c ∈ ct
        · rw [if_pos h]
          have hi : ct.idxOf c < ct.length := List.idxOf_lt_length_of_mem h
          unfold withF bumpC
          rw [if_pos h]
          by_cases q : us.getD (ct.idxOf c) 0 = gr.getD (ct.idxOf c) 0
          · rw [if_pos ⟨h, q⟩]
            have e0 : ((sufs al).filter fun s => okc ct le gr us (c :: s)) = [] := by
              refine List.filter_eq_nil_iff.mpr fun s _ z => ?_
              have := (okc_iff.mp z _ hi).2
              rw [at_idx h, List.count_cons_self] at this
              omega
            rw [e0]
            rfl
          · rw [if_neg (fun z => q z.2), way_count hn hl al _ (by rw [bump_len (by omega)]; exact hu) fun j hj => ?_]
            · rw [List.filter_congr fun s _ => okc_in hn hu h s]
            · rw [bump_at (by omega)]
              have := hg j hj
              by_cases e : j = ct.idxOf c
              · rw [if_pos e]
                rw [e] at this ⊢
                omega
              · rw [if_neg e]
                omega
        · rw [if_neg h, way_count hn hl al us hu hg, List.filter_congr fun s _ => okc_out h s]
      rw [e, sum_split]
      congr 1
      have := cc_le a ct
      by_cases q : (a.length : Int) - ((cc a ct).length : Int) > 0
      · rw [if_pos q]
      · have : (a.length : Int) - ((cc a ct).length : Int) = 0 := by omega
        rw [if_neg q, this]
        omega
end Gm

namespace Gm
/-! ### what the bounds keep -/
def alOk (b : BS) (w : List Nat) : Prop := ∀ i c, w[i]? = some c → c ∈ b.al.getD i []
def cntOk (b : BS) (l : List Nat) (w : List Nat) : Prop := ∀ c ∈ l, b.le c ≤ (w.count c : Int) ∧ (w.count c : Int) ≤ b.gr c
theorem modify_getD {al : List (List Nat)} {k : Nat} (f : List Nat → List Nat) (hk : k < al.length) (i : Nat) : (al.modify k f).getD i [] = if i = k then f (al.getD k []) else al.getD i [] := by
  simp only [List.getD_eq_getElem?_getD, List.getElem?_modify]
  by_cases e : i = k
  · subst e
    rw [if_pos rfl, List.getElem?_eq_getElem hk]
    simp
  · rw [if_neg e]
    have : ¬ k = i := fun z => e z.symm
    simp [this]
def hitOk (g t : List Nat) (i c : Nat) : Prop := if t[i]? = some 50 then c = g.getD i 0 else c ≠ g.getD i 0
theorem place_mem (g t : List Nat) (b : BS) : ∀ k, k ≤ b.al.length → ∀ i c, c ∈ (placeB g t k b).al.getD i [] ↔ c ∈ b.al.getD i [] ∧ (i < k → hitOk g t i c)
  | 0, _, i, c => by
    show c ∈ b.al.getD i [] ↔ _
    exact ⟨fun h => ⟨h, fun z => absurd z (Nat.not_lt_zero _)⟩, fun h => h.1⟩
  | k + 1, hk, i, c => by
    have ih := place_mem g t b k (by omega)
    have hl : k < (placeB g t k b).al.length := by rw [placeB_al]; omega
    rw [placeB]
    by_cases e50 : t[k]? = some 50
    · rw [if_pos e50]
      show c ∈ ((placeB g t k b).al.modify k fun x => if g.getD k 0 ∈ x then [g.getD k 0] else []).getD i [] ↔ _
      rw [modify_getD _ hl]
      by_cases e : i = k
      · subst e
        rw [if_pos rfl]
        constructor
        · intro h
          split at h
          · rename_i m
            have hc := List.mem_singleton.mp h
            rw [hc]
            exact ⟨((ih i _).mp m).1, fun _ => by unfold hitOk; rw [if_pos e50]⟩
          · cases h
        · rintro ⟨h1, h2⟩
          have h3 := h2 (by omega)
          unfold hitOk at h3
          rw [if_pos e50] at h3
          subst h3
          rw [if_pos ((ih i _).mpr ⟨h1, fun z => absurd z (Nat.lt_irrefl _)⟩)]
          exact List.mem_singleton.mpr rfl
      · rw [if_neg e, ih i c]
        exact and_congr_right fun _ => ⟨fun h z => h (by omega), fun h z => h (by omega)⟩
    · rw [if_neg e50]
      show c ∈ ((placeB g t k b).al.modify k (rid (g.getD k 0))).getD i [] ↔ _
      rw [modify_getD _ hl]
      by_cases e : i = k
      · subst e
        rw [if_pos rfl, mem_rid, ih i c]
        constructor
        · rintro ⟨⟨h1, _⟩, h2⟩
          exact ⟨h1, fun _ => by unfold hitOk; rw [if_neg e50]; exact h2⟩
        · rintro ⟨h1, h2⟩
          have h3 := h2 (by omega)
          unfold hitOk at h3
          rw [if_neg e50] at h3
          exact ⟨⟨h1, fun z => absurd z (Nat.lt_irrefl _)⟩, h3⟩
      · rw [if_neg e, ih i c]
        exact and_congr_right fun _ => ⟨fun h z => h (by omega), fun h z => h (by omega)⟩
theorem place_le (g t : List Nat) (b : BS) : ∀ k, (placeB g t k b).le = b.le ∧ (placeB g t k b).gr = b.gr
  | 0 => ⟨rfl, rfl⟩
  | k + 1 => by
    have ih := place_le g t b k
    rw [placeB]
    split
    · exact ih
    · exact ih
def numOk (g t w : List Nat) (a : Nat) : Prop := fd g t a ≤ w.count a ∧ (48 ∈ mgv g t a → w.count a ≤ fd g t a)
theorem count_step {g t l w : List Nat} {b : BS} {a : Nat} (ha : a ∈ l) : cntOk (countB g t b a) l w ↔ cntOk b l w ∧ numOk g t w a := by
  unfold countB
  simp only
  rw [fd_eq]
  unfold numOk
  have least : cntOk (leastB b a (fd g t a : Int)) l w ↔ cntOk b l w ∧ fd g t a ≤ w.count a := by
    constructor
    · intro h
      refine ⟨fun c hc => ?_, ?_⟩
      · have := h c hc
        unfold leastB setF at this
        simp only at this
        by_cases e : c = a
        · subst e
          rw [if_pos rfl] at this
          split at this <;> omega
        · rw [if_neg e] at this
          exact this
      · have := h a ha
        unfold leastB setF at this
        simp only [if_true] at this
        split at this <;> omega
    · rintro ⟨h1, h2⟩ c hc
      have := h1 c hc
      unfold leastB setF
      simp only
      by_cases e : c = a
      · subst e
        rw [if_pos rfl]
        split <;> omega
      · rw [if_neg e]
        exact this
  have most : ∀ b' : BS, cntOk (mostB b' a (fd g t a : Int)) l w ↔ cntOk b' l w ∧ w.count a ≤ fd g t a := fun b' => by
    constructor
    · intro h
      refine ⟨fun c hc => ?_, ?_⟩
      · have := h c hc
        unfold mostB setF at this
        simp only at this
        by_cases e : c = a
        · subst e
          rw [if_pos rfl] at this
          split at this <;> omega
        · rw [if_neg e] at this
          exact this
      · have := h a ha
        unfold mostB setF at this
        simp only [if_true] at this
        split at this <;> omega
    · rintro ⟨h1, h2⟩ c hc
      have := h1 c hc
      unfold mostB setF
      simp only
      by_cases e : c = a
      · subst e
        rw [if_pos rfl]
        split <;> omega
      · rw [if_neg e]
        exact this
  by_cases z : 48 ∈ mgv g t a
  · rw [if_pos z, most, least]
    constructor
    · rintro ⟨⟨h1, h2⟩, h3⟩
      exact ⟨h1, h2, fun _ => h3⟩
    · rintro ⟨h1, h2, h3⟩
      exact ⟨⟨h1, h2⟩, h3 z⟩
  · rw [if_neg z, least]
    constructor
    · rintro ⟨h1, h2⟩
      exact ⟨h1, h2, fun y => absurd y z⟩
    · rintro ⟨h1, h2, _⟩
      exact ⟨h1, h2⟩
theorem count_fold {g t l w : List Nat} : ∀ (cs : List Nat) (b : BS), (∀ c ∈ cs, c ∈ l) → (cntOk (cs.foldl (countB g t) b) l w ↔ cntOk b l w ∧ ∀ a ∈ cs, numOk g t w a)
  | [], b, _ => ⟨fun h => ⟨h, fun _ z => by cases z⟩, fun h => h.1⟩
  | c :: cs, b, h => by
    rw [List.foldl_cons, count_fold cs _ fun x hx => h x (List.mem_cons_of_mem _ hx), count_step (h c (List.mem_cons_self ..))]
    constructor
    · rintro ⟨⟨h1, h2⟩, h3⟩
      refine ⟨h1, fun a ha => ?_⟩
      rcases List.mem_cons.mp ha with rfl | ha
      · exact h2
      · exact h3 a ha
    · rintro ⟨h1, h2⟩
      exact ⟨⟨h1, h2 c (List.mem_cons_self ..)⟩, fun a ha => h2 a (List.mem_cons_of_mem _ ha)⟩
theorem hits_iff : ∀ (g w t : List Nat), g.length = w.length → g.length = t.length → Marks t → (Hits g w t ↔ ∀ i c, w[i]? = some c → hitOk g t i c)
  | [], [], [], _, _, _ => ⟨fun _ i c h => by simp at h, fun _ => trivial⟩
  | a :: g, b :: w, m :: t, h1, h2, hm => by
    have ih := hits_iff g w t (by simpa using h1) (by simpa using h2) fun x hx => hm x (List.mem_cons_of_mem _ hx)
    constructor
    · rintro ⟨e, _, r⟩ i c hc
      cases i with
      | zero =>
        have : b = c := by simpa using hc
        subst this
        unfold hitOk
        simp only [List.getElem?_cons_zero, List.getD_cons_zero]
        by_cases q : m = 50
        · rw [if_pos (by rw [q])]; exact (e.mp q).symm
        · rw [if_neg (fun z => q (Option.some.inj z))]; exact fun z => q (e.mpr z.symm)
      | succ i =>
        have := ih.mp r i c (by simpa using hc)
        unfold hitOk at this ⊢
        simpa using this
    · intro h
      refine ⟨?_, hm m (List.mem_cons_self ..), ih.mpr fun i c hc => ?_⟩
      · have := h 0 b rfl
        unfold hitOk at this
        simp only [List.getElem?_cons_zero, List.getD_cons_zero] at this
        by_cases q : m = 50
        · rw [if_pos (by rw [q])] at this; exact ⟨fun _ => this.symm, fun _ => q⟩
        · rw [if_neg (fun z => q (Option.some.inj z))] at this; exact ⟨fun z => absurd z q, fun z => absurd z.symm this⟩
      · have := h (i + 1) c (by simpa using hc)
        unfold hitOk at this ⊢
        simpa using this
theorem row_keeps {n : Nat} {l w : List Nat} {b : BS} {r : Row} (hw : w.length = n) (hb : b.al.length = n) (hg : r.1.length = n) (ht : r.2.length = n) (hm : Marks r.2) (hs : ∀ c ∈ r.1, c ∈ l) :
    (alOk (rowB b r) w ∧ cntOk (rowB b r) l w) ↔ (alOk b w ∧ cntOk b l w) ∧ Hits r.1 w r.2 ∧ ∀ a ∈ r.1, numOk r.1 r.2 w a := by
  have e1 : alOk (rowB b r) w ↔ alOk b w ∧ Hits r.1 w r.2 := by
    rw [hits_iff r.1 w r.2 (by omega) (by omega) hm]
    unfold alOk
    rw [rowB_al]
    constructor
    · intro h
      refine ⟨fun i c hc => ((place_mem r.1 r.2 b _ (by omega) i c).mp (h i c hc)).1, fun i c hc => ((place_mem r.1 r.2 b _ (by omega) i c).mp (h i c hc)).2 ?_⟩
      have := (List.getElem?_eq_some_iff.mp hc).1
      omega
    · rintro ⟨h1, h2⟩ i c hc
      exact (place_mem r.1 r.2 b _ (by omega) i c).mpr ⟨h1 i c hc, fun _ => h2 i c hc⟩
  have e2 : cntOk (rowB b r) l w ↔ cntOk b l w ∧ ∀ a ∈ r.1, numOk r.1 r.2 w a := by
    unfold rowB
    rw [count_fold r.1 _ hs]
    have pl := place_le r.1 r.2 b r.1.length
    unfold cntOk
    rw [pl.1, pl.2]
  rw [e1, e2]
  constructor
  · rintro ⟨⟨h1, h2⟩, h3, h4⟩
    exact ⟨⟨h1, h3⟩, h2, h4⟩
  · rintro ⟨⟨h1, h3⟩, h2, h4⟩
    exact ⟨⟨h1, h2⟩, h3, h4⟩
theorem marks_of_wd {n : Int} {t : List Nat} (h : Wd [48, 49, 50] n t) : Marks t := fun m hm => by
  have := h.2 m hm
  simpa using this
theorem rows_keep {n : Int} {l w : List Nat} (hw : (w.length : Int) = n) : ∀ (rows : List Row) (b : BS), (b.al.length : Int) = n → (∀ r ∈ rows, RowOk l n r) →
    ((alOk (rows.foldl rowB b) w ∧ cntOk (rows.foldl rowB b) l w) ↔ (alOk b w ∧ cntOk b l w) ∧ ∀ r ∈ rows, Hits r.1 w r.2 ∧ ∀ a ∈ r.1, numOk r.1 r.2 w a)
  | [], b, _, _ => ⟨fun h => ⟨h, fun _ z => by cases z⟩, fun h => h.1⟩
  | r :: rows, b, hb, hr => by
    have rk := hr r (List.mem_cons_self ..)
    have g1 := rk.1.1
    have g2 := rk.2.1
    rw [List.foldl_cons, rows_keep hw rows (rowB b r) (by rw [rowB_al, placeB_al]; exact hb) fun x hx => hr x (List.mem_cons_of_mem _ hx), row_keeps (n := w.length) rfl (by omega) (by omega) (by omega) (marks_of_wd rk.2) rk.1.2]
    constructor
    · rintro ⟨⟨h1, h2⟩, h3⟩
      refine ⟨h1, fun x hx => ?_⟩
      rcases List.mem_cons.mp hx with rfl | hx
      · exact h2
      · exact h3 x hx
    · rintro ⟨h1, h2⟩
      exact ⟨⟨h1, h2 r (List.mem_cons_self ..)⟩, fun x hx => h2 x (List.mem_cons_of_mem _ hx)⟩
/-- a word over l of length n keeps to the bounds, and all rows are in order, exactly if it gives all rows their marks -/
theorem fits_keep {n : Int} {l w : List Nat} {rows : List Row} (n0 : 0 ≤ n) (hw : (w.length : Int) = n) (hr : ∀ r ∈ rows, RowOk l n r) :
    (alOk (bsOf l n.toNat rows) w ∧ cntOk (bsOf l n.toNat rows) l w ∧ rows.all (fun r => ordOk r.1 r.2) = true) ↔ (∀ c ∈ w, c ∈ l) ∧ ∀ r ∈ rows, mk r.1 w = r.2 := by
  have k := rows_keep hw rows (bs0 l n.toNat) (by show ((List.replicate n.toNat l).length : Int) = n; rw [List.length_replicate]; omega) hr
  have k0 : (alOk (bs0 l n.toNat) w ∧ cntOk (bs0 l n.toNat) l w) ↔ ∀ c ∈ w, c ∈ l := by
    constructor
    · rintro ⟨h, _⟩ c hc
      obtain ⟨i, hi⟩ := List.mem_iff_getElem?.mp hc
      have := h i c hi
      have lt := (List.getElem?_eq_some_iff.mp hi).1
      have e : (bs0 l n.toNat).al.getD i [] = l := by
        show (List.replicate n.toNat l).getD i [] = l
        rw [List.getD_eq_getElem?_getD, List.getElem?_replicate, if_pos (by omega)]
        rfl
      rw [e] at this
      exact this
    · intro h
      refine ⟨fun i c hi => ?_, fun c _ => ⟨?_, ?_⟩⟩
      · have lt := (List.getElem?_eq_some_iff.mp hi).1
        have e : (bs0 l n.toNat).al.getD i [] = l := by
          show (List.replicate n.toNat l).getD i [] = l
          rw [List.getD_eq_getElem?_getD, List.getElem?_replicate, if_pos (by omega)]
          rfl
        rw [e]
        exact h c (List.mem_of_getElem? hi)
      · show (0 : Int) ≤ _
        omega
      · show _ ≤ ((n.toNat : Nat) : Int)
        have : w.count c ≤ w.length := List.count_le_length
        omega
  have k1 : (alOk (bsOf l n.toNat rows) w ∧ cntOk (bsOf l n.toNat rows) l w) ↔ (∀ c ∈ w, c ∈ l) ∧ ∀ r ∈ rows, Hits r.1 w r.2 ∧ ∀ a ∈ r.1, numOk r.1 r.2 w a := by
    rw [← k0]
    exact k
  rw [← and_assoc, k1, List.all_eq_true]
  constructor
  · rintro ⟨⟨h1, h2⟩, h3⟩
    refine ⟨h1, fun r hr' => ?_⟩
    have rk := hr r hr'
    have g1 := rk.1.1
    exact (fits_iff (by omega)).mpr ⟨(h2 r hr').1, h3 r hr', (h2 r hr').2⟩
  · rintro ⟨h1, h2⟩
    have f := fun r hr' => (fits_iff (g := r.1) (w := w) (t := r.2) (by have := (hr r hr').1.1; omega)).mp (h2 r hr')
    exact ⟨⟨h1, fun r hr' => ⟨(f r hr').1, (f r hr').2.2⟩⟩, fun r hr' => (f r hr').2.1⟩
end Gm

/-! all words of a length -/
namespace Gm
def wds (l : List Nat) : Nat → List (List Nat)
  | 0 => [[]]
  | n + 1 => (wds l n).flatMap fun w => l.map fun c => w ++ [c]
theorem flat_len (xs : List (List Nat)) (l : List Nat) : (xs.flatMap fun w => l.map fun c => w ++ [c]).length = xs.length * l.length := by
  induction xs with
  | nil => simp
  | cons a xs ih => rw [List.flatMap_cons, List.length_append, ih, List.length_map, List.length_cons, Nat.add_mul]; omega
theorem wds_len (l : List Nat) : ∀ n, (wds l n).length = l.length ^ n
  | 0 => rfl
  | n + 1 => by rw [wds, flat_len, wds_len l n, Nat.pow_succ]
theorem wds_le {l : List Nat} (h : l.length ≤ 4) {n : Nat} (hn : n ≤ 4) : (wds l n).length ≤ 256 := by
  rw [wds_len]
  have h1 : l.length ^ n ≤ 4 ^ n := Nat.pow_le_pow_left h n
  have h2 : 4 ^ n ≤ 4 ^ 4 := Nat.pow_le_pow_right (by omega) hn
  exact Nat.le_trans h1 h2
theorem mem_wds (l : List Nat) : ∀ (n : Nat) (w : List Nat), w ∈ wds l n ↔ w.length = n ∧ ∀ c ∈ w, c ∈ l
  | 0, w => by
    show w ∈ [[]] ↔ _
    rw [List.mem_singleton]
    constructor
    · rintro rfl
      exact ⟨rfl, fun c h => by cases h⟩
    · rintro ⟨h, _⟩
      exact List.length_eq_zero_iff.mp h
  | n + 1, w => by
    show w ∈ (wds l n).flatMap _ ↔ _
    rw [List.mem_flatMap]
    constructor
    · rintro ⟨u, hu, hw⟩
      obtain ⟨c, hc, rfl⟩ := List.mem_map.mp hw
      obtain ⟨h1, h2⟩ := (mem_wds l n u).mp hu
      refine ⟨by rw [List.length_append, h1]; rfl, fun a ha => ?_⟩
      rcases List.mem_append.mp ha with h | h
      · exact h2 a h
      · rw [List.mem_singleton.mp h]; exact hc
    · rintro ⟨h1, h2⟩
      have hne : w ≠ [] := fun e => by rw [e] at h1; cases h1
      refine ⟨w.dropLast, (mem_wds l n _).mpr ⟨by rw [List.length_dropLast, h1]; rfl, fun c hc => h2 c ((List.dropLast_sublist w).subset hc)⟩, List.mem_map.mpr ⟨w.getLast hne, h2 _ (List.getLast_mem hne), List.dropLast_concat_getLast hne⟩⟩
/-- can_come against the list of all marks -/
theorem come_mem {l g t : List Nat} (hm : Marks t) (hl : g.length = t.length) (hg : ∀ c ∈ g, c ∈ l) : comeB l g t = decide (t ∈ (wds l g.length).map fun w => mk g w) := by
  rw [Bool.eq_iff_iff, come_iff hl hm hg, decide_eq_true_iff, List.mem_map]
  constructor
  · rintro ⟨w, h1, h2, h3⟩
    exact ⟨w, (mem_wds l _ w).mpr ⟨h1, h2⟩, h3⟩
  · rintro ⟨w, h1, h3⟩
    obtain ⟨h1, h2⟩ := (mem_wds l _ w).mp h1
    exact ⟨w, h1, h2, h3⟩
end Gm

namespace Gm
theorem gr_count {g t : List Nat} {b : BS} {a : Nat} (h : ∀ c, 0 ≤ b.gr c) : ∀ c, 0 ≤ (countB g t b a).gr c := by
  intro c
  unfold countB
  simp only
  rw [fd_eq]
  have h1 := h c
  have h2 := h a
  split
  · unfold mostB setF leastB
    simp only
    split
    · split <;> omega
    · exact h1
  · exact h1
theorem gr_fold {g t : List Nat} : ∀ (cs : List Nat) (b : BS), (∀ c, 0 ≤ b.gr c) → ∀ c, 0 ≤ (cs.foldl (countB g t) b).gr c
  | [], _, h => h
  | x :: cs, b, h => gr_fold cs _ (gr_count h)
theorem gr_rows : ∀ (rows : List Row) (b : BS), (∀ c, 0 ≤ b.gr c) → ∀ c, 0 ≤ (rows.foldl rowB b).gr c
  | [], _, h => h
  | r :: rows, b, h => gr_rows rows _ (gr_fold r.1 _ (by rw [(place_le r.1 r.2 b r.1.length).2]; exact h))
theorem gr_nonneg (l : List Nat) (n : Nat) (rows : List Row) (c : Nat) : 0 ≤ (bsOf l n rows).gr c := gr_rows rows _ (fun _ => Int.natCast_nonneg n) c
theorem map_getD {ct : List Nat} (f : Nat → Int) {j : Nat} (hj : j < ct.length) : (ct.map f).getD j 0 = f (ct.getD j 0) := by
  simp only [List.getD_eq_getElem?_getD, List.getElem?_map, List.getElem?_eq_getElem hj]
  rfl
theorem zeros_getD (k j : Nat) : (List.replicate k (0 : Int)).getD j 0 = 0 := by
  rw [List.getD_eq_getElem?_getD, List.getElem?_replicate]
  split <;> rfl
theorem at_mem {ct : List Nat} {j : Nat} (hj : j < ct.length) : ct.getD j 0 ∈ ct := by
  rw [List.getD_eq_getElem?_getD, List.getElem?_eq_getElem hj]
  exact List.getElem_mem hj
def fitW (rows : List Row) (w : List Nat) : Prop := ∀ r ∈ rows, mk r.1 w = r.2
theorem way_mem {l : List Nat} {n : Int} {rows : List Row} (n1 : 1 ≤ n) (hr : ∀ r ∈ rows, RowOk l n r) (s : List Nat) :
    s ∈ (sufs (wdOf l n rows).al).filter (okc (wdOf l n rows).ct (wdOf l n rows).le (wdOf l n rows).gr (List.replicate (wdOf l n rows).ct.length 0)) ↔ (s.length : Int) = n ∧ (∀ c ∈ s, c ∈ l) ∧ fitW rows s := by
  have bl : (bsOf l n.toNat rows).al.length = n.toNat := by
    have k : ∀ (rs : List Row) (b : BS), (rs.foldl rowB b).al.length = b.al.length := fun rs => by
      induction rs with
      | nil => exact fun b => rfl
      | cons r rs ih => exact fun b => by rw [List.foldl_cons, ih, rowB_al, placeB_al]
    show (rows.foldl rowB (bs0 l n.toNat)).al.length = _
    rw [k]
    exact List.length_replicate ..
  have gn := gr_nonneg l n.toNat rows
  rw [List.mem_filter, mem_sufs, okc_iff]
  show (s.length = ((bsOf l n.toNat rows).al.map fun t => cc t (usOf l (bsOf l n.toNat rows) rows)).length ∧ ∀ i c, s[i]? = some c → c ∈ ((bsOf l n.toNat rows).al.map fun t => cc t (usOf l (bsOf l n.toNat rows) rows)).getD i []) ∧
    (∀ j, j < (ctOf l n (bsOf l n.toNat rows)).length → ((ctOf l n (bsOf l n.toNat rows)).map (bsOf l n.toNat rows).le).getD j 0 ≤ (List.replicate (ctOf l n (bsOf l n.toNat rows)).length (0 : Int)).getD j 0 + (s.count ((ctOf l n (bsOf l n.toNat rows)).getD j 0) : Int) ∧
      (List.replicate (ctOf l n (bsOf l n.toNat rows)).length (0 : Int)).getD j 0 + (s.count ((ctOf l n (bsOf l n.toNat rows)).getD j 0) : Int) ≤ ((ctOf l n (bsOf l n.toNat rows)).map (bsOf l n.toNat rows).gr).getD j 0) ↔ _
  rw [List.length_map, bl]
  have keep : (s.length : Int) = n → _ := fun hs => fits_keep (l := l) (w := s) (rows := rows) (by omega) hs hr
  unfold fitW
  generalize bsOf l n.toNat rows = B at keep bl gn ⊢
  have cell : ∀ i, (B.al.map fun t => cc t (usOf l B rows)).getD i [] = cc (B.al.getD i []) (usOf l B rows) := fun i => by
    simp only [List.getD_eq_getElem?_getD, List.getElem?_map]
    cases B.al[i]? with
    | none => rfl
    | some t => rfl
  constructor
  · rintro ⟨⟨h1, h2⟩, h3⟩
    have hs : (s.length : Int) = n := by omega
    refine ⟨hs, ?_⟩
    rw [← keep hs]
    have h2' : ∀ i c, s[i]? = some c → c ∈ B.al.getD i [] ∧ c ∈ usOf l B rows := fun i c hc => by
      have := h2 i c hc
      rw [cell] at this
      exact cc_mem.mp this
    have inUs : ∀ c ∈ s, c ∈ usOf l B rows := fun c hc => by
      obtain ⟨i, hi⟩ := List.mem_iff_getElem?.mp hc
      exact (h2' i c hi).2
    have ord : rows.all (fun r => ordOk r.1 r.2) = true := by
      cases z : rows.all fun r => ordOk r.1 r.2 with
      | true => rfl
      | false =>
        cases s with
        | nil => simp at h1; omega
        | cons c r =>
          have := inUs c (List.mem_cons_self ..)
          unfold usOf at this
          rw [if_neg (by rw [z]; exact Bool.false_ne_true)] at this
          cases this
    have us : ∀ c ∈ s, 0 < B.gr c := fun c hc => by
      have := inUs c hc
      unfold usOf at this
      rw [if_pos ord] at this
      exact of_decide_eq_true (List.mem_filter.mp this).2
    refine ⟨fun i c hc => (h2' i c hc).1, fun c hc => ?_, ord⟩
    by_cases m : c ∈ ctOf l n B
    · have hi := List.idxOf_lt_length_of_mem m
      have := h3 _ hi
      rw [map_getD _ hi, map_getD _ hi, zeros_getD, at_idx m] at this
      omega
    · have m' : ¬ (0 < B.le c ∨ (0 < B.gr c ∧ B.gr c < n)) := fun z => m (List.mem_filter.mpr ⟨hc, by
        rcases z with z | z
        · simp [z]
        · simp [z.1, z.2]⟩)
      have c1 : s.count c ≤ s.length := List.count_le_length
      have g0 := gn c
      by_cases z : 0 < B.gr c
      · omega
      · have : s.count c = 0 := List.count_eq_zero.mpr fun y => z (us c y)
        omega
  · rintro ⟨hs, h⟩
    obtain ⟨h1, h2, h3⟩ := (keep hs).mpr h
    refine ⟨⟨by omega, fun i c hc => ?_⟩, fun j hj => ?_⟩
    · rw [cell]
      refine cc_mem.mpr ⟨h1 i c hc, ?_⟩
      unfold usOf
      rw [if_pos h3]
      have hm := List.mem_of_getElem? hc
      have hl := h.1 c hm
      refine List.mem_filter.mpr ⟨hl, decide_eq_true ?_⟩
      have := (h2 c hl).2
      have : 0 < s.count c := List.count_pos_iff.mpr hm
      omega
    · rw [map_getD _ hj, map_getD _ hj, zeros_getD]
      have := h2 _ (ct_sub (at_mem hj))
      omega
theorem ways_eq {l : List Nat} {n : Int} {rows : List Row} (nd : l.Nodup) : ways (wdOf l n rows) 0 (List.replicate (wdOf l n rows).ct.length 0) =
    (((sufs (wdOf l n rows).al).filter (okc (wdOf l n rows).ct (wdOf l n rows).le (wdOf l n rows).gr (List.replicate (wdOf l n rows).ct.length 0))).length : Int) := by
  unfold ways
  rw [List.drop_zero]
  refine way_count (nd.filter _) (List.length_map ..) _ _ (List.length_replicate ..) fun j hj => ?_
  rw [zeros_getD]
  have e : (wdOf l n rows).gr.getD j 0 = (bsOf l n.toNat rows).gr ((ctOf l n (bsOf l n.toNat rows)).getD j 0) := map_getD _ hj
  rw [e]
  exact gr_nonneg ..
/-- has_word's answer -/
theorem has_iff {l : List Nat} {n : Int} {rows : List Row} (n1 : 1 ≤ n) (nd : l.Nodup) (hr : ∀ r ∈ rows, RowOk l n r) : 0 < ways (wdOf l n rows) 0 (List.replicate (wdOf l n rows).ct.length 0) ↔ ∃ w, (w.length : Int) = n ∧ (∀ c ∈ w, c ∈ l) ∧ fitW rows w := by
  rw [ways_eq nd]
  constructor
  · intro h
    have h : 0 < ((sufs (wdOf l n rows).al).filter (okc (wdOf l n rows).ct (wdOf l n rows).le (wdOf l n rows).gr (List.replicate (wdOf l n rows).ct.length 0))).length := by omega
    obtain ⟨s, hs⟩ := List.exists_mem_of_length_pos h
    exact ⟨s, (way_mem n1 hr s).mp hs⟩
  · rintro ⟨w, hw⟩
    have := List.length_pos_of_mem ((way_mem n1 hr w).mpr hw)
    omega
theorem sufs_nodup : ∀ {al : List (List Nat)}, (∀ a ∈ al, a.Nodup) → (sufs al).Nodup
  | [], _ => List.nodup_cons.mpr ⟨List.not_mem_nil, List.nodup_nil⟩
  | a :: al, h => by
    have ih := sufs_nodup fun x hx => h x (List.mem_cons_of_mem _ hx)
    have ha := h a (List.mem_cons_self ..)
    show (a.flatMap fun c => (sufs al).map fun s => c :: s).Nodup
    clear h
    induction a with
    | nil => exact List.nodup_nil
    | cons c a ia =>
      obtain ⟨h1, h2⟩ := List.nodup_cons.mp ha
      rw [List.flatMap_cons]
      refine List.nodup_append.mpr ⟨?_, ia h2, fun x hx y hy e => ?_⟩
      · exact List.pairwise_map.mpr (List.Pairwise.imp (fun h e => h (List.cons.inj e).2) ih)
      · obtain ⟨s, _, rfl⟩ := List.mem_map.mp hx
        obtain ⟨d, hd, hy⟩ := List.mem_flatMap.mp hy
        obtain ⟨s', _, rfl⟩ := List.mem_map.mp hy
        exact h1 (by rw [(List.cons.inj e).1]; exact hd)
end Gm

namespace Gm
open PySem L2
section
variable {P : Program} {w : World} {K : PySem.W.Frag} {mg : Str → Option Value} {base : Heap}
/-- the recursion of the words, at every number of places left -/
theorem ok_words {fA fW fF fU fC C : Addr} {fdA fdW fdF fdU fdC : FuncData} (T : TxN K mg C) (FF : Fun K "many_from" "Words.many_from" sManyF fF fdF) (FA : Fun K "add_ways" "Words.add_ways" sAddW fA fdA) (FW : Fun K "many_with" "Words.many_with" sManyW fW fdW)
    (mF : Meth K C "many_from" fF) (bF : Binds K fdF ["self", "place", "used"] []) (mA : Meth K C "add_ways" fA) (bA : Binds K fdA ["self", "place", "used"] []) (mW : Meth K C "many_with" fW) (bW : Binds K fdW ["self", "place", "used", "letter"] [])
    (mU : Meth K C "used_with" fU) (GU : FnOk P w K mg base CX0 1 fU fdU ["self", "used", "letter"] (spUsed C)) (bU : Binds K fdU ["self", "used", "letter"] []) (GC : FnOk P w K mg base CX0 1 fC fdC ["letters", "others"] spComm) (DC : Df K mg "common_letters" fC fdC ["letters", "others"]) :
    ∀ r, FnOk P w K mg base CX0 (3 * r + 1) fF fdF ["self", "place", "used"] (spManyF P w C r)
  | 0 => ok_manyF (n0 := 0) FF T mA ⟨fun _ _ _ _ h => h.elim, fun _ _ _ _ _ _ _ _ _ _ _ _ _ h => h.elim⟩ bA
  | r + 1 => ok_manyF (n0 := 3 * r + 3) FF T mA (ok_addW (n0 := 3 * r) FA T GC DC mW (ok_manyW (n0 := 3 * r) FW T mU GU bU mF (ok_words T FF FA FW mF bF mA bA mW bW mU GU bU GC DC r) bF) bW mF (ok_words T FF FA FW mF bF mA bA mW bW mU GU bU GC DC r) bF) bA
end
end Gm

/-! how many words the program counts: as many as the list of all words keeps -/
namespace Gm
open PySem L2
theorem nd_modify {f : List Nat → List Nat} (hf : ∀ t, t.Nodup → (f t).Nodup) {al : List (List Nat)} (h : ∀ x ∈ al, x.Nodup) (i : Nat) : ∀ x ∈ al.modify i f, x.Nodup := by
  intro x hx
  rcases mem_modify hx with hx | ⟨y, hy, rfl⟩
  · exact h x hx
  · exact hf y (h y hy)
theorem placeB_nd (g t : List Nat) (b : BS) (h : ∀ x ∈ b.al, x.Nodup) : ∀ k, ∀ x ∈ (placeB g t k b).al, x.Nodup
  | 0 => h
  | k + 1 => by
    unfold placeB
    split
    · refine nd_modify (fun t _ => ?_) (placeB_nd g t b h k) k
      split
      · exact List.nodup_cons.mpr ⟨List.not_mem_nil, List.nodup_nil⟩
      · exact List.nodup_nil
    · exact nd_modify (fun t ht => ht.filter _) (placeB_nd g t b h k) k
theorem rows_nd : ∀ (rows : List Row) (b : BS), (∀ x ∈ b.al, x.Nodup) → ∀ x ∈ (rows.foldl rowB b).al, x.Nodup
  | [], _, h => h
  | r :: rows, b, h => rows_nd rows (rowB b r) (by rw [rowB_al]; exact placeB_nd r.1 r.2 b h r.1.length)
theorem wd_nd {l : List Nat} {n : Int} {rows : List Row} (nd : l.Nodup) : ∀ a ∈ (wdOf l n rows).al, a.Nodup := by
  intro a ha
  obtain ⟨t, ht, rfl⟩ := List.mem_map.mp ha
  have h : ∀ x ∈ (bsOf l n.toNat rows).al, x.Nodup := rows_nd rows (bs0 l n.toNat) fun x hx => by
    have hx : x ∈ List.replicate n.toNat l := hx
    rw [(List.mem_replicate.mp hx).2]
    exact nd
  exact (h t ht).filter _
theorem wds_nd {l : List Nat} (nd : l.Nodup) : ∀ n, (wds l n).Nodup
  | 0 => List.nodup_cons.mpr ⟨List.not_mem_nil, List.nodup_nil⟩
  | n + 1 => by
    have ih := wds_nd nd n
    show ((wds l n).flatMap fun w => l.map fun c => w ++ [c]).Nodup
    generalize wds l n = ws at ih
    induction ws with
    | nil => exact List.nodup_nil
    | cons w ws ia =>
      obtain ⟨h1, h2⟩ := List.nodup_cons.mp ih
      rw [List.flatMap_cons]
      refine List.nodup_append.mpr ⟨?_, ia h2, fun x hx y hy e => ?_⟩
      · exact List.pairwise_map.mpr (List.Pairwise.imp (fun h e => h (List.cons.inj (List.append_cancel_left e)).1) nd)
      · obtain ⟨s, _, rfl⟩ := List.mem_map.mp hx
        obtain ⟨d, hd, hy⟩ := List.mem_flatMap.mp hy
        obtain ⟨s', _, rfl⟩ := List.mem_map.mp hy
        have : w = d := (List.append_inj' e rfl).1
        exact h1 (by rw [this]; exact hd)
def cntW (l : List Nat) (n : Int) (rows : List Row) : Int := ways (wdOf l n rows) 0 (List.replicate (wdOf l n rows).ct.length 0)
/-- the words that stand -/
def leftL (l : List Nat) (n : Int) (rows : List Row) : List (List Nat) := (wds l n.toNat).filter (fitsB rows)
theorem fitsB_iff {rows : List Row} {w : List Nat} : fitsB rows w = true ↔ fitW rows w := by
  unfold fitsB fitW
  rw [List.all_eq_true]
  exact ⟨fun h r hr => of_decide_eq_true (h r hr), fun h r hr => decide_eq_true (h r hr)⟩
theorem mem_leftL {l : List Nat} {n : Int} (n0 : 0 ≤ n) {rows : List Row} {w : List Nat} : w ∈ leftL l n rows ↔ (w.length : Int) = n ∧ (∀ c ∈ w, c ∈ l) ∧ fitW rows w := by
  unfold leftL
  rw [List.mem_filter, mem_wds, fitsB_iff]
  constructor
  · rintro ⟨⟨h1, h2⟩, h3⟩
    exact ⟨by omega, h2, h3⟩
  · rintro ⟨h1, h2, h3⟩
    exact ⟨⟨by omega, h2⟩, h3⟩
theorem cnt_eq {l : List Nat} {n : Int} {rows : List Row} (n1 : 1 ≤ n) (nd : l.Nodup) (hr : ∀ r ∈ rows, RowOk l n r) : cntW l n rows = ((leftL l n rows).length : Int) := by
  unfold cntW
  rw [ways_eq nd]
  congr 1
  refine List.Perm.length_eq ((List.perm_ext_iff_of_nodup ((sufs_nodup (wd_nd nd)).filter _) ((wds_nd nd _).filter _)).mpr fun s => ?_)
  rw [way_mem n1 hr s]
  exact (mem_leftL (by omega)).symm
theorem fitsB_app (a b : List Row) (w : List Nat) : fitsB (a ++ b) w = (fitsB a w && fitsB b w) := List.all_append
theorem left_app (l : List Nat) (n : Int) (a b : List Row) : leftL l n (a ++ b) = (leftL l n a).filter (fitsB b) := by
  unfold leftL
  rw [List.filter_filter]
  exact List.filter_congr fun w _ => by rw [fitsB_app, Bool.and_comm]
theorem left_comm (l : List Nat) (n : Int) (a b : List Row) : leftL l n (a ++ b) = leftL l n (b ++ a) := by
  unfold leftL
  exact List.filter_congr fun w _ => by rw [fitsB_app, fitsB_app, Bool.and_comm]
theorem left_same {l : List Nat} {n : Int} {a b : List Row} (n1 : 1 ≤ n) (nd : l.Nodup) (ha : ∀ r ∈ a, RowOk l n r) (hb : ∀ r ∈ b, RowOk l n r) :
    (decide (cntW l n a = cntW l n (a ++ b)) && decide (cntW l n b = cntW l n (a ++ b))) = decide (leftL l n a = leftL l n b) := by
  have hab : ∀ r ∈ a ++ b, RowOk l n r := fun r hr => by
    rcases List.mem_append.mp hr with h | h
    · exact ha r h
    · exact hb r h
  rw [cnt_eq n1 nd ha, cnt_eq n1 nd hb, cnt_eq n1 nd hab, Bool.eq_iff_iff, Bool.and_eq_true, decide_eq_true_iff, decide_eq_true_iff, decide_eq_true_iff]
  have e1 := left_app l n a b
  have e2 : leftL l n (a ++ b) = (leftL l n b).filter (fitsB a) := (left_comm l n a b).trans (left_app l n b a)
  constructor
  · rintro ⟨h1, h2⟩
    have q1 : leftL l n (a ++ b) = leftL l n a := by
      rw [e1]
      exact List.Sublist.eq_of_length List.filter_sublist (by rw [← e1]; omega)
    have q2 : leftL l n (a ++ b) = leftL l n b := by
      rw [e2]
      exact List.Sublist.eq_of_length List.filter_sublist (by rw [← e2]; omega)
    rw [← q1, q2]
  · intro h
    have q1 : leftL l n (a ++ b) = leftL l n a := by
      rw [e1]
      refine List.filter_eq_self.mpr fun w hw => ?_
      rw [h] at hw
      exact (List.mem_filter.mp hw).2
    rw [q1, ← h]
    exact ⟨rfl, rfl⟩
end Gm

namespace Gm
open PySem L2
/-! Words with facts -/
def wdG (l : List Nat) (n : Int) (rows : List Row) (facts : List Fct) : WD :=
  ⟨(bsG l n.toNat rows facts).al.map fun t => cc t (usOf l (bsG l n.toNat rows facts) rows), ctOf l n (bsG l n.toNat rows facts), (ctOf l n (bsG l n.toNat rows facts)).map (bsG l n.toNat rows facts).le, (ctOf l n (bsG l n.toNat rows facts)).map (bsG l n.toNat rows facts).gr⟩
def spWInitF (P : Program) (w : World) (C CB CW : Addr) : Sp := fun vs H Q _ => ∃ (p dx b r e : Addr) (l : List Nat) (n : Int) (rows : List Row) (facts : List Fct) (fvs : List V), vs = [.ref p, .ref b, .ref r, .ref e] ∧ H p = some (.ins CW dx []) ∧ Bn C H b l n ∧ RowsAt H r rows ∧ (∀ x ∈ rows, RowOk l n x) ∧ rows.length ≤ 1000 ∧ H e = some (.tup fvs) ∧ Fcs H fvs facts ∧ (∀ f ∈ facts, FctOk l n.toNat f ∧ Easy f) ∧
  ∀ H' m, But p H H' → H m = none → WFix CW H' p m (wdG l n rows facts) → MemOk P w H' m (wdG l n rows facts) 0 → Q .non H'
/-! a word has a fact -/
def hasF (w : List Nat) : Fct → Prop
  | .at_ i c => w[i]? = some c
  | .out i c => w[i]? ≠ some c
  | .least c v => v ≤ (w.count c : Int)
  | .most c v => (w.count c : Int) ≤ v
def hasAll (facts : List Fct) (w : List Nat) : Prop := ∀ f ∈ facts, hasF w f
instance (w : List Nat) : (f : Fct) → Decidable (hasF w f)
  | .at_ i c => inferInstanceAs (Decidable (w[i]? = some c))
  | .out i c => inferInstanceAs (Decidable (w[i]? ≠ some c))
  | .least c v => inferInstanceAs (Decidable (v ≤ (w.count c : Int)))
  | .most c v => inferInstanceAs (Decidable ((w.count c : Int) ≤ v))
instance (facts : List Fct) (w : List Nat) : Decidable (hasAll facts w) := inferInstanceAs (Decidable (∀ f ∈ facts, hasF w f))
theorem bsG_len (l : List Nat) (n : Nat) (rows : List Row) (facts : List Fct) : (bsG l n rows facts).al.length = n := by
  have k : ∀ (rs : List Row) (b : BS), (rs.foldl rowB b).al.length = b.al.length := fun rs => by
    induction rs with
    | nil => exact fun b => rfl
    | cons r rs ih => exact fun b => by rw [List.foldl_cons, ih, rowB_al, placeB_al]
  have k2 : ∀ (fs : List Fct) (b : BS), (fs.foldl fctB b).al.length = b.al.length := fun fs => by
    induction fs with
    | nil => exact fun b => rfl
    | cons f fs ih =>
      intro b
      rw [List.foldl_cons, ih]
      cases f with
      | at_ i c => exact List.length_modify ..
      | out i c => exact List.length_modify ..
      | least c v => rfl
      | most c v => rfl
  show (facts.foldl fctB (rows.foldl rowB (bs0 l n))).al.length = _
  rw [k2, k]
  exact List.length_replicate ..
theorem gr_nonnegG (l : List Nat) (n : Nat) (rows : List Row) (facts : List Fct) (hf : ∀ f ∈ facts, FctOk l n f) (c : Nat) : 0 ≤ (bsG l n rows facts).gr c := by
  have k : ∀ (fs : List Fct) (b : BS), (∀ f ∈ fs, FctOk l n f) → (∀ c, 0 ≤ b.gr c) → ∀ c, 0 ≤ (fs.foldl fctB b).gr c := fun fs => by
    induction fs with
    | nil => exact fun b _ h => h
    | cons f fs ih =>
      intro b hf h
      rw [List.foldl_cons]
      refine ih _ (fun g hg => hf g (List.mem_cons_of_mem _ hg)) fun c => ?_
      have fk := hf f (List.mem_cons_self ..)
      cases f with
      | at_ i d => exact h c
      | out i d => exact h c
      | least d v => exact h c
      | most d v =>
        have v0 : 0 ≤ v := fk.2.1
        have hc := h c
        have hd := h d
        show 0 ≤ setF b.gr d (if v < b.gr d then v else b.gr d) c
        unfold setF
        split
        · split <;> omega
        · exact hc
  exact k facts (bsOf l n rows) hf (gr_nonneg l n rows) c
theorem keep_mem {b : BS} {w : List Nat} {i c : Nat} (hi : i < b.al.length) (hw : w.length = b.al.length) : alOk (keepB b i c) w ↔ alOk b w ∧ w[i]? = some c := by
  have e : ∀ j, (keepB b i c).al.getD j [] = if j = i then (if c ∈ b.al.getD i [] then [c] else []) else b.al.getD j [] := fun j => modify_getD _ hi j
  constructor
  · intro h
    have hx := List.getElem?_eq_getElem (show i < w.length by omega)
    have h1 := h i _ hx
    rw [e, if_pos rfl] at h1
    have hc : w[i] = c ∧ c ∈ b.al.getD i [] := by
      by_cases m : c ∈ b.al.getD i []
      · rw [if_pos m] at h1
        exact ⟨List.mem_singleton.mp h1, m⟩
      · rw [if_neg m] at h1
        cases h1
    refine ⟨fun j d hj => ?_, by rw [hx, hc.1]⟩
    by_cases q : j = i
    · subst q
      rw [hx] at hj
      cases hj
      rw [hc.1]
      exact hc.2
    · have := h j d hj
      rw [e, if_neg q] at this
      exact this
  · rintro ⟨h, hx⟩ j d hj
    rw [e]
    split
    · rename_i q
      subst q
      rw [hx] at hj
      cases hj
      rw [if_pos (h _ _ hx)]
      exact List.mem_singleton.mpr rfl
    · exact h j d hj
theorem leave_mem {b : BS} {w : List Nat} {i c : Nat} (hi : i < b.al.length) : alOk (leaveB b i c) w ↔ alOk b w ∧ w[i]? ≠ some c := by
  have e : ∀ j, (leaveB b i c).al.getD j [] = if j = i then rid c (b.al.getD i []) else b.al.getD j [] := fun j => modify_getD _ hi j
  constructor
  · intro h
    refine ⟨fun j d hj => ?_, fun hx => ?_⟩
    · have := h j d hj
      rw [e] at this
      split at this
      · rename_i q
        rw [q]
        exact (mem_rid.mp this).1
      · exact this
    · have := h i c hx
      rw [e, if_pos rfl] at this
      exact (mem_rid.mp this).2 rfl
  · rintro ⟨h, hx⟩ j d hj
    rw [e]
    split
    · rename_i q
      subst q
      exact mem_rid.mpr ⟨h _ _ hj, fun z => hx (by rw [← z]; exact hj)⟩
    · exact h j d hj
theorem fct_step {l w : List Nat} {b : BS} {f : Fct} (hw : w.length = b.al.length) (fk : FctOk l b.al.length f) : (alOk (fctB b f) w ∧ cntOk (fctB b f) l w) ↔ (alOk b w ∧ cntOk b l w) ∧ hasF w f := by
  cases f with
  | at_ i c =>
    show (alOk (keepB b i c) w ∧ cntOk b l w) ↔ _ ∧ w[i]? = some c
    rw [keep_mem fk.1 hw]
    constructor
    · rintro ⟨⟨a, x⟩, y⟩; exact ⟨⟨a, y⟩, x⟩
    · rintro ⟨⟨a, y⟩, x⟩; exact ⟨⟨a, x⟩, y⟩
  | out i c =>
    show (alOk (leaveB b i c) w ∧ cntOk b l w) ↔ _ ∧ w[i]? ≠ some c
    rw [leave_mem fk.1]
    constructor
    · rintro ⟨⟨a, x⟩, y⟩; exact ⟨⟨a, y⟩, x⟩
    · rintro ⟨⟨a, y⟩, x⟩; exact ⟨⟨a, x⟩, y⟩
  | least c v =>
    show (alOk b w ∧ cntOk (leastB b c v) l w) ↔ _ ∧ v ≤ (w.count c : Int)
    rw [and_assoc]
    refine and_congr_right fun _ => ?_
    constructor
    · intro h
      refine ⟨fun d hd => ?_, ?_⟩
      · have := h d hd
        have h1 : setF b.le c (if v > b.le c then v else b.le c) d ≤ (w.count d : Int) := this.1
        unfold setF at h1
        refine ⟨?_, this.2⟩
        split at h1
        · rename_i q
          subst q
          split at h1 <;> omega
        · exact h1
      · have h1 : setF b.le c (if v > b.le c then v else b.le c) c ≤ (w.count c : Int) := (h c fk.1).1
        unfold setF at h1
        rw [if_pos rfl] at h1
        split at h1 <;> omega
    · rintro ⟨h, hv⟩ d hd
      have := h d hd
      refine ⟨?_, this.2⟩
      show setF b.le c (if v > b.le c then v else b.le c) d ≤ (w.count d : Int)
      unfold setF
      split
      · rename_i q
        subst q
        have := this.1
        split <;> omega
      · exact this.1
  | most c v =>
    show (alOk b w ∧ cntOk (mostB b c v) l w) ↔ _ ∧ (w.count c : Int) ≤ v
    rw [and_assoc]
    refine and_congr_right fun _ => ?_
    constructor
    · intro h
      refine ⟨fun d hd => ?_, ?_⟩
      · have := h d hd
        have h1 : (w.count d : Int) ≤ setF b.gr c (if v < b.gr c then v else b.gr c) d := this.2
        unfold setF at h1
        refine ⟨this.1, ?_⟩
        split at h1
        · rename_i q
          subst q
          split at h1 <;> omega
        · exact h1
      · have h1 : (w.count c : Int) ≤ setF b.gr c (if v < b.gr c then v else b.gr c) c := (h c fk.1).2
        unfold setF at h1
        rw [if_pos rfl] at h1
        split at h1 <;> omega
    · rintro ⟨h, hv⟩ d hd
      have := h d hd
      refine ⟨this.1, ?_⟩
      show (w.count d : Int) ≤ setF b.gr c (if v < b.gr c then v else b.gr c) d
      unfold setF
      split
      · rename_i q
        subst q
        have := this.2
        split <;> omega
      · exact this.2
theorem fct_fold {l w : List Nat} {n : Nat} (hw : w.length = n) : ∀ (fs : List Fct) (b : BS), b.al.length = n → (∀ f ∈ fs, FctOk l n f) → ((alOk (fs.foldl fctB b) w ∧ cntOk (fs.foldl fctB b) l w) ↔ (alOk b w ∧ cntOk b l w) ∧ hasAll fs w)
  | [], b, _, _ => ⟨fun h => ⟨h, fun f hf => nomatch hf⟩, fun h => h.1⟩
  | f :: fs, b, hb, hf => by
    have fk := hf f (List.mem_cons_self ..)
    have hb' : (fctB b f).al.length = n := by
      cases f with
      | at_ i c => exact (List.length_modify ..).trans hb
      | out i c => exact (List.length_modify ..).trans hb
      | least c v => exact hb
      | most c v => exact hb
    rw [List.foldl_cons, fct_fold hw fs (fctB b f) hb' fun g hg => hf g (List.mem_cons_of_mem _ hg), fct_step (by omega) (by rw [hb]; exact fk), and_assoc]
    refine and_congr_right fun _ => ?_
    unfold hasAll
    rw [List.forall_mem_cons]
theorem fits_keepG {n : Int} {l w : List Nat} {rows : List Row} {facts : List Fct} (n0 : 0 ≤ n) (hw : (w.length : Int) = n) (hr : ∀ r ∈ rows, RowOk l n r) (hf : ∀ f ∈ facts, FctOk l n.toNat f) :
    (alOk (bsG l n.toNat rows facts) w ∧ cntOk (bsG l n.toNat rows facts) l w ∧ rows.all (fun r => ordOk r.1 r.2) = true) ↔ (∀ c ∈ w, c ∈ l) ∧ (∀ r ∈ rows, mk r.1 w = r.2) ∧ hasAll facts w := by
  have k := fits_keep (l := l) (w := w) (rows := rows) n0 hw hr
  have bl : (bsOf l n.toNat rows).al.length = n.toNat := bsG_len l n.toNat rows []
  have g := fct_fold (l := l) (w := w) (n := n.toNat) (by omega) facts (bsOf l n.toNat rows) bl hf
  rw [← and_assoc]
  unfold bsG
  rw [g, ← and_assoc, ← k]
  constructor
  · rintro ⟨⟨⟨a, b⟩, c⟩, d⟩; exact ⟨⟨a, b, d⟩, c⟩
  · rintro ⟨⟨a, b, d⟩, c⟩; exact ⟨⟨⟨a, b⟩, c⟩, d⟩
theorem way_memG {l : List Nat} {n : Int} {rows : List Row} {facts : List Fct} (n1 : 1 ≤ n) (hr : ∀ r ∈ rows, RowOk l n r) (hf : ∀ f ∈ facts, FctOk l n.toNat f) (s : List Nat) :
    s ∈ (sufs (wdG l n rows facts).al).filter (okc (wdG l n rows facts).ct (wdG l n rows facts).le (wdG l n rows facts).gr (List.replicate (wdG l n rows facts).ct.length 0)) ↔ (s.length : Int) = n ∧ (∀ c ∈ s, c ∈ l) ∧ fitW rows s ∧ hasAll facts s := by
  have bl : (bsG l n.toNat rows facts).al.length = n.toNat := bsG_len ..
  have gn := gr_nonnegG l n.toNat rows facts hf
  rw [List.mem_filter, mem_sufs, okc_iff]
  show (s.length = ((bsG l n.toNat rows facts).al.map fun t => cc t (usOf l (bsG l n.toNat rows facts) rows)).length ∧ ∀ i c, s[i]? = some c → c ∈ ((bsG l n.toNat rows facts).al.map fun t => cc t (usOf l (bsG l n.toNat rows facts) rows)).getD i []) ∧
    (∀ j, j < (ctOf l n (bsG l n.toNat rows facts)).length → ((ctOf l n (bsG l n.toNat rows facts)).map (bsG l n.toNat rows facts).le).getD j 0 ≤ (List.replicate (ctOf l n (bsG l n.toNat rows facts)).length (0 : Int)).getD j 0 + (s.count ((ctOf l n (bsG l n.toNat rows facts)).getD j 0) : Int) ∧
      (List.replicate (ctOf l n (bsG l n.toNat rows facts)).length (0 : Int)).getD j 0 + (s.count ((ctOf l n (bsG l n.toNat rows facts)).getD j 0) : Int) ≤ ((ctOf l n (bsG l n.toNat rows facts)).map (bsG l n.toNat rows facts).gr).getD j 0) ↔ _
  rw [List.length_map, bl]
  have keep : (s.length : Int) = n → _ := fun hs => fits_keepG (l := l) (w := s) (rows := rows) (facts := facts) (by omega) hs hr hf
  unfold fitW
  generalize bsG l n.toNat rows facts = B at keep bl gn ⊢
  have cell : ∀ i, (B.al.map fun t => cc t (usOf l B rows)).getD i [] = cc (B.al.getD i []) (usOf l B rows) := fun i => by
    simp only [List.getD_eq_getElem?_getD, List.getElem?_map]
    cases B.al[i]? with
    | none => rfl
    | some t => rfl
  constructor
  · rintro ⟨⟨h1, h2⟩, h3⟩
    have hs : (s.length : Int) = n := by omega
    refine ⟨hs, ?_⟩
    rw [← keep hs]
    have h2' : ∀ i c, s[i]? = some c → c ∈ B.al.getD i [] ∧ c ∈ usOf l B rows := fun i c hc => by
      have := h2 i c hc
      rw [cell] at this
      exact cc_mem.mp this
    have inUs : ∀ c ∈ s, c ∈ usOf l B rows := fun c hc => by
      obtain ⟨i, hi⟩ := List.mem_iff_getElem?.mp hc
      exact (h2' i c hi).2
    have ord : rows.all (fun r => ordOk r.1 r.2) = true := by
      cases z : rows.all fun r => ordOk r.1 r.2 with
      | true => rfl
      | false =>
        cases s with
        | nil => simp at h1; omega
        | cons c r =>
          have := inUs c (List.mem_cons_self ..)
          unfold usOf at this
          rw [if_neg (by rw [z]; exact Bool.false_ne_true)] at this
          cases this
    have us : ∀ c ∈ s, 0 < B.gr c := fun c hc => by
      have := inUs c hc
      unfold usOf at this
      rw [if_pos ord] at this
      exact of_decide_eq_true (List.mem_filter.mp this).2
    refine ⟨fun i c hc => (h2' i c hc).1, fun c hc => ?_, ord⟩
    by_cases m : c ∈ ctOf l n B
    · have hi := List.idxOf_lt_length_of_mem m
      have := h3 _ hi
      rw [map_getD _ hi, map_getD _ hi, zeros_getD, at_idx m] at this
      omega
    · have m' : ¬ (0 < B.le c ∨ (0 < B.gr c ∧ B.gr c < n)) := fun z => m (List.mem_filter.mpr ⟨hc, by
        rcases z with z | z
        · simp [z]
        · simp [z.1, z.2]⟩)
      have c1 : s.count c ≤ s.length := List.count_le_length
      have g0 := gn c
      by_cases z : 0 < B.gr c
      · omega
      · have : s.count c = 0 := List.count_eq_zero.mpr fun y => z (us c y)
        omega
  · rintro ⟨hs, h⟩
    obtain ⟨h1, h2, h3⟩ := (keep hs).mpr h
    refine ⟨⟨by omega, fun i c hc => ?_⟩, fun j hj => ?_⟩
    · rw [cell]
      refine cc_mem.mpr ⟨h1 i c hc, ?_⟩
      unfold usOf
      rw [if_pos h3]
      have hm := List.mem_of_getElem? hc
      have hl := h.1 c hm
      refine List.mem_filter.mpr ⟨hl, decide_eq_true ?_⟩
      have := (h2 c hl).2
      have : 0 < s.count c := List.count_pos_iff.mpr hm
      omega
    · rw [map_getD _ hj, map_getD _ hj, zeros_getD]
      have := h2 _ (ct_sub (at_mem hj))
      omega
theorem ways_eqG {l : List Nat} {n : Int} {rows : List Row} {facts : List Fct} (nd : l.Nodup) (hf : ∀ f ∈ facts, FctOk l n.toNat f) : ways (wdG l n rows facts) 0 (List.replicate (wdG l n rows facts).ct.length 0) =
    (((sufs (wdG l n rows facts).al).filter (okc (wdG l n rows facts).ct (wdG l n rows facts).le (wdG l n rows facts).gr (List.replicate (wdG l n rows facts).ct.length 0))).length : Int) := by
  unfold ways
  rw [List.drop_zero]
  refine way_count (nd.filter _) (List.length_map ..) _ _ (List.length_replicate ..) fun j hj => ?_
  rw [zeros_getD]
  have e : (wdG l n rows facts).gr.getD j 0 = (bsG l n.toNat rows facts).gr ((ctOf l n (bsG l n.toNat rows facts)).getD j 0) := map_getD _ hj
  rw [e]
  exact gr_nonnegG l n.toNat rows facts hf _
def cntG (l : List Nat) (n : Int) (rows : List Row) (facts : List Fct) : Int := ways (wdG l n rows facts) 0 (List.replicate (wdG l n rows facts).ct.length 0)
theorem facts_nd : ∀ (fs : List Fct) (b : BS), (∀ x ∈ b.al, x.Nodup) → ∀ x ∈ (fs.foldl fctB b).al, x.Nodup
  | [], _, h => h
  | f :: fs, b, h => facts_nd fs (fctB b f) (by
    cases f with
    | at_ i c =>
      refine nd_modify (fun t _ => ?_) h i
      split
      · exact List.nodup_cons.mpr ⟨List.not_mem_nil, List.nodup_nil⟩
      · exact List.nodup_nil
    | out i c => exact nd_modify (fun t ht => ht.filter _) h i
    | least c v => exact h
    | most c v => exact h)
theorem wd_ndG {l : List Nat} {n : Int} {rows : List Row} {facts : List Fct} (nd : l.Nodup) : ∀ a ∈ (wdG l n rows facts).al, a.Nodup := by
  intro a ha
  obtain ⟨t, ht, rfl⟩ := List.mem_map.mp ha
  have h : ∀ x ∈ (bsG l n.toNat rows facts).al, x.Nodup := facts_nd facts _ (rows_nd rows (bs0 l n.toNat) fun x hx => by
    have hx : x ∈ List.replicate n.toNat l := hx
    rw [(List.mem_replicate.mp hx).2]
    exact nd)
  exact (h t ht).filter _
theorem cnt_eqG {l : List Nat} {n : Int} {rows : List Row} {facts : List Fct} (n1 : 1 ≤ n) (nd : l.Nodup) (hr : ∀ r ∈ rows, RowOk l n r) (hf : ∀ f ∈ facts, FctOk l n.toNat f) : cntG l n rows facts = (((leftL l n rows).filter fun w => decide (hasAll facts w)).length : Int) := by
  unfold cntG
  rw [ways_eqG nd hf]
  congr 1
  refine List.Perm.length_eq ((List.perm_ext_iff_of_nodup ((sufs_nodup (wd_ndG nd)).filter _) (((wds_nd nd _).filter _).filter _)).mpr fun s => ?_)
  rw [way_memG n1 hr hf s, List.mem_filter, decide_eq_true_iff, show s ∈ (wds l n.toNat).filter (fitsB rows) ↔ _ from mem_leftL (by omega)]
  constructor
  · rintro ⟨a, b, c, d⟩; exact ⟨⟨a, b, c⟩, d⟩
  · rintro ⟨⟨a, b, c⟩, d⟩; exact ⟨a, b, c, d⟩
theorem wd_okG {l : List Nat} {n : Int} {rows : List Row} {facts : List Fct} (l26 : l.length ≤ 26) (n0 : 0 ≤ n) (n6 : n ≤ 6) : WOk (wdG l n rows facts) := by
  have b0 := bsF_ok rows (bs0 l n.toNat) (n := n.toNat) (List.length_replicate ..) (fun y hy => by rw [(List.mem_replicate.mp hy).2]; exact l26)
  have bo : (bsG l n.toNat rows facts).al.length = n.toNat ∧ ∀ y ∈ (bsG l n.toNat rows facts).al, y.length ≤ 26 := bsG_ok facts (bsOf l n.toNat rows) b0.1 b0.2
  refine ⟨?_, ?_, ?_, fun a ha => ?_, ?_⟩
  · exact List.length_map ..
  · exact List.length_map ..
  · show (List.map _ _).length ≤ 6
    rw [List.length_map, bo.1]
    omega
  · obtain ⟨t, ht, rfl⟩ := List.mem_map.mp ha
    exact Nat.le_trans (cc_le _ _) (bo.2 t ht)
  · exact Nat.le_trans (List.length_filter_le _ _) l26
section
variable {P : Program} {w : World} {K : PySem.W.Frag} {mg : Str → Option Value} {base : Heap}
theorem ok_winitF {f fI fO fC fN C CB CW : Addr} {fd fdI fdO fdC fdN : FuncData} (F : Fun K "__init__" "Words.__init__" sWInit f fd) (T : TxN K mg CW) (TB : TxBd K mg CB) (TC : TxC K mg C) (all : mg "all" = none) (mB : mg "Bounds" = some (.ref CB))
    (M : Mk K CB fI) (GI : FnOk P w K mg base CX0 3 fI fdI ["self", "board", "rows", "facts"] (spBInitF C CB)) (bI : Binds K fdI ["self", "board", "rows", "facts"] []) (GO : FnOk P w K mg base CX0 2 fO fdO ["guess", "told"] spOrd) (DO : Df K mg "is_in_order" fO fdO ["guess", "told"])
    (GC : FnOk P w K mg base CX0 1 fC fdC ["letters", "others"] spComm) (DC : Df K mg "common_letters" fC fdC ["letters", "others"]) (GN : FnOk P w K mg base CX0 1 fN fdN ["board", "bounds"] (spCnt C CB)) (DN : Df K mg "counted_letters" fN fdN ["board", "bounds"]) :
    FnOk P w K mg base CX0 5 f fd ["self", "board", "rows", "facts"] (spWInitF P w C CB CW) := by
  refine F.ok scWI (fun vs H Q E h => ?_) (fun cdv A outer s H vs Q E hr h => ?_)
  · obtain ⟨p, dx, b, r, e, l, n, rows, facts, fvs, rfl, _⟩ := h
    rfl
  · obtain ⟨p, dx, b, r, e, l, n, rows, facts, fvs, rfl, hp, hb, hrw, rok, r1000, he, hfs, fok, fin⟩ := h
    have nd := scWI.nd
    have hline : sizeLine = 16777216 := sizeLine_eq
    have hu1 : (A.deeper (PyProof.Rows.envOfC "Words.__init__" (defScope sWInit) s.heap.objs.size f cdv)).units + 1 < cLine := by
      have := hr.un
      omega
    have hr1 : Room 1 _ := hr.mono (by decide)
    have hr2 : Room 2 _ := hr.mono (by decide)
    have hr4 : Room (3 + 1) _ := hr
    refine ⟨_, pss_cons (ps_set (i := 4) nd rfl (Or.inr rfl) (pe_make M GI hr4 (by rfl) mB bI .nil pass0 (pa_cons (pv 1) (pa_cons (pv 2) (pa_cons (pv 3) pa_nil)))))
      (pss_cons (ps_set (i := 5) nd rfl (Or.inr rfl) (pe_join pe_str (pe_lc (tt := tTest (tOp (rI0 fun i j => .bl (decide (j < i))) (tDGet (tFld K (tVar 4) "greatest") (tVar 6)) (tC (.int 0)))) (own := [("letter", 6)]) (g := gName 6) (by rfl) nd (pi_str (pe_fld (pv 1) rfl)) (blkOk_by (own := [("letter", 6)]) (N := nWI) (sc := defScope sWInit) (by decide +kernel))
          (fun _ _ _ _ _ => pg_name (i := 6) nd rfl (Or.inl rfl)) (fun _ _ _ _ _ => by exact pts_one (pt_cmpR op_gt (pe_dget hu1 (pe_fld (pv 4) rfl) (pv 6) (fun _ _ => rfl)) pe_int (nomark _))) (fun _ _ _ _ _ => pv 6))))
      (C8.pss_cut (ps_if (pt_not (pt_val (pe_callB (cr_all rfl) (by rfl) all (by decide +kernel) (pa_cons (pe_lc (own := [("guess", 7), ("told", 8)]) (g := gTup K 2 (gCons (gName 7) (gCons (gName 8) gNil))) (by rfl) nd (pi_tup (pv 2)) (blkOk_by (own := [("guess", 7), ("told", 8)]) (N := nWI) (sc := defScope sWInit) (by decide +kernel))
          (fun _ _ _ _ _ => by exact pg_tup (by rfl) (pgs_cons (pg_name (i := 7) nd rfl (Or.inl rfl)) (pgs_cons (pg_name (i := 8) nd rfl (Or.inl rfl)) pgs_nil))) (fun _ _ _ _ _ => pts_nil) (fun _ _ _ _ _ => pe_call GO hr2 (by rfl) DO.mg DO.kp DO.b .nil pass0 (pa_cons (pv 7) (pa_cons (pv 8) pa_nil)))) pa_nil)))) (pss_one (ps_set (i := 5) nd rfl (Or.inr rfl) pe_str)) pss_nil)
      (pss_cons (ps_fld (pv 0) (pe_lc (own := [("letters", 9)]) (g := gName 9) (by rfl) nd (pi_list (pe_fld (pv 4) rfl)) (blkOk_by (own := [("letters", 9)]) (N := nWI) (sc := defScope sWInit) (by decide +kernel))
          (fun _ _ _ _ _ => pg_name (i := 9) nd rfl (Or.inl rfl)) (fun _ _ _ _ _ => pts_nil) (fun _ _ _ _ _ => pe_call GC hr1 (by rfl) DC.mg DC.kp DC.b .nil pass0 (pa_cons (pv 9) (pa_cons (pv 5) pa_nil)))) rfl)
      (pss_cons (ps_fld (pv 0) (pe_call GN hr1 (by rfl) DN.mg DN.kp DN.b .nil pass0 (pa_cons (pv 1) (pa_cons (pv 4) pa_nil))) rfl)
      (pss_cons (ps_fld (pv 0) (pe_lc (te := tDGet (tFld K (tVar 4) "least") (tVar 6)) (own := [("letter", 6)]) (g := gName 6) (by rfl) nd (pi_str (pe_fld (pv 0) rfl)) (blkOk_by (own := [("letter", 6)]) (N := nWI) (sc := defScope sWInit) (by decide +kernel))
          (fun _ _ _ _ _ => pg_name (i := 6) nd rfl (Or.inl rfl)) (fun _ _ _ _ _ => pts_nil) (fun _ _ _ _ _ => by exact pe_dget hu1 (pe_fld (pv 4) rfl) (pv 6) (fun _ _ => rfl))) rfl)
      (pss_cons (ps_fld (pv 0) (pe_lc (te := tDGet (tFld K (tVar 4) "greatest") (tVar 6)) (own := [("letter", 6)]) (g := gName 6) (by rfl) nd (pi_str (pe_fld (pv 0) rfl)) (blkOk_by (own := [("letter", 6)]) (N := nWI) (sc := defScope sWInit) (by decide +kernel))
          (fun _ _ _ _ _ => pg_name (i := 6) nd rfl (Or.inl rfl)) (fun _ _ _ _ _ => pts_nil) (fun _ _ _ _ _ => by exact pe_dget hu1 (pe_fld (pv 4) rfl) (pv 6) (fun _ _ => rfl))) rfl)
      (pss_one (ps_fld (pv 0) pe_mnew rfl)))))))), ?_⟩
    obtain ⟨vs, hv, hw⟩ := _root_.id hrw
    obtain ⟨⟨⟨dxb, hbd⟩, l26, n1, n6⟩, lnd⟩ := _root_.id hb
    refine ⟨_, rfl, _, rfl, _, rfl, fun x dxx nx ndx ne => ?_⟩
    have sm0 : Same H (upd (upd H dxx (.own x)) x (.ins CB dxx [])) := fun a o z => by rw [upd_ne (ne_of_none z nx), upd_ne (ne_of_none z ndx)]; exact z
    refine ⟨x, dxx, b, r, e, l, n, rows, facts, fvs, rfl, upd_same, hb.same sm0, hrw.same sm0, rok, sm0 _ _ he, hfs.same sm0, fok, fun H1 q b1 bt1 => ⟨rfl, ?_⟩⟩
    have s1 : Same H H1 := fun a o z => b1 a o (ne_of_none z nx) (sm0 a o z)
    have bo0 := bsF_ok rows (bs0 l n.toNat) (n := n.toNat) (List.length_replicate ..) (fun y hy => by rw [(List.mem_replicate.mp hy).2]; exact l26)
    have bo := bsG_ok facts (bsOf l n.toNat rows) bo0.1 bo0.2
    have bo : (bsG l n.toNat rows facts).al.length = n.toNat ∧ ∀ y ∈ (bsG l n.toNat rows facts).al, y.length ≤ 26 := bo
    have ewd : wdG l n rows facts = ⟨(bsG l n.toNat rows facts).al.map fun t => cc t (usOf l (bsG l n.toNat rows facts) rows), ctOf l n (bsG l n.toNat rows facts), (ctOf l n (bsG l n.toNat rows facts)).map (bsG l n.toNat rows facts).le, (ctOf l n (bsG l n.toNat rows facts)).map (bsG l n.toNat rows facts).gr⟩ := rfl
    rw [ewd] at fin
    clear ewd
    generalize bsG l n.toNat rows facts = B at bt1 bo fin
    have ct26 : (ctOf l n B).length ≤ 26 := Nat.le_trans (List.length_filter_le _ _) l26
    have hbd1 := s1 _ _ hbd
    have hv1 := s1 _ _ hv
    have hw1 := hw.same s1
    refine ⟨⟨_, rfl⟩, _, rfl, b, C, dxb, _, _, rfl, hbd1, TC.cl, TC.nL, bf_letters _ _, tx l, rfl, fun D hD => ?_⟩
    refine lc_it (walk_str (z := tx l)) (fun i H' => Same H1 H' ∧ H' D = some (.lst (((l.take i).filter fun c => decide (0 < B.gr c)).map fun c => V.str (one c)))) ⟨same_upd hD, upd_same⟩ (fun _ _ _ _ => trivial) ?_ ?_
    · rintro i x0 H3 H2 hi ⟨sm, hd⟩ ⟨rfl, c, hc, rfl⟩
      have hc' := tx_at hc
      have hlt := (List.getElem?_eq_some_iff.mp hc').1
      have hcl := List.mem_of_getElem? hc'
      have bt' := bt1.same sm
      have g1 := DGet.k (k := Sum.inr (one c)) bt'.g
      rw [valV_of hcl] at g1
      have st : (l.take (i + 1)).filter (fun c => decide (0 < B.gr c)) = (l.take i).filter (fun c => decide (0 < B.gr c)) ++ (if decide (0 < B.gr c) = true then [c] else []) := by
        rw [List.take_succ_eq_append_getElem hlt, (List.getElem?_eq_some_iff.mp hc').2, List.filter_append, List.filter_cons, List.filter_nil]
      refine ⟨rfl, _, rfl, x, CB, q.dx, _, _, rfl, bt'.p, TB.cl, TB.nG, bf_gr q.a q.l q.g, _, rfl, q.g, _, rfl, g1, _, _, rfl, rfl, _, rfl, ?_⟩
      refine ite2 (fun hm => ?_) (fun hm => ?_)
      · rw [if_pos hm] at st
        refine ⟨_, rfl, _, hd, ?_, fun o u z => ?_, ?_⟩
        · have h1 := List.length_filter_le (fun c => decide (0 < B.gr c)) (l.take i)
          rw [List.length_take] at h1
          rw [List.length_map]
          omega
        · rw [upd_ne (ne_of_none z hD)]
          exact sm o u z
        · rw [upd_same, st, List.map_append]
          rfl
      · rw [if_neg hm, List.append_nil] at st
        exact ⟨sm, by rw [st]; exact hd⟩
    rintro H2 ⟨s2, hD2⟩
    rw [tx_size, List.take_length] at hD2
    refine ⟨_, D, (l.filter fun c => decide (0 < B.gr c)).map one, rfl, rfl, .inl (SqL.of (by rw [List.map_map]; exact hD2)), ?_, ?_⟩
    · have h1 := List.length_filter_le (fun c => decide (0 < B.gr c)) l
      rw [sum_one, List.length_map]
      show (l.filter fun c => decide (0 < B.gr c)).length + (l.filter fun c => decide (0 < B.gr c)).length * 0 ≤ 16777216
      omega
    rw [join_one]
    refine ⟨fun σ H' => ∃ us : List Nat, σ = [some (.ref p), some (.ref b), some (.ref r), some (.ref e), some (.ref x), some (.str (tx us)), none, none, none, none] ∧ Same H1 H' ∧ us = usOf l B rows, ?_, ?_⟩
    · refine ⟨_, rfl, r, rfl, ⟨vs, SqT.of (s2 _ _ hv1)⟩, fun D2 hD2 => ?_⟩
      refine lc_it (walk_tup (xs := vs)) (fun i H' => Same H2 H' ∧ H' D2 = some (.lst (((rows.take i).map fun r => ordOk r.1 r.2).map V.bl))) ⟨same_upd hD2, upd_same⟩ (fun i H' _ h => SqT.of (h.1 _ _ (s2 _ _ hv1))) ?_ ?_
      · rintro i x0 H4 H3 hi ⟨sm, hd⟩ ⟨rfl, hx⟩
        obtain ⟨a, row, rfl, hrow, ha⟩ := hw1.get hx
        have rk := rok row (List.mem_of_getElem? hrow)
        have hlt := (List.getElem?_eq_some_iff.mp hrow).1
        have k1 := rk.1.1
        have k2 := rk.2.1
        refine ⟨a, _, rfl, SqT.of (sm _ _ (s2 _ _ ha)), rfl, _, _, rfl, _, _, rfl, rfl, rfl, _, rfl, _, rfl, row.1, row.2, rfl, by omega, by omega, fun H5 s5 => ⟨_, s5 _ _ hd, ?_, fun o u z => ?_, ?_⟩⟩
        · rw [List.length_map, List.length_map, List.length_take]
          omega
        · rw [upd_ne (ne_of_none z hD2)]
          exact (sm.trans s5) o u z
        · rw [upd_same, List.take_succ_eq_append_getElem hlt, (List.getElem?_eq_some_iff.mp hrow).2, List.map_append, List.map_append]
          rfl
      · rintro H3 ⟨sm, hd⟩
        rw [hw1.len, List.take_length] at hd
        refine ⟨D2, _, rfl, SqL.of hd, _, rfl, ?_⟩
        have ea : ((rows.map fun r => ordOk r.1 r.2).all _root_.id) = rows.all fun r => ordOk r.1 r.2 := by
          rw [List.all_map]
          rfl
        rw [ea]
        cases eo : rows.all fun r => ordOk r.1 r.2 with
        | true => exact iteF ⟨_, rfl, s2.trans sm, by unfold usOf; rw [if_pos eo]⟩
        | false => exact iteT ⟨[], rfl, s2.trans sm, by unfold usOf; rw [if_neg (by rw [eo]; exact Bool.false_ne_true)]⟩
    rintro σ H3 ⟨us, rfl, s3, eus⟩
    rw [← eus] at fin
    clear eus hD2 s2 hD D
    have bt3 := bt1.same s3
    have s03 := s1.trans s3
    have hp3 := s03 _ _ hp
    have hb3 := hb.same s03
    have px : p ≠ x := ne_of_none hp nx
    refine ⟨_, rfl, x, CB, q.dx, _, _, rfl, bt3.p, TB.cl, TB.nA, bf_al q.a q.l q.g, q.a, rfl, ⟨_, SqL.of bt3.a⟩, fun D hD => ?_⟩
    refine lc_it (walk_list (xs := alV B.al)) (fun i H' => Same H3 H' ∧ H' D = some (.lst (alV ((B.al.take i).map fun t => cc t us)))) ⟨same_upd hD, upd_same⟩ (fun i H' _ h => SqL.of (h.1 _ _ bt3.a)) ?_ ?_
    · rintro i x0 H5 H4 hi ⟨sm, hd⟩ ⟨rfl, hx⟩
      obtain ⟨t, ht, rfl⟩ : ∃ t, B.al[i]? = some t ∧ V.str (tx t) = x0 := by
        unfold alV at hx
        rw [List.getElem?_map] at hx
        obtain ⟨t, h1, h2⟩ := Option.map_eq_some_iff.mp hx
        exact ⟨t, h1, h2⟩
      have hlt := (List.getElem?_eq_some_iff.mp ht).1
      have b6 := bo.1
      refine ⟨rfl, _, rfl, _, rfl, t, us, rfl, bo.2 t (List.mem_of_getElem? ht), fun H6 s6 => ⟨_, s6 _ _ hd, ?_, fun o u z => ?_, ?_⟩⟩
      · unfold alV
        rw [List.length_map, List.length_map, List.length_take]
        omega
      · rw [upd_ne (ne_of_none z hD)]
        exact (sm.trans s6) o u z
      · rw [upd_same, List.take_succ_eq_append_getElem hlt, (List.getElem?_eq_some_iff.mp ht).2, List.map_append]
        unfold alV
        rw [List.map_append]
        rfl
    rintro H4 ⟨s4, hD4⟩
    have lal : (alV B.al).length = B.al.length := List.length_map ..
    rw [lal, List.take_length] at hD4
    refine ⟨_, rfl, p, CW, dx, _, rfl, s4 _ _ hp3, T.cl, T.nA, by show 0 < 1000; decide, ?_⟩
    have pD : p ≠ D := ne_of_none hp3 hD
    have eA : upd H4 p (.ins CW dx (putF "allowed" (.ref D) [])) p = some (.ins CW dx (putF "allowed" (.ref D) [])) := upd_same
    have kA : ∀ a o, a ≠ p → H4 a = some o → upd H4 p (.ins CW dx (putF "allowed" (.ref D) [])) a = some o := fun a o n z => by rw [upd_ne n]; exact z
    generalize upd H4 p (.ins CW dx (putF "allowed" (.ref D) [])) = HA at eA kA
    have keep : ∀ a o, a ≠ p → H a = some o → HA a = some o := fun a o n z => kA a o n (s4 _ _ (s03 _ _ z))
    have pb : b ≠ p := by
      intro z
      rw [z, hp] at hbd
      have h3 := (HO.ins.inj (Option.some.inj hbd)).2.2
      rw [bf_eq] at h3
      cases h3
    have hbA : Bd C HA b l n := ⟨⟨dxb, keep _ _ pb hbd⟩, l26, n1, n6⟩
    have pqa : q.a ≠ p := ne_of bt3.a hp3 fun z => nomatch z
    have pql : q.l ≠ p := ne_of bt3.l hp3 fun z => nomatch z
    have pqg : q.g ≠ p := ne_of bt3.g hp3 fun z => nomatch z
    have btK : ∀ {HX HY : Hp}, BAt CB HX x q l B → (∀ a o, a ≠ p → HX a = some o → HY a = some o) → BAt CB HY x q l B := fun {HX HY} y k => ⟨k _ _ px.symm y.p, k _ _ pqa y.a, k _ _ pql y.l, k _ _ pqg y.g, y.n⟩
    have btA : BAt CB HA x q l B := btK (bt3.same s4) kA
    have dA := kA _ _ pD.symm hD4
    refine ⟨_, rfl, _, rfl, b, x, q, l, n, B, rfl, hbA, btA, ?_⟩
    refine ⟨_, rfl, p, CW, dx, _, rfl, eA, T.cl, T.nC, by show 1 < 1000; decide, ?_⟩
    rw [wf_p2]
    have eB : upd HA p (.ins CW dx [("allowed", .ref D), ("counted", .str (tx (ctOf l n B)))]) p = some (.ins CW dx [("allowed", .ref D), ("counted", .str (tx (ctOf l n B)))]) := upd_same
    have kB : ∀ a o, a ≠ p → HA a = some o → upd HA p (.ins CW dx [("allowed", .ref D), ("counted", .str (tx (ctOf l n B)))]) a = some o := fun a o n z => by rw [upd_ne n]; exact z
    generalize upd HA p (.ins CW dx [("allowed", .ref D), ("counted", .str (tx (ctOf l n B)))]) = HB at eB kB
    have btB := btK btA kB
    have dB := kB _ _ pD.symm dA
    refine ⟨_, rfl, p, CW, dx, _, _, rfl, eB, T.cl, T.nC, wl_ct _ _ _, tx (ctOf l n B), rfl, fun E hE => ?_⟩
    refine lc_it (walk_str (z := tx (ctOf l n B))) (fun i H' => Same HB H' ∧ H' E = some (.lst ((((ctOf l n B).take i).map B.le).map V.int))) ⟨same_upd hE, upd_same⟩ (fun _ _ _ _ => trivial) ?_ ?_
    · rintro i x0 H7 H6 hi ⟨sm, hd⟩ ⟨rfl, c, hc, rfl⟩
      have hc' := tx_at hc
      have hlt := (List.getElem?_eq_some_iff.mp hc').1
      have hcl := ct_sub (List.mem_of_getElem? hc')
      have bt' := btB.same sm
      have g0 := DGet.k (k := Sum.inr (one c)) bt'.l
      rw [valV_of hcl] at g0
      refine ⟨rfl, _, rfl, x, CB, q.dx, _, _, rfl, bt'.p, TB.cl, TB.nL, bf_le q.a q.l q.g, _, rfl, q.l, _, rfl, g0, _, hd, ?_, fun a o z => ?_, ?_⟩
      · rw [List.length_map, List.length_map, List.length_take]
        omega
      · rw [upd_ne (ne_of_none z hE)]
        exact sm a o z
      · rw [upd_same, List.take_succ_eq_append_getElem hlt, (List.getElem?_eq_some_iff.mp hc').2, List.map_append, List.map_append]
        rfl
    rintro HE ⟨sE, dE⟩
    rw [tx_size, List.take_length] at dE
    have eB' := sE _ _ eB
    have pE : p ≠ E := ne_of_none eB hE
    refine ⟨_, rfl, p, CW, dx, _, rfl, eB', T.cl, T.nL, by show 2 < 1000; decide, ?_⟩
    rw [wf_p3]
    have eC : upd HE p (.ins CW dx [("allowed", .ref D), ("counted", .str (tx (ctOf l n B))), ("least", .ref E)]) p = some (.ins CW dx [("allowed", .ref D), ("counted", .str (tx (ctOf l n B))), ("least", .ref E)]) := upd_same
    have kC : ∀ a o, a ≠ p → HE a = some o → upd HE p (.ins CW dx [("allowed", .ref D), ("counted", .str (tx (ctOf l n B))), ("least", .ref E)]) a = some o := fun a o n z => by rw [upd_ne n]; exact z
    generalize upd HE p (.ins CW dx [("allowed", .ref D), ("counted", .str (tx (ctOf l n B))), ("least", .ref E)]) = HC at eC kC
    have btC := btK (btB.same sE) kC
    have dC := kC _ _ pD.symm (sE _ _ dB)
    have dEC := kC _ _ pE.symm dE
    refine ⟨_, rfl, p, CW, dx, _, _, rfl, eC, T.cl, T.nC, wl_ct _ _ _, tx (ctOf l n B), rfl, fun G hG => ?_⟩
    refine lc_it (walk_str (z := tx (ctOf l n B))) (fun i H' => Same HC H' ∧ H' G = some (.lst ((((ctOf l n B).take i).map B.gr).map V.int))) ⟨same_upd hG, upd_same⟩ (fun _ _ _ _ => trivial) ?_ ?_
    · rintro i x0 H7 H6 hi ⟨sm, hd⟩ ⟨rfl, c, hc, rfl⟩
      have hc' := tx_at hc
      have hlt := (List.getElem?_eq_some_iff.mp hc').1
      have hcl := ct_sub (List.mem_of_getElem? hc')
      have bt' := btC.same sm
      have g0 := DGet.k (k := Sum.inr (one c)) bt'.g
      rw [valV_of hcl] at g0
      refine ⟨rfl, _, rfl, x, CB, q.dx, _, _, rfl, bt'.p, TB.cl, TB.nG, bf_gr q.a q.l q.g, _, rfl, q.g, _, rfl, g0, _, hd, ?_, fun a o z => ?_, ?_⟩
      · rw [List.length_map, List.length_map, List.length_take]
        omega
      · rw [upd_ne (ne_of_none z hG)]
        exact sm a o z
      · rw [upd_same, List.take_succ_eq_append_getElem hlt, (List.getElem?_eq_some_iff.mp hc').2, List.map_append, List.map_append]
        rfl
    rintro HG ⟨sG, dG⟩
    rw [tx_size, List.take_length] at dG
    have eC' := sG _ _ eC
    have pG : p ≠ G := ne_of_none eC hG
    refine ⟨_, rfl, p, CW, dx, _, rfl, eC', T.cl, T.nG, by show 3 < 1000; decide, ?_⟩
    rw [wf_p4]
    have eD : upd HG p (.ins CW dx [("allowed", .ref D), ("counted", .str (tx (ctOf l n B))), ("least", .ref E), ("greatest", .ref G)]) p = some (.ins CW dx [("allowed", .ref D), ("counted", .str (tx (ctOf l n B))), ("least", .ref E), ("greatest", .ref G)]) := upd_same
    have kD : ∀ a o, a ≠ p → HG a = some o → upd HG p (.ins CW dx [("allowed", .ref D), ("counted", .str (tx (ctOf l n B))), ("least", .ref E), ("greatest", .ref G)]) a = some o := fun a o n z => by rw [upd_ne n]; exact z
    generalize upd HG p (.ins CW dx [("allowed", .ref D), ("counted", .str (tx (ctOf l n B))), ("least", .ref E), ("greatest", .ref G)]) = HD at eD kD
    have dD := kD _ _ pD.symm (sG _ _ dC)
    have dED := kD _ _ pE.symm (sG _ _ dEC)
    have dGD := kD _ _ pG.symm dG
    refine fun m hm => ?_
    have sm := same_upd (o := memoO P w m []) hm
    have pm : p ≠ m := ne_of_none eD hm
    refine ⟨_, rfl, p, CW, dx, _, rfl, sm _ _ eD, T.cl, T.nK, by show 4 < 1000; decide, ?_⟩
    rw [wf_p5]
    have hm0 : H m = none := by
      cases z : H m with
      | none => rfl
      | some o =>
        have := kD _ _ (fun y => pm y.symm) (sG _ _ (kC _ _ (fun y => pm y.symm) (sE _ _ (kB _ _ (fun y => pm y.symm) (keep _ _ (fun y => pm y.symm) z)))))
        rw [hm] at this
        cases this
    refine fin _ m (fun a o n z => ?_) hm0 ⟨dx, D, E, G, upd_same, ?_, ?_, ?_⟩ ⟨[], ?_, (fun _ z => nomatch z), (fun _ z => nomatch z), Nat.le_refl _⟩
    · rw [upd_ne n]
      exact sm _ _ (kD _ _ n (sG _ _ (kC _ _ n (sE _ _ (kB _ _ n (keep _ _ n z))))))
    · rw [upd_ne pD.symm]
      exact sm _ _ dD
    · rw [upd_ne pE.symm]
      exact sm _ _ dED
    · rw [upd_ne pG.symm]
      exact sm _ _ dGD
    · rw [upd_ne pm.symm]
      exact upd_same
end
end Gm

/-! same_words -/
namespace Gm
open PySem L2

/-- what isinstance(x, History) asks -/
structure TxHi (K : PySem.W.Frag) (mg : Str → Option Value) (CH : Addr) : Prop where
  isi : mg "isinstance" = none
  ac : PySem.W.findIn K (.ref CH) "__class__" = some (some (.builtin "object.__class__"))
  gt : PySem.W.specialIn K (.builtin "object.__class__") "__get__" = some (some (.builtin "getset_descriptor.__get__"))
  tk : PySem.W.takesIn K (.builtin "object.__class__") = some true
  ob : PySem.W.mroIn K CH (.type "object") = some true
  own : PySem.W.kitOne K (.ref CH) (.ref CH) = some true
def spChkH (C CH : Addr) : Sp := fun vs H Q _ => ∃ (p : Addr) (l : List Nat) (n : Int) (rows : List Row), vs = [.ref p] ∧ HistAt C CH H p l n rows ∧ Q .non H
section
variable {P : Program} {w : World} {K : PySem.W.Frag} {mg : Str → Option Value} {base : Heap}
theorem take_snoc0 {α : Type} {xs : List α} {i : Nat} {x : α} (h : xs[i]? = some x) : xs.take (i + 1) = xs.take i ++ [x] := by
  rw [List.take_succ_eq_append_getElem (List.getElem?_eq_some_iff.mp h).1, (List.getElem?_eq_some_iff.mp h).2]
theorem cat_rows {K : PySem.W.Frag} {H : Hp} {r r2 : Addr} {vs vs2 : List V} {rows rows2 : List Row} {Q : V → Hp → Prop} (hv : H r = some (.tup vs)) (hw : Rws H vs rows) (hv2 : H r2 = some (.tup vs2)) (hw2 : Rws H vs2 rows2) (hz : vs.length + vs2.length ≤ sizeLine)
    (k : ∀ T H1, Same H H1 → RowsAt H1 T (rows ++ rows2) → Q (.ref T) H1) : rCatA K (.ref r) (.ref r2) H Q := by
  have lv := hw.len
  have lv2 := hw2.len
  refine ⟨r, r2, vs, vs2, rfl, rfl, SqT.of hv, SqT.of hv2, hz, fun e => k r2 H (fun _ _ z => z) ?_, fun _ e => k r H (fun _ _ z => z) ?_, fun _ _ T zT => k T _ (same_upd zT) ⟨_, upd_same, (hw.app hw2).same (same_upd zT)⟩⟩
  · have : rows = [] := List.eq_nil_of_length_eq_zero (by rw [← lv, e]; rfl)
    rw [this]
    exact ⟨vs2, hv2, hw2⟩
  · have : rows2 = [] := List.eq_nil_of_length_eq_zero (by rw [← lv2, e]; rfl)
    rw [this, List.append_nil]
    exact ⟨vs, hv, hw⟩
/-- Words(b, r, ()).many() -/
theorem words_many {C CB CW b r e : Addr} {H : Hp} {l : List Nat} {n : Int} {rows : List Row} {σ : L2.St} {Q : V → Hp → Prop} {E : XK} (hb : Bn C H b l n) (hrw : RowsAt H r rows) (rok : ∀ x ∈ rows, RowOk l n x) (r1000 : rows.length ≤ 1000) (he : H e = some (.tup []))
    (fin : ∀ H', Same H H' → Q (.int (cntW l n rows)) H') : ∀ x dx, H x = none → H dx = none → dx ≠ x →
    spWInit P w C CB CW (.ref x :: ([.ref b, .ref r, .ref e] ++ [])) (upd (upd H dx (.own x)) x (.ins CW dx [])) (fun v H2 => v = .non ∧ ∃ a dx fs, V.ref x = .ref a ∧ H2 a = some (.ins CW dx fs) ∧ fs.lookup ("many" : Str) = none ∧ tNil σ H2 fun vs H3 => spMany P w CW (V.ref x :: (vs ++ [])) H3 Q E) E := by
  intro x dx nx ndx ne
  have hn := hb.1.2
  have sm0 : Same H (upd (upd H dx (.own x)) x (.ins CW dx [])) := fun a o z => by rw [upd_ne (ne_of_none z nx), upd_ne (ne_of_none z ndx)]; exact z
  refine ⟨x, dx, b, r, e, l, n, rows, rfl, upd_same, hb.same sm0, hrw.same sm0, rok, r1000, sm0 _ _ he, fun H1 m b1 m0 fx me => ⟨rfl, ?_⟩⟩
  have s1 : Same H H1 := fun a o z => b1 a o (ne_of_none z nx) (sm0 a o z)
  obtain ⟨dx', a, l', g, hp, _⟩ := _root_.id fx
  refine ⟨x, dx', _, rfl, hp, wf_no a l' g m _ (by decide +kernel), x, m, _, 0, rfl, wd_ok hn.1 (by omega) hn.2.2, fx, me, by rw [Nat.zero_add]; exact (wd_ok hn.1 (by omega) hn.2.2).fit, fun H2 b2 me2 => ?_⟩
  refine fin H2 fun c o z => ?_
  exact b2 c o (ne_of_none (sm0 c o z) m0) (s1 c o z)
theorem scCH : FnScope ["history"] ["history"] (defScope sChkH) := ⟨rfl, rfl, rfl, by decide +kernel, rfl, by decide +kernel, by decide +kernel⟩
theorem ok_chkH {f C CH : Addr} {fd : FuncData} (F : Fun K "check_history" "check_history" sChkH f fd) (TH : TxH K mg CH) (TI : TxHi K mg CH) : FnOk P w K mg base CX0 1 f fd ["history"] (spChkH C CH) := by
  refine F.ok scCH (fun vs H Q E h => ?_) (fun cdv A outer s H vs Q E hr h => ?_)
  · obtain ⟨p, l, n, rows, rfl, _⟩ := h
    rfl
  · obtain ⟨p, l, n, rows, rfl, ⟨dx, b, r, hp, _⟩, q⟩ := h
    refine ⟨_, pss_one (ps_if (pt_not (pt_val (pe_callB call_isi (by rfl) TI.isi (by decide +kernel) (pa_cons (pv 0) (pa_cons (pe_glob (v := .ref CH) (by rfl) TH.mgC rfl) pa_nil))))) (pss_one ps_never) pss_nil), ?_⟩
    exact ⟨_, rfl, _, _, _, _, _, rfl, .own CH, .base (.ins hp TH.cl TI.ac TI.gt TI.tk TI.ob), TI.own, _, rfl, iteF q⟩
end
end Gm

/-! has_word with facts (no 'not') -/
namespace Gm
open PySem L2
def spHasG (C : Addr) : Sp := fun vs H Q _ => ∃ (b r e : Addr) (l : List Nat) (n : Int) (rows : List Row) (facts : List Fct) (fvs : List V), vs = [.ref b, .ref r, .ref e] ∧ Bn C H b l n ∧ l.Nodup ∧ RowsAt H r rows ∧ (∀ x ∈ rows, RowOk l n x) ∧ rows.length ≤ 1000 ∧ H e = some (.tup fvs) ∧ Fcs H fvs facts ∧ (∀ f ∈ facts, FctOk l n.toNat f ∧ Easy f) ∧
  ∀ H', Same H H' → Q (.bl ((leftL l n rows).any fun w => decide (hasAll facts w))) H'
theorem cnt_any {l : List Nat} {n : Int} {rows : List Row} {facts : List Fct} (n1 : 1 ≤ n) (nd : l.Nodup) (hr : ∀ r ∈ rows, RowOk l n r) (hf : ∀ f ∈ facts, FctOk l n.toNat f) : decide (0 < ways (wdG l n rows facts) 0 (List.replicate (wdG l n rows facts).ct.length 0)) = (leftL l n rows).any fun w => decide (hasAll facts w) := by
  have e := cnt_eqG n1 nd hr hf
  unfold cntG at e
  rw [e, Bool.eq_iff_iff, decide_eq_true_iff, List.any_eq_true]
  constructor
  · intro h
    obtain ⟨w, hw⟩ := List.exists_mem_of_length_pos (show 0 < ((leftL l n rows).filter fun w => decide (hasAll facts w)).length by omega)
    exact ⟨w, (List.mem_filter.mp hw).1, (List.mem_filter.mp hw).2⟩
  · rintro ⟨w, h1, h2⟩
    have := List.length_pos_of_mem (List.mem_filter (p := fun w => decide (hasAll facts w)).mpr ⟨h1, h2⟩)
    omega
section
variable {P : Program} {w : World} {K : PySem.W.Frag} {mg : Str → Option Value} {base : Heap}
theorem ok_hasG {n0 : Nat} {f fI fM C CB CW : Addr} {fd fdI fdM : FuncData} (F : Fun K "has_word" "has_word" sHas f fd) (T : TxN K mg CW) (mW : mg "Words" = some (.ref CW)) (M : Mk K CW fI) (GI : FnOk P w K mg base CX0 5 fI fdI ["self", "board", "rows", "facts"] (spWInitF P w C CB CW)) (bI : Binds K fdI ["self", "board", "rows", "facts"] [])
    (mM : Meth K CW "many" fM) (GM : FnOk P w K mg base CX0 (n0 + 6) fM fdM ["self"] (spMany P w CW)) (bM : Binds K fdM ["self"] []) : FnOk P w K mg base CX0 (n0 + 7) f fd ["board", "rows", "facts"] (spHasG C) := by
  refine F.ok scHW (fun vs H Q E h => ?_) (fun cdv A outer s H vs Q E hr h => ?_)
  · obtain ⟨b, r, e, l, n, rows, facts, fvs, rfl, _⟩ := h
    rfl
  · obtain ⟨b, r, e, l, n, rows, facts, fvs, rfl, hb, lnd, hrw, rok, r1000, he, hf, fok, fin⟩ := h
    have nd := scHW.nd
    have hr6 : Room (5 + 1) _ := hr.mono (by omega)
    have hn := hb.1.2
    refine ⟨_, pss_one (ps_ret (pe_cmpR op_gt (pe_meth0 (pe_make M GI hr6 (by rfl) mW bI .nil pass0 (pa_cons (pv 0) (pa_cons (pv 1) (pa_cons (pv 2) pa_nil)))) T.cl mM GM hr bM .nil pass0) pe_int (nomark _))), ?_⟩
    refine ⟨_, rfl, _, rfl, _, rfl, fun x dx nx ndx ne => ?_⟩
    have sm0 : Same H (upd (upd H dx (.own x)) x (.ins CW dx [])) := fun a o z => by rw [upd_ne (ne_of_none z nx), upd_ne (ne_of_none z ndx)]; exact z
    refine ⟨x, dx, b, r, e, l, n, rows, facts, fvs, rfl, upd_same, hb.same sm0, hrw.same sm0, rok, r1000, sm0 _ _ he, hf.same sm0, fok, fun H1 m b1 m0 fx me => ⟨rfl, ?_⟩⟩
    have s1 : Same H H1 := fun a o z => b1 a o (ne_of_none z nx) (sm0 a o z)
    obtain ⟨dx', a, l', g, hp, _⟩ := _root_.id fx
    have wo : WOk (wdG l n rows facts) := wd_okG hn.1 (by omega) hn.2.2
    refine ⟨x, dx', _, rfl, hp, wf_no a l' g m _ (by decide +kernel), x, m, _, 0, rfl, wo, fx, me, by rw [Nat.zero_add]; exact wo.fit, fun H2 b2 me2 => ?_⟩
    refine ⟨_, _, rfl, rfl, ?_⟩
    show Q (.bl (decide ((0 : Int) < ways (wdG l n rows facts) 0 (List.replicate (wdG l n rows facts).ct.length 0)))) H2
    rw [show decide ((0 : Int) < ways (wdG l n rows facts) 0 (List.replicate (wdG l n rows facts).ct.length 0)) = _ from cnt_any hn.2.1 lnd rok fun f hf => (fok f hf).1]
    exact fin H2 fun c o z => b2 c o (ne_of_none (sm0 c o z) m0) (s1 c o z)
end
end Gm

/-! a dict whose keys are tuples of numbers, bools, texts and such tuples: new, get, put, not in -/
namespace Gm
open PySem L2
mutual
/-- the value v is the key k -/
inductive NKAt (H : Hp) : NestedKey → V → Prop
  | num (i : Int) : NKAt H (.num i) (.int i)
  | bool (b : Bool) : NKAt H (.num (if b = true then 1 else 0)) (.bl b)
  | text (x : Str) : NKAt H (.text x) (.str x)
  | tup {ks : List NestedKey} {b : Addr} {vs : List V} : H b = some (.tup vs) → NKAll H ks vs → NKAt H (.tup ks) (.ref b)
inductive NKAll (H : Hp) : List NestedKey → List V → Prop
  | nil : NKAll H [] []
  | cons {k : NestedKey} {v : V} {ks : List NestedKey} {vs : List V} : NKAt H k v → NKAll H ks vs → NKAll H (k :: ks) (v :: vs)
end
mutual
theorem NKAt.mono {H H' : Hp} (t : ∀ c ys, H c = some (.tup ys) → H' c = some (.tup ys)) : ∀ (k : NestedKey) (v : V), NKAt H k v → NKAt H' k v
  | .none, _, h => by cases h
  | .num i, _, h => by
    cases h with
    | num => exact .num _
    | bool b => exact .bool b
  | .text x, _, h => by
    cases h
    exact .text _
  | .tup ks, _, h => by
    cases h with
    | tup e a => exact .tup (t _ _ e) (NKAll.mono t ks _ a)
theorem NKAll.mono {H H' : Hp} (t : ∀ c ys, H c = some (.tup ys) → H' c = some (.tup ys)) : ∀ (ks : List NestedKey) (vs : List V), NKAll H ks vs → NKAll H' ks vs
  | [], _, h => by
    cases h
    exact .nil
  | k :: ks, _, h => by
    cases h with
    | cons a b => exact .cons (NKAt.mono t k _ a) (NKAll.mono t ks _ b)
end
abbrev NEnt := NestedKey × Addr × V
def NKeyAt (H : Hp) (k : NestedKey) (b : Addr) : Prop := NKAt H k (.ref b) ∧ k.depth ≤ 8
def NKeysAt (H : Hp) (m : List NEnt) : Prop := ∀ e ∈ m, NKeyAt H e.1 e.2.1
theorem NKeyAt.mono {H H' : Hp} {k : NestedKey} {b : Addr} (x : NKeyAt H k b) (t : ∀ c ys, H c = some (.tup ys) → H' c = some (.tup ys)) : NKeyAt H' k b := ⟨NKAt.mono t _ _ x.1, x.2⟩
theorem NKeysAt.mono {H H' : Hp} {m : List NEnt} (x : NKeysAt H m) (t : ∀ c ys, H c = some (.tup ys) → H' c = some (.tup ys)) : NKeysAt H' m := fun e he => (x e he).mono t
abbrev NRel : List NEnt → List (NestedKey × Addr × Value) → Prop := Paired fun p q => p.1 = q.1 ∧ p.2.1 = q.2.1 ∧ RelV p.2.2 q.2.2
def nAt (m : List NEnt) (k : NestedKey) : Option V := (m.find? fun e => decide (e.1 = k)).map fun e => e.2.2
def nPut (m : List NEnt) (k : NestedKey) (b : Addr) (v : V) : List NEnt := if (nAt m k).isSome = true then m.map fun e => if e.1 = k then (e.1, e.2.1, v) else e else m ++ [(k, b, v)]
def ndO (P : Program) (w : World) (a : Addr) (m : List NEnt) : HO := .ext fun h => (m.length ≤ sizeLine ∧ (a == sysModules) = false) ∧ ∃ xs : List (NestedKey × Addr × Value), NRel m xs ∧
  ∃ o es ep, h.get? a = some o ∧ o.ExactDict ∧ o.data = .dict es ep ∧ es.toList = xs.map (entryOfKey (nestedKind P w)) ∧ (xs.map (·.1)).Nodup
theorem nPut_len (m : List NEnt) (k : NestedKey) (b : Addr) (v : V) : (nPut m k b v).length ≤ m.length + 1 := by
  unfold nPut
  split
  · rw [List.length_map]; omega
  · rw [List.length_append]; exact Nat.le_refl _
theorem nAt_mem {m : List NEnt} {k : NestedKey} {v : V} (h : nAt m k = some v) : ∃ e ∈ m, e.1 = k ∧ e.2.2 = v := by
  unfold nAt at h
  obtain ⟨e, he, hv⟩ := Option.map_eq_some_iff.mp h
  exact ⟨e, List.mem_of_find?_eq_some he, by simpa using List.find?_some he, hv⟩
theorem nAt_some {m : List NEnt} {k : NestedKey} : (∃ e ∈ m, e.1 = k) → ∃ v, nAt m k = some v := by
  rintro ⟨e, he, hk⟩
  unfold nAt
  cases q : m.find? fun e => decide (e.1 = k) with
  | none =>
    have := List.find?_eq_none.mp q e he
    simp [hk] at this
  | some z => exact ⟨_, rfl⟩
theorem nPut_mem {m : List NEnt} {k : NestedKey} {b : Addr} {v : V} {e : NEnt} (h : e ∈ nPut m k b v) : (∃ e' ∈ m, e'.1 = e.1 ∧ e'.2.1 = e.2.1 ∧ (e = e' ∨ e.1 = k ∧ e.2.2 = v)) ∨ e = (k, b, v) := by
  unfold nPut at h
  split at h
  · obtain ⟨x, hx, rfl⟩ := List.mem_map.mp h
    refine .inl ⟨x, hx, ?_⟩
    split
    · rename_i q
      exact ⟨rfl, rfl, .inr ⟨q, rfl⟩⟩
    · exact ⟨rfl, rfl, .inl rfl⟩
  · rcases List.mem_append.mp h with h | h
    · exact .inl ⟨e, h, rfl, rfl, .inl rfl⟩
    · exact .inr (List.mem_singleton.mp h)
theorem nPut_has (m : List NEnt) (k : NestedKey) (b : Addr) (v : V) : ∃ e ∈ nPut m k b v, e.1 = k := by
  unfold nPut
  split
  · rename_i q
    cases r : nAt m k with
    | none => rw [r] at q; cases q
    | some y =>
      obtain ⟨e, he, hk, _⟩ := nAt_mem r
      exact ⟨_, List.mem_map.mpr ⟨e, he, rfl⟩, by rw [if_pos hk]; exact hk⟩
  · exact ⟨(k, b, v), List.mem_append.mpr (.inr List.mem_cons_self), rfl⟩
theorem NRel.val {m : List NEnt} {xs : List (NestedKey × Addr × Value)} (r : NRel m xs) (k : NestedKey) : RelO (nAt m k) ((atKey xs k).map (·.2)) := by
  induction r with
  | nil => exact True.intro
  | @cons p q ps qs h t ih =>
    obtain ⟨h1, _, h2⟩ := h
    by_cases e : p.1 = k
    · have e' : q.1 = k := h1.symm.trans e
      simp only [nAt, atKey, List.find?_cons, e, e', decide_true]
      exact h2
    · have e' : ¬ q.1 = k := fun z => e (h1.trans z)
      simp only [nAt, atKey, List.find?_cons, e, e', decide_false]
      exact ih
theorem NRel.sets {m : List NEnt} {xs : List (NestedKey × Addr × Value)} (r : NRel m xs) (k : NestedKey) {y : V} {u : Value} (ry : RelV y u) : NRel (m.map fun e => if e.1 = k then (e.1, e.2.1, y) else e) (xs.map (putAt k u)) := by
  induction r with
  | nil => exact .nil
  | @cons p q ps qs h t ih =>
    refine .cons ?_ ih
    obtain ⟨h1, h2, h3⟩ := h
    simp only [putAt]
    by_cases e : p.1 = k
    · have e' : q.1 = k := h1.symm.trans e
      rw [if_pos e, if_pos e']
      exact ⟨h1, h2, ry⟩
    · have e' : ¬ q.1 = k := fun z => e (h1.trans z)
      rw [if_neg e, if_neg e']
      exact ⟨h1, h2, h3⟩
theorem NRel.put {m : List NEnt} {xs : List (NestedKey × Addr × Value)} (r : NRel m xs) (k : NestedKey) {b : Addr} {y : V} {u : Value} (ry : RelV y u) : NRel (nPut m k b y) (storedH xs k b u) := by
  have e : (nAt m k).isSome = (atKey xs k).isSome := by rw [(r.val k).isSome_eq, Option.isSome_map]
  simp only [nPut, storedH, e]
  split
  · exact r.sets k ry
  · exact Paired.snoc r ⟨rfl, rfl, ry⟩
section
variable {P : Program} {w : World} {H : Hp} {h : Heap} {a b : Addr} {k : NestedKey} {m : List NEnt}
mutual
theorem nk_is (ok : HOk P w H h) : ∀ (k : NestedKey) (v : V) (u : Value), NKAt H k v → RelV v u → NestedIs h k u
  | .none, _, _, x, _ => by cases x
  | .num i, _, _, x, r => by
    cases x with
    | num =>
      obtain ⟨t, rfl⟩ := r
      exact .int _ t
    | bool b =>
      cases r
      exact .bool rfl
  | .text y, _, _, x, r => by
    cases x
    obtain ⟨t, rfl⟩ := r
    exact .text _ t
  | .tup ks, _, _, x, r => by
    cases x with
    | @tup _ b vs e a =>
      cases r
      obtain ⟨_, its, r, o, g1, g2, n, g3⟩ := (show ObjOk P w H h b (.tup vs) from ok b _ e)
      exact .tup g1 g2 g3 (by simpa using nk_all ok ks vs its a r)
theorem nk_all (ok : HOk P w H h) : ∀ (ks : List NestedKey) (vs : List V) (us : List Value), NKAll H ks vs → Vals vs us → NestedAll h ks us
  | [], _, _, x, r => by
    cases x
    cases r
    exact .nil
  | k :: ks, _, _, x, r => by
    cases x with
    | cons x1 x2 =>
      cases r with
      | cons r1 r2 => exact .cons (nk_is ok k _ _ x1 r1) (nk_all ok ks _ _ x2 r2)
end
theorem nkey_is (ok : HOk P w H h) (x : NKeyAt H k b) : (nestedKind P w).is h k b := ⟨nk_is ok k _ _ x.1 rfl, x.2⟩
theorem nkeys_are (ok : HOk P w H h) : ∀ {l : List NEnt} {xs : List (NestedKey × Addr × Value)}, NRel l xs → NKeysAt H l → ∀ v ∈ xs, (nestedKind P w).is h v.1 v.2.1 := by
  intro l xs r
  induction r with
  | nil => intro _ q hq; cases hq
  | @cons p q ps qs hq t ih =>
    intro x v hv
    rcases List.mem_cons.mp hv with rfl | hv
    · have := nkey_is ok (x p List.mem_cons_self)
      rw [hq.1, hq.2.1] at this
      exact this
    · exact ih (fun e he => x e (List.mem_cons_of_mem _ he)) v hv
theorem nd_rd (ok : HOk P w H h) (e : H a = some (ndO P w a m)) (x : NKeysAt H m) : m.length ≤ sizeLine ∧ (a == sysModules) = false ∧ ∃ xs, NRel m xs ∧ h.DictOfH (nestedKind P w) a xs := by
  obtain ⟨⟨⟨z, y⟩, xs, r, o, es, ep, h1, h2, h3, h4, h5⟩, _⟩ := (show ObjOk P w H h a (ndO P w a m) from ok a _ e)
  exact ⟨z, y, xs, r, o, es, ep, h1, h2, h3, h4, nkeys_are ok r x, h5⟩
theorem nd_ok {xs : List (NestedKey × Addr × Value)} {H' : Hp} (z : m.length ≤ sizeLine) (y : (a == sysModules) = false) (r : NRel m xs) (d : h.DictOfH (nestedKind P w) a xs) : ObjOk P w H' h a (ndO P w a m) := by
  obtain ⟨o, es, ep, h1, h2, h3, h4, _, h5⟩ := d
  refine ⟨⟨⟨z, y⟩, xs, r, o, es, ep, h1, h2, h3, h4, h5⟩, ⟨o, h1⟩, fun g1 g2 hg hk => ?_⟩
  obtain ⟨q, ys, r', o', es', ep', k1, k2⟩ := hg
  exact ⟨q, ys, r', o', es', ep', hk _ k1, k2⟩
end
section
variable {X : Cx} {pins : List (Addr × Obj)} {σ : St} {H : Hp} {s : Shared} {a b : Addr} {k : NestedKey} {m : List NEnt} {A : Around} {E : Value → Shared → Prop}
theorem nk_room (hu : A.units + 9 < cLine) : (nestedKind X.prog X.w).room A.in1 := by
  show A.in1.units + 8 < cLine
  have : A.in1.units = A.units + 1 := rfl
  omega
theorem nd_get {v : V} {Q : Value → Shared → Prop} (hu : A.units + 9 < cLine) (I : Inv X pins σ H s) (e : H a = some (ndO X.prog X.w a m)) (x : NKeysAt H m) (hb : NKeyAt H k b) (l : nAt m k = some v) (h : ∀ u s', Inv X pins σ H s' → RelV v u → Q u s') :
    wpAny (model X.prog X.w) A (getItem (.ref a) (.ref b)) Q E s := by
  obtain ⟨_, _, xs, r, d⟩ := nd_rd I.hok e x
  obtain ⟨u, hw, rw'⟩ := RelO.some_of (v := v) (o := (atKey xs k).map (·.2)) (by rw [← l]; exact r.val k)
  obtain ⟨p, hp, rfl⟩ := Option.map_eq_some_iff.mp hw
  exact wpAny_getItem_heap (nk_room (X := X) hu) (nkey_is I.hok hb) d hp (h _ _ (I.tok _) rw')
theorem nd_notIn {Q : Value → Shared → Prop} (hu : A.units + 9 < cLine) (I : Inv X pins σ H s) (e : H a = some (ndO X.prog X.w a m)) (x : NKeysAt H m) (hb : NKeyAt H k b) (h : ∀ s', Inv X pins σ H s' → Q (.bool (!(nAt m k).isSome)) s') :
    wpAny (model X.prog X.w) A (compareOp .NotIn (.ref b) (.ref a)) Q E s := by
  obtain ⟨_, nd, xs, r, d⟩ := nd_rd I.hok e x
  refine PyProof.Rows.wpAny_notIn_heap (nk_room (X := X) hu) (nkey_is I.hok hb) nd d ?_
  have q := (r.val k).isSome_eq
  rw [Option.isSome_map] at q
  rw [← q]
  exact h _ (I.tok _)
theorem nd_put {v : V} {u : Value} {Q : Unit → Shared → Prop} (hu : A.units + 9 < cLine) (I : Inv X pins σ H s) (e : H a = some (ndO X.prog X.w a m)) (x : NKeysAt H m) (hb : NKeyAt H k b) (l : m.length < sizeLine) (rv : RelV v u)
    (h : ∀ s', Inv X pins σ (upd H a (ndO X.prog X.w a (nPut m k b v))) s' → Q () s') : wpAny (model X.prog X.w) A (setItem (.ref a) (.ref b) u) Q E s := by
  obtain ⟨_, nd, xs, r, d⟩ := nd_rd I.hok e x
  have len := nPut_len m k b v
  have hz : xs.length ≤ sizeLine := by rw [← Paired.length r]; omega
  refine wpAny_setItem_heap (hsz := hz) (nk_room (X := X) hu) (nkey_is I.hok hb) d fun h' d' hs => h _ ?_
  have he : ∃ q, h'.get? a = some q := let ⟨q, _, _, hq, _⟩ := d'; ⟨q, hq⟩
  exact d_write I (by rw [e]; exact True.intro) hs he (nd_ok (by omega) nd (r.put k rv) d')
end
/-- y not in d, d[y], d[y] = v -/
def tNNotIn (X : Cx) (ty td : TE) : TE := fun σ H Q => ty σ H fun y H1 => td σ H1 fun x H2 => ∃ a b k m, x = .ref a ∧ y = .ref b ∧ NKeyAt H2 k b ∧ H2 a = some (ndO X.prog X.w a m) ∧ NKeysAt H2 m ∧ Q (.bl (!(nAt m k).isSome)) H2
def tNGet (X : Cx) (td ty : TE) : TE := fun σ H Q => td σ H fun x H1 => ty σ H1 fun y H2 => ∃ a b k m v, x = .ref a ∧ y = .ref b ∧ NKeyAt H2 k b ∧ H2 a = some (ndO X.prog X.w a m) ∧ NKeysAt H2 m ∧ nAt m k = some v ∧ Q v H2
def sNPut (X : Cx) (td ty tv : TE) : TS := fun D σ H => tv σ H fun v H1 => td σ H1 fun x H2 => ty σ H2 fun y H3 => ∃ a b k m, x = .ref a ∧ y = .ref b ∧ NKeyAt H3 k b ∧ H3 a = some (ndO X.prog X.w a m) ∧ NKeysAt H3 m ∧ m.length < sizeLine ∧
  D.nx σ (upd H3 a (ndO X.prog X.w a (nPut m k b v)))
def tNNew (X : Cx) : TE := fun _ H Q => ∀ p, H p = none → Q (.ref p) (upd H p (ndO X.prog X.w p []))
section
variable {X : Cx} {o i value : Expr} {pos pos' : Pos} {td ty tv : TE}
theorem nd_type {pins : List (Addr × Obj)} {σ : St} {H : Hp} {s : Shared} {a : Addr} {m : List NEnt} (I : Inv X pins σ H s) (e : H a = some (ndO X.prog X.w a m)) (x : NKeysAt H m) : s.TypeIs (.ref a) "dict" := by
  obtain ⟨_, _, xs, _, d⟩ := nd_rd I.hok e x
  exact d.typeIs
theorem pe_nget (hu : X.A.units + 9 < cLine) (ho : PE X o td) (hi : PE X i ty) (hs : NoSl i) : PE X (.Subscript o i pos) (tNGet X td ty) := by
  refine ⟨fun pins s σ H Q I h => ?_⟩
  refine subD_of PySem.F.slot_dict_getitem.lookup hs (thn (ho.run pins s σ H _ I h) fun u s1 hh => ?_)
  obtain ⟨x, H1, I1, rx, q1⟩ := hh
  refine thn (hi.run pins s1 σ H1 _ I1 q1) fun iv s2 hh => ?_
  obtain ⟨y, H2, I2, ry, a, b, k, m, v, rfl, rfl, hb, e, hm, l, q2⟩ := hh
  cases rx; cases ry
  exact ⟨nd_type I2 e hm, nd_get hu I2 e hm hb l fun w' s3 I3 rw' => ⟨v, H2, I3, rw', q2⟩⟩
theorem pc_nnotin (hu : X.A.units + 9 < cLine) (hi : PE X i ty) (ho : PE X o td) : PC X .NotIn i o (tNNotIn X ty td) := by
  refine ⟨fun pins s σ H Q I h => ?_⟩
  refine thn (hi.run pins s σ H _ I h) fun iv s1 hh => ?_
  obtain ⟨y, H1, I1, ry, q1⟩ := hh
  refine thn (ho.run pins s1 σ H1 _ I1 q1) fun u s2 hh => ?_
  obtain ⟨x, H2, I2, rx, a, b, k, m, rfl, rfl, hb, e, hm, q2⟩ := hh
  cases rx; cases ry
  exact nd_notIn hu I2 e hm hb fun s3 I3 => ⟨.bl (!(nAt m k).isSome), H2, I3, rfl, q2⟩
theorem ps_nput (hu : X.A.units + 9 < cLine) (ho : PE X o td) (hi : PE X i ty) (hv : PE X value tv) (hs : swapsWith value (some (.Subscript o i pos')) pos.line X.env = pure false) : PS X (.Assign [.Subscript o i pos'] value pos) (sNPut X td ty tv) := by
  refine ⟨fun pins s σ H D I h => ?_⟩
  refine wpAny_Assign_Subscript (thn (hv.run pins s σ H _ I h) fun r s1 hh => ?_) hs
  obtain ⟨v, H1, I1, rv, q1⟩ := hh
  refine thn (ho.run pins s1 σ H1 _ I1 q1) fun u s2 hh => ?_
  obtain ⟨x, H2, I2, rx, q2⟩ := hh
  refine thn (hi.run pins s2 σ H2 _ I2 q2) fun iv s3 hh => ?_
  obtain ⟨y, H3, I3, ry, a, b, k, m, rfl, rfl, hb, e, hm, l, q3⟩ := hh
  cases rx; cases ry
  exact nd_put hu I3 e hm hb l rv fun s4 I4 => ⟨σ, _, I4, q3⟩
theorem pe_nnew : PE X (.Dict [] [] pos) (tNNew X) := by
  refine ⟨fun pins s σ H Q I h => ?_⟩
  have hb := I.big
  refine wpAny_Dict_empty ⟨.ref s.heap.objs.size, _, I.laid (a := s.heap.objs.size) (o := ndO X.prog X.w s.heap.objs.size []) (t' := s.toks) (fun _ _ q => Heap.get?_push_of_some _ q) (Nat.le_refl _) ?_, rfl, h _ (I.hok.fresh (Nat.le_refl _))⟩
  exact nd_ok (Nat.zero_le _) (beq_eq_false_iff_ne.mpr (Ne.symm (Nat.ne_of_lt hb))) .nil (Heap.DictOfH.new s.heap)
end
end Gm

/-! letters of which the bounds say the same change places; which letters and numbers occur -/
namespace Gm
open PySem L2
theorem take_snocV {α : Type} {xs : List α} {i : Nat} {x : α} (h : xs[i]? = some x) : xs.take (i + 1) = xs.take i ++ [x] := by
  rw [List.take_succ_eq_append_getElem (List.getElem?_eq_some_iff.mp h).1, (List.getElem?_eq_some_iff.mp h).2]
def sw2 (c d x : Nat) : Nat := if x = c then d else if x = d then c else x
theorem sw2_inv (c d x : Nat) : sw2 c d (sw2 c d x) = x := by
  unfold sw2
  by_cases h1 : x = c
  · rw [if_pos h1]
    by_cases h2 : d = c
    · rw [if_pos h2, h1, h2]
    · rw [if_neg h2, if_pos rfl, h1]
  · rw [if_neg h1]
    by_cases h2 : x = d
    · rw [if_pos h2, if_pos rfl, h2]
    · rw [if_neg h2, if_neg h1, if_neg h2]
theorem sw2_l (c d : Nat) : sw2 c d c = d := if_pos rfl
theorem sw2_r (c d : Nat) : sw2 c d d = c := by
  have := sw2_inv c d c
  rw [sw2_l] at this
  exact this
theorem sw2_ne {c d x : Nat} (h1 : x ≠ c) (h2 : x ≠ d) : sw2 c d x = x := by
  unfold sw2
  rw [if_neg h1, if_neg h2]
theorem count_sw (c d x : Nat) (w : List Nat) : (w.map (sw2 c d)).count x = w.count (sw2 c d x) := by
  induction w with
  | nil => rfl
  | cons y w ih =>
    rw [List.map_cons, List.count_cons, List.count_cons, ih]
    congr 1
    have e : (sw2 c d y == x) = (y == sw2 c d x) := by
      rw [Bool.eq_iff_iff, beq_iff_eq, beq_iff_eq]
      exact ⟨fun h => by rw [← h, sw2_inv], fun h => by rw [h, sw2_inv]⟩
    rw [e]
/-- what the bounds say of a letter -/
def toldB (b : BS) (c : Nat) : List Bool × Int × Int := (b.al.map fun a => decide (c ∈ a), b.le c, b.gr c)
theorem told_al {b : BS} {c d : Nat} (h : toldB b c = toldB b d) (i : Nat) : c ∈ b.al.getD i [] ↔ d ∈ b.al.getD i [] := by
  have h1 : (b.al.map fun a => decide (c ∈ a)) = b.al.map fun a => decide (d ∈ a) := congrArg (·.1) h
  rw [List.getD_eq_getElem?_getD]
  cases e : b.al[i]? with
  | none => simp
  | some a =>
    have h2 := congrArg (fun z : List Bool => z[i]?) h1
    simp only [List.getElem?_map, e, Option.map_some] at h2
    have h3 := Option.some.inj h2
    show c ∈ a ↔ d ∈ a
    constructor
    · intro z
      rw [decide_eq_true z] at h3
      exact of_decide_eq_true h3.symm
    · intro z
      rw [decide_eq_true z] at h3
      exact of_decide_eq_true h3
theorem swap_left {l : List Nat} {n : Int} {rows : List Row} {c d : Nat} {w : List Nat} (n0 : 0 ≤ n) (hr : ∀ r ∈ rows, RowOk l n r) (hc : c ∈ l) (hd : d ∈ l) (ht : toldB (bsOf l n.toNat rows) c = toldB (bsOf l n.toNat rows) d) (hw : w ∈ leftL l n rows) :
    w.map (sw2 c d) ∈ leftL l n rows := by
  obtain ⟨h1, h2, h3⟩ := (mem_leftL n0).mp hw
  obtain ⟨k1, k2, k3⟩ := (fits_keep n0 h1 hr).mpr ⟨h2, h3⟩
  have le : ((w.map (sw2 c d)).length : Int) = n := by rw [List.length_map]; exact h1
  have hin : ∀ x ∈ l, sw2 c d x ∈ l := fun x hx => by
    unfold sw2
    split
    · exact hd
    · split
      · exact hc
      · exact hx
  have e2 : (bsOf l n.toNat rows).le c = (bsOf l n.toNat rows).le d := congrArg (·.2.1) ht
  have e3 : (bsOf l n.toNat rows).gr c = (bsOf l n.toNat rows).gr d := congrArg (·.2.2) ht
  have f2 : ∀ x, (bsOf l n.toNat rows).le (sw2 c d x) = (bsOf l n.toNat rows).le x := fun x => by
    unfold sw2
    split
    · rename_i z; rw [z, e2]
    · split
      · rename_i z; rw [z, e2]
      · rfl
  have f3 : ∀ x, (bsOf l n.toNat rows).gr (sw2 c d x) = (bsOf l n.toNat rows).gr x := fun x => by
    unfold sw2
    split
    · rename_i z; rw [z, e3]
    · split
      · rename_i z; rw [z, e3]
      · rfl
  obtain ⟨m1, m2⟩ := (fits_keep n0 le hr).mp ⟨fun i x hx => by
    rw [List.getElem?_map] at hx
    obtain ⟨y, hy, rfl⟩ := Option.map_eq_some_iff.mp hx
    have hy2 := k1 i y hy
    unfold sw2
    split
    · rename_i z
      rw [z] at hy2
      exact (told_al ht i).mp hy2
    · split
      · rename_i z
        rw [z] at hy2
        exact (told_al ht i).mpr hy2
      · exact hy2, fun x hx => by
    rw [count_sw]
    have := k2 (sw2 c d x) (hin x hx)
    rw [f2, f3] at this
    exact this, k3⟩
  exact (mem_leftL n0).mpr ⟨le, m1, m2⟩
/-- a word has the letter at the place; a word has so many copies -/
def atT (W : List (List Nat)) (i c : Nat) : Bool := W.any fun w => decide (w[i]? = some c)
def cpT (W : List (List Nat)) (k c : Nat) : Bool := W.any fun w => decide (w.count c = k)
def plT (W : List (List Nat)) (n c : Nat) : List Nat := (List.range n).filter fun i => atT W i c
def nuT (W : List (List Nat)) (n c : Nat) : List Nat := (List.range (n + 1)).filter fun k => cpT W k c
section
variable {l : List Nat} {n : Int} {rows : List Row} {c d : Nat}
theorem at_imp (n0 : 0 ≤ n) (hr : ∀ r ∈ rows, RowOk l n r) (hc : c ∈ l) (hd : d ∈ l) (ht : toldB (bsOf l n.toNat rows) c = toldB (bsOf l n.toNat rows) d) {i : Nat} (h : atT (leftL l n rows) i c = true) : atT (leftL l n rows) i d = true := by
  obtain ⟨w, hw, e⟩ := List.any_eq_true.mp h
  have e := of_decide_eq_true e
  exact List.any_eq_true.mpr ⟨_, swap_left n0 hr hc hd ht hw, decide_eq_true (by rw [List.getElem?_map, e, Option.map_some, sw2_l])⟩
theorem cp_imp (n0 : 0 ≤ n) (hr : ∀ r ∈ rows, RowOk l n r) (hc : c ∈ l) (hd : d ∈ l) (ht : toldB (bsOf l n.toNat rows) c = toldB (bsOf l n.toNat rows) d) {k : Nat} (h : cpT (leftL l n rows) k c = true) : cpT (leftL l n rows) k d = true := by
  obtain ⟨w, hw, e⟩ := List.any_eq_true.mp h
  have e := of_decide_eq_true e
  exact List.any_eq_true.mpr ⟨_, swap_left n0 hr hc hd ht hw, decide_eq_true (by rw [count_sw, sw2_r, e])⟩
theorem pl_same (n0 : 0 ≤ n) (hr : ∀ r ∈ rows, RowOk l n r) (hc : c ∈ l) (hd : d ∈ l) (ht : toldB (bsOf l n.toNat rows) c = toldB (bsOf l n.toNat rows) d) (m : Nat) : plT (leftL l n rows) m c = plT (leftL l n rows) m d := by
  unfold plT
  refine List.filter_congr fun i _ => ?_
  rw [Bool.eq_iff_iff]
  exact ⟨at_imp n0 hr hc hd ht, at_imp n0 hr hd hc ht.symm⟩
theorem nu_same (n0 : 0 ≤ n) (hr : ∀ r ∈ rows, RowOk l n r) (hc : c ∈ l) (hd : d ∈ l) (ht : toldB (bsOf l n.toNat rows) c = toldB (bsOf l n.toNat rows) d) (m : Nat) : nuT (leftL l n rows) m c = nuT (leftL l n rows) m d := by
  unfold nuT
  refine List.filter_congr fun i _ => ?_
  rw [Bool.eq_iff_iff]
  exact ⟨cp_imp n0 hr hc hd ht, cp_imp n0 hr hd hc ht.symm⟩
end
/-- the same as a key -/
def toldK (b : BS) (c : Nat) : NestedKey := .tup [.tup (b.al.map fun a => .num (if decide (c ∈ a) = true then 1 else 0)), .num (b.le c), .num (b.gr c)]
theorem map_bits : ∀ {A : List (List Nat)} {c d : Nat}, (A.map fun a => NestedKey.num (if decide (c ∈ a) = true then 1 else 0)) = (A.map fun a => NestedKey.num (if decide (d ∈ a) = true then 1 else 0)) → (A.map fun a => decide (c ∈ a)) = A.map fun a => decide (d ∈ a)
  | [], _, _, _ => rfl
  | a :: A, c, d, h => by
    rw [List.map_cons, List.map_cons] at h
    obtain ⟨h1, h2⟩ := List.cons.inj h
    rw [List.map_cons, List.map_cons, map_bits h2]
    congr 1
    have h1 := NestedKey.num.inj h1
    by_cases x : c ∈ a <;> by_cases y : d ∈ a <;> simp [x, y] at h1 ⊢
theorem toldK_inj {b : BS} {c d : Nat} (h : toldK b c = toldK b d) : toldB b c = toldB b d := by
  unfold toldK at h
  have h := NestedKey.tup.inj h
  obtain ⟨h1, h⟩ := List.cons.inj h
  obtain ⟨h2, h⟩ := List.cons.inj h
  obtain ⟨h3, _⟩ := List.cons.inj h
  unfold toldB
  rw [map_bits (NestedKey.tup.inj h1), NestedKey.num.inj h2, NestedKey.num.inj h3]
theorem toldK_depth (b : BS) (c : Nat) : (toldK b c).depth ≤ 8 := by
  have h : ∀ A : List (List Nat), NestedKey.depthAll (A.map fun a => NestedKey.num (if decide (c ∈ a) = true then 1 else 0)) = 0 := fun A => by
    induction A with
    | nil => simp [NestedKey.depthAll]
    | cons a A ih => simp only [List.map_cons, NestedKey.depthAll, NestedKey.depth, ih]; rfl
  unfold toldK
  simp only [NestedKey.depth, NestedKey.depthAll, h]
  decide
end Gm

/-! Bounds.of_letter -/
namespace Gm
open PySem PySem.Spec PyProof.Rows L2

theorem nk_bits {H : Hp} (c : Nat) : ∀ A : List (List Nat), NKAll H (A.map fun a => NestedKey.num (if decide (c ∈ a) = true then 1 else 0)) (A.map fun a => V.bl (decide (c ∈ a)))
  | [] => .nil
  | _ :: A => .cons (.bool _) (nk_bits c A)
def spOfL (CD : Addr) : Sp := fun vs H Q _ => ∃ (p : Addr) (q : BParts) (ls : List Nat) (b : BS) (c : Nat), vs = [.ref p, .str (one c)] ∧ BAt CD H p q ls b ∧ c ∈ ls ∧ b.al.length ≤ 6 ∧
  ∀ H' t, Same H H' → H t = none → NKeyAt H' (toldK b c) t → Q (.ref t) H'
section
variable {P : Program} {w : World} {K : PySem.W.Frag} {mg : Str → Option Value} {base : Heap} {CD : Addr}
abbrev nOfL : List Str := ["self", "letter", "places", "letters"]
theorem scOfL : FnScope nOfL ["self", "letter"] (defScope sOfL) := ⟨rfl, rfl, rfl, by decide +kernel, rfl, by decide +kernel, by decide +kernel⟩
theorem ok_ofL {f : Addr} {fd : FuncData} (F : Fun K "of_letter" "Bounds.of_letter" sOfL f fd) (T : TxBd K mg CD) (ttuple : mg "tuple" = none)
    : FnOk P w K mg base CX0 1 f fd ["self", "letter"] (spOfL CD) := by
  refine F.ok scOfL (fun vs H Q E h => ?_) (fun cdv A outer s H vs Q E hr h => ?_)
  · obtain ⟨p, q, ls, b, c, rfl, _⟩ := h
    rfl
  · obtain ⟨p, q, ls, b, c, rfl, hb, hc, lal, fin⟩ := h
    have nd := scOfL.nd
    have hline : sizeLine = 16777216 := sizeLine_eq
    have hu1 : (A.deeper (PyProof.Rows.envOfC "Bounds.of_letter" (defScope sOfL) s.heap.objs.size f cdv)).units + 1 < cLine := by have := hr.un; omega
    refine ⟨_, pss_cons (ps_set (i := 2) nd rfl (Or.inl rfl) (pe_callTy call_tuple_of (by rfl) ttuple (by decide +kernel) (pa_cons (pe_lc (own := [("letters", 3)]) (g := gName 3) (by rfl) nd (pi_list (pe_fld (pv 0) rfl)) (blkOk_by (own := [("letters", 3)]) (N := nOfL) (sc := defScope sOfL) (by decide +kernel)) (fun _ _ _ _ _ => pg_name (i := 3) nd rfl (Or.inl rfl)) (fun _ _ _ _ _ => pts_nil) (fun _ _ _ _ _ => pe_cmpR op_in_sign (pv 1) (pv 3) rfl)) pa_nil)))
      (pss_one (ps_ret (pe_tup (pa_cons (pv 2) (pa_cons (pe_dget hu1 (pe_fld (pv 0) rfl) (pv 1) (fun _ _ => rfl)) (pa_cons (pe_dget hu1 (pe_fld (pv 0) rfl) (pv 1) (fun _ _ => rfl)) pa_nil)))))), ?_⟩
    refine ⟨_, rfl, p, CD, q.dx, _, _, rfl, hb.p, T.cl, T.nA, bf_al _ _ _, q.a, rfl, ⟨_, SqL.of hb.a⟩, fun M zM => lc_list (fun j H' => Same H H' ∧ H' M = some (.lst ((b.al.take j).map fun a => V.bl (decide (c ∈ a))))) ⟨same_upd zM, upd_same⟩ (fun j H' _ h => SqL.of (h.1 _ _ hb.a)) ?_ ?_⟩
    · rintro j x H1 hx ⟨s1, hM⟩
      unfold alV at hx
      rw [List.getElem?_map] at hx
      obtain ⟨a, ha, rfl⟩ := Option.map_eq_some_iff.mp hx
      refine ⟨rfl, _, rfl, _, rfl, c, tx a, rfl, rfl, _, hM, by rw [List.length_map, List.length_take]; omega, fun u o e => ?_, ?_⟩
      · rw [upd_ne (ne_of_none e zM)]
        exact s1 u o e
      · rw [upd_same, take_snocV ha, List.map_append, in_tx]
        rfl
    rintro H1 ⟨s1, hM⟩
    rw [show (alV b.al).length = b.al.length from List.length_map .., List.take_length] at hM
    refine ⟨M, _, rfl, .inl ⟨SqL.of hM, fun T1 zT1 => ?_⟩⟩
    have s2 := s1.trans (same_upd (o := .tup (b.al.map fun a => V.bl (decide (c ∈ a)))) zT1)
    have g0 := DGet.k (k := Sum.inr (one c)) (s2 _ _ hb.l)
    rw [valV_of hc] at g0
    have g1 := DGet.k (k := Sum.inr (one c)) (s2 _ _ hb.g)
    rw [valV_of hc] at g1
    refine ⟨_, rfl, _, rfl, p, CD, q.dx, _, _, rfl, s2 _ _ hb.p, T.cl, T.nL, bf_le _ _ _, _, rfl, q.l, _, rfl, g0, _, rfl, p, CD, q.dx, _, _, rfl, s2 _ _ hb.p, T.cl, T.nG, bf_gr _ _ _, _, rfl, q.g, _, rfl, g1, by show 3 ≤ sizeLine; rw [sizeLine_eq]; decide, fun t zt => ?_⟩
    have s3 := s2.trans (same_upd (o := .tup [.ref T1, .int (b.le c), .int (b.gr c)]) zt)
    refine fin _ t s3 (s2.free zt) ⟨.tup upd_same (.cons (.tup ((upd_ne (ne_of_none upd_same zt)).trans upd_same) (nk_bits c b.al)) (.cons (.num _) (.cons (.num _) .nil))), toldK_depth b c⟩
end
end Gm

/-! places_of_letter, numbers_of_copies -/
namespace Gm
open PySem PySem.Spec PyProof.Rows L2


def ivs (xs : List Nat) : List V := xs.map fun (k : Nat) => V.int (k : Int)
theorem ivs_len (xs : List Nat) : (ivs xs).length = xs.length := List.length_map ..
theorem any_at {W : List (List Nat)} {i c : Nat} : (W.any fun w => decide (hasAll [Fct.at_ i c] w)) = atT W i c := by
  unfold atT
  congr 1
  funext w
  simp [hasAll, hasF]
theorem any_cp {W : List (List Nat)} {k c : Nat} : (W.any fun w => decide (hasAll [Fct.least c (k : Int), Fct.most c (k : Int)] w)) = cpT W k c := by
  unfold cpT
  congr 1
  funext w
  rw [Bool.eq_iff_iff, decide_eq_true_iff, decide_eq_true_iff]
  simp only [hasAll, hasF, List.mem_cons, List.not_mem_nil, or_false, forall_eq_or_imp, forall_eq]
  omega
theorem range_snocV (n : Nat) : List.range (n + 1) = List.range n ++ [n] := List.range_succ
def spPlcL (C CH : Addr) : Sp := fun vs H Q _ => ∃ (p : Addr) (l : List Nat) (n : Int) (rows : List Row) (c : Nat), vs = [.ref p, .str (one c)] ∧ HistAt C CH H p l n rows ∧ l.Nodup ∧ c ∈ l ∧
  ∀ H' D, Same H H' → H D = none → H' D = some (.lst (ivs (plT (leftL l n rows) n.toNat c))) → Q (.ref D) H'
def spNumC (C CH : Addr) : Sp := fun vs H Q _ => ∃ (p : Addr) (l : List Nat) (n : Int) (rows : List Row) (c : Nat), vs = [.ref p, .str (one c)] ∧ HistAt C CH H p l n rows ∧ l.Nodup ∧ c ∈ l ∧
  ∀ H' D, Same H H' → H D = none → H' D = some (.lst (ivs (nuT (leftL l n rows) n.toNat c))) → Q (.ref D) H'
section
variable {P : Program} {w : World} {K : PySem.W.Frag} {mg : Str → Option Value} {base : Heap} {C CH : Addr}
abbrev nPlcL : List Str := ["history", "letter", "board", "place"]
theorem scPlcL : FnScope nPlcL ["history", "letter"] (defScope sPlcL) := ⟨rfl, rfl, rfl, by decide +kernel, rfl, by decide +kernel, by decide +kernel⟩
theorem ok_plcL {f fW : Addr} {fd fdW : FuncData} (F : Fun K "places_of_letter" "places_of_letter" sPlcL f fd) (TC : TxC K mg C) (TH : TxH K mg CH) (trange : mg "range" = none)
    (GW : FnOk P w K mg base CX0 21 fW fdW ["board", "rows", "facts"] (spHasG C)) (DW : Df K mg "has_word" fW fdW ["board", "rows", "facts"])
    : FnOk P w K mg base CX0 22 f fd ["history", "letter"] (spPlcL C CH) := by
  refine F.ok scPlcL (fun vs H Q E h => ?_) (fun cdv A outer s H vs Q E hr h => ?_)
  · obtain ⟨p, l, n, rows, c, rfl, _⟩ := h
    rfl
  · obtain ⟨p, l, n, rows, c, rfl, hh, lnd, hc, fin⟩ := h
    have nd := scPlcL.nd
    have hline : sizeLine = 16777216 := sizeLine_eq
    have hrW : Room 21 _ := hr.mono (by decide)
    refine ⟨_, pss_cons (ps_set (i := 2) nd rfl (Or.inr rfl) (pe_fld (pv 0) rfl))
      (pss_one (ps_ret (pe_lc (tt := (tB (tCall (spHasG C) [] E0 (tCons (tVar 2) (tCons (tFld K (tVar 0) "rows") (tCons (tTup (tCons (tTup (tCons (tC (.str "at")) (tCons (tVar 3) (tCons (tVar 1) tNil)))) tNil)) tNil)))))) (own := [("place", 3)]) (g := gName 3) (by rfl) nd (pi_range1 (by rfl) trange (pa_cons (pe_fld (pv 2) rfl) pa_nil)) (blkOk_by (own := [("place", 3)]) (N := nPlcL) (sc := defScope sPlcL) (by decide +kernel)) (fun _ _ _ _ _ => pg_name (i := 3) nd rfl (Or.inl rfl)) (fun _ _ _ _ _ => by exact pts_one (pt_val (pe_call GW hrW (by rfl) DW.mg DW.kp DW.b .nil pass0 (pa_cons (pv 2) (pa_cons (pe_fld (pv 0) rfl) (pa_cons (pe_tup (pa_cons (pe_tup (pa_cons pe_str (pa_cons (pv 3) (pa_cons (pv 1) pa_nil)))) pa_nil)) pa_nil)))))) (fun _ _ _ _ _ => by exact (pv 3))))), ?_⟩
    obtain ⟨dx, b, r, e, hb, hrw, ok⟩ := _root_.id hh
    obtain ⟨⟨dxb, eb⟩, l26, n1, n6⟩ := _root_.id hb
    have r20 := ok.2
    refine ⟨_, rfl, p, CH, dx, _, _, rfl, e, TH.cl, TH.nB, hf_board b r, ?_⟩
    refine ⟨_, rfl, b, C, dxb, _, _, rfl, eb, TC.cl, TC.nN, bf_length _ _, n, rfl, by omega, by omega, fun D zD => ?_⟩
    refine lc_range (lo := 0) (n := n.toNat) (fun i H' => Same H H' ∧ H' D = some (.lst (ivs ((List.range i).filter fun j => atT (leftL l n rows) j c)))) ⟨same_upd zD, upd_same⟩ ?_ ?_
    · rintro i H1 hi ⟨s1, hD⟩
      refine ⟨rfl, _, rfl, _, rfl, p, CH, dx, _, _, rfl, s1 _ _ e, TH.cl, TH.nR, hf_rows b r, _, rfl, _, rfl, by show 3 ≤ sizeLine; rw [sizeLine_eq]; decide, fun T zT => ⟨by show 1 ≤ sizeLine; rw [sizeLine_eq]; decide, fun T2 zT2 => ?_⟩⟩
      have hT : upd H1 T (.tup [.str "at", .int (0 + (i : Int)), .str (one c)]) T = some (.tup (fctV (.at_ i c))) := by rw [upd_same, Int.zero_add]; rfl
      have sT := same_upd (o := .tup [.str "at", .int (0 + (i : Int)), .str (one c)]) zT
      have sT2 := same_upd (o := .tup [.ref T]) zT2
      have S := s1.trans (sT.trans sT2)
      refine ⟨b, r, T2, l, n, rows, [.at_ i c], [.ref T], rfl, ⟨hb.same S, lnd⟩, lnd, hrw.same S, ok.1, by omega, upd_same, .cons (sT2 _ _ hT) .nil, fun f hf => ?_, fun H3 s3 => ⟨_, rfl, ?_⟩⟩
      · rw [List.mem_singleton.mp hf]
        exact ⟨⟨hi, hc⟩, trivial⟩
      have S3 := S.trans s3
      have hD3 := s3 _ _ (sT2 _ _ (sT _ _ hD))
      rw [any_at, range_snocV, List.filter_append]
      have nxt : ∀ x, x = (if atT (leftL l n rows) i c = true then [i] else []) → List.filter (fun j => atT (leftL l n rows) j c) [i] = x := fun x e => by
        rw [e, List.filter_cons, List.filter_nil]
      refine ite2 (fun h => ?_) (fun h => ?_)
      · rw [nxt [i] (by rw [if_pos h])]
        refine ⟨_, rfl, _, hD3, ?_, fun u o z => ?_, ?_⟩
        · rw [ivs_len]
          have := List.length_filter_le (fun j => atT (leftL l n rows) j c) (List.range i)
          rw [List.length_range] at this
          omega
        · rw [upd_ne (ne_of_none z zD)]
          exact S3 u o z
        · rw [upd_same, Int.zero_add]
          unfold ivs
          rw [List.map_append]
          rfl
      · rw [nxt [] (by rw [if_neg h]), List.append_nil]
        exact ⟨S3, hD3⟩
    · rintro H1 ⟨s1, hD⟩
      exact fin H1 D s1 zD hD
abbrev nNumC : List Str := ["history", "letter", "numbers", "number", "exactly"]
theorem scNumC : FnScope nNumC ["history", "letter"] (defScope sNumC) := ⟨rfl, rfl, rfl, by decide +kernel, rfl, by decide +kernel, by decide +kernel⟩
theorem ok_numC {f fW : Addr} {fd fdW : FuncData} (F : Fun K "numbers_of_copies" "numbers_of_copies" sNumC f fd) (TC : TxC K mg C) (TH : TxH K mg CH) (trange : mg "range" = none)
    (GW : FnOk P w K mg base CX0 21 fW fdW ["board", "rows", "facts"] (spHasG C)) (DW : Df K mg "has_word" fW fdW ["board", "rows", "facts"])
    : FnOk P w K mg base CX0 22 f fd ["history", "letter"] (spNumC C CH) := by
  refine F.ok scNumC (fun vs H Q E h => ?_) (fun cdv A outer s H vs Q E hr h => ?_)
  · obtain ⟨p, l, n, rows, c, rfl, _⟩ := h
    rfl
  · obtain ⟨p, l, n, rows, c, rfl, hh, lnd, hc, fin⟩ := h
    have nd := scNumC.nd
    have hline : sizeLine = 16777216 := sizeLine_eq
    have hrW : Room 21 _ := hr.mono (by decide)
    refine ⟨_, pss_cons (ps_set (i := 2) nd rfl (Or.inl rfl) (pe_lst pa_nil))
      (pss_cons (ps_for PassesOwn.never rfl (pi_range1 (by rfl) trange (pa_cons (pe_op op_add (pe_fld (pe_fld (pv 0) rfl) rfl) pe_int) pa_nil)) (pg_name (i := 3) nd rfl (Or.inl rfl))
        (pss_cons (ps_set (i := 4) nd rfl (Or.inl rfl) (pe_tup (pa_cons (pe_tup (pa_cons pe_str (pa_cons (pv 1) (pa_cons (pv 3) pa_nil)))) (pa_cons (pe_tup (pa_cons pe_str (pa_cons (pv 1) (pa_cons (pv 3) pa_nil)))) pa_nil))))
      (pss_one (ps_if (pt_val (pe_call GW hrW (by rfl) DW.mg DW.kp DW.b .nil pass0 (pa_cons (pe_fld (pv 0) rfl) (pa_cons (pe_fld (pv 0) rfl) (pa_cons (pv 4) pa_nil))))) (pss_one (ps_expr (pe_bm PySem.F.plainAttrs_list PySem.F.slot_list_append PySem.F.type_list_append mt_append (pv 2) (pa_cons (pv 3) pa_nil)))) pss_nil))))
      (pss_one (ps_ret (pv 2)))), ?_⟩
    obtain ⟨dx, b, r, e, hb, hrw, ok⟩ := _root_.id hh
    obtain ⟨⟨dxb, eb⟩, l26, n1, n6⟩ := _root_.id hb
    have r20 := ok.2
    refine ⟨by show 0 ≤ sizeLine; omega, fun D zD => ?_⟩
    have sD := same_upd (o := .lst []) zD
    refine ⟨_, rfl, p, CH, dx, _, _, rfl, sD _ _ e, TH.cl, TH.nB, hf_board b r, b, C, dxb, _, _, rfl, sD _ _ eb, TC.cl, TC.nN, bf_length _ _, _, _, rfl, rfl, n + 1, rfl, by omega, by omega, for_range (n := (n + 1).toNat) (fun i σ H' => ∃ v3 v4 : Option V, σ = [some (.ref p), some (.str (one c)), some (.ref D), v3, v4] ∧ Same H H' ∧ H' D = some (.lst (ivs ((List.range i).filter fun j => cpT (leftL l n rows) j c)))) ⟨_, _, rfl, sD, upd_same⟩ ?_ ?_⟩
    · rintro i σ H1 hi ⟨v3, v4, rfl, s1, hD⟩
      refine ⟨_, rfl, _, rfl, by show 3 ≤ sizeLine; rw [sizeLine_eq]; decide, fun T zT => ?_⟩
      have hT : upd H1 T (.tup [.str "least", .str (one c), .int (0 + (i : Int))]) T = some (.tup (fctV (.least c (i : Int)))) := by rw [upd_same, Int.zero_add]; rfl
      have sT := same_upd (o := .tup [.str "least", .str (one c), .int (0 + (i : Int))]) zT
      generalize upd H1 T (.tup [.str "least", .str (one c), .int (0 + (i : Int))]) = H2 at hT sT ⊢
      refine ⟨_, rfl, _, rfl, by show 3 ≤ sizeLine; rw [sizeLine_eq]; decide, fun T2 zT2 => ?_⟩
      have hT2 : upd H2 T2 (.tup [.str "most", .str (one c), .int (0 + (i : Int))]) T2 = some (.tup (fctV (.most c (i : Int)))) := by rw [upd_same, Int.zero_add]; rfl
      have sT2 := same_upd (o := .tup [.str "most", .str (one c), .int (0 + (i : Int))]) zT2
      generalize upd H2 T2 (.tup [.str "most", .str (one c), .int (0 + (i : Int))]) = H3 at hT2 sT2 ⊢
      refine ⟨by show 2 ≤ sizeLine; rw [sizeLine_eq]; decide, fun T3 zT3 => ?_⟩
      have sT3 := same_upd (o := .tup [.ref T, .ref T2]) zT3
      have S := s1.trans ((sT.trans sT2).trans sT3)
      refine ⟨_, rfl, p, CH, dx, _, _, rfl, S _ _ e, TH.cl, TH.nB, hf_board b r, _, rfl, p, CH, dx, _, _, rfl, S _ _ e, TH.cl, TH.nR, hf_rows b r, _, rfl, b, r, T3, l, n, rows, [.least c (i : Int), .most c (i : Int)], [.ref T, .ref T2], rfl, ⟨hb.same S, lnd⟩, lnd, hrw.same S, ok.1, by omega, upd_same, .cons (sT3 _ _ (sT2 _ _ hT)) (.cons (sT3 _ _ hT2) .nil), fun f hf => ?_, fun H4 s4 => ⟨_, rfl, ?_⟩⟩
      · simp only [List.mem_cons, List.not_mem_nil, or_false] at hf
        rcases hf with rfl | rfl
        · exact ⟨⟨hc, by omega, by omega⟩, trivial⟩
        · exact ⟨⟨hc, by omega, by omega⟩, trivial⟩
      have S4 := S.trans s4
      have hD4 := s4 _ _ (sT3 _ _ (sT2 _ _ (sT _ _ hD)))
      rw [any_cp, range_snocV, List.filter_append]
      have nxt : ∀ x, x = (if cpT (leftL l n rows) i c = true then [i] else []) → List.filter (fun j => cpT (leftL l n rows) j c) [i] = x := fun x e => by
        rw [e, List.filter_cons, List.filter_nil]
      refine ite2 (fun h => ?_) (fun h => ?_)
      · rw [nxt [i] (by rw [if_pos h])]
        refine ⟨_, rfl, .inl ⟨rfl, _, SqL.of hD4⟩, _, rfl, D, _, _, rfl, rfl, hD4, ?_, _, _, rfl, fun u o z => ?_, ?_⟩
        · rw [ivs_len]
          have := List.length_filter_le (fun j => cpT (leftL l n rows) j c) (List.range i)
          rw [List.length_range] at this
          omega
        · rw [upd_ne (ne_of_none z zD)]
          exact S4 u o z
        · rw [upd_same, Int.zero_add]
          unfold ivs
          rw [List.map_append]
          rfl
      · rw [nxt [] (by rw [if_neg h]), List.append_nil]
        exact ⟨_, _, rfl, S4, hD4⟩
    · rintro σ H1 ⟨v3, v4, rfl, s1, hD⟩
      refine ⟨_, rfl, fin H1 D s1 zD ?_⟩
      rw [hD]
      unfold nuT
      rw [show (n + 1).toNat = n.toNat + 1 by omega]
end
end Gm

/-! occurrences -/
namespace Gm
open PySem PySem.Spec PyProof.Rows L2

/-- what is found of a letter stands at a -/
def EntAt (H : Hp) (a : Addr) (W : List (List Nat)) (n c : Nat) : Prop := ∃ PL NU, H a = some (.tup [.str (one c), .ref PL, .ref NU]) ∧ H PL = some (.lst (ivs (plT W n c))) ∧ H NU = some (.lst (ivs (nuT W n c)))
def FoundAt (H : Hp) (F : Addr) (l : List Nat) (W : List (List Nat)) (n i : Nat) : Prop := ∃ as : List Addr, H F = some (.lst (as.map V.ref)) ∧ as.length = i ∧ ∀ (j : Nat) (a : Addr) (c : Nat), as[j]? = some a → l[j]? = some c → EntAt H a W n c
/-- the same, the lists not being F -/
def EntF (F : Addr) (H : Hp) (a : Addr) (W : List (List Nat)) (n c : Nat) : Prop := ∃ PL NU, H a = some (.tup [.str (one c), .ref PL, .ref NU]) ∧ H PL = some (.lst (ivs (plT W n c))) ∧ H NU = some (.lst (ivs (nuT W n c))) ∧ PL ≠ F ∧ NU ≠ F
def TwoF (F : Addr) (H : Hp) (T : Addr) (W : List (List Nat)) (n c : Nat) : Prop := ∃ PL NU, H T = some (.tup [.ref PL, .ref NU]) ∧ H PL = some (.lst (ivs (plT W n c))) ∧ H NU = some (.lst (ivs (nuT W n c))) ∧ PL ≠ F ∧ NU ≠ F
/-- what stands while a dict of kind ext and the list F are written -/
def KeepF (F : Addr) (H H' : Hp) : Prop := ∀ b o, b ≠ F → (∀ f, o ≠ .ext f) → H b = some o → H' b = some o
theorem KeepF.of {F : Addr} {H H' : Hp} (s : Same H H') : KeepF F H H' := fun b o _ _ e => s b o e
theorem KeepF.trans {F : Addr} {H H1 H2 : Hp} (a : KeepF F H H1) (b : KeepF F H1 H2) : KeepF F H H2 := fun c o n t e => b c o n t (a c o n t e)
theorem ne_lstF {F a : Addr} {H : Hp} {xs ys : List V} (hF : H F = some (.lst xs)) (h : H a = some (.tup ys)) : a ≠ F := fun z => by rw [z, hF] at h; cases h
theorem EntF.mono {F : Addr} {H H' : Hp} {a : Addr} {W : List (List Nat)} {n c : Nat} {xs : List V} (hF : H F = some (.lst xs)) (h : EntF F H a W n c) (s : KeepF F H H') : EntF F H' a W n c := by
  obtain ⟨PL, NU, e1, e2, e3, n1, n2⟩ := h
  exact ⟨PL, NU, s _ _ (ne_lstF hF e1) (fun _ q => nomatch q) e1, s _ _ n1 (fun _ q => nomatch q) e2, s _ _ n2 (fun _ q => nomatch q) e3, n1, n2⟩
theorem TwoF.mono {F : Addr} {H H' : Hp} {a : Addr} {W : List (List Nat)} {n c : Nat} {xs : List V} (hF : H F = some (.lst xs)) (h : TwoF F H a W n c) (s : KeepF F H H') : TwoF F H' a W n c := by
  obtain ⟨PL, NU, e1, e2, e3, n1, n2⟩ := h
  exact ⟨PL, NU, s _ _ (ne_lstF hF e1) (fun _ q => nomatch q) e1, s _ _ n1 (fun _ q => nomatch q) e2, s _ _ n2 (fun _ q => nomatch q) e3, n1, n2⟩
/-- the dict of what is known -/
structure KnownF (P : Program) (w : World) (H : Hp) (KD F : Addr) (l : List Nat) (W : List (List Nat)) (n : Nat) (b : BS) (m : List NEnt) : Prop where
  d : H KD = some (ndO P w KD m)
  ks : NKeysAt H m
  es : ∀ e ∈ m, ∃ c ∈ l, e.1 = toldK b c ∧ ∃ T, e.2.2 = .ref T ∧ TwoF F H T W n c
theorem KnownF.mono {P : Program} {w : World} {H H' : Hp} {KD F : Addr} {l : List Nat} {W : List (List Nat)} {n : Nat} {b : BS} {m : List NEnt} {xs : List V} (hF : H F = some (.lst xs)) (h : KnownF P w H KD F l W n b m) (s : KeepF F H H') (hd : H' KD = some (ndO P w KD m)) : KnownF P w H' KD F l W n b m :=
  ⟨hd, h.ks.mono fun c ys e => s c _ (ne_lstF hF e) (fun _ q => nomatch q) e, fun e he => let ⟨c, hc, k, T, t1, t2⟩ := h.es e he; ⟨c, hc, k, T, t1, t2.mono hF s⟩⟩
def ListF (H : Hp) (F : Addr) (l : List Nat) (W : List (List Nat)) (n i : Nat) : Prop := ∃ as : List Addr, H F = some (.lst (as.map V.ref)) ∧ as.length = i ∧ ∀ (j : Nat) (a : Addr) (c : Nat), as[j]? = some a → l[j]? = some c → EntF F H a W n c
theorem ListF.mono {H H' : Hp} {F : Addr} {l : List Nat} {W : List (List Nat)} {n i : Nat} (h : ListF H F l W n i) (s : KeepF F H H') (k : H' F = H F) : ListF H' F l W n i :=
  let ⟨as, e, hl, f⟩ := h
  ⟨as, by rw [k]; exact e, hl, fun j a c e1 e2 => (f j a c e1 e2).mono e s⟩
def spOcc (C CH : Addr) : Sp := fun vs H Q _ => ∃ (p : Addr) (l : List Nat) (n : Int) (rows : List Row), vs = [.ref p] ∧ HistAt C CH H p l n rows ∧ l.Nodup ∧
  ∀ H' F, Same H H' → H F = none → FoundAt H' F l (leftL l n rows) n.toNat l.length → Q (.ref F) H'
section
variable {P : Program} {w : World} {K : PySem.W.Frag} {mg : Str → Option Value} {base : Heap} {C CH CD : Addr}
abbrev nOcc : List Str := ["history", "bounds", "known", "found", "letter", "told", "places", "numbers"]
theorem scOcc : FnScope nOcc ["history"] (defScope sOcc) := ⟨rfl, rfl, rfl, by decide +kernel, rfl, by decide +kernel, by decide +kernel⟩
theorem ok_occ {f fP fN : Addr} {fd fdP fdN : FuncData} (F : Fun K "occurrences" "occurrences" sOcc f fd) (TC : TxC K mg C) (TH : TxH K mg CH) (TB : TxBd K mg CD) (mD : mg "Bounds" = some (.ref CD)) {fI fL : Addr} {fdI fdL : FuncData} (M : Mk K CD fI) (GI : FnOk P w K mg base CX0 3 fI fdI ["self", "board", "rows", "facts"] (spBInit C CD)) (bI : Binds K fdI ["self", "board", "rows", "facts"] []) (mL : Meth K CD "of_letter" fL) (GL : FnOk P w K mg base CX0 1 fL fdL ["self", "letter"] (spOfL CD)) (bL : Binds K fdL ["self", "letter"] [])
    (GP : FnOk P w K mg base CX0 22 fP fdP ["history", "letter"] (spPlcL C CH)) (DP : Df K mg "places_of_letter" fP fdP ["history", "letter"])
    (GN : FnOk P w K mg base CX0 22 fN fdN ["history", "letter"] (spNumC C CH)) (DN : Df K mg "numbers_of_copies" fN fdN ["history", "letter"])
    : FnOk P w K mg base CX0 23 f fd ["history"] (spOcc C CH) := by
  refine F.ok scOcc (fun vs H Q E h => ?_) (fun cdv A outer s H vs Q E hr h => ?_)
  · obtain ⟨p, l, n, rows, rfl, _⟩ := h
    rfl
  · obtain ⟨p, l, n, rows, rfl, hh, lnd, fin⟩ := h
    have nd := scOcc.nd
    have hline : sizeLine = 16777216 := sizeLine_eq
    have hrP : Room 22 _ := hr.mono (by decide)
    have hrN : Room 22 _ := hr.mono (by decide)
    have hu9 : (A.deeper (PyProof.Rows.envOfC "occurrences" (defScope sOcc) s.heap.objs.size f cdv)).units + 9 < cLine := by have := hr.un; omega
    have hr4 : Room 4 _ := hr.mono (by decide)
    have hr1 : Room 1 _ := hr.mono (by decide)
    refine ⟨_, pss_cons (ps_set (i := 1) nd rfl (Or.inl rfl) (pe_make M GI hr4 (by rfl) mD bI .nil pass0 (pa_cons (pe_fld (pv 0) rfl) (pa_cons (pe_fld (pv 0) rfl) (pa_cons (pe_tup pa_nil) pa_nil)))))
      (pss_cons (ps_set (i := 2) nd rfl (Or.inl rfl) pe_nnew)
      (pss_cons (ps_set (i := 3) nd rfl (Or.inl rfl) (pe_lst pa_nil))
      (pss_cons (ps_for PassesOwn.never rfl (pi_str (pe_fld (pe_fld (pv 0) rfl) rfl)) (pg_name (i := 4) nd rfl (Or.inl rfl))
        (pss_cons (ps_set (i := 5) nd rfl (Or.inl rfl) (pe_meth (pv 1) TB.cl mL GL hr1 bL .nil pass0 (pa_cons (pv 4) pa_nil)))
      (C8.pss_cut (ps_if (pt_cmp (pc_nnotin hu9 (pv 5) (pv 2))) (pss_one (ps_nput hu9 (pv 2) (pv 5) (pe_tup (pa_cons (pe_call GP hrP (by rfl) DP.mg DP.kp DP.b .nil pass0 (pa_cons (pv 0) (pa_cons (pv 4) pa_nil))) (pa_cons (pe_call GN hrN (by rfl) DN.mg DN.kp DN.b .nil pass0 (pa_cons (pv 0) (pa_cons (pv 4) pa_nil))) pa_nil))) (by rfl))) pss_nil)
      (pss_cons (ps_asg (pe_nget hu9 (pv 2) (pv 5) (fun _ _ => rfl)) (pg_tup (by rfl) (pgs_cons (pg_name (i := 6) nd rfl (Or.inl rfl)) (pgs_cons (pg_name (i := 7) nd rfl (Or.inl rfl)) pgs_nil))))
      (pss_one (ps_expr (pe_bm PySem.F.plainAttrs_list PySem.F.slot_list_append PySem.F.type_list_append mt_append (pv 3) (pa_cons (pe_tup (pa_cons (pv 4) (pa_cons (pv 6) (pa_cons (pv 7) pa_nil)))) pa_nil))))))))
      (pss_one (ps_ret (pv 3)))))), ?_⟩
    obtain ⟨dx, b, r, e, hb, hrw, ok⟩ := _root_.id hh
    obtain ⟨⟨dxb, eb⟩, l26, n1, n6⟩ := _root_.id hb
    have r20 := ok.2
    have allen : (bsOf l n.toNat rows).al.length ≤ 6 := by
      have bo := (bsF_ok rows (bs0 l n.toNat) (n := n.toNat) (List.length_replicate ..) (fun y hy => by rw [(List.mem_replicate.mp hy).2]; exact l26)).1
      have bo : (bsOf l n.toNat rows).al.length = n.toNat := bo
      omega
    refine ⟨_, rfl, p, CH, dx, _, _, rfl, e, TH.cl, TH.nB, hf_board b r, _, rfl, p, CH, dx, _, _, rfl, e, TH.cl, TH.nR, hf_rows b r, by show 0 ≤ sizeLine; omega, fun ea zea => ?_⟩
    have sea := same_upd (o := .tup []) zea
    refine fun x dxx nx ndx nex => ?_
    have sm0 : Same H (upd (upd (upd H ea (.tup [])) dxx (.own x)) x (.ins CD dxx [])) := fun a o z => by rw [upd_ne (ne_of_none (sea _ _ z) nx), upd_ne (ne_of_none (sea _ _ z) ndx)]; exact sea _ _ z
    have eea : upd (upd (upd H ea (.tup [])) dxx (.own x)) x (.ins CD dxx []) ea = some (.tup []) := by rw [upd_ne (ne_of_none upd_same nx), upd_ne (ne_of_none upd_same ndx)]; exact upd_same
    refine ⟨x, dxx, b, r, ea, l, n, rows, rfl, upd_same, ⟨hb.same sm0, lnd⟩, hrw.same sm0, ok.1, eea, fun H1 q b1 bt => ⟨rfl, ?_⟩⟩
    have s1 : Same H H1 := fun a o z => b1 a o (ne_of_none (sea _ _ z) nx) (sm0 a o z)
    clear b1 eea sm0
    intro KD zKD
    refine ⟨by show 0 ≤ sizeLine; omega, fun FD zFD => ?_⟩
    have nKF : KD ≠ FD := ne_of_none upd_same zFD
    have zFD1 : H1 FD = none := by rw [upd_ne nKF.symm] at zFD; exact zFD
    have zF0 : H FD = none := s1.free zFD1
    have s3 : Same H1 (upd (upd H1 KD (ndO P w KD [])) FD (.lst [])) := (same_upd zKD).trans (same_upd zFD)
    have k3 : KnownF P w (upd (upd H1 KD (ndO P w KD [])) FD (.lst [])) KD FD l (leftL l n rows) n.toNat (bsOf l n.toNat rows) [] := ⟨(upd_ne nKF).trans upd_same, fun e he => (nomatch he), fun e he => (nomatch he)⟩
    have f3 : ListF (upd (upd H1 KD (ndO P w KD [])) FD (.lst [])) FD l (leftL l n rows) n.toNat 0 := ⟨[], upd_same, rfl, fun j a c e1 => by simp at e1⟩
    have s03 := s1.trans s3
    refine ⟨_, rfl, p, CH, dx, _, _, rfl, s03 _ _ e, TH.cl, TH.nB, hf_board b r, b, C, dxb, _, _, rfl, s03 _ _ eb, TC.cl, TC.nL, bf_letters _ _, tx l, rfl, for_it (walk_str (z := tx l)) (fun i σ H' => ∃ (v4 v5 v6 v7 : Option V) (m : List NEnt), σ = [some (.ref p), some (.ref x), some (.ref KD), some (.ref FD), v4, v5, v6, v7] ∧ Same H1 H' ∧ KnownF P w H' KD FD l (leftL l n rows) n.toNat (bsOf l n.toNat rows) m ∧ m.length ≤ i ∧ ListF H' FD l (leftL l n rows) n.toNat i)
      ⟨_, _, _, _, [], rfl, s3, k3, Nat.zero_le _, f3⟩ (fun _ _ _ _ _ => trivial) ?_ ?_⟩
    · rintro i y σ H5 H4 hi ⟨v4, v5, v6, v7, m, rfl, s4, k4, ml, f4⟩ ⟨rfl, c, hc, rfl⟩
      have hc' := tx_at hc
      have hlt := (List.getElem?_eq_some_iff.mp hc').1
      have hcl := List.mem_of_getElem? hc'
      have bt4 := bt.same s4
      refine ⟨_, rfl, x, _, _, rfl, bt4.p, bf_no _ _ _ (by decide +kernel), _, rfl, x, q, l, _, c, rfl, bt4, hcl, allen, fun H6 t s6 zt hk => ?_⟩
      obtain ⟨as4, eF4, lF4, gF4⟩ := _root_.id f4
      have hF6 := s6 _ _ eF4
      have k6 := k4.mono eF4 (KeepF.of s6) (s6 _ _ k4.d)
      have f6 := f4.mono (KeepF.of s6) (by rw [hF6, eF4])
      have s46 := s4.trans s6
      have hh6 : HistAt C CH H6 p l n rows := (hh.same s1).same s46
      refine ⟨fun σ' H' => ∃ (m' : List NEnt) (T : Addr) (v6 v7 : Option V), σ' = [some (.ref p), some (.ref x), some (.ref KD), some (.ref FD), some (.str (one c)), some (.ref t), v6, v7] ∧ Same H1 H' ∧ KnownF P w H' KD FD l (leftL l n rows) n.toNat (bsOf l n.toNat rows) m' ∧ m'.length ≤ i + 1 ∧ ListF H' FD l (leftL l n rows) n.toNat i ∧ nAt m' (toldK (bsOf l n.toNat rows) c) = some (.ref T) ∧ TwoF FD H' T (leftL l n rows) n.toNat c ∧ NKeyAt H' (toldK (bsOf l n.toNat rows) c) t, ?_, ?_⟩
      · refine ⟨_, rfl, _, rfl, KD, t, toldK (bsOf l n.toNat rows) c, m, rfl, rfl, hk, k6.d, k6.ks, _, rfl, ?_⟩
        cases hv : nAt m (toldK (bsOf l n.toNat rows) c) with
        | some v =>
          obtain ⟨en, hen, ek, ev⟩ := nAt_mem hv
          obtain ⟨d, hd, kd, T, eT, tw⟩ := k6.es en hen
          rw [ev] at eT
          subst eT
          have td : toldB (bsOf l n.toNat rows) d = toldB (bsOf l n.toNat rows) c := toldK_inj (kd.symm.trans ek)
          have ep := pl_same (l := l) (n := n) (rows := rows) (by omega) ok.1 hd hcl td n.toNat
          have en2 := nu_same (l := l) (n := n) (rows := rows) (by omega) ok.1 hd hcl td n.toNat
          unfold TwoF at tw
          rw [ep, en2] at tw
          exact iteF ⟨m, T, _, _, rfl, s46, k6, by omega, f6, hv, tw, hk⟩
        | none =>
          refine iteT ⟨_, rfl, _, rfl, p, l, n, rows, c, rfl, hh6, lnd, hcl, fun H7 PL s7 zPL hPL => ?_⟩
          refine ⟨_, rfl, _, rfl, p, l, n, rows, c, rfl, hh6.same s7, lnd, hcl, fun H8 NU s8 zNU hNU => ?_⟩
          refine ⟨by show 2 ≤ sizeLine; rw [sizeLine_eq]; decide, fun T zT => ?_⟩
          have sT := same_upd (o := .tup [.ref PL, .ref NU]) zT
          have s9 := (s7.trans s8).trans sT
          have hF9 := s9 _ _ hF6
          have k9 := k6.mono hF6 (KeepF.of s9) (s9 _ _ k6.d)
          have f9 := f6.mono (KeepF.of s9) (by rw [hF9, hF6])
          have hk9 : NKeyAt (upd H8 T (.tup [.ref PL, .ref NU])) (toldK (bsOf l n.toNat rows) c) t := hk.mono fun c ys e => s9 _ _ e
          have nPF : PL ≠ FD := (ne_of_none hF6 zPL).symm
          have nNF : NU ≠ FD := (ne_of_none (s7 _ _ hF6) zNU).symm
          have tw9 : TwoF FD (upd H8 T (.tup [.ref PL, .ref NU])) T (leftL l n rows) n.toNat c := ⟨PL, NU, upd_same, sT _ _ (s8 _ _ hPL), sT _ _ hNU, nPF, nNF⟩
          have s19 := s46.trans s9
          generalize upd H8 T (.tup [.ref PL, .ref NU]) = H9 at s9 hF9 k9 f9 hk9 tw9 s19 ⊢
          refine ⟨_, rfl, _, rfl, KD, t, toldK (bsOf l n.toNat rows) c, m, rfl, rfl, hk9, k9.d, k9.ks, by omega, ?_⟩
          have em : nPut m (toldK (bsOf l n.toNat rows) c) t (.ref T) = m ++ [(toldK (bsOf l n.toNat rows) c, t, .ref T)] := by
            unfold nPut
            rw [hv]
            rfl
          have nFK : FD ≠ KD := fun z => by rw [z, k9.d] at hF9; unfold ndO at hF9; cases hF9
          have kp : KeepF FD H9 (upd H9 KD (ndO P w KD (nPut m (toldK (bsOf l n.toNat rows) c) t (.ref T)))) := fun a o _ nx e => by
            rw [upd_ne fun z => by rw [z, k9.d] at e; exact nx _ (Option.some.inj e).symm]
            exact e
          refine ⟨_, T, _, _, rfl, fun a o h1 => ?_, ⟨upd_same, fun en hen => ?_, fun en hen => ?_⟩, ?_, f9.mono kp (upd_ne nFK), ?_, tw9.mono hF9 kp, hk9.mono fun z ys e => kp z _ (ne_lstF hF9 e) (fun _ q => (nomatch q)) e⟩
          · rw [upd_ne (ne_of_none h1 zKD)]
            exact s19 a o h1
          · rw [em] at hen
            rcases List.mem_append.mp hen with hen | hen
            · exact (k9.ks en hen).mono fun z ys e => kp z _ (ne_lstF hF9 e) (fun _ q => (nomatch q)) e
            · rw [List.mem_singleton.mp hen]
              exact hk9.mono fun z ys e => kp z _ (ne_lstF hF9 e) (fun _ q => (nomatch q)) e
          · rw [em] at hen
            rcases List.mem_append.mp hen with hen | hen
            · obtain ⟨d, hd, kd, T', eT, tw⟩ := k9.es en hen
              exact ⟨d, hd, kd, T', eT, tw.mono hF9 kp⟩
            · rw [List.mem_singleton.mp hen]
              exact ⟨c, hcl, rfl, T, rfl, tw9.mono hF9 kp⟩
          · rw [em, List.length_append]
            exact Nat.add_le_add_right ml 1
          · rw [em]
            unfold nAt
            have e0 : (m.find? fun e => decide (e.1 = toldK (bsOf l n.toNat rows) c)) = none := by
              unfold nAt at hv
              exact Option.map_eq_none_iff.mp hv
            rw [List.find?_append, e0]
            simp
      rintro _ H9 ⟨m', T, v6, v7, rfl, s9, k9, ml9, f9, hat, ⟨PL, NU, e1, e2, e3, n1', n2'⟩, hk9⟩
      obtain ⟨as9, eF9, lF9, gF9⟩ := _root_.id f9
      refine ⟨_, rfl, _, rfl, KD, t, toldK (bsOf l n.toNat rows) c, m', _, rfl, rfl, hk9, k9.d, k9.ks, hat, ?_⟩
      refine ⟨T, _, rfl, SqT.of e1, rfl, _, _, rfl, _, _, rfl, rfl, ?_⟩
      refine ⟨_, rfl, .inl ⟨rfl, _, SqL.of eF9⟩, _, rfl, _, rfl, _, rfl, by show 3 ≤ sizeLine; rw [sizeLine_eq]; decide, fun a za => ?_⟩
      have sa := same_upd (o := .tup [.str (one c), .ref PL, .ref NU]) za
      have hFa := sa _ _ eF9
      have kp : KeepF FD (upd H9 a (.tup [.str (one c), .ref PL, .ref NU])) (upd (upd H9 a (.tup [.str (one c), .ref PL, .ref NU])) FD (.lst (as9.map V.ref ++ [.ref a]))) := fun b o nb _ e => by rw [upd_ne nb]; exact e
      have kall := (KeepF.of (F := FD) sa).trans kp
      have nFK : KD ≠ FD := fun z => by have := k9.d; rw [z, eF9] at this; unfold ndO at this; cases this
      refine ⟨FD, _, _, rfl, rfl, hFa, by rw [List.length_map]; omega, _, _, _, _, m', rfl, fun b o h1 => ?_, k9.mono eF9 kall ((upd_ne nFK).trans (sa _ _ k9.d)), ml9, as9 ++ [a], ?_, by rw [List.length_append, lF9]; rfl, fun j a' c' h1 h2 => ?_⟩
      · rw [upd_ne (ne_of_none h1 zFD1)]
        exact sa _ _ (s9 b o h1)
      · rw [upd_same, List.map_append]
        rfl
      · by_cases hj : j < as9.length
        · rw [List.getElem?_append_left hj] at h1
          exact (gF9 j a' c' h1 h2).mono eF9 kall
        · have hj2 : j = as9.length := by
            have := (List.getElem?_eq_some_iff.mp h1).1
            rw [List.length_append] at this
            have : j < as9.length + 1 := this
            omega
          rw [hj2, List.getElem?_append_right (Nat.le_refl _), Nat.sub_self] at h1
          cases h1
          rw [hj2, lF9, hc'] at h2
          cases h2
          exact ⟨PL, NU, kp _ _ (ne_lstF hFa upd_same) (fun _ q => nomatch q) upd_same, kp _ _ n1' (fun _ q => nomatch q) (sa _ _ e2), kp _ _ n2' (fun _ q => nomatch q) (sa _ _ e3), n1', n2'⟩
    · rintro σ H5 ⟨v4, v5, v6, v7, m, rfl, s4, k4, ml, f4⟩
      rw [tx_size] at f4
      obtain ⟨as, eF, lF, gF⟩ := f4
      exact ⟨_, rfl, fin H5 FD (s1.trans s4) zF0 ⟨as, eF, lF, fun j a c e1 e2 => let ⟨PL, NU, u1, u2, u3, _⟩ := gF j a c e1 e2; ⟨PL, NU, u1, u2, u3⟩⟩⟩
end
end Gm

/-! letters_at, table -/
namespace Gm
open PySem PySem.Spec PyProof.Rows L2


def onesV (ws : List Nat) : List V := ws.map fun c => V.str (one c)
theorem onesV_len (ws : List Nat) : (onesV ws).length = ws.length := List.length_map ..
theorem onesV_app (a b : List Nat) : onesV (a ++ b) = onesV a ++ onesV b := List.map_append
def loT (W : List (List Nat)) (n c : Nat) : Int := ((nuT W n c).getD 0 0 : Nat)
def hiT (W : List (List Nat)) (n c : Nat) : Int := ((nuT W n c).getD ((nuT W n c).length - 1) 0 : Nat)
def ltT (l : List Nat) (W : List (List Nat)) (i : Nat) : List Nat := l.filter fun c => atT W i c
/-- a table stands at t -/
def TabAt (H : Hp) (t : Addr) (l : List Nat) (W : List (List Nat)) (n : Nat) : Prop := ∃ (A B : Addr) (bs : List Addr), H t = some (.tup [.ref A, .ref B]) ∧ H A = some (.tup ((List.range n).map fun i => V.str (tx (ltT l W i)))) ∧ H B = some (.tup (bs.map V.ref)) ∧ bs.length = l.length ∧
  ∀ (j : Nat) (b : Addr) (c : Nat), bs[j]? = some b → l[j]? = some c → H b = some (.tup [.int (loT W n c), .int (hiT W n c)])
theorem TabAt.same {H H' : Hp} {t : Addr} {l : List Nat} {W : List (List Nat)} {n : Nat} (h : TabAt H t l W n) (s : Same H H') : TabAt H' t l W n :=
  let ⟨A, B, bs, e1, e2, e3, e4, e5⟩ := h
  ⟨A, B, bs, s _ _ e1, s _ _ e2, s _ _ e3, e4, fun j b c h1 h2 => s _ _ (e5 j b c h1 h2)⟩
theorem eqv_iv (i k : Nat) : eqV (.int (i : Int)) (.int (k : Int)) = decide (i = k) := by
  show decide ((i : Int) = (k : Int)) = _
  rw [Bool.eq_iff_iff, decide_eq_true_iff, decide_eq_true_iff]
  omega
theorem inV_ivs (i : Nat) (u : List Nat) : inV (.int (i : Int)) (ivs u) = decide (i ∈ u) := by
  unfold inV
  rw [Bool.eq_iff_iff, decide_eq_true_iff, List.any_eq_true]
  constructor
  · rintro ⟨y, hy, h⟩
    obtain ⟨z, hz, rfl⟩ := List.mem_map.mp hy
    rw [eqv_iv, decide_eq_true_iff] at h
    exact h ▸ hz
  · intro h
    exact ⟨.int (i : Int), List.mem_map.mpr ⟨i, h, rfl⟩, by rw [eqv_iv, decide_eq_true rfl]⟩
theorem flat_ivs (u : List Nat) : (ivs u).all flatV = true := by
  unfold ivs
  rw [List.all_map]
  exact List.all_eq_true.mpr fun _ _ => rfl
theorem mem_plT {W : List (List Nat)} {n c i : Nat} (hi : i < n) : decide (i ∈ plT W n c) = atT W i c := by
  unfold plT
  rw [Bool.eq_iff_iff, decide_eq_true_iff, List.mem_filter, List.mem_range]
  exact ⟨fun h => h.2, fun h => ⟨hi, h⟩⟩
theorem nu_pos {W : List (List Nat)} {n c : Nat} (hW : W ≠ []) (hl : ∀ w ∈ W, w.length = n) : 0 < (nuT W n c).length := by
  cases W with
  | nil => exact absurd rfl hW
  | cons w W =>
    refine List.length_pos_of_mem (a := w.count c) (List.mem_filter.mpr ⟨List.mem_range.mpr ?_, ?_⟩)
    · have h1 := List.count_le_length (a := c) (l := w)
      have h2 := hl w List.mem_cons_self
      omega
    · exact List.any_eq_true.mpr ⟨w, List.mem_cons_self, decide_eq_true rfl⟩
theorem iv_first {xs : List Nat} (h : 0 < xs.length) : atI (ivs xs) 0 = some (.int ((xs.getD 0 0 : Nat) : Int)) := by
  rw [show (0 : Int) = ((0 : Nat) : Int) from rfl]
  refine atI_nat ?_
  unfold ivs
  rw [List.getElem?_map, List.getD_eq_getElem?_getD, List.getElem?_eq_getElem h]
  rfl
theorem iv_last {xs : List Nat} (h : 0 < xs.length) : atI (ivs xs) (-1) = some (.int ((xs.getD (xs.length - 1) 0 : Nat) : Int)) := by
  unfold atI ixN
  rw [if_neg (by decide), if_pos (by rw [ivs_len]; omega)]
  show (ivs xs)[(-1 + ((ivs xs).length : Int)).toNat]? = _
  rw [show (-1 + ((ivs xs).length : Int)).toNat = xs.length - 1 by rw [ivs_len]; omega]
  unfold ivs
  rw [List.getElem?_map, List.getD_eq_getElem?_getD, List.getElem?_eq_getElem (show xs.length - 1 < xs.length by omega)]
  rfl
def spLtA : Sp := fun vs H Q _ => ∃ (F : Addr) (l : List Nat) (W : List (List Nat)) (n i : Nat), vs = [.ref F, .int (i : Int)] ∧ FoundAt H F l W n l.length ∧ i < n ∧ l.length ≤ 26 ∧ ∀ H', Same H H' → Q (.str (tx (ltT l W i))) H'
def spTable (C CH : Addr) : Sp := fun vs H Q _ => ∃ (p : Addr) (l : List Nat) (n : Int) (rows : List Row), vs = [.ref p] ∧ HistAt C CH H p l n rows ∧ l.Nodup ∧
  ∀ H', Same H H' → (leftL l n rows = [] → Q .non H') ∧ (leftL l n rows ≠ [] → ∀ t, H t = none → TabAt H' t l (leftL l n rows) n.toNat → Q (.ref t) H')
section
variable {P : Program} {w : World} {K : PySem.W.Frag} {mg : Str → Option Value} {base : Heap} {C CH : Addr}
abbrev nLtA : List Str := ["found", "place", "letter", "places", "numbers"]
theorem scLtA : FnScope nLtA ["found", "place"] (defScope sLtA) := ⟨rfl, rfl, rfl, by decide +kernel, rfl, by decide +kernel, by decide +kernel⟩
theorem ok_ltA {f : Addr} {fd : FuncData} (F : Fun K "letters_at" "letters_at" sLtA f fd)
    : FnOk P w K mg base CX0 1 f fd ["found", "place"] spLtA := by
  refine F.ok scLtA (fun vs H Q E h => ?_) (fun cdv A outer s H vs Q E hr h => ?_)
  · obtain ⟨F, l, W, n, i, rfl, _⟩ := h
    rfl
  · obtain ⟨F, l, W, n, i, rfl, hF, hi, l26, fin⟩ := h
    have nd := scLtA.nd
    have hline : sizeLine = 16777216 := sizeLine_eq
    refine ⟨_, pss_one (ps_ret (pe_join pe_str (pe_lc (tt := (tTest (tOp (rIn K false) (tVar 1) (tVar 3)))) (own := [("letter", 2), ("places", 3), ("numbers", 4)]) (g := gTup K 3 (gCons (gName 2) (gCons (gName 3) (gCons (gName 4) gNil)))) (by rfl) nd (pi_list (pv 0)) (blkOk_by (own := [("letter", 2), ("places", 3), ("numbers", 4)]) (N := nLtA) (sc := defScope sLtA) (by decide +kernel)) (fun _ _ _ _ _ => pg_tup (by rfl) (pgs_cons (pg_name (i := 2) nd rfl (Or.inl rfl)) (pgs_cons (pg_name (i := 3) nd rfl (Or.inl rfl)) (pgs_cons (pg_name (i := 4) nd rfl (Or.inl rfl)) pgs_nil)))) (fun _ _ _ _ _ => by exact pts_one (pt_cmpR op_in_seq (pv 1) (pv 3) rfl)) (fun _ _ _ _ _ => by exact (pv 2))))), ?_⟩
    obtain ⟨as, eF, lF, gF⟩ := hF
    refine ⟨⟨_, rfl⟩, _, rfl, F, rfl, ⟨_, SqL.of eF⟩, fun M zM => lc_list (fun j H' => Same H H' ∧ H' M = some (.lst (onesV (ltT (l.take j) W i)))) ⟨same_upd zM, upd_same⟩ (fun j H' _ h => SqL.of (h.1 _ _ eF)) ?_ ?_⟩
    · rintro j x H1 hx ⟨s1, hM⟩
      rw [List.getElem?_map] at hx
      obtain ⟨a, ha, rfl⟩ := Option.map_eq_some_iff.mp hx
      have hj : j < l.length := by rw [← lF]; exact (List.getElem?_eq_some_iff.mp ha).1
      have hc : l[j]? = some l[j] := List.getElem?_eq_getElem hj
      obtain ⟨PL, NU, e1, e2, e3⟩ := gF j a _ ha hc
      generalize l[j] = c at hc e1 e2 e3
      refine ⟨a, _, rfl, SqT.of (s1 _ _ e1), rfl, _, _, rfl, _, _, rfl, _, _, rfl, rfl, rfl, _, rfl, _, rfl, PL, _, rfl, .inl (SqL.of (s1 _ _ e2)), rfl, flat_ivs _, _, rfl, ?_⟩
      have et : ltT (l.take (j + 1)) W i = ltT (l.take j) W i ++ (if atT W i c = true then [c] else []) := by
        unfold ltT
        rw [take_snocV hc, List.filter_append, List.filter_cons, List.filter_nil]
      rw [inV_ivs, mem_plT hi, et]
      refine ite2 (fun h => ?_) (fun h => ?_)
      · rw [if_pos (show atT W i c = true from h)]
        refine ⟨_, rfl, _, hM, ?_, fun u o z => ?_, ?_⟩
        · rw [onesV_len]
          have h1 : (ltT (l.take j) W i).length ≤ (l.take j).length := List.length_filter_le _ _
          rw [List.length_take] at h1
          omega
        · rw [upd_ne (ne_of_none z zM)]
          exact s1 u o z
        · rw [upd_same, onesV_app]
          rfl
      · rw [if_neg (show ¬ atT W i c = true from h), List.append_nil]
        exact ⟨s1, hM⟩
    · rintro H1 ⟨s1, hM⟩
      rw [List.length_map, lF, List.take_length] at hM
      refine ⟨_, M, (ltT l W i).map one, rfl, rfl, .inl (SqL.of (by rw [List.map_map]; exact hM)), ?_, ?_⟩
      · rw [sum_one, List.length_map]
        have h1 : (ltT l W i).length ≤ l.length := List.length_filter_le _ _
        show (ltT l W i).length + (ltT l W i).length * 0 ≤ 16777216
        omega
      · show Q (.str (Txt.join (Str.ofString "") ((ltT l W i).map one))) H1
        rw [join_one]
        exact fin H1 s1
abbrev nTable : List Str := ["history", "board", "found", "letters", "bounds", "place", "letter", "places", "numbers"]
theorem scTable : FnScope nTable ["history"] (defScope sTable) := ⟨rfl, rfl, rfl, by decide +kernel, rfl, by decide +kernel, by decide +kernel⟩
theorem ok_table {f fC fW fO fL : Addr} {fd fdC fdW fdO fdL : FuncData} (F : Fun K "table" "table" sTable f fd) (TC : TxC K mg C) (TH : TxH K mg CH) (trange : mg "range" = none) (ttuple : mg "tuple" = none)
    (GC : FnOk P w K mg base CX0 1 fC fdC ["history"] (spChkH C CH)) (DC : Df K mg "check_history" fC fdC ["history"])
    (GW : FnOk P w K mg base CX0 21 fW fdW ["board", "rows", "facts"] (spHasG C)) (DW : Df K mg "has_word" fW fdW ["board", "rows", "facts"])
    (GO : FnOk P w K mg base CX0 23 fO fdO ["history"] (spOcc C CH)) (DO : Df K mg "occurrences" fO fdO ["history"])
    (GL : FnOk P w K mg base CX0 1 fL fdL ["found", "place"] spLtA) (DL : Df K mg "letters_at" fL fdL ["found", "place"])
    : FnOk P w K mg base CX0 24 f fd ["history"] (spTable C CH) := by
  refine F.ok scTable (fun vs H Q E h => ?_) (fun cdv A outer s H vs Q E hr h => ?_)
  · obtain ⟨p, l, n, rows, rfl, _⟩ := h
    rfl
  · obtain ⟨p, l, n, rows, rfl, hh, lnd, fin⟩ := h
    have nd := scTable.nd
    have hline : sizeLine = 16777216 := sizeLine_eq
    have hrC : Room 1 _ := hr.mono (by decide)
    have hrW : Room 21 _ := hr.mono (by decide)
    have hrO : Room 23 _ := hr.mono (by decide)
    have hrL : Room 1 _ := hr.mono (by decide)
    refine ⟨_, pss_cons (ps_expr (pe_call GC hrC (by rfl) DC.mg DC.kp DC.b .nil pass0 (pa_cons (pv 0) pa_nil)))
      (pss_cons (ps_set (i := 1) nd rfl (Or.inl rfl) (pe_fld (pv 0) rfl))
      (pss_cons (ps_if (pt_not (pt_val (pe_call GW hrW (by rfl) DW.mg DW.kp DW.b .nil pass0 (pa_cons (pv 1) (pa_cons (pe_fld (pv 0) rfl) (pa_cons (pe_tup pa_nil) pa_nil)))))) (pss_one (ps_ret pe_non)) pss_nil)
      (pss_cons (ps_set (i := 2) nd rfl (Or.inr rfl) (pe_call GO hrO (by rfl) DO.mg DO.kp DO.b .nil pass0 (pa_cons (pv 0) pa_nil)))
      (pss_cons (ps_set (i := 3) nd rfl (Or.inl rfl) (pe_callTy call_tuple_of (by rfl) ttuple (by decide +kernel) (pa_cons (pe_lc (own := [("place", 5)]) (g := gName 5) (by rfl) nd (pi_range1 (by rfl) trange (pa_cons (pe_fld (pv 1) rfl) pa_nil)) (blkOk_by (own := [("place", 5)]) (N := nTable) (sc := defScope sTable) (by decide +kernel)) (fun _ _ _ _ _ => pg_name (i := 5) nd rfl (Or.inl rfl)) (fun _ _ _ _ _ => pts_nil) (fun _ _ _ _ _ => pe_call GL hrL (by rfl) DL.mg DL.kp DL.b .nil pass0 (pa_cons (pv 2) (pa_cons (pv 5) pa_nil)))) pa_nil)))
      (pss_cons (ps_set (i := 4) nd rfl (Or.inl rfl) (pe_callTy call_tuple_of (by rfl) ttuple (by decide +kernel) (pa_cons (pe_lc (te := (tTup (tCons (tOp (rIxL K) (tVar 8) (tC (.int 0))) (tCons (tOp (rIxL K) (tVar 8) (tUn (rU fun i => .int (-i)) (tC (.int 1)))) tNil)))) (own := [("letter", 6), ("places", 7), ("numbers", 8)]) (g := gTup K 3 (gCons (gName 6) (gCons (gName 7) (gCons (gName 8) gNil)))) (by rfl) nd (pi_list (pv 2)) (blkOk_by (own := [("letter", 6), ("places", 7), ("numbers", 8)]) (N := nTable) (sc := defScope sTable) (by decide +kernel)) (fun _ _ _ _ _ => pg_tup (by rfl) (pgs_cons (pg_name (i := 6) nd rfl (Or.inl rfl)) (pgs_cons (pg_name (i := 7) nd rfl (Or.inl rfl)) (pgs_cons (pg_name (i := 8) nd rfl (Or.inl rfl)) pgs_nil)))) (fun _ _ _ _ _ => by exact pts_nil) (fun _ _ _ _ _ => by exact (pe_tup (pa_cons (pe_ix ix_list (pv 8) pe_int (fun _ _ => rfl)) (pa_cons (pe_ix ix_list (pv 8) (pe_un un_neg pe_int) (fun _ _ => rfl)) pa_nil))))) pa_nil)))
      (pss_one (ps_ret (pe_tup (pa_cons (pv 3) (pa_cons (pv 4) pa_nil)))))))))), ?_⟩
    obtain ⟨dx, b, r, e, hb, hrw, ok⟩ := _root_.id hh
    obtain ⟨⟨dxb, eb⟩, l26, n1, n6⟩ := _root_.id hb
    have r20 := ok.2
    refine ⟨_, rfl, p, l, n, rows, rfl, hh, ?_⟩
    refine ⟨_, rfl, p, CH, dx, _, _, rfl, e, TH.cl, TH.nB, hf_board b r, ?_⟩
    refine ⟨_, rfl, _, rfl, p, CH, dx, _, _, rfl, e, TH.cl, TH.nR, hf_rows b r, by show 0 ≤ sizeLine; omega, fun ea zea => ?_⟩
    have sea := same_upd (o := .tup []) zea
    refine ⟨b, r, ea, l, n, rows, [], [], rfl, ⟨hb.same sea, lnd⟩, lnd, hrw.same sea, ok.1, by omega, upd_same, .nil, fun f hf => (nomatch hf), fun H1 s1' => ⟨_, rfl, ?_⟩⟩
    have s1 := sea.trans s1'
    have ea1 : ((leftL l n rows).any fun w => decide (hasAll [] w)) = !(leftL l n rows).isEmpty := by
      cases leftL l n rows with
      | nil => rfl
      | cons w W => simp [hasAll]
    rw [ea1]
    refine ite2 (fun hem => ?_) (fun hem => ?_)
    · have em : leftL l n rows = [] := List.isEmpty_iff.mp (by simpa using hem)
      exact (fin H1 s1).1 em
    have ne : leftL l n rows ≠ [] := fun z => hem (by rw [z]; rfl)
    have hlen : ∀ w ∈ leftL l n rows, w.length = n.toNat := fun w hw => by
      have := ((mem_leftL (by omega)).mp hw).1
      omega
    refine ⟨_, rfl, p, l, n, rows, rfl, hh.same s1, lnd, fun H2 F s2 zF hF => ?_⟩
    have s12 := s1.trans s2
    refine ⟨_, rfl, b, C, dxb, _, _, rfl, s12 _ _ eb, TC.cl, TC.nN, bf_length _ _, n, rfl, by omega, by omega, fun D zD => ?_⟩
    have keepF : ∀ {H'}, Same H2 H' → FoundAt H' F l (leftL l n rows) n.toNat l.length := fun {H'} s => by
      obtain ⟨as, e1, e2, e3⟩ := hF
      exact ⟨as, s _ _ e1, e2, fun j a c h1 h2 => let ⟨PL, NU, u1, u2, u3⟩ := e3 j a c h1 h2; ⟨PL, NU, s _ _ u1, s _ _ u2, s _ _ u3⟩⟩
    refine lc_range (lo := 0) (n := n.toNat) (fun i H' => Same H2 H' ∧ H' D = some (.lst ((List.range i).map fun i => V.str (tx (ltT l (leftL l n rows) i))))) ⟨same_upd zD, upd_same⟩ ?_ ?_
    · rintro i H3 hi ⟨s3, hD⟩
      refine ⟨rfl, ⟨_, rfl, _, rfl, F, l, leftL l n rows, n.toNat, i, by rw [Int.zero_add]; rfl, keepF s3, hi, l26, fun H4 s4 => ?_⟩⟩
      refine ⟨_, s4 _ _ hD, by rw [List.length_map, List.length_range]; omega, fun u o z => ?_, ?_⟩
      · rw [upd_ne (ne_of_none z zD)]
        exact s4 _ _ (s3 u o z)
      · rw [upd_same, range_snocV, List.map_append]
        rfl
    rintro H3 ⟨s3, hD⟩
    refine ⟨D, _, rfl, .inl ⟨SqL.of hD, fun A zA => ?_⟩⟩
    have sA := same_upd (o := .tup ((List.range n.toNat).map fun i => V.str (tx (ltT l (leftL l n rows) i)))) zA
    have hA : upd H3 A (.tup ((List.range n.toNat).map fun i => V.str (tx (ltT l (leftL l n rows) i)))) A = some (.tup ((List.range n.toNat).map fun i => V.str (tx (ltT l (leftL l n rows) i)))) := upd_same
    have s4 := s3.trans sA
    generalize upd H3 A (.tup ((List.range n.toNat).map fun i => V.str (tx (ltT l (leftL l n rows) i)))) = H4 at sA hA s4 ⊢
    obtain ⟨as, eF, lF, gF⟩ := keepF s4
    refine ⟨_, rfl, F, rfl, ⟨_, SqL.of eF⟩, fun M zM => lc_list (fun j H' => Same H4 H' ∧ ∃ bs : List Addr, H' M = some (.lst (bs.map V.ref)) ∧ bs.length = j ∧ ∀ (k : Nat) (b : Addr) (c : Nat), bs[k]? = some b → l[k]? = some c → H' b = some (.tup [.int (loT (leftL l n rows) n.toNat c), .int (hiT (leftL l n rows) n.toNat c)])) ⟨same_upd zM, [], upd_same, rfl, fun k b c h => by simp at h⟩ (fun j H' _ h => SqL.of (h.1 _ _ eF)) ?_ ?_⟩
    · rintro j x H5 hx ⟨s5, bs, hM, lb, gb⟩
      rw [List.getElem?_map] at hx
      obtain ⟨a, ha, rfl⟩ := Option.map_eq_some_iff.mp hx
      have hj : j < l.length := by rw [← lF]; exact (List.getElem?_eq_some_iff.mp ha).1
      have hc : l[j]? = some l[j] := List.getElem?_eq_getElem hj
      obtain ⟨PL, NU, e1, e2, e3⟩ := gF j a _ ha hc
      generalize l[j] = c at hc e1 e2 e3
      have pos := nu_pos (c := c) ne hlen
      refine ⟨a, _, rfl, SqT.of (s5 _ _ e1), rfl, _, _, rfl, _, _, rfl, _, _, rfl, rfl, rfl, _, rfl, NU, _, _, _, rfl, rfl, SqL.of (s5 _ _ e3), iv_first pos, _, rfl, _, rfl, NU, _, _, _, rfl, rfl, SqL.of (s5 _ _ e3), iv_last pos, by show 2 ≤ sizeLine; rw [sizeLine_eq]; decide, fun B1 zB1 => ?_⟩
      have sB := same_upd (o := .tup [.int ((nuT (leftL l n rows) n.toNat c).getD 0 0 : Nat), .int ((nuT (leftL l n rows) n.toNat c).getD ((nuT (leftL l n rows) n.toNat c).length - 1) 0 : Nat)]) zB1
      have hMB := sB _ _ hM
      have nB1M : B1 ≠ M := fun z => by rw [z, hM] at zB1; cases zB1
      refine ⟨_, hMB, by rw [List.length_map]; omega, fun u o z => ?_, bs ++ [B1], ?_, by rw [List.length_append, lb]; rfl, fun k b' c' h1 h2 => ?_⟩
      · rw [upd_ne (ne_of_none z zM)]
        exact sB _ _ (s5 u o z)
      · rw [upd_same, List.map_append]
        rfl
      · by_cases hk : k < bs.length
        · rw [List.getElem?_append_left hk] at h1
          have h3 := sB _ _ (gb k b' c' h1 h2)
          rw [upd_ne fun z => by rw [z, hMB] at h3; cases h3]
          exact h3
        · have hk2 : k = bs.length := by
            have := (List.getElem?_eq_some_iff.mp h1).1
            rw [List.length_append] at this
            have : k < bs.length + 1 := this
            omega
          rw [hk2, List.getElem?_append_right (Nat.le_refl _), Nat.sub_self] at h1
          cases h1
          rw [hk2, lb, hc] at h2
          cases h2
          rw [upd_ne nB1M]
          exact upd_same
    rintro H5 ⟨s5, bs, hM, lb, gb⟩
    rw [List.length_map, lF] at lb
    refine ⟨M, _, rfl, .inl ⟨SqL.of hM, fun B zB => ?_⟩⟩
    have sB := same_upd (o := .tup (bs.map V.ref)) zB
    refine ⟨_, rfl, _, rfl, by show 2 ≤ sizeLine; rw [sizeLine_eq]; decide, fun t zt => ?_⟩
    have st := same_upd (o := .tup [.ref A, .ref B]) zt
    have S := ((s12.trans s4).trans s5).trans sB
    have ST := S.trans st
    exact (fin _ ST).2 ne t (S.free zt) ⟨A, B, bs, upd_same, st _ _ (sB _ _ (s5 _ _ hA)), st _ _ upd_same, lb, fun j b c h1 h2 => st _ _ (sB _ _ (gb j b c h1 h2))⟩
end
end Gm

/-! the numbers of copies have no gaps -/
namespace Gm
open PySem PySem.Spec PyProof.Rows L2
def df : List Nat → List Nat → Nat
  | a :: u, b :: v => (if a = b then 0 else 1) + df u v
  | _, _ => 0
theorem df_set : ∀ {u v : List Nat} {p c d : Nat}, v[p]? = some c → u[p]? = some d → d ≠ c → df (u.set p c) v + 1 = df u v
  | [], _, _, _, _, _, h, _ => by simp at h
  | _ :: _, [], _, _, _, h, _, _ => by simp at h
  | a :: u, b :: v, 0, c, d, h1, h2, h3 => by
    simp at h1 h2
    subst h1 h2
    show (if b = b then 0 else 1) + df u v + 1 = (if a = b then 0 else 1) + df u v
    rw [if_pos rfl, if_neg h3]
    omega
  | a :: u, b :: v, p + 1, c, d, h1, h2, h3 => by
    have := df_set (u := u) (v := v) (p := p) (c := c) (d := d) (by simpa using h1) (by simpa using h2) h3
    show (if a = b then 0 else 1) + df (u.set p c) v + 1 = (if a = b then 0 else 1) + df u v
    omega
theorem cnt_set : ∀ {u : List Nat} {p a : Nat} (c x : Nat), u[p]? = some a → (u.set p c).count x + (if a = x then 1 else 0) = u.count x + (if c = x then 1 else 0)
  | [], _, _, _, _, h => by simp at h
  | b :: u, 0, a, c, x, h => by
    simp at h
    subst h
    show (c :: u).count x + _ = (b :: u).count x + _
    rw [List.count_cons, List.count_cons]
    simp only [beq_iff_eq]
    omega
  | b :: u, p + 1, a, c, x, h => by
    have := cnt_set (u := u) (p := p) (a := a) c x (by simpa using h)
    show (b :: u.set p c).count x + _ = (b :: u).count x + _
    rw [List.count_cons, List.count_cons]
    omega
theorem ex_place : ∀ {u v : List Nat} {d : Nat}, u.length = v.length → u.count d < v.count d → ∃ (p a : Nat), v[p]? = some d ∧ u[p]? = some a ∧ a ≠ d
  | [], [], _, _, h => by simp at h
  | [], _ :: _, _, h, _ => by simp at h
  | _ :: _, [], _, h, _ => by simp at h
  | a :: u, b :: v, d, hl, h => by
    by_cases z : b = d ∧ a ≠ d
    · exact ⟨0, a, by simp [z.1], by simp, z.2⟩
    · rw [List.count_cons, List.count_cons] at h
      have h2 : u.count d < v.count d := by
        simp only [beq_iff_eq] at h
        by_cases hb : b = d
        · have ha : a = d := Classical.byContradiction fun q => z ⟨hb, q⟩
          rw [if_pos ha, if_pos hb] at h
          omega
        · rw [if_neg hb] at h
          omega
      obtain ⟨p, x, h3, h4, h5⟩ := ex_place (u := u) (v := v) (by simpa using hl) h2
      exact ⟨p + 1, x, by simpa using h3, by simpa using h4, h5⟩
theorem swap_up : ∀ (k : Nat) (u v : List Nat) (d : Nat), df u v ≤ k → u.length = v.length → u.count d < v.count d →
    ∃ (w : List Nat) (e : Nat), w.length = u.length ∧ (∀ (i c : Nat), w[i]? = some c → u[i]? = some c ∨ v[i]? = some c) ∧ e ≠ d ∧ v.count e < u.count e ∧ w.count d = u.count d + 1 ∧ w.count e + 1 = u.count e ∧ ∀ x, x ≠ d → x ≠ e → w.count x = u.count x := by
  intro k
  induction k with
  | zero =>
    intro u v d h hl hc
    obtain ⟨p, a, h1, h2, h3⟩ := ex_place hl hc
    have := df_set h1 h2 h3
    omega
  | succ k ih =>
    intro u v d h hl hc
    obtain ⟨p, a, h1, h2, h3⟩ := ex_place hl hc
    have hd := df_set h1 h2 h3
    have cs := fun x => cnt_set (u := u) (p := p) (a := a) d x h2
    have cd := cs d
    rw [if_neg h3, if_pos rfl] at cd
    have ca := cs a
    rw [if_pos rfl, if_neg (fun z => h3 z.symm)] at ca
    have hs : ∀ i c, (u.set p d)[i]? = some c → u[i]? = some c ∨ v[i]? = some c := fun i c hi => by
      rw [List.getElem?_set] at hi
      split at hi
      · rename_i z
        subst z
        split at hi
        · right
          rw [h1]
          exact hi
        · cases hi
      · exact .inl hi
    by_cases hq : v.count a < u.count a
    · refine ⟨u.set p d, a, List.length_set .., hs, h3, hq, by omega, by omega, fun x x1 x2 => ?_⟩
      have := cs x
      rw [if_neg (fun z => x2 z.symm), if_neg (fun z => x1 z.symm)] at this
      omega
    · obtain ⟨w, e, w1, w2, w3, w4, w5, w6, w7⟩ := ih (u.set p d) v a (by omega) (by rw [List.length_set]; exact hl) (by omega)
      have ed : e ≠ d := fun z => by
        subst z
        omega
      have ce := cs e
      rw [if_neg (fun z => w3 z.symm), if_neg (fun z => ed z.symm)] at ce
      refine ⟨w, e, by rw [w1, List.length_set], fun i c hi => (w2 i c hi).elim (hs i c) .inr, ed, by omega, ?_, by omega, fun x x1 x2 => ?_⟩
      · have := w7 d (fun z => h3 z.symm) (fun z => ed z.symm)
        omega
      · by_cases z : x = a
        · subst z
          omega
        · have h5 := w7 x z x2
          have h6 := cs x
          rw [if_neg (fun q => z q.symm), if_neg (fun q => x1 q.symm)] at h6
          omega
/-- between two numbers of copies there is every number of copies -/
theorem no_gap {l : List Nat} {n : Int} {rows : List Row} {c : Nat} {w1 w2 : List Nat} (n0 : 0 ≤ n) (hr : ∀ r ∈ rows, RowOk l n r) (h1 : w1 ∈ leftL l n rows) (h2 : w2 ∈ leftL l n rows) : ∀ j, w1.count c + j ≤ w2.count c → ∃ w ∈ leftL l n rows, w.count c = w1.count c + j
  | 0, _ => ⟨w1, h1, rfl⟩
  | j + 1, h => by
    obtain ⟨u, hu, eu⟩ := no_gap (c := c) n0 hr h1 h2 j (by omega)
    obtain ⟨a1, a2, a3⟩ := (mem_leftL n0).mp hu
    obtain ⟨b1, b2, b3⟩ := (mem_leftL n0).mp h2
    obtain ⟨p1, p2, p3⟩ := (fits_keep n0 a1 hr).mpr ⟨a2, a3⟩
    obtain ⟨q1, q2, _⟩ := (fits_keep n0 b1 hr).mpr ⟨b2, b3⟩
    obtain ⟨w, e, w1', w2', w3, w4, w5, w6, w7⟩ := swap_up _ u w2 c (Nat.le_refl _) (by omega) (by omega)
    obtain ⟨m1, m2⟩ := (fits_keep (w := w) n0 (by omega) hr).mp ⟨fun i x hx => (w2' i x hx).elim (p1 i x) (q1 i x), fun x hx => by
      have h3 := p2 x hx
      have h4 := q2 x hx
      by_cases z : x = c
      · subst z
        omega
      · by_cases z2 : x = e
        · subst z2
          omega
        · rw [w7 x z z2]
          exact h3, p3⟩
    exact ⟨w, (mem_leftL n0).mpr ⟨by omega, m1, m2⟩, by omega⟩
theorem filter_between (lo hi : Nat) : ∀ m, (List.range m).filter (fun k => decide (lo ≤ k ∧ k ≤ hi)) = (List.range (min m (hi + 1) - lo)).map (lo + ·)
  | 0 => by simp
  | m + 1 => by
    rw [List.range_succ, List.filter_append, filter_between lo hi m, List.filter_cons, List.filter_nil]
    by_cases h : lo ≤ m ∧ m ≤ hi
    · rw [if_pos (decide_eq_true h), show min (m + 1) (hi + 1) - lo = (min m (hi + 1) - lo) + 1 by omega, List.range_succ, List.map_append]
      congr 1
      show [m] = [lo + (min m (hi + 1) - lo)]
      congr 1
      omega
    · rw [if_neg (by rw [decide_eq_true_eq]; exact h), List.append_nil, show min (m + 1) (hi + 1) - lo = min m (hi + 1) - lo by omega]
theorem nu_le {W : List (List Nat)} {n c k : Nat} (h : k ∈ nuT W n c) : loT W n c ≤ (k : Int) ∧ (k : Int) ≤ hiT W n c := by
  have srt : (nuT W n c).Pairwise (· < ·) := List.pairwise_lt_range.filter _
  obtain ⟨j, hj, ej⟩ := List.mem_iff_getElem.mp h
  have pos : 0 < (nuT W n c).length := by omega
  have lp : (nuT W n c).length - 1 < (nuT W n c).length := by omega
  unfold loT hiT
  rw [List.getD_eq_getElem?_getD, List.getD_eq_getElem?_getD, List.getElem?_eq_getElem pos, List.getElem?_eq_getElem lp]
  show (((nuT W n c)[0] : Nat) : Int) ≤ k ∧ (k : Int) ≤ (((nuT W n c)[(nuT W n c).length - 1] : Nat) : Int)
  constructor
  · by_cases z : j = 0
    · subst z; omega
    · have := List.pairwise_iff_getElem.mp srt 0 j pos hj (by omega)
      omega
  · by_cases z : j = (nuT W n c).length - 1
    · subst z; omega
    · have := List.pairwise_iff_getElem.mp srt j ((nuT W n c).length - 1) hj lp (by omega)
      omega
theorem lo_hi_mem {W : List (List Nat)} {n c : Nat} (pos : 0 < (nuT W n c).length) : ∃ a b : Nat, loT W n c = a ∧ hiT W n c = b ∧ a ∈ nuT W n c ∧ b ∈ nuT W n c := by
  have lp : (nuT W n c).length - 1 < (nuT W n c).length := by omega
  refine ⟨_, _, rfl, rfl, ?_, ?_⟩
  · rw [List.getD_eq_getElem?_getD, List.getElem?_eq_getElem pos]
    exact List.getElem_mem pos
  · rw [List.getD_eq_getElem?_getD, List.getElem?_eq_getElem lp]
    exact List.getElem_mem lp
theorem mem_nuT {W : List (List Nat)} {n c k : Nat} : k ∈ nuT W n c ↔ k ≤ n ∧ ∃ w ∈ W, w.count c = k := by
  unfold nuT
  rw [List.mem_filter, List.mem_range]
  refine and_congr (by omega) ?_
  unfold cpT
  rw [List.any_eq_true]
  exact ⟨fun ⟨w, h, e⟩ => ⟨w, h, of_decide_eq_true e⟩, fun ⟨w, h, e⟩ => ⟨w, h, decide_eq_true e⟩⟩
theorem nu_is {l : List Nat} {n : Int} {rows : List Row} {c : Nat} (n0 : 0 ≤ n) (hr : ∀ r ∈ rows, RowOk l n r) (ne : leftL l n rows ≠ []) :
    ivs (nuT (leftL l n rows) n.toNat c) = rgV (loT (leftL l n rows) n.toNat c) (hiT (leftL l n rows) n.toNat c + 1) := by
  have hl : ∀ w ∈ leftL l n rows, w.length = n.toNat := fun w hw => by
    have := ((mem_leftL n0).mp hw).1
    omega
  obtain ⟨a, b, ea, eb, ma, mb⟩ := lo_hi_mem (nu_pos (c := c) ne hl)
  have lb := nu_le ma
  have bn := (mem_nuT.mp mb).1
  obtain ⟨_, u, hu, cu⟩ := mem_nuT.mp ma
  obtain ⟨_, v, hv, cv⟩ := mem_nuT.mp mb
  have key : nuT (leftL l n rows) n.toNat c = (List.range (n.toNat + 1)).filter fun k => decide (a ≤ k ∧ k ≤ b) := by
    refine List.filter_congr fun k hk => ?_
    have hk := List.mem_range.mp hk
    rw [Bool.eq_iff_iff, decide_eq_true_iff]
    constructor
    · intro z
      have := nu_le (List.mem_filter.mpr ⟨List.mem_range.mpr hk, z⟩)
      omega
    · rintro ⟨z1, z2⟩
      obtain ⟨w, hw, e⟩ := no_gap (c := c) n0 hr hu hv (k - u.count c) (by omega)
      exact List.any_eq_true.mpr ⟨w, hw, decide_eq_true (by omega)⟩
  rw [key, filter_between, ea, eb]
  unfold ivs rgV
  rw [List.map_map, show min (n.toNat + 1) (b + 1) - a = (((b : Int) + 1) - (a : Int)).toNat by omega]
  refine List.map_congr_left fun k _ => ?_
  show V.int (((a + k : Nat) : Nat) : Int) = V.int ((a : Int) + (k : Nat))
  rw [show (((a + k : Nat) : Nat) : Int) = (a : Int) + (k : Nat) by omega]
theorem index_oneN {l : List Nat} {c : Nat} (h : c ∈ l) : ∃ rest, Builtin.Str.occurrences (tx l) (one c) 0 (tx l).length 1 = l.idxOf c :: rest := by
  have e := find_one l c
  rw [if_pos h] at e
  unfold Txt.find at e
  cases q : Builtin.Str.occurrences (tx l) (one c) 0 (tx l).length 1 with
  | nil =>
    rw [q] at e
    have e : (-1 : Int) = ((l.idxOf c : Nat) : Int) := e
    omega
  | cons k r =>
    rw [q] at e
    have e : ((k : Nat) : Int) = ((l.idxOf c : Nat) : Int) := e
    have : k = l.idxOf c := by omega
    exact ⟨r, by rw [this]⟩
end Gm

/-! zip of a text and a tuple of one length -/
namespace L2
open PySem PySem.Spec PyProof.Rows
def Itzt (K : PySem.W.Frag) (x : Str) (b : Addr) : It :=
  ⟨fun i H => ∃ (ys : List V), SqT K H b ys ∧ i < x.cps.size ∧ i < ys.length,
    fun i H v H' => ∃ (T : Addr) (c : Nat) (y : V), v = .ref T ∧ H T = none ∧ H' = upd H T (.tup [.str ⟨#[c]⟩, y]) ∧ x.cps[i]? = some c ∧ ∀ ys, SqT K H b ys → ys[i]? = some y,
    fun i H => ∃ ys : List V, SqT K H b ys ∧ i = x.cps.size ∧ i = ys.length⟩
theorem zt_sep {n b : Nat} (hb : b < n) : ZipSep2 (n + 4) (n + 2) (n + 3) n (n + 1) [n] [n + 1, b] := by
  constructor <;> first | (refine PySem.W.neN ?_; omega) | (intro z; simp only [List.mem_cons, List.not_mem_nil, or_false] at z; first | (rcases z with z | z <;> (have z : (_ : Nat) = _ := z; omega)) | (have z : (_ : Nat) = _ := z; omega)) | (simp; done)
theorem turn_zipt {P : Program} {w : World} {K : PySem.W.Frag} {elts : List Expr} {kk : Nat} {tpos : Pos} {b z TI TO i1 i2 : Addr} {x : Str} {t1 : Tok} (D : ZipSep2 z TI TO i1 i2 [i1] [i2, b]) (hb2 : b ≠ i2) :
    Turn P w K (.Tuple elts kk tpos) (Itzt K x b) [z, TI, TO, i1, i2] z (fun i h => IsZip h z TI TO .none ∧ IsTupOf2 h TI (.ref i1) (.ref i2) ∧ (∃ a0 b0, IsTupOf2 h TO a0 b0) ∧ h.IsStrIter i1 (strIterType x) x t1 i ∧ h.IsTupleIter i2 b i) where
  mem := by simp
  obj := fun i h st c hc => by
    obtain ⟨hz, hTI, ⟨a0, b0, hTO⟩, ⟨o1, e1, _, d1⟩, ⟨o2, e2, _, d2⟩⟩ := st
    have q : c = z ∨ c = TI ∨ c = TO ∨ c = i1 ∨ c = i2 := by simpa using hc
    rcases q with rfl | rfl | rfl | rfl | rfl
    · exact ⟨_, hz, fun v q => nomatch q⟩
    · exact ⟨_, hTI, fun v q => nomatch q⟩
    · exact ⟨_, hTO, fun v q => nomatch q⟩
    · exact ⟨o1, e1, fun v q => by rw [d1] at q; cases q⟩
    · exact ⟨o2, e2, fun v q => by rw [d2] at q; cases q⟩
  keep := fun i h h' st k => by
    obtain ⟨hz, hTI, ⟨a0, b0, hTO⟩, ⟨o1, e1, r1⟩, h2⟩ := st
    exact ⟨k z (by simp) _ hz, k TI (by simp) _ hTI, ⟨a0, b0, k TO (by simp) _ hTO⟩, ⟨o1, k i1 (by simp) _ e1, r1⟩, h2.at fun o q => k i2 (by simp) o q⟩
  item := by
    intro X hP hw hK hc i pins s σ H E I hf st hg
    subst hP hw hK
    obtain ⟨hz, hTI, ⟨a0, b0, hTO⟩, h1, h2⟩ := st
    obtain ⟨ys, hys, l1, l2⟩ := hg
    obtain ⟨its2, rv2, p2, _⟩ := I.tuple hys
    have e2 := rv2.length
    have lz : z < s.heap.objs.size := Heap.lt_size hz
    refine wpAny_pyNext_zipD2_item (St1 := fun i h => h.IsStrIter i1 (strIterType x) x t1 i) (St2 := fun i h => h.IsTupleIter i2 b i ∧ h.IsTuple b its2.toArray) D (Draws.text (A := X.A.in1) (show X.A.in1.handled = none from I.ok.hd hc) i1 x t1) (Draws.tuple (A := X.A.in1) (show X.A.in1.handled = none from I.ok.hd hc) i2 b hb2 its2.toArray) hz hTI hTO h1 ⟨h2, p2⟩ l1 (by simp; omega) fun u u2 h' tk p1 q2 z' TO' h1' h2' hT hsz hk => ?_
    obtain ⟨c, v1, hcx, rfl⟩ := p1
    have q2 : its2[i]? = some u2 := by simpa using q2
    obtain ⟨y, hy⟩ : ∃ y, ys[i]? = some y := ⟨_, List.getElem?_eq_getElem l2⟩
    obtain ⟨u2', hu2, ru2⟩ := rv2.get hy
    obtain rfl : u2' = u2 := Option.some.inj (hu2.symm.trans q2)
    refine ⟨_, rfl, wpAny_letOwnedTupleGo_zip (s := { s with heap := h', toks := tk }) z' fun g z'' sb => ?_⟩
    have hT2 := (sb.2 _ (Nat.ne_of_gt lz)).trans hT
    have fresh : ObjOk X.prog X.w (upd H s.heap.objs.size (.tup [.str ⟨#[c]⟩, y])) g s.heap.objs.size (.tup [.str ⟨#[c]⟩, y]) :=
      ⟨by show 2 ≤ sizeLine; decide, _, .cons ⟨v1, rfl⟩ (.cons ru2 .nil), ⟨_, hT2, rfl, _, rfl⟩⟩
    have J : Inv X pins σ (upd H s.heap.objs.size (.tup [.str ⟨#[c]⟩, y])) { s with heap := g, toks := tk } := by
      refine I.turnedNew (ch := [z, TI, TO, i1, i2]) (fun b o hb q => ?_) hf (Nat.le_refl _) fresh
      have nb : b ≠ z ∧ b ≠ TI ∧ b ≠ TO ∧ b ≠ i1 ∧ b ≠ i2 := by simpa using hb
      exact (sb.2 b nb.1).trans (hk b o nb.1 nb.2.2.1 nb.2.2.2.1 nb.2.2.2.2 q)
    refine ⟨.ref s.heap.objs.size, _, J, rfl, ⟨_, c, y, rfl, I.hok.fresh (Nat.le_refl _), rfl, hcx, fun l hl => by rw [I.tuple_inj hl hys]; exact hy⟩, ⟨z'', ?_, ⟨_, _, (sb.2 _ D.TOz).trans TO'⟩, ?_, ?_⟩, fun b hb => ?_⟩
    · exact (sb.2 _ D.TIz).trans (hk _ _ D.TIz D.TITO D.TIi1 D.TIi2 hTI)
    · obtain ⟨o1, e1, r1⟩ := h1'
      exact ⟨o1, (sb.2 _ D.zi1.symm).trans e1, r1⟩
    · exact h2'.1.at fun o q => (sb.2 _ D.zi2.symm).trans q
    · have hlt : b < s.heap.objs.size := by
        have q : b = z ∨ b = TI ∨ b = TO ∨ b = i1 ∨ b = i2 := by simpa using hb
        obtain ⟨o1, e1, _⟩ := h1
        obtain ⟨o2, e2, _⟩ := h2
        rcases q with rfl | rfl | rfl | rfl | rfl
        · exact lz
        · exact Heap.lt_size hTI
        · exact Heap.lt_size hTO
        · exact Heap.lt_size e1
        · exact Heap.lt_size e2
      rw [upd_ne (Nat.ne_of_lt hlt)]
      exact (hf b hb).1
  done := by
    intro X hP hw hK hc i pins s σ H E I hf st hg
    subst hP hw hK
    obtain ⟨hz, hTI, ⟨a0, b0, hTO⟩, h1, h2⟩ := st
    obtain ⟨ys, hys, l1, l2⟩ := hg
    obtain ⟨its2, rv2, p2, _⟩ := I.tuple hys
    have e2 := rv2.length
    refine wpAny_pyNext_zipD2_end (St1 := fun i h => h.IsStrIter i1 (strIterType x) x t1 i) (St2 := fun i h => h.IsTupleIter i2 b i ∧ h.IsTuple b its2.toArray) D (Draws.text (A := X.A.in1) (show X.A.in1.handled = none from I.ok.hd hc) i1 x t1) (Draws.tuple (A := X.A.in1) (show X.A.in1.handled = none from I.ok.hd hc) i2 b hb2 its2.toArray) hz hTI hTO h1 ⟨h2, p2⟩ (Nat.le_of_eq l1) (by simp; omega) (.inl l1) fun h' tk hk => ⟨rfl, I.turnedL (ch := [z, TI, TO, i1, i2]) (fun b o hb q => ?_) hf⟩
    have nb : b ≠ z ∧ b ≠ TI ∧ b ≠ TO ∧ b ≠ i1 ∧ b ≠ i2 := by simpa using hb
    exact hk b o nb.1 nb.2.2.1 nb.2.2.2.1 nb.2.2.2.2 q
  self := fun A i s Q E st h => wpAny_pyIter_zip st.1 h
def iZipt (K : PySem.W.Frag) (ta : TA) : TI := fun σ H R => ta σ H fun vs H1 => ∃ x b ys, vs = [.str x, .ref b] ∧ SqT K H1 b ys ∧ R (Itzt K x b) H1
theorem pi_zipt {X : Cx} {e e2 : Expr} {ta : TA} {p pos tpos : Pos} {elts : List Expr} {kk : Nat} (hg : Gl X "zip") (hm : X.mg "zip" = none) (ha : PA X [e, e2] ta)
    (hs : starEach [e, e2] X.env = (false, eval e X.env) :: starEach [e2] X.env := by rfl) (hpl : (backTo pos (starEach [e2] X.env)).any (·.1) = false := by rfl) :
    PI X (.Tuple elts kk tpos) (.Call (.Name "zip" p) [e, e2] [] pos) (iZipt X.K ta) := by
  refine ⟨fun pins s σ H R I h => ?_⟩
  refine Call_ (ld_blt I hg hm PyProof.Rows.boot_zip (PyProof.Rows.callWith_type1 (thn (ha.run pos pins s σ H _ I h) fun us s1 hh => ?_) hs hpl))
  obtain ⟨vs, H1, I1, r1, x, b, ys, rfl, hys, q⟩ := hh
  cases r1 with
  | cons r rr =>
    cases rr with
    | cons r' rr =>
      cases rr
      obtain ⟨t1, rfl⟩ := r
      cases r'
      obtain ⟨its2, rv2, p2, _⟩ := I1.tuple hys
      obtain ⟨o2, ho2, _⟩ := id p2
      have lb : b < s1.heap.objs.size := Heap.lt_size ho2
      refine zip_begins2 (begins_text x t1) (begins_tuple b its2.toArray) trivial p2 fun h' hz hTI hTO h1 h2 hsz hk => wpAny_pyIter_zip hz ?_
      have J : Inv X pins σ H1 { s1 with heap := h' } := I1.kept (t' := s1.toks) hk
      refine ⟨s1.heap.objs.size + 4, [s1.heap.objs.size + 4, s1.heap.objs.size + 2, s1.heap.objs.size + 3, s1.heap.objs.size, s1.heap.objs.size + 1], _, _, H1, rfl, J, turn_zipt (t1 := t1) (zt_sep lb) (Nat.ne_of_lt (Nat.lt_succ_of_lt lb)), ⟨hz, hTI, ⟨_, _, hTO⟩, ⟨_, h1, rfl, rfl⟩, ⟨_, h2, rfl, rfl⟩⟩, fun c hcm => ?_, q⟩
      have hle : s1.heap.objs.size ≤ c := by
        have q : c = s1.heap.objs.size + 4 ∨ c = s1.heap.objs.size + 2 ∨ c = s1.heap.objs.size + 3 ∨ c = s1.heap.objs.size ∨ c = s1.heap.objs.size + 1 := by simpa using hcm
        rcases q with rfl | rfl | rfl | rfl | rfl
        · exact Nat.le_add_right _ _
        · exact Nat.le_add_right _ _
        · exact Nat.le_add_right _ _
        · exact Nat.le_refl _
        · exact Nat.le_add_right _ _
      exact I1.fpOk hle (I1.hok.fresh hle)
theorem walk_zipt {K : PySem.W.Frag} {x : Str} {b : Addr} {ys : List V} (h2 : x.cps.size = ys.length) : Walk (Itzt K x b) x.cps.size (fun H => SqT K H b ys) (fun i H v H' => ∃ (T : Addr) (c : Nat) (y : V), v = .ref T ∧ H T = none ∧ H' = upd H T (.tup [.str ⟨#[c]⟩, y]) ∧ x.cps[i]? = some c ∧ ys[i]? = some y) :=
  ⟨fun i _ hi q => ⟨ys, q, hi, h2 ▸ hi⟩, fun _ q => ⟨ys, q, rfl, h2⟩, fun i H v H' hi q y => by
    obtain ⟨T, c, u, e1, e2, e3, hc, hy⟩ := y
    exact ⟨T, c, u, e1, e2, e3, hc, hy _ q⟩⟩
end L2

/-! a word within its table -/
namespace Gm
open PySem PySem.Spec PyProof.Rows L2

def rInSg : R2 := fun x y H Q => ∃ (c : Nat) (z : Str), x = .str ⟨#[c]⟩ ∧ y = .str z ∧ Q (.bl (decide (c ∈ z.cps.toList))) H
def spInTab : Sp := fun vs H Q _ => ∃ (t : Addr) (l : List Nat) (n : Int) (W : List (List Nat)) (wd : List Nat), vs = [.str (tx l), .int n, .ref t, .str (tx wd)] ∧ TabAt H t l W n.toNat ∧ wd ∈ W ∧ (wd.length : Int) = n ∧ (∀ c ∈ wd, c ∈ l) ∧ l.length ≤ 26 ∧ 1 ≤ n ∧ n ≤ 6 ∧
  ∀ H', Same H H' → Q (.bl true) H'
section
variable {P : Program} {w : World} {K : PySem.W.Frag} {mg : Str → Option Value} {base : Heap}
abbrev nInTab : List Str := ["_law_alpha", "_law_wide", "_law_said", "_law_text_here", "_law_at", "_law_sign", "_law_pair"]
theorem scInTab : FnScope nInTab ["_law_alpha", "_law_wide", "_law_said", "_law_text_here"] (defScope sInTab) := ⟨rfl, rfl, rfl, by decide +kernel, rfl, by decide +kernel, by decide +kernel⟩
theorem ok_inTab {f : Addr} {fd : FuncData} (F : Fun K "_law_within" "_law_within" sInTab f fd) (trange : mg "range" = none) (tall : mg "all" = none) (tzip : mg "zip" = none)
    : FnOk P w K mg base CX0 1 f fd ["_law_alpha", "_law_wide", "_law_said", "_law_text_here"] spInTab := by
  refine F.ok scInTab (fun vs H Q E h => ?_) (fun cdv A outer s H vs Q E hr h => ?_)
  · obtain ⟨t, l, n, W, wd, rfl, _⟩ := h
    rfl
  · obtain ⟨t, l, n, W, wd, rfl, hT, hw, wlen, win, l26, n1, n6, fin⟩ := h
    have nd := scInTab.nd
    have hline : sizeLine = 16777216 := sizeLine_eq
    refine ⟨_, pss_cons (ps_if (pt_not (pt_val (pe_callB (cr_all rfl) (by rfl) tall (by decide +kernel) (pa_cons (pe_lc (te := (tOp rInSg (tOp rIxS (tVar 3) (tVar 4)) (tOp (rIxT K) (tOp (rIxT K) (tVar 2) (tC (.int 0))) (tVar 4)))) (own := [("_law_at", 4)]) (g := gName 4) (by rfl) nd (pi_range1 (by rfl) trange (pa_cons (pv 1) pa_nil)) (blkOk_by (own := [("_law_at", 4)]) (N := nInTab) (sc := defScope sInTab) (by decide +kernel)) (fun _ _ _ _ _ => pg_name (i := 4) nd rfl (Or.inl rfl)) (fun _ _ _ _ _ => by exact pts_nil) (fun _ _ _ _ _ => by exact (pe_cmpR op_in_sign (pe_ix ix_str (pv 3) (pv 4) (fun _ _ => rfl)) (pe_ix ix_tup (pe_ix ix_tup (pv 2) pe_int (fun _ _ => rfl)) (pv 4) (fun _ _ => rfl)) rfl))) pa_nil)))) (pss_one (ps_ret pe_bl)) pss_nil)
      (pss_one (ps_ret (pe_callB (cr_all rfl) (by rfl) tall (by decide +kernel) (pa_cons (pe_lc (te := (tChain (rI0 fun i j => .bl (decide (i ≤ j))) (rI0 fun i j => .bl (decide (i ≤ j))) (tOp (rIxT K) (tVar 6) (tC (.int 0))) (tM1 (fun x xs H Q => ∃ a b, x = .str a ∧ xs = [.str b] ∧ Q (.int (Txt.count a b)) H) (tVar 3) (tVar 5)) (tOp (rIxT K) (tVar 6) (tC (.int 1))))) (own := [("_law_sign", 5), ("_law_pair", 6)]) (g := gTup K 2 (gCons (gName 5) (gCons (gName 6) gNil))) (by rfl) nd (pi_zipt (by rfl) tzip (pa_cons (pv 0) (pa_cons (pe_ix ix_tup (pv 2) pe_int (fun _ _ => rfl)) pa_nil))) (blkOk_by (own := [("_law_sign", 5), ("_law_pair", 6)]) (N := nInTab) (sc := defScope sInTab) (by decide +kernel)) (fun _ _ _ _ _ => pg_tup (by rfl) (pgs_cons (pg_name (i := 5) nd rfl (Or.inl rfl)) (pgs_cons (pg_name (i := 6) nd rfl (Or.inl rfl)) pgs_nil))) (fun _ _ _ _ _ => by exact pts_nil) (fun _ _ _ _ _ => by exact (pe_chain op_le op_le (pe_ix ix_tup (pv 6) pe_int (fun _ _ => rfl)) (pe_m1 PySem.F.slot_str_count PySem.F.type_str_count mt_count (pv 3) (pv 5)) (pe_ix ix_tup (pv 6) pe_int (fun _ _ => rfl))))) pa_nil)))), ?_⟩
    obtain ⟨A0, B0, bs, eT, eA, eB, lb, gb⟩ := hT
    refine ⟨_, rfl, n, rfl, by omega, by omega, fun D zD => ?_⟩
    refine lc_range (lo := 0) (n := n.toNat) (fun i H' => Same H H' ∧ H' D = some (.lst ((List.replicate i true).map V.bl))) ⟨same_upd zD, upd_same⟩ ?_ ?_
    · rintro i H3 hi ⟨s3, hD⟩
      have hiw : i < wd.length := by omega
      have hc : wd[i]? = some wd[i] := List.getElem?_eq_getElem hiw
      have ha : atT W i wd[i] = true := List.any_eq_true.mpr ⟨wd, hw, decide_eq_true hc⟩
      have hin : wd[i] ∈ ltT l W i := List.mem_filter.mpr ⟨win _ (List.getElem_mem hiw), ha⟩
      have hA3 : (((List.range n.toNat).map fun i => V.str (tx (ltT l W i))))[i]? = some (V.str (tx (ltT l W i))) := by
        rw [List.getElem?_map, List.getElem?_range hi]
        rfl
      rw [Int.zero_add]
      refine ⟨rfl, _, rfl, _, rfl, tx wd, _, wd[i], rfl, rfl, by rw [tx_len]; omega, atI_nat hc, _, rfl, t, _, _, _, rfl, rfl, SqT.of (s3 _ _ eT), atI_nat (j := 0) rfl, _, rfl, A0, _, _, _, rfl, rfl, SqT.of (s3 _ _ eA), atI_nat hA3, wd[i], _, rfl, rfl, ?_⟩
      rw [show decide (wd[i] ∈ (tx (ltT l W i)).cps.toList) = true from decide_eq_true (by simpa using hin)]
      refine ⟨_, hD, by rw [List.length_map, List.length_replicate]; omega, fun u o z => ?_, ?_⟩
      · rw [upd_ne (ne_of_none z zD)]
        exact s3 u o z
      · rw [upd_same, List.replicate_succ', List.map_append]
        rfl
    rintro H3 ⟨s3, hD⟩
    refine ⟨D, _, rfl, SqL.of hD, _, rfl, ?_⟩
    rw [show (List.replicate n.toNat true).all id = true from by simp]
    refine iteF ?_
    refine ⟨_, rfl, _, rfl, t, _, _, _, rfl, rfl, SqT.of (s3 _ _ eT), atI_nat (j := 1) rfl, tx l, B0, _, rfl, SqT.of (s3 _ _ eB), fun M zM => ?_⟩
    refine lc_it (walk_zipt (x := tx l) (ys := bs.map V.ref) (by rw [tx_size, List.length_map, lb])) (fun i H' => Same H3 H' ∧ H' M = some (.lst ((List.replicate i true).map V.bl))) ⟨same_upd zM, upd_same⟩ (fun _ _ _ h => SqT.of (h.1 _ _ (s3 _ _ eB))) ?_ ?_
    · rintro i x H4 H5 hi ⟨s4, hM⟩ ⟨T, c, y, rfl, hT, rfl, hc, hy⟩
      have hc' := tx_at hc
      rw [List.getElem?_map] at hy
      obtain ⟨b, hb, rfl⟩ := Option.map_eq_some_iff.mp hy
      have eb := gb i b c hb hc'
      have nMT : M ≠ T := ne_of_none hM hT
      have sT := same_upd (o := .tup [.str (one c), .ref b]) hT
      have hM5 : upd H4 T (.tup [.str (one c), .ref b]) M = _ := (upd_ne nMT).trans hM
      have eb5 := sT _ _ (s4 _ _ (s3 _ _ eb))
      have hiw := (List.getElem?_eq_some_iff.mp hc').1
      have hm : wd.count c ∈ nuT W n.toNat c := mem_nuT.mpr ⟨by have := List.count_le_length (a := c) (l := wd); omega, wd, hw, rfl⟩
      obtain ⟨le1, le2⟩ := nu_le hm
      refine ⟨T, _, rfl, SqT.of upd_same, rfl, _, _, rfl, _, _, rfl, rfl, rfl, ?_⟩
      refine ⟨_, rfl, b, _, _, _, rfl, rfl, SqT.of eb5, atI_nat (j := 0) rfl, _, rfl, ⟨_, rfl⟩, _, rfl, tx wd, one c, rfl, rfl, ?_⟩
      rw [cnt_one]
      refine ⟨_, _, rfl, rfl, _, rfl, ?_⟩
      rw [decide_eq_true le1]
      refine iteT ⟨_, rfl, b, _, _, _, rfl, rfl, SqT.of eb5, atI_nat (j := 1) rfl, _, _, rfl, rfl, ?_⟩
      dsimp only
      rw [decide_eq_true le2]
      refine ⟨_, hM5, by rw [List.length_map, List.length_replicate]; rw [tx_size] at hi; omega, fun u o z => ?_, ?_⟩
      · rw [upd_ne (ne_of_none z zM)]
        exact sT _ _ (s4 u o z)
      · rw [upd_same, List.replicate_succ', List.map_append]
        rfl
    rintro H4 ⟨s4, hM⟩
    refine ⟨M, _, rfl, SqL.of hM, ?_⟩
    rw [show (List.replicate (tx l).cps.size true).all id = true from by simp]
    exact fin H4 (s3.trans s4)
end
end Gm

/-! list(text): a list of its letters -/
namespace Gm
open PySem PySem.Spec L2
/-- list(z) of a text -/
def rLw : List V → Hp → VK → Prop := fun xs H Q => ∃ z : Str, xs = [.str z] ∧ z.cps.size ≤ sizeLine ∧ ∀ l, H l = none → Q (.ref l) (upd H l (.lst (z.cps.toList.map fun c => V.str ⟨#[c]⟩)))
theorem call_listW {X : Cx} (hc : X.calm = true) : CallR X (.type "list") rLw := by
  intro pins s σ H xs us Q I r h
  obtain ⟨z, rfl, hz, q⟩ := h
  obtain ⟨u, rfl, t, rfl⟩ := vals1 r
  refine call_list_str (I.ok.hd hc) z t (hn := hz) fun h' tk acc c' hk hS hacc => ?_
  refine ⟨.ref s.heap.objs.size, _, I.laid (t' := tk) hk (Nat.le_refl _) (show ObjOk X.prog X.w _ h' _ (.lst (z.cps.toList.map fun c => V.str ⟨#[c]⟩)) from ⟨?_, acc.toList, c', ?_, ?_⟩), rfl, q _ (I.hok.fresh (Nat.le_refl _))⟩
  · rw [List.length_map, Array.length_toList]
    exact hz
  · refine vals_of_at ?_ fun j x u hx hu => ?_
    · rw [List.length_map, Array.length_toList, Array.length_toList]
      exact hacc.1.symm
    · obtain ⟨c, t', hc', rfl⟩ := hacc.2 j u (by rw [← Array.getElem?_toList]; exact hu)
      rw [List.getElem?_map, Array.getElem?_toList, hc'] at hx
      cases hx
      exact ⟨t', rfl⟩
  · exact hS
end Gm

/-! alphabets and texts drawn from a well -/
namespace Gm
open PySem L2


structure TxS (mg : Str → Option Value) : Prop where
  len : mg "len" = none
  range : mg "range" = none
  list : mg "list" = none
def spAlp : Sp := fun vs H Q _ => ∃ (p : Addr) (m : Int), vs = [.ref p, .int m] ∧ BowlC 26 H p ∧ 2 ≤ m ∧ m ≤ 26 ∧ ∀ H' l, Stir 26 p H H' → Alph (tx l) → (l.length : Int) = m → Q (.str (tx l)) H'
def spText : Sp := fun vs H Q _ => ∃ (p : Addr) (l : List Nat) (n : Int), vs = [.ref p, .str (tx l), .int n] ∧ BowlC 6 H p ∧ 0 < l.length ∧ l.length ≤ 26 ∧ 0 ≤ n ∧ n ≤ 6 ∧
  ∀ H' ws, Stir 6 p H H' → ws.length = n.toNat → (∀ c ∈ ws, c ∈ l) → Q (.str (tx ws)) H'
def ones (ws : List Nat) : List V := ws.map fun c => V.str (one c)
theorem ones_len (ws : List Nat) : (ones ws).length = ws.length := List.length_map ..
theorem ones_app (a b : List Nat) : ones (a ++ b) = ones a ++ ones b := List.map_append
theorem seq_at {j n : Nat} (h : j < n) : seqIndex? ((j : Nat) : Int) n = some j := (PySem.seqIndex_of (by omega) (by omega)).trans rfl
theorem ones_get {ws : List Nat} {j : Nat} (h : j < ws.length) : (ones ws)[j]? = some (V.str (one ws[j])) := by
  unfold ones
  rw [List.getElem?_map, List.getElem?_eq_getElem h]
  rfl
theorem ones_erase (ws : List Nat) (j : Nat) : (ones ws).eraseIdx j = ones (ws.eraseIdx j) := by
  unfold ones
  induction ws generalizing j with
  | nil => rfl
  | cons a ws ih =>
    cases j with
    | zero => rfl
    | succ j =>
      rw [List.map_cons, List.eraseIdx_cons_succ, List.eraseIdx_cons_succ, List.map_cons, ih]
section
variable {P : Program} {w : World} {K : PySem.W.Frag} {mg : Str → Option Value} {base : Heap}
abbrev nLa : List Str := ["_law_well_here", "_law_many", "_law_left", "_law_turn"]
theorem scLa : FnScope nLa ["_law_well_here", "_law_many"] (defScope sAlp) := ⟨rfl, rfl, rfl, by decide +kernel, rfl, by decide +kernel, by decide +kernel⟩
theorem ok_alp {f fD : Addr} {fd fdD : FuncData} (F : Fun K "_law_alphabet" "_law_alphabet" sAlp f fd) (T : TxS mg) (GD : FnOk P w K mg base CX0 1 fD fdD ["_law_well_here", "_law_many"] spDip) (DD : Df K mg "_law_next" fD fdD ["_law_well_here", "_law_many"]) :
    FnOk P w K mg base CX0 2 f fd ["_law_well_here", "_law_many"] spAlp := by
  refine F.ok scLa (fun vs H Q E h => ?_) (fun cdv A outer s H vs Q E hr h => ?_)
  · obtain ⟨p, m, rfl, _⟩ := h
    rfl
  · obtain ⟨p, m, rfl, hp, m2, m26, q⟩ := h
    have nd := scLa.nd
    have hline : sizeLine = 16777216 := sizeLine_eq
    refine ⟨_, pss_cons (ps_set (i := 2) nd rfl (Or.inl rfl) (pe_callTy (call_listW rfl) (by rfl) T.list (by decide +kernel) (pa_cons pe_str pa_nil)))
      (pss_cons (ps_for PassesOwn.never rfl (pi_range1 (by rfl) T.range (pa_cons (pe_op op_sub pe_int (pv 1)) pa_nil)) (pg_name (i := 3) nd rfl (Or.inl rfl))
        (pss_one (ps_expr (pe_bm PySem.F.plainAttrs_list PySem.F.slot_list_pop PySem.F.type_list_pop mt_popAt (pv 2) (pa_cons (pe_call GD hr (by rfl) DD.mg DD.kp DD.b .nil pass0 (pa_cons (pv 0) (pa_cons (pe_op op_sub pe_int (pv 3)) pa_nil))) pa_nil)))))
      (pss_one (ps_ret (pe_join pe_str (pv 2))))), ?_⟩
    refine ⟨lowTxt, rfl, by decide +kernel, fun L zL => ?_⟩
    have nLp := hp.ne zL
    refine ⟨_, rfl, _, _, rfl, rfl, _, rfl, by omega, by omega, for_range (n := (26 - m).toNat) (fun i σ H' => ∃ (ws : List Nat) (v3 : Option V), σ = [some (.ref p), some (.int m), some (.ref L), v3] ∧ Stir i p H H' ∧ H' L = some (.lst (ones ws)) ∧ ws.Sublist low ∧ ws.length + i = 26)
      ⟨low, _, rfl, Stir.refl.same (same_upd zL), upd_same, List.Sublist.refl _, by decide +kernel⟩ ?_ ?_⟩
    · rintro i σ H1 hi ⟨ws, v3, rfl, R, hL, sl, le⟩
      have b1 : BowlC 1 H1 p := R.bowl hp (by omega)
      refine ⟨_, rfl, .inl ⟨rfl, _, SqL.of hL⟩, _, rfl, _, rfl, _, _, rfl, rfl, p, _, rfl, b1, by omega, by omega, fun H2 d R2 d0 d1 => ?_⟩
      obtain ⟨j, rfl⟩ := Int.eq_ofNat_of_zero_le d0
      have hj : j < ws.length := by omega
      refine ⟨L, _, _, j, _, rfl, rfl, R2.1 _ _ nLp hL, by omega, by omega, seq_at (by rw [ones_len]; exact hj), ones_get hj, ws.eraseIdx j, _, rfl, (R.trans R2).put zL nLp, ?_, (List.eraseIdx_sublist ws j).trans sl, ?_⟩
      · rw [upd_same, ones_erase]
      · rw [List.length_eraseIdx_of_lt hj]
        omega
    · rintro σ H1 ⟨ws, v3, rfl, R, hL, sl, le⟩
      refine ⟨⟨_, rfl⟩, _, rfl, _, L, ws.map one, rfl, rfl, .inl (SqL.of (by rw [List.map_map]; exact hL)), ?_, ?_⟩
      · rw [sum_one, List.length_map]
        show ws.length + ws.length * 0 ≤ 16777216
        omega
      · show Q (.str (Txt.join (Str.ofString "") (ws.map one))) H1
        rw [join_one]
        exact q H1 ws (R.mono (by omega)) (alph_of (low_sorted.sublist sl) (fun c hc => sl.subset hc) (by omega) (by omega)) (by omega)
abbrev nTe : List Str := ["_law_well_here", "_law_alpha", "_law_wide", "_law_turn"]
theorem scTe : FnScope nTe ["_law_well_here", "_law_alpha", "_law_wide"] (defScope sText) := ⟨rfl, rfl, rfl, by decide +kernel, rfl, by decide +kernel, by decide +kernel⟩
theorem ok_text {f fD : Addr} {fd fdD : FuncData} (F : Fun K "_law_text" "_law_text" sText f fd) (T : TxS mg) (GD : FnOk P w K mg base CX0 1 fD fdD ["_law_well_here", "_law_many"] spDip) (DD : Df K mg "_law_next" fD fdD ["_law_well_here", "_law_many"]) :
    FnOk P w K mg base CX0 2 f fd ["_law_well_here", "_law_alpha", "_law_wide"] spText := by
  refine F.ok scTe (fun vs H Q E h => ?_) (fun cdv A outer s H vs Q E hr h => ?_)
  · obtain ⟨p, l, n, rfl, _⟩ := h
    rfl
  · obtain ⟨p, l, n, rfl, hp, l0, l26, n0, n6, q⟩ := h
    have nd := scTe.nd
    have hline : sizeLine = 16777216 := sizeLine_eq
    have tl : (tx l).length = l.length := tx_len l
    refine ⟨_, pss_one (ps_ret (pe_join pe_str (pe_lc (own := [("_law_turn", 3)]) (g := gName 3) (by rfl) nd (pi_range1 (by rfl) T.range (pa_cons (pv 2) pa_nil)) (blkOk_by (own := [("_law_turn", 3)]) (N := nTe) (sc := defScope sText) (by decide +kernel))
        (fun _ _ _ _ _ => pg_name (i := 3) nd rfl (Or.inl rfl)) (fun _ _ _ _ _ => pts_nil)
        (fun _ _ _ _ _ => pe_ix ix_str (pv 1) (pe_call GD hr (by rfl) DD.mg DD.kp DD.b .nil pass0 (pa_cons (pv 0) (pa_cons (pe_callB call_len_str (by rfl) T.len PySem.boot_len (pa_cons (pv 1) pa_nil)) pa_nil))) (fun _ _ => rfl))))), ?_⟩
    refine ⟨⟨_, rfl⟩, _, rfl, n, rfl, by omega, by omega, fun D hD => ?_⟩
    have nDp := hp.ne hD
    refine lc_range (lo := 0) (n := n.toNat) (fun i H2 => ∃ ws : List Nat, Stir i p H H2 ∧ H2 D = some (.lst (ones ws)) ∧ ws.length = i ∧ ∀ c ∈ ws, c ∈ l)
      ⟨[], Stir.refl.same (same_upd hD), upd_same, rfl, fun c hc => by cases hc⟩ ?_ ?_
    · rintro i H2 hi ⟨ws, R2, h2, hw, hl⟩
      have b2 : BowlC 1 H2 p := R2.bowl hp (by omega)
      refine ⟨rfl, ⟨_, rfl, _, rfl, _, rfl, _, rfl, by omega, p, _, rfl, b2, by omega, by omega, fun H3 d R3 d0 d1 => ?_⟩⟩
      obtain ⟨j, rfl⟩ := Int.eq_ofNat_of_zero_le d0
      have hj : j < l.length := by omega
      refine ⟨tx l, _, l[j], rfl, rfl, by omega, atI_nat (List.getElem?_eq_getElem hj), _, R3.1 D _ nDp h2, by rw [ones_len]; omega, ws ++ [l[j]], (R2.trans R3).put hD nDp, ?_, by rw [List.length_append, hw]; rfl, fun a ha => ?_⟩
      · rw [upd_same, ones_app]
        rfl
      · rcases List.mem_append.mp ha with ha | ha
        · exact hl a ha
        · rw [List.mem_singleton.mp ha]
          exact List.getElem_mem hj
    · rintro H2 ⟨ws, R2, h2, hw, hl⟩
      refine ⟨_, D, ws.map one, rfl, rfl, .inl (SqL.of (by rw [List.map_map]; exact h2)), ?_, ?_⟩
      · rw [sum_one, List.length_map]
        show ws.length + ws.length * 0 ≤ 16777216
        omega
      · show Q (.str (Txt.join (Str.ofString "") (ws.map one))) H2
        rw [join_one]
        exact q H2 ws (R2.mono (by omega)) hw hl
end
end Gm

/-! the law's own marks (second and third book) -/
namespace Gm
open PySem L2

def MidSg (g w' : List Nat) (c e : Nat) (D : Addr) (t : List Nat) (i : Nat) (H : Hp) : L2.St → Hp → Prop := fun σ' H' => ∃ (m : Nat) (u' : List Nat), σ' = [some (.str (tx g)), some (.str (tx w')), some (.str (one c)), some (.str (one e)), some (.ref D), some (.str (tx t)), some (.str (one m))] ∧ Same H H' ∧ H' D = some (.lst (u'.map fun c => V.str (one c))) ∧ t ++ m :: go ((g.zip w').drop (i + 1)) u' = mk g w' ∧ u'.length ≤ 6
section
variable {P : Program} {w : World} {K : PySem.W.Frag} {mg : Str → Option Value} {base : Heap}
abbrev nSg : List Str := ["_law_one", "_law_hidden", "_law_mine", "_law_theirs", "_law_spare", "_law_found", "_law_sign"]
theorem scSgs : FnScope nSg ["_law_one", "_law_hidden"] (defScope sSg) := ⟨rfl, rfl, rfl, by decide +kernel, rfl, by decide +kernel, by decide +kernel⟩
theorem ok_sg {f : Addr} {fd : FuncData} (F : Fun K "_law_signs" "_law_signs" sSg f fd) (zip : mg "zip" = none) : FnOk P w K mg base CX0 1 f fd ["_law_one", "_law_hidden"] spMarksOf := by
  refine F.ok scSgs (fun vs H Q E h => ?_) (fun cdv A outer s H vs Q E hr h => ?_)
  · obtain ⟨g, w, rfl, _⟩ := h
    rfl
  · obtain ⟨g, w', rfl, hl, h6, q⟩ := h
    have nd := scSgs.nd
    have hline : sizeLine = 16777216 := sizeLine_eq
    refine ⟨_, pss_cons (ps_setLc (i := 4) (own := [("_law_mine", 2), ("_law_theirs", 3)]) (g := gTup K 2 (gCons (gName 2) (gCons (gName 3) gNil))) (by rfl) nd rfl rfl (sw_true rfl rfl rfl (by decide +kernel))
        (pi_zips (by rfl) zip (pa_cons (pv 0) (pa_cons (pv 1) pa_nil))) (blkOk_by (own := [("_law_mine", 2), ("_law_theirs", 3)]) (N := nSg) (sc := defScope sSg) (by decide +kernel))
        (fun _ _ _ _ _ => by exact pg_tup (by rfl) (pgs_cons (pg_name (i := 2) nd rfl (Or.inl rfl)) (pgs_cons (pg_name (i := 3) nd rfl (Or.inl rfl)) pgs_nil)))
        (fun _ _ _ _ _ => pts_one (pt_cmpR op_ne (pv 2) (pv 3) (nomark _))) (fun _ _ _ _ _ => pv 3))
      (pss_cons (ps_set (i := 5) nd rfl (Or.inl rfl) pe_str)
      (pss_cons (ps_for PassesOwn.never rfl (pi_zips (by rfl) zip (pa_cons (pv 0) (pa_cons (pv 1) pa_nil))) (pg_tup (by rfl) (pgs_cons (pg_name (i := 2) nd rfl (Or.inl rfl)) (pgs_cons (pg_name (i := 3) nd rfl (Or.inl rfl)) pgs_nil)))
        (pss_cons (ps_set (i := 6) nd rfl (Or.inl rfl) (pe_ifExp (pt_cmpR op_eq (pv 2) (pv 3) (nomark _)) pe_str pe_str))
        (C8.pss_cut (ps_if (PW.pt (pw_and (pt_cmpR op_eq (pv 6) pe_str (nomark _)) (pw_and1 (pt_cmpR op_in_seq (pv 2) (pv 4) rfl))))
            (pss_cons (ps_expr (pe_bm PySem.F.plainAttrs_list PySem.F.slot_list_remove PySem.F.type_list_remove mt_removeS (pv 4) (pa_cons (pv 2) pa_nil))) (pss_one (ps_set (i := 6) nd rfl (Or.inl rfl) pe_str))) pss_nil)
        (pss_one (ps_set (i := 5) nd rfl (Or.inl rfl) (pe_op op_add_str (pv 5) (pv 6)))))))
      (pss_one (ps_ret (pv 5))))), ?_⟩
    have sz : (tx g).cps.size = (tx w').cps.size := by rw [tx_size, tx_size, hl]
    refine ⟨_, rfl, _, rfl, tx g, tx w', rfl, sz, fun D hD => ?_⟩
    refine lc_it (walk_zips sz) (fun i H' => Same H H' ∧ H' D = some (.lst ((((g.zip w').take i).filter fun p => !decide (p.1 = p.2)).map fun p => V.str (one p.2)))) ⟨same_upd hD, upd_same⟩ (fun _ _ _ _ => trivial) ?_ ?_
    · rintro i x H1 H2 hi ⟨sm, hDi⟩ ⟨T, c, e, rfl, hT, rfl, hx, hy⟩
      have hz := zip_at (tx_at hx) (tx_at hy)
      have nDT : D ≠ T := ne_of_none hDi hT
      refine ⟨T, _, rfl, SqT.of upd_same, rfl, _, _, rfl, _, _, rfl, rfl, rfl, ?_⟩
      have ne_iff : decide (V.str (one c) = V.str (one e)) = decide (c = e) := decide_eq_decide.mpr ⟨fun q => ones_inj (V.str.inj q), fun q => by rw [q]⟩
      have st := take_map_filter (fun p => !decide (p.1 = p.2)) (fun p => p.2) hz
      have st' : (((g.zip w').take (i + 1)).filter fun p => !decide (p.1 = p.2)).map (fun p => V.str (one p.2)) = (((g.zip w').take i).filter fun p => !decide (p.1 = p.2)).map (fun p => V.str (one p.2)) ++ (if (!decide (c = e)) = true then [V.str (one e)] else []) := by
        have := congrArg (List.map fun a => V.str (one a)) st
        rw [List.map_append, List.map_map, List.map_map] at this
        refine this.trans (congrArg _ ?_)
        split <;> rfl
      have hD2 : upd H1 T (.tup [.str (one c), .str (one e)]) D = _ := (upd_ne nDT).trans hDi
      have sm2 : Same H (upd H1 T (.tup [.str (one c), .str (one e)])) := sm.trans (same_upd hT)
      refine ⟨_, rfl, _, rfl, rfl, _, rfl, ?_⟩
      rw [ne_iff]
      refine ite2 (fun hm => ?_) (fun hm => ?_)
      · rw [if_pos hm] at st'
        refine ⟨_, rfl, _, hD2, ?_, fun b o q => ?_, ?_⟩
        · have h1 := List.length_filter_le (fun p : Nat × Nat => !decide (p.1 = p.2)) ((g.zip w').take i)
          have h2 : ((g.zip w').take i).length ≤ 6 := by rw [List.length_take, List.length_zip]; omega
          rw [List.length_map]
          omega
        · rw [upd_ne (ne_of_none q hD)]
          exact sm2 b o q
        · rw [upd_same, st']
      · rw [if_neg hm, List.append_nil] at st'
        exact ⟨sm2, by rw [st']; exact hD2⟩
    rintro H1 ⟨sm, hD1⟩
    have eu : (((g.zip w').take (tx g).cps.size).filter fun p => !decide (p.1 = p.2)).map (fun p => V.str (one p.2)) = (un g w').map fun c => V.str (one c) := by
      rw [tx_size, List.take_of_length_le (by rw [List.length_zip]; omega)]
      unfold un
      rw [List.map_map]
      rfl
    rw [eu] at hD1
    refine ⟨_, rfl, _, rfl, tx g, tx w', rfl, sz, for_it (walk_zips sz) (fun i σ H' => ∃ (u t : List Nat) (v2 v3 v6 : Option V), σ = [some (.str (tx g)), some (.str (tx w')), v2, v3, some (.ref D), some (.str (tx t)), v6] ∧ Same H H' ∧
      H' D = some (.lst (u.map fun c => V.str (one c))) ∧ t ++ go ((g.zip w').drop i) u = mk g w' ∧ t.length = i ∧ u.length ≤ 6) ?_ (fun _ _ _ _ _ => trivial) ?_ ?_⟩
    · refine ⟨un g w', [], _, _, _, rfl, sm, hD1, rfl, rfl, ?_⟩
      have h1 := List.length_filter_le (fun p : Nat × Nat => !decide (p.1 = p.2)) (g.zip w')
      have h2 : (g.zip w').length ≤ 6 := by rw [List.length_zip]; omega
      unfold un
      rw [List.length_map]
      omega
    · rintro i x σ H2 H3 hi ⟨u, t, v2, v3, v6, rfl, sm2, hD2, hgo, ht, hu⟩ ⟨T, c, e, rfl, hT, rfl, hx, hy⟩
      have hz := zip_at (tx_at hx) (tx_at hy)
      have nDT : D ≠ T := ne_of_none hD2 hT
      rw [drop_at hz] at hgo
      have eq_iff : decide (V.str (one c) = V.str (one e)) = decide (c = e) := decide_eq_decide.mpr ⟨fun q => ones_inj (V.str.inj q), fun q => by rw [q]⟩
      have hD3 : upd H2 T (.tup [.str (one c), .str (one e)]) D = _ := (upd_ne nDT).trans hD2
      have sm3 : Same H (upd H2 T (.tup [.str (one c), .str (one e)])) := sm2.trans (same_upd hT)
      have hi6 : i < g.length := by rw [tx_size] at hi; exact hi
      have tl : (tx t).length = i := by rw [tx_len, ht]
      refine ⟨T, _, rfl, SqT.of upd_same, rfl, _, _, rfl, _, _, rfl, rfl, ?_⟩
      refine ⟨_, rfl, _, rfl, rfl, _, rfl, ?_⟩
      rw [eq_iff]
      generalize upd H2 T (.tup [.str (one c), .str (one e)]) = H3 at hD3 sm3 ⊢
      have fin : ∀ (m : Nat) (u' : List Nat) (H4 : Hp), Same H H4 → H4 D = some (.lst (u'.map fun c => V.str (one c))) → t ++ m :: go ((g.zip w').drop (i + 1)) u' = mk g w' → u'.length ≤ 6 →
          MidSg g w' c e D t i H
            [some (.str (tx g)), some (.str (tx w')), some (.str (one c)), some (.str (one e)), some (.ref D), some (.str (tx t)), some (.str (one m))] H4 := fun m u' H4 h1 h2 h3 h4 => ⟨m, u', rfl, h1, h2, h3, h4⟩
      have last : ∀ (σ' : L2.St) (H' : Hp), (MidSg g w' c e D t i H σ' H') →
          ∃ (m : Nat) (u' : List Nat), σ' = [some (.str (tx g)), some (.str (tx w')), some (.str (one c)), some (.str (one e)), some (.ref D), some (.str (tx t)), some (.str (one m))] ∧ Same H H' ∧ H' D = some (.lst (u'.map fun c => V.str (one c))) ∧ (t ++ [m]) ++ go ((g.zip w').drop (i + 1)) u' = mk g w' ∧ u'.length ≤ 6 := fun σ' H' ⟨m, u', h1, h2, h3, h4, h5⟩ => ⟨m, u', h1, h2, h3, by rw [List.append_assoc]; exact h4, h5⟩
      refine ite2 (fun hm => ?_) (fun hm => ?_)
      · have hm := of_decide_eq_true hm
        rw [go, if_pos hm] at hgo
        refine ⟨MidSg g w' c e D t i H, ⟨_, rfl, rfl, _, rfl, ite2 (fun h => absurd h (by decide +kernel)) (fun _ => iteF <| fin 50 u H3 sm3 hD3 hgo hu)⟩, ?_⟩
        rintro σ' H4 hh
        obtain ⟨m, u', rfl, h1, h2, h3, h4⟩ := last σ' H4 hh
        refine ⟨_, rfl, _, rfl, _, _, rfl, rfl, by show (tx t).length + 1 ≤ sizeLine; omega, u', t ++ [m], some (.str (one c)), some (.str (one e)), some (.str (one m)), ?_, h1, h2, h3, by rw [List.length_append, ht]; rfl, h4⟩
        rw [← tx_app]
        rfl
      · have hm : ¬ c = e := fun q => hm (decide_eq_true q)
        rw [go, if_neg hm] at hgo
        refine ⟨MidSg g w' c e D t i H, ⟨_, rfl, rfl, _, rfl, ite2 (fun _ => ?_) (fun h => absurd (by decide +kernel) h)⟩, ?_⟩
        · refine ⟨_, rfl, _, rfl, D, _, rfl, .inl (SqL.of hD3), rfl, flat_ones u, _, rfl, ?_⟩
          refine ite2 (fun hc => ?_) (fun hc => ?_)
          · have hc : c ∈ u := of_decide_eq_true ((in_ones c u).symm.trans hc)
            rw [if_pos hc] at hgo
            obtain ⟨j, j1, j2, j3⟩ := first_at hc
            have em : (u.map one).map V.str = u.map fun c => V.str (one c) := by rw [List.map_map]; rfl
            refine ⟨_, rfl, .inl ⟨rfl, _, SqL.of hD3⟩, _, rfl, D, u.map one, one c, j, rfl, rfl, by rw [em]; exact hD3, by rw [List.getElem?_map, j1]; rfl, fun m hm q => j2 m hm ?_, ?_⟩
            · rw [List.getElem?_map] at q
              cases e' : u[m]? with
              | none => rw [e'] at q; cases q
              | some b => rw [e'] at q; exact congrArg some (ones_inj (Option.some.inj q))
            have ee : (((u.map one).eraseIdx j).map V.str) = (u.erase c).map fun c => V.str (one c) := by
              rw [← j3]
              have : ∀ (l : List Nat) (j : Nat), (l.map one).eraseIdx j = (l.eraseIdx j).map one := by
                intro l
                induction l with
                | nil => intro j; simp
                | cons a l ih => intro j; cases j <;> simp [ih]
              rw [this, List.map_map]
              rfl
            refine fin 49 (u.erase c) _ (fun b o q => ?_) ?_ hgo ?_
            · rw [upd_ne (ne_of_none q hD)]
              exact sm3 b o q
            · rw [upd_same, ee]
            · have := List.length_erase_le (a := c) (l := u)
              omega
          · have hc : ¬ c ∈ u := fun q => hc ((in_ones c u).trans (decide_eq_true q))
            rw [if_neg hc] at hgo
            exact fin 48 u H3 sm3 hD3 hgo hu
        rintro σ' H4 hh
        obtain ⟨m, u', rfl, h1, h2, h3, h4⟩ := last σ' H4 hh
        refine ⟨_, rfl, _, rfl, _, _, rfl, rfl, by show (tx t).length + 1 ≤ sizeLine; omega, u', t ++ [m], some (.str (one c)), some (.str (one e)), some (.str (one m)), ?_, h1, h2, h3, by rw [List.length_append, ht]; rfl, h4⟩
        rw [← tx_app]
        rfl
    · rintro σ H2 ⟨u, t, v2, v3, v6, rfl, sm2, hD2, hgo, ht, hu⟩
      rw [tx_size, List.drop_of_length_le (by rw [List.length_zip]; omega)] at hgo
      have e : t = mk g w' := by
        rw [go, List.append_nil] at hgo
        exact hgo
      rw [e]
      exact ⟨_, rfl, q H2 sm2⟩
end
end Gm

/-! the law's list of all words; a guess near a hidden word -/
namespace Gm
open PySem L2

abbrev txs (ws : List (List Nat)) : List V := ws.map fun w => .str (tx w)
theorem txs_app (a b : List (List Nat)) : txs (a ++ b) = txs a ++ txs b := List.map_append
theorem txs_len (ws : List (List Nat)) : (txs ws).length = ws.length := List.length_map ..
theorem txs_get {ws : List (List Nat)} {i : Nat} {x : V} (h : (txs ws)[i]? = some x) : ∃ z, x = .str (tx z) ∧ ws[i]? = some z := by
  unfold txs at h
  rw [List.getElem?_map] at h
  cases e : ws[i]? with
  | none => rw [e] at h; cases h
  | some z =>
    rw [e] at h
    exact ⟨z, (Option.some.inj h).symm, rfl⟩
theorem take_snoc {α : Type} {xs : List α} {i : Nat} {x : α} (h : xs[i]? = some x) : xs.take (i + 1) = xs.take i ++ [x] := by
  rw [List.take_succ_eq_append_getElem (List.getElem?_eq_some_iff.mp h).1, (List.getElem?_eq_some_iff.mp h).2]
def spWords : Sp := fun vs H Q _ => ∃ (l : List Nat) (n : Int), vs = [.str (tx l), .int n] ∧ 0 < l.length ∧ 0 ≤ n ∧ n ≤ 6 ∧ l.length ^ n.toNat ≤ 256 ∧ ∀ H' D, Same H H' → H D = none → H' D = some (.lst (txs (wds l n.toNat))) → Q (.ref D) H'
def spNear : Sp := fun vs H Q _ => ∃ (p : Addr) (l h : List Nat) (n : Int), vs = [.ref p, .str (tx l), .int n, .str (tx h)] ∧ BowlC 7 H p ∧ 0 < l.length ∧ l.length ≤ 26 ∧ 1 ≤ n ∧ n ≤ 6 ∧ (h.length : Int) = n ∧ (∀ c ∈ h, c ∈ l) ∧
  ∀ H' ws, Stir 7 p H H' → (ws.length : Int) = n → (∀ c ∈ ws, c ∈ l) → Q (.str (tx ws)) H'
theorem cut_preT (z : List Nat) (i : Nat) (h : i ≤ z.length) : cutS (tx z) none (some (i : Int)) = tx (z.take i) := cut_pre (tx z) i (by rw [tx_len]; exact h)
theorem cut_sufT (z : List Nat) (i : Nat) (h : i ≤ z.length) : cutS (tx z) (some (i : Int)) none = tx (z.drop i) := cut_suf (tx z) i (by rw [tx_len]; exact h)
section
variable {P : Program} {w : World} {K : PySem.W.Frag} {mg : Str → Option Value} {base : Heap}
abbrev nNe : List Str := ["_law_well_here", "_law_alpha", "_law_wide", "_law_hidden", "_law_way", "_law_turn", "_law_at"]
theorem scNe : FnScope nNe ["_law_well_here", "_law_alpha", "_law_wide", "_law_hidden"] (defScope sNear) := ⟨rfl, rfl, rfl, by decide +kernel, rfl, by decide +kernel, by decide +kernel⟩
theorem ok_near {f fD fT : Addr} {fd fdD fdT : FuncData} (F : Fun K "_law_near" "_law_near" sNear f fd) (T : TxS mg) (GD : FnOk P w K mg base CX0 1 fD fdD ["_law_well_here", "_law_many"] spDip) (DD : Df K mg "_law_next" fD fdD ["_law_well_here", "_law_many"])
    (GT : FnOk P w K mg base CX0 2 fT fdT ["_law_well_here", "_law_alpha", "_law_wide"] spText) (DT : Df K mg "_law_text" fT fdT ["_law_well_here", "_law_alpha", "_law_wide"]) :
    FnOk P w K mg base CX0 3 f fd ["_law_well_here", "_law_alpha", "_law_wide", "_law_hidden"] spNear := by
  refine F.ok scNe (fun vs H Q E h => ?_) (fun cdv A outer s H vs Q E hr h => ?_)
  · obtain ⟨p, l, h, n, rfl, _⟩ := h
    rfl
  · obtain ⟨p, l, hid, n, rfl, hp, l0, l26, n1, n6, hl, hm, q⟩ := h
    have nd := scNe.nd
    have hr1 : Room 1 _ := hr.mono (by decide)
    have hline : sizeLine = 16777216 := sizeLine_eq
    have tl : (tx l).length = l.length := tx_len l
    have th : (tx hid).length = hid.length := tx_len hid
    refine ⟨_, pss_cons (ps_set (i := 4) nd rfl (Or.inl rfl) (pe_call GD hr1 (by rfl) DD.mg DD.kp DD.b .nil pass0 (pa_cons (pv 0) (pa_cons pe_int pa_nil))))
      (pss_cons (ps_if (pt_cmpR op_lt (pv 4) pe_int (nomark _)) (pss_one (ps_ret (pe_call GT hr (by rfl) DT.mg DT.kp DT.b .nil pass0 (pa_cons (pv 0) (pa_cons (pv 1) (pa_cons (pv 2) pa_nil)))))) pss_nil)
      (pss_cons (ps_if (pt_cmpR op_eq (pv 4) pe_int (nomark _)) (pss_one (ps_ret (pe_join pe_str (pe_lc (own := [("_law_turn", 5)]) (g := gName 5) (by rfl) nd (pi_range1 (by rfl) T.range (pa_cons (pv 2) pa_nil)) (blkOk_by (own := [("_law_turn", 5)]) (N := nNe) (sc := defScope sNear) (by decide +kernel))
          (fun _ _ _ _ _ => pg_name (i := 5) nd rfl (Or.inl rfl)) (fun _ _ _ _ _ => pts_nil)
          (fun _ _ _ _ _ => pe_ix ix_str (pv 3) (pe_call GD hr1 (by rfl) DD.mg DD.kp DD.b .nil pass0 (pa_cons (pv 0) (pa_cons (pv 2) pa_nil))) (fun _ _ => rfl)))))) pss_nil)
      (pss_cons (ps_set (i := 6) nd rfl (Or.inl rfl) (pe_call GD hr1 (by rfl) DD.mg DD.kp DD.b .nil pass0 (pa_cons (pv 0) (pa_cons (pv 2) pa_nil))))
      (pss_one (ps_ret (pe_op op_add_str (pe_op op_add_str (pe_slice sl_str (pv 3) po_none (po_some (pv 6)))
          (pe_ix ix_str (pv 1) (pe_call GD hr1 (by rfl) DD.mg DD.kp DD.b .nil pass0 (pa_cons (pv 0) (pa_cons (pe_callB call_len_str (by rfl) T.len PySem.boot_len (pa_cons (pv 1) pa_nil)) pa_nil))) (fun _ _ => rfl)))
          (pe_slice sl_str (pv 3) (po_some (pe_op op_add (pv 6) pe_int)) po_none))))))), ?_⟩
    refine ⟨_, rfl, p, 5, rfl, hp.mono (by decide), by decide, by decide, fun H1 d R1 d0 d5 => ?_⟩
    refine ⟨_, rfl, _, _, rfl, rfl, _, rfl, ite2 (fun h => ?_) (fun h => ?_)⟩
    · exact ⟨_, rfl, _, rfl, _, rfl, p, l, n, rfl, R1.bowl hp (by decide), l0, l26, by omega, n6, fun H2 ws R2 hw hl' => q H2 ws ((R1.trans R2).mono (by decide)) (by omega) hl'⟩
    refine ⟨_, rfl, rfl, _, rfl, ite2 (fun h => ?_) (fun h => ?_)⟩
    · refine ⟨⟨_, rfl⟩, _, rfl, n, rfl, by omega, by omega, fun D hD => ?_⟩
      have b1 : BowlC 6 H1 p := R1.bowl hp (by decide)
      have nDp := b1.ne hD
      refine lc_range (lo := 0) (n := n.toNat) (fun i H2 => ∃ ws : List Nat, Stir i p H1 H2 ∧ H2 D = some (.lst (ones ws)) ∧ ws.length = i ∧ ∀ c ∈ ws, c ∈ l)
        ⟨[], Stir.refl.same (same_upd hD), upd_same, rfl, fun c hc => by cases hc⟩ ?_ ?_
      · rintro i H2 hi ⟨ws, R2, h2, hw, hl'⟩
        refine ⟨rfl, ⟨_, rfl, _, rfl, _, rfl, p, n, rfl, R2.bowl b1 (by omega), by omega, by omega, fun H3 d R3 d0 d1 => ?_⟩⟩
        obtain ⟨j, rfl⟩ := Int.eq_ofNat_of_zero_le d0
        have hj : j < hid.length := by omega
        refine ⟨tx hid, _, hid[j], rfl, rfl, by omega, atI_nat (List.getElem?_eq_getElem hj), _, R3.1 D _ nDp h2, by rw [ones_len]; omega, ws ++ [hid[j]], (R2.trans R3).put hD nDp, ?_, by rw [List.length_append, hw]; rfl, fun a ha => ?_⟩
        · rw [upd_same, ones_app]
          rfl
        · rcases List.mem_append.mp ha with ha | ha
          · exact hl' a ha
          · rw [List.mem_singleton.mp ha]
            exact hm _ (List.getElem_mem hj)
      · rintro H2 ⟨ws, R2, h2, hw, hl'⟩
        refine ⟨_, D, ws.map one, rfl, rfl, .inl (SqL.of (by rw [List.map_map]; exact h2)), ?_, ?_⟩
        · rw [sum_one, List.length_map]
          show ws.length + ws.length * 0 ≤ 16777216
          omega
        · show Q (.str (Txt.join (Str.ofString "") (ws.map one))) H2
          rw [join_one]
          exact q H2 ws ((R1.trans R2).mono (by omega)) (by omega) hl'
    refine ⟨_, rfl, _, rfl, p, n, rfl, R1.bowl hp (by decide), by omega, by omega, fun H2 e R2 e0 e1 => ?_⟩
    obtain ⟨j, rfl⟩ := Int.eq_ofNat_of_zero_le e0
    have hj : j < hid.length := by omega
    have R12 := R1.trans R2
    have e1' := cut_preT hid j (by omega)
    have e2' : cutS (tx hid) (some (((j : Int)) + 1)) none = tx (hid.drop (j + 1)) := by
      have := cut_sufT hid (j + 1) (by omega)
      rw [← this]
      rfl
    refine ⟨_, rfl, _, rfl, _, rfl, tx hid, rfl, by omega, ?_⟩
    refine ⟨_, rfl, _, rfl, _, rfl, _, rfl, by omega, p, _, rfl, R12.bowl hp (by decide), by omega, by omega, fun H3 g R3 g0 g1 => ?_⟩
    obtain ⟨k, rfl⟩ := Int.eq_ofNat_of_zero_le g0
    have hk : k < l.length := by omega
    refine ⟨tx l, _, l[k], rfl, rfl, by omega, atI_nat (List.getElem?_eq_getElem hk), ?_⟩
    refine ⟨_, _, rfl, rfl, by rw [e1', tx_len, List.length_take]; show _ + 1 ≤ _; omega, ?_⟩
    refine ⟨_, rfl, _, rfl, _, _, rfl, rfl, _, rfl, tx hid, rfl, by omega, ?_⟩
    refine ⟨_, _, rfl, rfl, ?_, ?_⟩
    · rw [e1', e2', app_len, tx_len, tx_len, tx_len, List.length_take, List.length_drop]
      show _ + 1 + _ ≤ _
      omega
    · have e3 : cutS (tx hid) none (some (j : Int)) ++ one l[k] ++ cutS (tx hid) (some (((j : Int)) + 1)) none = tx (hid.take j ++ [l[k]] ++ hid.drop (j + 1)) := by
        rw [e1', e2', ← tx_app, ← tx_app]
      show Q (.str (cutS (tx hid) none (some (j : Int)) ++ one l[k] ++ cutS (tx hid) (some (((j : Int)) + 1)) none)) H3
      rw [e3]
      refine q H3 _ ((R12.trans R3).mono (by decide)) ?_ fun x hx => ?_
      · rw [List.length_append, List.length_append, List.length_take, List.length_drop]
        show ((_ + 1 + _ : Nat) : Int) = n
        omega
      · rcases List.mem_append.mp hx with hx | hx
        · rcases List.mem_append.mp hx with hx | hx
          · exact hm x (List.mem_of_mem_take hx)
          · rw [List.mem_singleton.mp hx]
            exact List.getElem_mem hk
        · exact hm x (List.mem_of_mem_drop hx)
end
end Gm

/-! rows drawn from a well -/
namespace Gm
open PySem L2
def LRows (H : Hp) (a : Addr) (rows : List Row) : Prop := ∃ vs, H a = some (.lst vs) ∧ Rws H vs rows
theorem LRows.same {H H' : Hp} {a : Addr} {rows : List Row} (h : LRows H a rows) (s : Same H H') : LRows H' a rows := let ⟨vs, e, k⟩ := h; ⟨vs, s _ _ e, k.same s⟩
theorem ne_bowl {c : Nat} {H : Hp} {p a : Addr} {o : HO} (hp : BowlC c H p) (h : H a = some o) (n : ∀ xs, o ≠ .lst xs) : a ≠ p := fun z => by
  obtain ⟨x, y, w, e, _⟩ := hp
  rw [z, e] at h
  exact n _ (Option.some.inj h).symm
theorem Rws.stir {c k : Nat} {p : Addr} {H H' : Hp} {vs : List V} {rs : List Row} (h : Rws H vs rs) (hp : BowlC c H p) (s : Stir k p H H') : Rws H' vs rs := by
  induction h with
  | nil => exact .nil
  | @cons a r vs rs ha _ ih => exact .cons (s.1 _ _ (ne_bowl hp ha fun _ z => by cases z) ha) ih
theorem Rws.map {G G' : Hp} {us : List V} {rs : List Row} (h : Rws G us rs) (k : ∀ b r, RowAt G b r → RowAt G' b r) : Rws G' us rs := by
  induction h with
  | nil => exact .nil
  | cons a _ ih => exact .cons (k _ _ a) ih
theorem LRows.stir {c k : Nat} {p a : Addr} {H H' : Hp} {rows : List Row} (h : LRows H a rows) (ne : a ≠ p) (hp : BowlC c H p) (R : Stir k p H H') : LRows H' a rows := by
  obtain ⟨vs, hv, hw⟩ := h
  exact ⟨vs, R.1 _ _ ne hv, hw.stir hp R⟩
theorem wd_marks {g w : List Nat} {n : Int} (h : g.length = w.length) (hn : (g.length : Int) = n) : Wd [48, 49, 50] n (mk g w) := ⟨by rw [mk_len h]; exact hn, fun c hc => by
  have := mk_marks h c hc
  simp only [List.mem_cons, List.not_mem_nil, or_false]
  omega⟩
def spEntry : Sp := fun vs H Q _ => ∃ (p : Addr) (l h : List Nat) (n z : Int), vs = [.ref p, .str (tx l), .int n, .str (tx h), .int z] ∧ BowlC 14 H p ∧ 0 < l.length ∧ l.length ≤ 26 ∧ 1 ≤ n ∧ n ≤ 6 ∧ Wd l n h ∧
  ∀ H' T r, Stir 14 p H H' → RowAt H' T r → RowOk l n r → Q (.ref T) H'
def spEntries : Sp := fun vs H Q _ => ∃ (p : Addr) (l : List Nat) (n m : Int), vs = [.ref p, .str (tx l), .int n, .int m] ∧ BowlC 288 H p ∧ 0 < l.length ∧ l.length ≤ 26 ∧ 1 ≤ n ∧ n ≤ 6 ∧ 0 ≤ m ∧ m ≤ 20 ∧
  ∀ H' L rows, Stir 288 p H H' → H L = none → LRows H' L rows → (∀ r ∈ rows, RowOk l n r) → (rows.length : Int) ≤ m → Q (.ref L) H'
section
variable {P : Program} {w : World} {K : PySem.W.Frag} {mg : Str → Option Value} {base : Heap}
end
end Gm

/-! boards of middle size; rows of one hidden word -/
namespace Gm
open PySem L2


def spMed : Sp := fun vs H Q _ => ∃ (p : Addr), vs = [.ref p] ∧ BowlC 28 H p ∧ ∀ H' T l n, Stir 28 p H H' → H' T = some (.tup [.str (tx l), .int n]) → Alph (tx l) → 1 ≤ n → n ≤ 6 → (n ≤ 3 ∨ l.length ≤ 8) → Q (.ref T) H'
theorem eight_at {j : Nat} (h : j < 8) : ∃ m : Int, atI [V.int 1, V.int 2, V.int 3, V.int 3, V.int 4, V.int 4, V.int 5, V.int 6] ((j : Nat) : Int) = some (V.int m) ∧ 1 ≤ m ∧ m ≤ 6 := by
  match j, h with
  | 0, _ => exact ⟨1, rfl, by decide, by decide⟩
  | 1, _ => exact ⟨2, rfl, by decide, by decide⟩
  | 2, _ => exact ⟨3, rfl, by decide, by decide⟩
  | 3, _ => exact ⟨3, rfl, by decide, by decide⟩
  | 4, _ => exact ⟨4, rfl, by decide, by decide⟩
  | 5, _ => exact ⟨4, rfl, by decide, by decide⟩
  | 6, _ => exact ⟨5, rfl, by decide, by decide⟩
  | 7, _ => exact ⟨6, rfl, by decide, by decide⟩
def spTrue : Sp := fun vs H Q _ => ∃ (p : Addr) (l h : List Nat) (n m : Int), vs = [.ref p, .str (tx l), .int n, .str (tx h), .int m] ∧ BowlC 140 H p ∧ 0 < l.length ∧ l.length ≤ 26 ∧ 1 ≤ n ∧ n ≤ 6 ∧ Wd l n h ∧ 0 ≤ m ∧ m ≤ 20 ∧
  ∀ H' L rows, Stir 140 p H H' → H L = none → LRows H' L rows → (∀ r ∈ rows, RowOk l n r ∧ mk r.1 h = r.2) → (rows.length : Int) = m → Q (.ref L) H'
theorem rws_putN {H : Hp} {L : Addr} {xs : List V} {o : HO} (h : H L = some (.lst xs)) {vs : List V} {rs : List Row} (x : Rws H vs rs) : Rws (upd H L o) vs rs := by
  induction x with
  | nil => exact .nil
  | @cons a r vs rs ha _ ih =>
    refine .cons ?_ ih
    show upd H L o a = _
    rw [upd_ne (fun z => by subst z; rw [show H a = _ from ha] at h; cases h)]
    exact ha
theorem alph_lowN {l : List Nat} (h : Alph (tx l)) : l.Pairwise (· < ·) ∧ ∀ c ∈ l, c ∈ low := by
  have e : l = pick (tx l) := h.2.2
  rw [e]
  exact ⟨low_sorted.sublist List.filter_sublist, fun c hc => (List.mem_filter.mp hc).1⟩
section
variable {P : Program} {w : World} {K : PySem.W.Frag} {mg : Str → Option Value} {base : Heap}
abbrev nMed : List Str := ["_law_well_here", "_law_wide"]
theorem scMed : FnScope nMed ["_law_well_here"] (defScope sMed) := ⟨rfl, rfl, rfl, by decide +kernel, rfl, by decide +kernel, by decide +kernel⟩
theorem ok_med {f fD fA : Addr} {fd fdD fdA : FuncData} (F : Fun K "_law_medium" "_law_medium" sMed f fd) (GD : FnOk P w K mg base CX0 1 fD fdD ["_law_well_here", "_law_many"] spDip) (DD : Df K mg "_law_next" fD fdD ["_law_well_here", "_law_many"])
    (GA : FnOk P w K mg base CX0 2 fA fdA ["_law_well_here", "_law_many"] spAlp) (DA : Df K mg "_law_alphabet" fA fdA ["_law_well_here", "_law_many"]) : FnOk P w K mg base CX0 3 f fd ["_law_well_here"] spMed := by
  refine F.ok scMed (fun vs H Q E h => ?_) (fun cdv A outer s H vs Q E hr h => ?_)
  · obtain ⟨p, rfl, _⟩ := h
    rfl
  · obtain ⟨p, rfl, hp, q⟩ := h
    have nd := scMed.nd
    have hr1 : Room 1 _ := hr.mono (by decide)
    refine ⟨_, pss_cons (ps_set (i := 1) nd rfl (Or.inl rfl) (pe_ix ix_list (pe_lst (pa_cons pe_int (pa_cons pe_int (pa_cons pe_int (pa_cons pe_int (pa_cons pe_int (pa_cons pe_int (pa_cons pe_int (pa_cons pe_int pa_nil))))))))) (pe_call GD hr1 (by rfl) DD.mg DD.kp DD.b .nil pass0 (pa_cons (pv 0) (pa_cons pe_int pa_nil))) (fun _ _ => rfl)))
      (pss_one (ps_ret (pe_tup (pa_cons (pe_call GA hr (by rfl) DA.mg DA.kp DA.b .nil pass0 (pa_cons (pv 0) (pa_cons (pe_op op_add pe_int (pe_call GD hr1 (by rfl) DD.mg DD.kp DD.b .nil pass0 (pa_cons (pv 0) (pa_cons (pe_ifExp (pt_cmpR op_lt (pv 1) pe_int (nomark _)) pe_int pe_int) pa_nil)))) pa_nil))) (pa_cons (pv 1) pa_nil))))), ?_⟩
    refine ⟨by show 8 ≤ sizeLine; decide, fun L zL => ?_⟩
    have sL := same_upd (o := .lst [V.int 1, V.int 2, V.int 3, V.int 3, V.int 4, V.int 4, V.int 5, V.int 6]) zL
    have nLp := hp.ne zL
    refine ⟨_, rfl, p, 8, rfl, (hp.same sL).mono (by decide), by decide, by decide, fun H1 d R1' d0 d8 => ?_⟩
    obtain ⟨j, rfl⟩ := Int.eq_ofNat_of_zero_le d0
    obtain ⟨n, hn, n1, n6⟩ := eight_at (j := j) (by omega)
    refine ⟨L, _, _, _, rfl, rfl, SqL.of (R1'.1 L _ nLp upd_same), hn, ?_⟩
    have R1 : Stir 1 p H H1 := (((Stir.refl (k := 0) (p := p) (H := H)).same sL).trans R1').mono (by decide)
    refine ⟨_, rfl, _, rfl, _, rfl, _, _, rfl, rfl, _, rfl, ?_⟩
    refine ite2 (fun h => ?_) (fun h => ?_)
    · refine ⟨p, 25, rfl, R1.bowl hp (by decide), by decide, by decide, fun H2 y R2 y0 y25 => ?_⟩
      refine ⟨_, _, rfl, rfl, p, 2 + y, rfl, (R1.trans R2).bowl hp (by decide), by omega, by omega, fun H3 l R3 hA hl => ⟨_, rfl, by show 2 ≤ sizeLine; decide, fun T zT => ?_⟩⟩
      exact q _ T l n ((((R1.trans R2).trans R3).same (same_upd zT)).mono (by decide)) upd_same hA n1 n6 (.inl (by have := of_decide_eq_true h; omega))
    · refine ⟨p, 7, rfl, R1.bowl hp (by decide), by decide, by decide, fun H2 y R2 y0 y7 => ?_⟩
      refine ⟨_, _, rfl, rfl, p, 2 + y, rfl, (R1.trans R2).bowl hp (by decide), by omega, by omega, fun H3 l R3 hA hl => ⟨_, rfl, by show 2 ≤ sizeLine; decide, fun T zT => ?_⟩⟩
      exact q _ T l n ((((R1.trans R2).trans R3).same (same_upd zT)).mono (by decide)) upd_same hA n1 n6 (.inr (by omega))
abbrev nTr : List Str := ["_law_well_here", "_law_alpha", "_law_wide", "_law_hidden", "_law_many", "_law_found", "_law_turn", "_law_one"]
theorem scTr : FnScope nTr ["_law_well_here", "_law_alpha", "_law_wide", "_law_hidden", "_law_many"] (defScope sTrue) := ⟨rfl, rfl, rfl, by decide +kernel, rfl, by decide +kernel, by decide +kernel⟩
theorem ok_true {f fN fS : Addr} {fd fdN fdS : FuncData} (F : Fun K "_law_true_entries" "_law_true_entries" sTrue f fd) (T : TxS mg) (GN : FnOk P w K mg base CX0 3 fN fdN ["_law_well_here", "_law_alpha", "_law_wide", "_law_hidden"] spNear) (DN : Df K mg "_law_near" fN fdN ["_law_well_here", "_law_alpha", "_law_wide", "_law_hidden"])
    (GS : FnOk P w K mg base CX0 1 fS fdS ["_law_one", "_law_hidden"] spMarksOf) (DS : Df K mg "_law_signs" fS fdS ["_law_one", "_law_hidden"]) : FnOk P w K mg base CX0 4 f fd ["_law_well_here", "_law_alpha", "_law_wide", "_law_hidden", "_law_many"] spTrue := by
  refine F.ok scTr (fun vs H Q E h => ?_) (fun cdv A outer s H vs Q E hr h => ?_)
  · obtain ⟨p, l, hd, n, m, rfl, _⟩ := h
    rfl
  · obtain ⟨p, l, hd, n, m, rfl, hp, l0, l26, n1, n6, hw, m0, m20, q⟩ := h
    have nd := scTr.nd
    have hr1 : Room 1 _ := hr.mono (by decide)
    have hline : sizeLine = 16777216 := sizeLine_eq
    refine ⟨_, pss_cons (ps_set (i := 5) nd rfl (Or.inl rfl) (pe_lst pa_nil))
      (pss_cons (ps_for PassesOwn.never rfl (pi_range1 (by rfl) T.range (pa_cons (pv 4) pa_nil)) (pg_name (i := 6) nd rfl (Or.inl rfl))
        (pss_cons (ps_set (i := 7) nd rfl (Or.inl rfl) (pe_call GN hr (by rfl) DN.mg DN.kp DN.b .nil pass0 (pa_cons (pv 0) (pa_cons (pv 1) (pa_cons (pv 2) (pa_cons (pv 3) pa_nil))))))
        (pss_one (ps_expr (pe_bm PySem.F.plainAttrs_list PySem.F.slot_list_append PySem.F.type_list_append mt_append (pv 5) (pa_cons (pe_tup (pa_cons (pv 7) (pa_cons (pe_call GS hr1 (by rfl) DS.mg DS.kp DS.b .nil pass0 (pa_cons (pv 7) (pa_cons (pv 3) pa_nil))) pa_nil))) pa_nil))))))
      (pss_one (ps_ret (pv 5)))), ?_⟩
    refine ⟨Nat.zero_le _, fun L0 zL => ?_⟩
    have nLp := hp.ne zL
    refine ⟨_, rfl, m, rfl, by omega, by omega, for_range (n := m.toNat) (fun i σ H' => ∃ (v6 v7 : Option V) (rows : List Row), σ = [some (.ref p), some (.str (tx l)), some (.int n), some (.str (tx hd)), some (.int m), some (.ref L0), v6, v7] ∧ Stir (7 * i) p H H' ∧ LRows H' L0 rows ∧ (∀ r ∈ rows, RowOk l n r ∧ mk r.1 hd = r.2) ∧ rows.length = i)
      ⟨_, _, [], rfl, (Stir.refl (k := 0)).same (same_upd zL), ⟨[], upd_same, .nil⟩, (fun r h => nomatch h), rfl⟩ ?_ ?_⟩
    · rintro i σ H5 hi ⟨v6, v7, rows, rfl, R5, ⟨vs, hv, hws⟩, hok, hlen⟩
      have b5 : BowlC 7 H5 p := R5.bowl hp (by omega)
      refine ⟨_, rfl, _, rfl, _, rfl, _, rfl, p, l, hd, n, rfl, b5, l0, l26, n1, n6, hw.1, hw.2, fun H6 g R6 gl gm => ?_⟩
      have hv6 := R6.1 L0 _ nLp hv
      have hw6 := hws.stir b5 R6
      refine ⟨_, rfl, .inl ⟨rfl, _, SqL.of hv6⟩, _, rfl, _, rfl, _, rfl, g, hd, rfl, by have := hw.1; omega, by omega, fun H7 s7 => ⟨by show 2 ≤ sizeLine; omega, fun T0 zT => ?_⟩⟩
      have sT := same_upd (o := .tup [.str (tx g), .str (tx (mk g hd))]) zT
      have s67 := s7.trans sT
      have hv8 := s67 _ _ hv6
      have vl := hws.len
      refine ⟨L0, vs, .ref T0, rfl, rfl, hv8, by omega, _, _, rows ++ [(g, mk g hd)], rfl, (((R5.trans R6).same s67).mono (by omega)).put zL nLp, ⟨_, upd_same, rws_putN hv8 ((hw6.same s67).app (.cons upd_same .nil))⟩, fun x h => ?_, by rw [List.length_append, hlen]; rfl⟩
      rcases List.mem_append.mp h with h | h
      · exact hok x h
      · rw [List.mem_singleton.mp h]
        exact ⟨⟨⟨gl, gm⟩, wd_marks (by have := hw.1; omega) gl⟩, rfl⟩
    · rintro σ H5 ⟨v6, v7, rows, rfl, R5, hr5, hok, hlen⟩
      exact ⟨_, rfl, q H5 L0 rows (R5.mono (by omega)) zL hr5 hok (by omega)⟩
end
end Gm

/-! the number of a word among the words left -/
namespace Gm
open PySem
def ltL : List Nat → List Nat → Bool
  | x :: s, y :: w => decide (x < y) || (decide (x = y) && ltL s w)
  | _, _ => false
theorem ltL_irr : ∀ w, ltL w w = false
  | [] => rfl
  | x :: w => by
    show (decide (x < x) || (decide (x = x) && ltL w w)) = false
    rw [ltL_irr w, decide_eq_false (Nat.lt_irrefl x), Bool.and_false]
    rfl
theorem ltL_asym : ∀ {a b}, ltL a b = true → ltL b a = false
  | [], [], _ => rfl
  | [], _ :: _, _ => rfl
  | _ :: _, [], _ => rfl
  | x :: s, y :: w, h => by
    replace h : (decide (x < y) || (decide (x = y) && ltL s w)) = true := h
    show (decide (y < x) || (decide (y = x) && ltL w s)) = false
    rw [Bool.or_eq_true, Bool.and_eq_true, decide_eq_true_iff, decide_eq_true_iff] at h
    rcases h with h0 | ⟨rfl, h0⟩
    · rw [decide_eq_false (by omega), decide_eq_false (by omega)]
      rfl
    · rw [show ltL w s = false from ltL_asym (a := s) (b := w) (by assumption), decide_eq_false (Nat.lt_irrefl x), Bool.and_false]
      rfl
theorem ltL_app : ∀ {a b : List Nat} {c d : Nat}, a.length = b.length → ltL (a ++ [c]) (b ++ [d]) = (ltL a b || (decide (a = b) && decide (c < d)))
  | [], [], c, d, _ => by
    show (decide (c < d) || (decide (c = d) && false)) = (false || (decide (([] : List Nat) = []) && decide (c < d)))
    simp
  | x :: s, y :: w, c, d, h => by
    have ih := ltL_app (a := s) (b := w) (c := c) (d := d) (Nat.succ.inj h)
    show (decide (x < y) || (decide (x = y) && ltL (s ++ [c]) (w ++ [d]))) = ((decide (x < y) || (decide (x = y) && ltL s w)) || (decide (x :: s = y :: w) && decide (c < d)))
    rw [ih]
    by_cases e : x = y
    · subst e
      simp
    · simp [e]
theorem wds_srt {l : List Nat} (hl : l.Pairwise (· < ·)) : ∀ n, (wds l n).Pairwise fun a b => ltL a b = true
  | 0 => List.pairwise_singleton _ _
  | n + 1 => by
    have ih := wds_srt hl n
    have le : ∀ w ∈ wds l n, w.length = n := fun w hw => ((mem_wds l n w).mp hw).1
    show ((wds l n).flatMap fun w => l.map fun c => w ++ [c]).Pairwise _
    generalize wds l n = ws at ih le
    induction ws with
    | nil => exact List.Pairwise.nil
    | cons w ws ia =>
      obtain ⟨h1, h2⟩ := List.pairwise_cons.mp ih
      rw [List.flatMap_cons]
      refine List.pairwise_append.mpr ⟨?_, ia h2 fun x hx => le x (List.mem_cons_of_mem _ hx), fun x hx y hy => ?_⟩
      · refine List.pairwise_map.mpr (List.Pairwise.imp (fun {a b} h => ?_) hl)
        rw [ltL_app rfl, ltL_irr, decide_eq_true rfl, decide_eq_true h]
        rfl
      · obtain ⟨s, _, rfl⟩ := List.mem_map.mp hx
        obtain ⟨d, hd, hy⟩ := List.mem_flatMap.mp hy
        obtain ⟨s', _, rfl⟩ := List.mem_map.mp hy
        rw [ltL_app (by rw [le w (List.mem_cons_self ..), le d (List.mem_cons_of_mem _ hd)]), h1 d hd]
        rfl
theorem srt_index {L : List (List Nat)} (hs : L.Pairwise fun a b => ltL a b = true) {j : Nat} {w : List Nat} (h : L[j]? = some w) : (L.filter fun s => ltL s w).length = j := by
  induction L generalizing j with
  | nil => simp at h
  | cons a L ih =>
    obtain ⟨h1, h2⟩ := List.pairwise_cons.mp hs
    cases j with
    | zero =>
      have : a = w := by simpa using h
      subst this
      rw [List.filter_cons, ltL_irr, if_neg Bool.false_ne_true]
      have : (L.filter fun s => ltL s a) = [] := List.filter_eq_nil_iff.mpr fun x hx => by rw [ltL_asym (h1 x hx)]; exact Bool.false_ne_true
      rw [this]
      rfl
    | succ j =>
      have h : L[j]? = some w := by simpa using h
      rw [List.filter_cons, if_pos (h1 w (List.mem_of_getElem? h)), List.length_cons, ih h2 h]
theorem with_count {ct : List Nat} {le gr : List Int} (hn : ct.Nodup) (hl : le.length = ct.length) (al : List (List Nat)) (us : List Int) (hu : us.length = ct.length) (hg : ∀ j, j < ct.length → us.getD j 0 ≤ gr.getD j 0) (c : Nat) :
    withF ct le gr al us c = (((sufs al).filter fun s => okc ct le gr us (c :: s)).length : Int) := by
  unfold withF bumpC
  by_cases m : c ∈ ct
  · have hi := List.idxOf_lt_length_of_mem m
    by_cases e : us.getD (ct.idxOf c) 0 = gr.getD (ct.idxOf c) 0
    · rw [if_pos ⟨m, e⟩]
      have : ((sufs al).filter fun s => okc ct le gr us (c :: s)) = [] := List.filter_eq_nil_iff.mpr fun s _ h => by
        have h := (okc_iff.mp h _ hi).2
        rw [at_idx m, List.count_cons_self] at h
        omega
      rw [this]
      rfl
    · rw [if_neg (fun z => e z.2), if_pos m, way_count hn hl al _ (by rw [bump_len (by rw [hu]; exact hi), hu]) fun j hj => ?_]
      · congr 2
        exact List.filter_congr fun s _ => (okc_in hn hu m s).symm
      · rw [bump_at (by rw [hu]; exact hi)]
        have := hg j hj
        split
        · rename_i z
          subst z
          omega
        · omega
  · rw [if_neg (fun z => m z.1), if_neg m, way_count hn hl al us hu hg]
    congr 2
    exact List.filter_congr fun s _ => (okc_out m s).symm
/-- what place_of_word adds up -/
def plR (ct : List Nat) (le gr : List Int) : List (List Nat) → List Int → List Nat → Int
  | a :: al, us, c :: w => ((a.filter fun x => decide (x < c)).map fun x => withF ct le gr al us x).sum + plR ct le gr al (bumpC ct us c) w
  | _, _, _ => 0
theorem lt_split (f : Nat → Int) (c : Nat) (W : Int) : ∀ {a : List Nat}, a.Nodup → (a.map fun x => if x < c then f x else if x = c then W else 0).sum = ((a.filter fun x => decide (x < c)).map f).sum + if c ∈ a then W else 0
  | [], _ => by simp
  | x :: a, h => by
    obtain ⟨h1, h2⟩ := List.nodup_cons.mp h
    have ih := lt_split f c W h2
    rw [List.map_cons, List.sum_cons, ih, List.filter_cons]
    by_cases e : x < c
    · have : ¬ c = x := by omega
      simp only [e, if_true, decide_true, List.map_cons, List.sum_cons, List.mem_cons, this, false_or]
      omega
    · by_cases q : x = c
      · subst q
        simp only [e, if_false, decide_false, if_true, List.mem_cons, true_or, h1]
        simp
        omega
      · have : ¬ c = x := fun z => q z.symm
        simp only [e, q, if_false, decide_false, List.mem_cons, this, false_or]
        simp
theorem place_count {ct : List Nat} {le gr : List Int} (hn : ct.Nodup) (hl : le.length = ct.length) : ∀ (al : List (List Nat)) (us : List Int) (w : List Nat), (∀ a ∈ al, a.Nodup) → us.length = ct.length → w ∈ sufs al → okc ct le gr us w = true → (∀ j, j < ct.length → us.getD j 0 ≤ gr.getD j 0) →
    plR ct le gr al us w = (((sufs al).filter fun s => okc ct le gr us s && ltL s w).length : Int)
  | [], us, w, _, _, hw, _, _ => by
    have : w = [] := by simpa [sufs] using hw
    subst this
    show (0 : Int) = _
    have : ((sufs []).filter fun s => okc ct le gr us s && ltL s []) = [] := List.filter_eq_nil_iff.mpr fun s _ h => by
      cases s with
      | nil => rw [Bool.and_eq_true] at h; exact absurd h.2 Bool.false_ne_true
      | cons => rw [Bool.and_eq_true] at h; exact absurd h.2 Bool.false_ne_true
    rw [this]
    rfl
  | a :: al, us, w, na, hu, hw, ho, hg => by
    obtain ⟨c, hc, hw⟩ := List.mem_flatMap.mp (show w ∈ a.flatMap fun c => (sufs al).map fun s => c :: s from hw)
    obtain ⟨s, hs, rfl⟩ := List.mem_map.mp hw
    have an := na a (List.mem_cons_self ..)
    have ub := bumpC_len (c := c) hu
    have oc : okc ct le gr (bumpC ct us c) s = true := by
      unfold bumpC
      split
      · rename_i m
        rw [← okc_in hn hu m s]
        exact ho
      · rename_i m
        rw [← okc_out m s]
        exact ho
    have gb : ∀ j, j < ct.length → (bumpC ct us c).getD j 0 ≤ gr.getD j 0 := fun j hj => by
      have := (okc_iff.mp oc j hj).2
      omega
    have ih := place_count hn hl al (bumpC ct us c) s (fun x hx => na x (List.mem_cons_of_mem _ hx)) ub hs oc gb
    show ((a.filter fun x => decide (x < c)).map fun x => withF ct le gr al us x).sum + plR ct le gr al (bumpC ct us c) s = (((a.flatMap fun c => (sufs al).map fun s => c :: s).filter fun t => okc ct le gr us t && ltL t (c :: s)).length : Int)
    rw [flat_sum, ih]
    have e := lt_split (fun x => withF ct le gr al us x) c (((sufs al).filter fun t => okc ct le gr (bumpC ct us c) t && ltL t s).length : Int) an
    rw [if_pos hc] at e
    rw [← e]
    congr 1
    refine List.map_congr_left fun x hx => ?_
    by_cases z : x < c
    · rw [if_pos z, with_count hn hl al us hu hg]
      congr 2
      refine List.filter_congr fun t _ => ?_
      show _ = (_ && (decide (x < c) || _))
      rw [decide_eq_true z, Bool.true_or, Bool.and_true]
    · by_cases q : x = c
      · subst q
        rw [if_neg z, if_pos rfl]
        congr 2
        refine List.filter_congr fun t _ => ?_
        show _ = (_ && (decide (x < x) || (decide (x = x) && _)))
        rw [decide_eq_false z, decide_eq_true rfl, Bool.false_or, Bool.true_and]
        congr 1
        unfold bumpC
        split
        · rename_i m
          exact (okc_in hn hu m t).symm
        · rename_i m
          exact (okc_out m t).symm
      · rw [if_neg z, if_neg q]
        have : ((sufs al).filter fun t => okc ct le gr us (x :: t) && ltL (x :: t) (c :: s)) = [] := List.filter_eq_nil_iff.mpr fun t _ h => by
          rw [Bool.and_eq_true] at h
          have h : (decide (x < c) || (decide (x = c) && ltL t s)) = true := h.2
          rw [decide_eq_false z, decide_eq_false q] at h
          exact Bool.false_ne_true h
        rw [this]
        rfl
theorem place_eq {l : List Nat} {n : Int} {rows : List Row} {w : List Nat} {j : Nat} (n1 : 1 ≤ n) (hl : l.Pairwise (· < ·)) (hr : ∀ r ∈ rows, RowOk l n r) (h : (leftL l n rows)[j]? = some w) :
    plR (wdOf l n rows).ct (wdOf l n rows).le (wdOf l n rows).gr (wdOf l n rows).al (List.replicate (wdOf l n rows).ct.length 0) w = (j : Int) := by
  have nd : l.Nodup := hl.imp fun h => Nat.ne_of_lt h
  have hm := List.mem_of_getElem? h
  have hi := (way_mem n1 hr w).mpr ((mem_leftL (by omega)).mp hm)
  obtain ⟨h1, h2⟩ := List.mem_filter.mp hi
  have g0 : ∀ j, j < (wdOf l n rows).ct.length → (List.replicate (wdOf l n rows).ct.length (0 : Int)).getD j 0 ≤ (wdOf l n rows).gr.getD j 0 := fun j hj => by
    rw [zeros_getD]
    have e : (wdOf l n rows).gr.getD j 0 = (bsOf l n.toNat rows).gr ((ctOf l n (bsOf l n.toNat rows)).getD j 0) := map_getD _ hj
    rw [e]
    exact gr_nonneg ..
  have pc := place_count (ct := (wdOf l n rows).ct) (le := (wdOf l n rows).le) (gr := (wdOf l n rows).gr) (nd.filter _) (List.length_map ..) _ _ _ (wd_nd nd) (List.length_replicate ..) h1 h2 g0
  rw [pc]
  have e := srt_index ((wds_srt hl n.toNat).filter _) h
  rw [← e]
  congr 1
  have e2 : ((sufs (wdOf l n rows).al).filter fun s => okc (wdOf l n rows).ct (wdOf l n rows).le (wdOf l n rows).gr (List.replicate (wdOf l n rows).ct.length 0) s && ltL s w) =
      (((sufs (wdOf l n rows).al).filter (okc (wdOf l n rows).ct (wdOf l n rows).le (wdOf l n rows).gr (List.replicate (wdOf l n rows).ct.length 0))).filter fun s => ltL s w) := by
    rw [List.filter_filter]
    exact List.filter_congr fun s _ => Bool.and_comm ..
  rw [e2]
  refine List.Perm.length_eq (List.Perm.filter _ ((List.perm_ext_iff_of_nodup ((sufs_nodup (wd_nd nd)).filter _) ((wds_nd nd _).filter _)).mpr fun s => ?_))
  rw [way_mem n1 hr s]
  exact (mem_leftL (by omega)).symm
end Gm

/-! the word with a number among the words left -/
namespace Gm
open PySem
/-- the first of some letters at which a number is used up -/
def pickL (f : Nat → Int) : List Nat → Int → Option (Nat × Int)
  | [], _ => none
  | c :: a, r => if r < f c then some (c, r) else pickL f a (r - f c)
theorem pick_of {f : Nat → Int} : ∀ {a : List Nat} {r : Int}, 0 ≤ r → r < (a.map f).sum → ∃ i c, a[i]? = some c ∧ pickL f a r = some (c, r - ((a.take i).map f).sum) ∧ r - ((a.take i).map f).sum < f c ∧ 0 ≤ r - ((a.take i).map f).sum
  | [], r, h0, h => by
    have h : r < 0 := by simpa using h
    omega
  | b :: a, r, h0, h => by
    by_cases e : r < f b
    · refine ⟨0, b, rfl, ?_, ?_, ?_⟩
      · rw [pickL, if_pos e]
        simp
      · simpa using e
      · simpa using h0
    · have h : r < f b + (a.map f).sum := by simpa using h
      obtain ⟨i, c, h1, h2, h3, h4⟩ := pick_of (f := f) (a := a) (r := r - f b) (by omega) (by omega)
      have es : ((List.take (i + 1) (b :: a)).map f).sum = f b + ((List.take i a).map f).sum := by simp
      refine ⟨i + 1, c, by simpa using h1, ?_, ?_, ?_⟩
      · rw [pickL, if_neg e, h2, es]
        congr 2
        omega
      · rw [es]; omega
      · rw [es]; omega
/-- the word with a number -/
def nthP (ct : List Nat) (le gr : List Int) : List (List Nat) → List Int → Int → List Nat
  | [], _, _ => []
  | a :: al, us, r => match pickL (withF ct le gr al us) a r with
    | some (c, r') => c :: nthP ct le gr al (bumpC ct us c) r'
    | none => []
theorem filter_lt : ∀ {a : List Nat} {i c : Nat}, a.Pairwise (· < ·) → a[i]? = some c → a.filter (fun x => decide (x < c)) = a.take i
  | [], i, c, _, h => by simp at h
  | b :: a, 0, c, hs, h => by
    have : b = c := by simpa using h
    subst this
    obtain ⟨h1, h2⟩ := List.pairwise_cons.mp hs
    rw [List.take_zero]
    refine List.filter_eq_nil_iff.mpr fun x hx => ?_
    rcases List.mem_cons.mp hx with rfl | hx
    · simp
    · have := h1 x hx
      simp
      omega
  | b :: a, i + 1, c, hs, h => by
    obtain ⟨h1, h2⟩ := List.pairwise_cons.mp hs
    have h : a[i]? = some c := by simpa using h
    have := h1 c (List.mem_of_getElem? h)
    rw [List.filter_cons, if_pos (decide_eq_true this), filter_lt h2 h, List.take_succ_cons]
/-- the ways are those through all letters of the place -/
theorem way_all {ct : List Nat} {le gr : List Int} {a : List Nat} {al : List (List Nat)} {us : List Int} (h : ¬ owedI le us > ((al.length + 1 : Nat) : Int)) : wayF ct le gr (a :: al) us = (a.map fun c => withF ct le gr al us c).sum := by
  rw [wayF_cons, if_neg h]
  have e : (a.map fun c => withF ct le gr al us c) = a.map fun c => if c ∈ ct then withF ct le gr al us c else wayF ct le gr al us := List.map_congr_left fun c _ => by
    by_cases m : c ∈ ct
    · rw [if_pos m]
    · rw [if_neg m]
      unfold withF bumpC
      rw [if_neg (fun z => m z.1), if_neg m]
  rw [e, sum_split]
  congr 1
  split
  · rfl
  · rename_i z
    have := cc_le a ct
    have : (a.length : Int) - ((cc a ct).length : Int) = 0 := by omega
    rw [this, Int.zero_mul]
theorem way_cap {ct : List Nat} {le gr : List Int} {a : List Nat} {al : List (List Nat)} {us : List Int} {r : Int} (h0 : 0 ≤ r) (h : r < wayF ct le gr (a :: al) us) : ¬ owedI le us > ((al.length + 1 : Nat) : Int) := fun z => by
  rw [wayF_cons, if_pos z] at h
  omega
theorem with_way {ct : List Nat} {le gr : List Int} {al : List (List Nat)} {us : List Int} {c : Nat} {r : Int} (h0 : 0 ≤ r) (h : r < withF ct le gr al us c) : r < wayF ct le gr al (bumpC ct us c) ∧ ¬ (c ∈ ct ∧ us.getD (ct.idxOf c) 0 = gr.getD (ct.idxOf c) 0) := by
  unfold withF at h
  split at h
  · omega
  · rename_i z
    exact ⟨h, z⟩
theorem nth_ok {ct : List Nat} {le gr : List Int} (hn : ct.Nodup) (hl : le.length = ct.length) : ∀ (al : List (List Nat)) (us : List Int) (r : Int), (∀ a ∈ al, a.Pairwise (· < ·)) → us.length = ct.length → (∀ j, j < ct.length → us.getD j 0 ≤ gr.getD j 0) → 0 ≤ r → r < wayF ct le gr al us →
    nthP ct le gr al us r ∈ sufs al ∧ okc ct le gr us (nthP ct le gr al us r) = true ∧ plR ct le gr al us (nthP ct le gr al us r) = r
  | [], us, r, _, hu, hg, h0, h => by
    have h : r < if owedI le us > 0 then 0 else 1 := h
    split at h
    · omega
    · rename_i z
      refine ⟨by simp [sufs, nthP], okc_iff.mpr fun j hj => ?_, ?_⟩
      · have h1 := owed_zero le us (by omega) (by omega) j (by omega)
        have h2 := hg j hj
        simp only [nthP, List.count_nil]
        omega
      · show (0 : Int) = r
        omega
  | a :: al, us, r, hs, hu, hg, h0, h => by
    have cp := way_cap h0 h
    rw [way_all cp] at h
    obtain ⟨i, c, h1, h2, h3, h4⟩ := pick_of h0 h
    obtain ⟨h5, h6⟩ := with_way h4 h3
    have ub := bumpC_len (c := c) hu
    have gb : ∀ j, j < ct.length → (bumpC ct us c).getD j 0 ≤ gr.getD j 0 := fun j hj => by
      unfold bumpC
      split
      · rename_i m
        have hi := List.idxOf_lt_length_of_mem m
        have g0 := hg j hj
        rw [bump_at (by omega)]
        split
        · rename_i e
          subst e
          have : ¬ us.getD (ct.idxOf c) 0 = gr.getD (ct.idxOf c) 0 := fun z => h6 ⟨m, z⟩
          omega
        · omega
      · exact hg j hj
    obtain ⟨w1, w2, w3⟩ := nth_ok hn hl al (bumpC ct us c) _ (fun x hx => hs x (List.mem_cons_of_mem _ hx)) ub gb h4 h5
    have e : nthP ct le gr (a :: al) us r = c :: nthP ct le gr al (bumpC ct us c) (r - ((a.take i).map fun c => withF ct le gr al us c).sum) := by
      rw [nthP, h2]
    rw [e]
    refine ⟨List.mem_flatMap.mpr ⟨c, List.mem_of_getElem? h1, List.mem_map.mpr ⟨_, w1, rfl⟩⟩, ?_, ?_⟩
    · unfold bumpC at w2
      split at w2
      · rename_i m
        rw [okc_in hn hu m]
        unfold bumpC
        rw [if_pos m]
        exact w2
      · rename_i m
        rw [okc_out m]
        unfold bumpC
        rw [if_neg m]
        exact w2
    · show ((a.filter fun x => decide (x < c)).map fun x => withF ct le gr al us x).sum + plR ct le gr al (bumpC ct us c) _ = r
      rw [w3, filter_lt (hs a (List.mem_cons_self ..)) h1]
      omega
theorem wd_srt {l : List Nat} {n : Int} {rows : List Row} (hl : l.Pairwise (· < ·)) : ∀ a ∈ (wdOf l n rows).al, a.Pairwise (· < ·) := by
  intro a ha
  obtain ⟨t, ht, rfl⟩ := List.mem_map.mp ha
  have key : ∀ (rs : List Row) (b : BS), (∀ x ∈ b.al, x.Pairwise (· < ·)) → ∀ x ∈ (rs.foldl rowB b).al, x.Pairwise (· < ·) := by
    have pl : ∀ (g t : List Nat) (b : BS), (∀ x ∈ b.al, x.Pairwise (· < ·)) → ∀ k, ∀ x ∈ (placeB g t k b).al, x.Pairwise (· < ·) := by
      intro g t b h k
      induction k with
      | zero => exact h
      | succ k ih =>
        have md : ∀ {f : List Nat → List Nat}, (∀ t, t.Pairwise (· < ·) → (f t).Pairwise (· < ·)) → ∀ {al : List (List Nat)}, (∀ x ∈ al, x.Pairwise (· < ·)) → ∀ i, ∀ x ∈ al.modify i f, x.Pairwise (· < ·) := by
          intro f hf al h i x hx
          rcases mem_modify hx with hx | ⟨y, hy, rfl⟩
          · exact h x hx
          · exact hf y (h y hy)
        unfold placeB
        split
        · refine md (fun t _ => ?_) ih k
          split
          · exact List.pairwise_singleton _ _
          · exact List.Pairwise.nil
        · exact md (fun t ht => ht.filter _) ih k
    intro rs
    induction rs with
    | nil => exact fun b h => h
    | cons r rs ih => exact fun b h => ih (rowB b r) (by rw [rowB_al]; exact pl r.1 r.2 b h r.1.length)
  have h : ∀ x ∈ (bsOf l n.toNat rows).al, x.Pairwise (· < ·) := key rows (bs0 l n.toNat) fun x hx => by
    have hx : x ∈ List.replicate n.toNat l := hx
    rw [(List.mem_replicate.mp hx).2]
    exact hl
  exact (h t ht).filter _
theorem nth_eq {l : List Nat} {n : Int} {rows : List Row} {w : List Nat} {j : Nat} (n1 : 1 ≤ n) (hl : l.Pairwise (· < ·)) (hr : ∀ r ∈ rows, RowOk l n r) (h : (leftL l n rows)[j]? = some w) :
    nthP (wdOf l n rows).ct (wdOf l n rows).le (wdOf l n rows).gr (wdOf l n rows).al (List.replicate (wdOf l n rows).ct.length 0) (j : Int) = w := by
  have nd : l.Nodup := hl.imp fun h => Nat.ne_of_lt h
  have hlt := (List.getElem?_eq_some_iff.mp h).1
  have g0 : ∀ j, j < (wdOf l n rows).ct.length → (List.replicate (wdOf l n rows).ct.length (0 : Int)).getD j 0 ≤ (wdOf l n rows).gr.getD j 0 := fun j hj => by
    rw [zeros_getD]
    have e : (wdOf l n rows).gr.getD j 0 = (bsOf l n.toNat rows).gr ((ctOf l n (bsOf l n.toNat rows)).getD j 0) := map_getD _ hj
    rw [e]
    exact gr_nonneg ..
  have hc : (j : Int) < wayF (wdOf l n rows).ct (wdOf l n rows).le (wdOf l n rows).gr (wdOf l n rows).al (List.replicate (wdOf l n rows).ct.length 0) := by
    have e := cnt_eq n1 nd hr
    unfold cntW ways at e
    rw [List.drop_zero] at e
    rw [e]
    omega
  obtain ⟨w1, w2, w3⟩ := nth_ok (ct := (wdOf l n rows).ct) (le := (wdOf l n rows).le) (gr := (wdOf l n rows).gr) (nd.filter _) (List.length_map ..) (wdOf l n rows).al (List.replicate (wdOf l n rows).ct.length 0) (j : Int) (wd_srt hl) (List.length_replicate ..) g0 (by omega) hc
  generalize nthP (wdOf l n rows).ct (wdOf l n rows).le (wdOf l n rows).gr (wdOf l n rows).al (List.replicate (wdOf l n rows).ct.length 0) (j : Int) = v at w1 w2 w3
  have hm := (mem_leftL (by omega)).mpr ((way_mem n1 hr v).mp (List.mem_filter.mpr ⟨w1, w2⟩))
  obtain ⟨j', hj'⟩ := List.mem_iff_getElem?.mp hm
  have e := place_eq n1 hl hr hj'
  rw [w3] at e
  have : j = j' := by omega
  subst this
  rw [h] at hj'
  exact (Option.some.inj hj').symm
end Gm

namespace Gm
open PySem L2
def spManyA (P : Program) (w : World) (C : Addr) : Sp := fun vs H Q E => ∃ r, r ≤ 5 ∧ spManyW P w C r vs H Q E
section
variable {P : Program} {w : World} {K : PySem.W.Frag} {mg : Str → Option Value} {base : Heap}
theorem FnOk_any {k : Nat} {f : Addr} {fd : FuncData} {ps : List Str} {sp : Nat → Sp} (G : ∀ r, r ≤ 5 → FnOk P w K mg base CX0 k f fd ps (sp r)) : FnOk P w K mg base CX0 k f fd ps (fun vs H Q E => ∃ r, r ≤ 5 ∧ sp r vs H Q E) :=
  ⟨fun vs H Q E ⟨r, h5, h⟩ => (G r h5).len _ _ _ _ h, fun A outer s H args us vs Q E hr he hb hv ⟨r, h5, h⟩ => (G r h5).run A outer s H args us vs Q E hr he hb hv h⟩
end
end Gm

/-! Words.letter_at, Words.nth -/
namespace Gm
open PySem L2


abbrev fW (d : WD) (k : Nat) (us : List Int) : Nat → Int := withF d.ct d.le d.gr (d.al.drop (k + 1)) us
def spLetAt (P : Program) (w : World) (C : Addr) : Sp := fun vs H Q _ => ∃ (p m u : Addr) (d : WD) (us : List Int) (k n r : Nat) (num : Int) (a : List Nat), vs = [.ref p, .int (k : Int), .ref u, .int num] ∧ WOk d ∧ WFix C H p m d ∧ MemOk P w H m d n ∧ UsAt H u us ∧ us.length = d.ct.length ∧ k + 1 + r = d.al.length ∧ d.al[k]? = some a ∧
  n + d.b * cap d.b r ≤ sizeLine ∧ 0 ≤ num ∧ num < (a.map (fW d k us)).sum ∧ ∀ H' T c r', But m H H' → MemOk P w H' m d (n + d.b * cap d.b r) → pickL (fW d k us) a num = some (c, r') → 0 ≤ r' → r' < fW d k us c → H' T = some (.tup [.str (one c), .int r']) → Q (.ref T) H'
def spNth (P : Program) (w : World) (C : Addr) : Sp := fun vs H Q _ => ∃ (p m : Addr) (d : WD) (n : Nat) (num : Int), vs = [.ref p, .int num] ∧ WOk d ∧ WFix C H p m d ∧ MemOk P w H m d n ∧ n + cap d.b d.al.length ≤ sizeLine ∧ 0 ≤ num ∧ num < wayF d.ct d.le d.gr d.al (List.replicate d.ct.length 0) ∧
  ∀ H', But m H H' → Q (.str (tx (nthP d.ct d.le d.gr d.al (List.replicate d.ct.length 0) num))) H'
section
variable {P : Program} {w : World} {K : PySem.W.Frag} {mg : Str → Option Value} {base : Heap}
abbrev nLA : List Str := ["self", "place", "used", "number", "letters", "at", "rest", "many"]
theorem scLA : FnScope nLA ["self", "place", "used", "number"] (defScope sLetAt) := ⟨rfl, rfl, rfl, by decide +kernel, rfl, by decide +kernel, by decide +kernel⟩
theorem ok_letAt {f fM C : Addr} {fd fdM : FuncData} (F : Fun K "letter_at" "Words.letter_at" sLetAt f fd) (T : TxN K mg C)
    (mW : Meth K C "many_with" fM) (GW : FnOk P w K mg base CX0 20 fM fdM ["self", "place", "used", "letter"] (spManyA P w C)) (bW : Binds K fdM ["self", "place", "used", "letter"] []) : FnOk P w K mg base CX0 21 f fd ["self", "place", "used", "number"] (spLetAt P w C) := by
  refine F.ok scLA (fun vs H Q E h => ?_) (fun cdv A outer s H vs Q E hr h => ?_)
  · obtain ⟨p, m, u, d, us, k, n, r, num, a, rfl, _⟩ := h
    rfl
  · obtain ⟨p, m, u, d, us, k, n, r, num, a, rfl, ok, fx, me, hu, ul, kr, hk, cp, num0, num1, q⟩ := h
    have nd := scLA.nd
    have hline : sizeLine = 16777216 := sizeLine_eq
    obtain ⟨dx, al, l, g, hp, ha, hl, hg⟩ := _root_.id fx
    refine ⟨_, pss_cons (ps_set (i := 4) nd rfl (Or.inl rfl) (pe_ix ix_list (pe_fld (pv 0) rfl) (pv 1) (fun _ _ => rfl)))
      (pss_cons (ps_set (i := 5) nd rfl (Or.inl rfl) pe_int)
      (pss_cons (ps_set (i := 6) nd rfl (Or.inl rfl) (pv 3))
      (pss_cons (ps_set (i := 7) nd rfl (Or.inl rfl) (pe_meth (pv 0) T.cl mW GW hr bW .nil pass0 (pa_cons (pv 1) (pa_cons (pv 2) (pa_cons (pe_ix ix_str (pv 4) (pv 5) (fun _ _ => rfl)) pa_nil)))))
      (pss_cons (ps_while PassesOwn.never (pt_cmpR op_ge (pv 6) (pv 7) (nomark _))
        (pss_cons (ps_aug (i := 6) nd rfl (Or.inl rfl) (pv 7) iop_sub)
        (pss_cons (ps_aug (i := 5) nd rfl (Or.inl rfl) pe_int iop_add)
        (pss_one (ps_set (i := 7) nd rfl (Or.inl rfl) (pe_meth (pv 0) T.cl mW GW hr bW .nil pass0 (pa_cons (pv 1) (pa_cons (pv 2) (pa_cons (pe_ix ix_str (pv 4) (pv 5) (fun _ _ => rfl)) pa_nil)))))))))
      (pss_one (ps_ret (pe_tup (pa_cons (pe_ix ix_str (pv 4) (pv 5) (fun _ _ => rfl)) (pa_cons (pv 6) pa_nil))))))))), ?_⟩
    have na := ok.na
    have a26 : a.length ≤ 26 := ok.a26 a (List.mem_of_getElem? hk)
    have ab : a.length ≤ d.b := wide_le (List.mem_of_getElem? hk)
    have hxa : (d.al.map fun t => V.str (tx t))[k]? = some (.str (tx a)) := by rw [List.getElem?_map, hk]; rfl
    have ix : ∀ {i c : Nat}, a[i]? = some c → atI (tx a).cps.toList ((i : Nat) : Int) = some c := fun {i c} h => atI_nat (by simpa using h)
    have al1 : (tx a).length ≤ sizeLine := by rw [tx_len]; omega
    refine ⟨_, rfl, p, C, dx, _, _, rfl, hp, T.cl, T.nA, wf_al al l g m d.ct, _, rfl, al, _, _, _, rfl, rfl, SqL.of ha, atI_nat hxa, ?_⟩
    have call : ∀ {i c : Nat} {H1 : Hp}, a[i]? = some c → But m H H1 → MemOk P w H1 m d (n + i * cap d.b r) → ∃ dx1 fs1, H1 p = some (.ins C dx1 fs1) ∧ List.lookup ("many_with" : Str) fs1 = none ∧ ∀ R : V → Hp → Prop, (∀ H2, But m H H2 → MemOk P w H2 m d (n + (i + 1) * cap d.b r) → R (.int (fW d k us c)) H2) →
        spManyA P w C [.ref p, .int (k : Int), .ref u, .str (one c)] H1 R E0 := by
      intro i c H1 hi b1 me1
      have fx1 := fx.but me b1
      have hu1 := hu.but me b1
      obtain ⟨dx1, al1', l1, g1, hp1, _⟩ := _root_.id fx1
      have hlt := (List.getElem?_eq_some_iff.mp hi).1
      have room : i * cap d.b r + cap d.b r ≤ d.b * cap d.b r := by
        have : (i + 1) * cap d.b r ≤ d.b * cap d.b r := Nat.mul_le_mul_right _ (by omega)
        rw [Nat.succ_mul] at this
        omega
      refine ⟨dx1, _, hp1, wf_no al1' l1 g1 m d.ct (by decide +kernel), fun R fin => ?_⟩
      refine ⟨r, by omega, p, m, u, d, us, c, k, n + i * cap d.b r, rfl, ok, fx1, me1, hu1, ul, kr, by omega, fun H2 b2 me2 => fin H2 (b1.trans b2) ?_⟩
      have e' : n + (i + 1) * cap d.b r = n + i * cap d.b r + cap d.b r := by rw [Nat.succ_mul]; omega
      rw [e']
      exact me2
    have a0 : ∃ c, a[0]? = some c := by
      cases a with
      | nil =>
        have : num < 0 := by simpa using num1
        omega
      | cons c a => exact ⟨c, rfl⟩
    obtain ⟨c0, hc0⟩ := a0
    obtain ⟨dx1, fs1, e1, e2, e3⟩ := call (i := 0) hc0 (But.of (Same.refl H)) (by rw [Nat.zero_mul, Nat.add_zero]; exact me)
    refine ⟨_, rfl, _, rfl, p, dx1, fs1, rfl, e1, e2, _, rfl, _, rfl, _, rfl, _, rfl, tx a, _, c0, rfl, rfl, al1, ix hc0, ?_⟩
    refine e3 _ fun H1 b1 me1 => ?_
    refine ⟨fun mm σ H' => ∃ (i : Nat) (rest : Int) (c : Nat), σ = [some (.ref p), some (.int (k : Int)), some (.ref u), some (.int num), some (.str (tx a)), some (.int ((i : Nat) : Int)), some (.int rest), some (.int (fW d k us c))] ∧ a[i]? = some c ∧ pickL (fW d k us) a num = pickL (fW d k us) (a.drop i) rest ∧ 0 ≤ rest ∧ rest < ((a.drop i).map (fW d k us)).sum ∧ But m H H' ∧ MemOk P w H' m d (n + (i + 1) * cap d.b r) ∧ mm = a.length - i,
      ⟨_, 0, num, c0, rfl, hc0, rfl, num0, num1, b1, me1, rfl⟩, ?_⟩
    rintro mm σ H2 ⟨i, rest, c, rfl, hc, ep, r0, r1, b2, me2, rfl⟩
    have hlt := (List.getElem?_eq_some_iff.mp hc).1
    obtain ⟨c', hc2, ed⟩ := drop_nth (l := a) (k := i) hlt
    obtain rfl : c' = c := Option.some.inj (hc2.symm.trans hc)
    rw [ed] at ep r1
    have r1 : rest < fW d k us c' + ((a.drop (i + 1)).map (fW d k us)).sum := by simpa using r1
    refine ⟨_, rfl, _, rfl, _, _, rfl, rfl, _, rfl, ite2 (fun h => ?_) (fun h => ?_)⟩
    · have h : fW d k us c' ≤ rest := of_decide_eq_true h
      refine ⟨_, fun _ _ z => z, ?_⟩
      have hi1 : i + 1 < a.length := by
        by_cases z : i + 1 < a.length
        · exact z
        · rw [List.drop_of_length_le (by omega)] at r1
          have : rest < fW d k us c' := by simpa using r1
          omega
      have hc3 : a[i + 1]? = some a[i + 1] := List.getElem?_eq_getElem hi1
      refine ⟨_, rfl, _, rfl, _, _, rfl, rfl, _, rfl, _, _, rfl, rfl, ?_⟩
      obtain ⟨dx1, fs1, e1, e2, e3⟩ := call (i := i + 1) hc3 b2 me2
      refine ⟨_, rfl, p, dx1, fs1, rfl, e1, e2, _, rfl, _, rfl, _, rfl, _, rfl, tx a, _, _, rfl, rfl, al1, ix hc3, ?_⟩
      refine e3 _ fun H3 b3 me3 => ?_
      refine ⟨a.length - (i + 1), by omega, i + 1, rest - fW d k us c', a[i + 1], rfl, hc3, ?_, by omega, by omega, b3, me3, rfl⟩
      rw [ep, pickL, if_neg (by omega)]
    · have h : ¬ fW d k us c' ≤ rest := fun z => h (decide_eq_true z)
      refine ⟨_, rfl, _, rfl, tx a, _, c', rfl, rfl, al1, ix hc, _, rfl, by show 2 ≤ sizeLine; omega, fun T zT => ?_⟩
      have sT := same_upd (o := .tup [.str (one c'), .int rest]) zT
      have lim : (i + 1) * cap d.b r ≤ d.b * cap d.b r := Nat.mul_le_mul_right _ (by omega)
      refine q _ T c' rest (b2.trans (But.of sT)) ((me2.same sT).mono (by omega)) ?_ r0 (by omega) upd_same
      rw [ep, pickL, if_pos (by omega)]
abbrev nNt : List Str := ["self", "number", "word", "used", "rest", "letter"]
theorem scNt : FnScope nNt ["self", "number"] (defScope sNth) := ⟨rfl, rfl, rfl, by decide +kernel, rfl, by decide +kernel, by decide +kernel⟩
theorem ok_nth {f fN fL fU C : Addr} {fd fdN fdL fdU : FuncData} (F : Fun K "nth" "Words.nth" sNth f fd) (T : TxN K mg C) (mN : Meth K C "none_used" fN) (GN : FnOk P w K mg base CX0 1 fN fdN ["self"] (spNone C)) (bN : Binds K fdN ["self"] [])
    (mL : Meth K C "letter_at" fL) (GL : FnOk P w K mg base CX0 21 fL fdL ["self", "place", "used", "number"] (spLetAt P w C)) (bL : Binds K fdL ["self", "place", "used", "number"] [])
    (mU : Meth K C "used_with" fU) (GU : FnOk P w K mg base CX0 1 fU fdU ["self", "used", "letter"] (spUsed C)) (bU : Binds K fdU ["self", "used", "letter"] []) : FnOk P w K mg base CX0 22 f fd ["self", "number"] (spNth P w C) := by
  refine F.ok scNt (fun vs H Q E h => ?_) (fun cdv A outer s H vs Q E hr h => ?_)
  · obtain ⟨p, m, d, n, num, rfl, _⟩ := h
    rfl
  · obtain ⟨p, m, d, n, num, rfl, ok, fx, me, cp, num0, num1, q⟩ := h
    have nd := scNt.nd
    have hline : sizeLine = 16777216 := sizeLine_eq
    have hr1 : Room 1 _ := hr.mono (by decide)
    obtain ⟨dx, al, l, g, hp, ha, hl, hg⟩ := _root_.id fx
    refine ⟨_, pss_cons (ps_set (i := 2) nd rfl (Or.inl rfl) pe_str)
      (pss_cons (ps_set (i := 3) nd rfl (Or.inl rfl) (pe_meth0 (pv 0) T.cl mN GN hr1 bN .nil pass0))
      (pss_cons (ps_set (i := 4) nd rfl (Or.inl rfl) (pv 1))
      (pss_cons (ps_while PassesOwn.never (pt_cmpR op_lt (pe_callB call_len_str (by rfl) T.len PySem.boot_len (pa_cons (pv 2) pa_nil)) (pe_callB call_len_seq (by rfl) T.len PySem.boot_len (pa_cons (pe_fld (pv 0) rfl) pa_nil)) (nomark _))
        (pss_cons (ps_asg (pe_meth (pv 0) T.cl mL GL hr bL .nil pass0 (pa_cons (pe_callB call_len_str (by rfl) T.len PySem.boot_len (pa_cons (pv 2) pa_nil)) (pa_cons (pv 3) (pa_cons (pv 4) pa_nil)))) (pg_tup (by rfl) (pgs_cons (pg_name (i := 5) nd rfl (Or.inl rfl)) (pgs_cons (pg_name (i := 4) nd rfl (Or.inl rfl)) pgs_nil))))
        (pss_cons (ps_set (i := 3) nd rfl (Or.inl rfl) (pe_meth (pv 0) T.cl mU GU hr1 bU .nil pass0 (pa_cons (pv 3) (pa_cons (pv 5) pa_nil))))
        (pss_one (ps_aug (i := 2) nd rfl (Or.inl rfl) (pv 5) iop_add_str)))))
      (pss_one (ps_ret (pv 2)))))), ?_⟩
    have na := ok.na
    have e0 : (Str.ofString "") = tx [] := by decide +kernel
    refine ⟨_, rfl, p, dx, _, rfl, hp, wf_no al l g m d.ct (by decide +kernel), ?_⟩
    refine ⟨p, m, d, rfl, ok, fx, fun H1 t0 s1 nt0 ht0 => ?_⟩
    refine ⟨_, rfl, ?_⟩
    refine ⟨fun mm σ H' => ∃ (u : Addr) (us : List Int) (sw : List Nat) (rest : Int) (v5 : Option V) (k : Nat), σ = [some (.ref p), some (.int num), some (.str (tx sw)), some (.ref u), some (.int rest), v5] ∧ sw.length ≤ d.al.length ∧ But m H H' ∧ MemOk P w H' m d k ∧ k + cap d.b (d.al.length - sw.length) ≤ sizeLine ∧ UsAt H' u us ∧ us.length = d.ct.length ∧
      0 ≤ rest ∧ rest < wayF d.ct d.le d.gr (d.al.drop sw.length) us ∧ sw ++ nthP d.ct d.le d.gr (d.al.drop sw.length) us rest = nthP d.ct d.le d.gr d.al (List.replicate d.ct.length 0) num ∧ mm = d.al.length - sw.length,
      ⟨_, t0, _, [], num, none, n, by rw [← e0]; rfl, Nat.zero_le _, But.of s1, me.same s1, cp, ht0, List.length_replicate .., num0, num1, rfl, rfl⟩, ?_⟩
    rintro mm σ H2 ⟨u, us, sw, rest, v5, k, rfl, hsw, b2, me2, cp2, hu2, ul, r0, r1, ew, rfl⟩
    have fx2 := fx.but me b2
    obtain ⟨dx2, al2, l2, g2, hp2, ha2, hl2, hg2⟩ := _root_.id fx2
    have lsw : (tx sw).length ≤ sizeLine := by rw [tx_len]; omega
    refine ⟨_, rfl, _, rfl, lsw, _, rfl, p, C, dx2, _, _, rfl, hp2, T.cl, T.nA, wf_al al2 l2 g2 m d.ct, al2, _, rfl, .inl (SqL.of ha2), _, _, rfl, rfl, _, rfl, ?_⟩
    rw [List.length_map, tx_len]
    refine ite2 (fun h => ?_) (fun h => ?_)
    · have h := of_decide_eq_true h
      have hlt : sw.length < d.al.length := by omega
      refine ⟨_, fun _ _ z => z, ?_⟩
      obtain ⟨a, hal, eal⟩ := drop_nth (l := d.al) (k := sw.length) hlt
      obtain ⟨r, hrr⟩ : ∃ r, d.al.length = sw.length + 1 + r := ⟨d.al.length - (sw.length + 1), by omega⟩
      have er : d.al.length - sw.length = r + 1 := by omega
      rw [er] at cp2
      have cst := cap_step d.b r
      rw [eal] at r1 ew
      have r2 := r1
      rw [way_all (way_cap r0 r1)] at r2
      refine ⟨_, rfl, p, dx2, _, rfl, hp2, wf_no al2 l2 g2 m d.ct (by decide +kernel), _, rfl, _, rfl, lsw, _, rfl, _, rfl, ?_⟩
      rw [tx_len]
      refine ⟨p, m, u, d, us, sw.length, k, r, rest, a, rfl, ok, fx2, me2, hu2, ul, by omega, hal, by omega, r0, r2, fun H3 T1 c r' b3 me3 epk r0' r1' eT => ?_⟩
      refine ⟨T1, _, rfl, SqT.of eT, rfl, _, _, rfl, _, _, rfl, rfl, ?_⟩
      have fx3 := fx2.but me2 b3
      have hu3 := hu2.but me2 b3
      obtain ⟨dx3, al3, l3, g3, hp3, _⟩ := _root_.id fx3
      refine ⟨_, rfl, p, dx3, _, rfl, hp3, wf_no al3 l3 g3 m d.ct (by decide +kernel), _, rfl, _, rfl, ?_⟩
      refine ⟨p, m, u, d, us, c, rfl, ok, fx3, hu3, ul, fun H4 t4 s4 e4 => ?_⟩
      refine ⟨_, rfl, _, rfl, tx sw, one c, rfl, rfl, ?_, ?_⟩
      · rw [tx_len]
        show sw.length + 1 ≤ sizeLine
        omega
      have es : tx sw ++ one c = tx (sw ++ [c]) := by
        rw [tx_app]
      have ls : (sw ++ [c]).length = sw.length + 1 := by rw [List.length_append]; rfl
      obtain ⟨h5, h6⟩ := with_way r0' r1'
      refine ⟨d.al.length - (sw.length + 1), by omega, t4, bumpC d.ct us c, sw ++ [c], r', _, k + d.b * cap d.b r, by rw [← es]; rfl, by rw [ls]; omega, (b2.trans b3).trans (But.of s4), me3.same s4, by rw [ls, show d.al.length - (sw.length + 1) = r by omega]; omega, e4, bumpC_len ul, r0', ?_, ?_, by rw [ls]⟩
      · rw [ls]
        exact h5
      · rw [← ew, ls, List.append_assoc]
        congr 1
        show c :: _ = nthP d.ct d.le d.gr (a :: d.al.drop (sw.length + 1)) us rest
        rw [nthP, epk]
        rfl
    · have h : ¬ ((sw.length : Nat) : Int) < (d.al.length : Nat) := fun z => h (decide_eq_true z)
      have e : sw.length = d.al.length := by omega
      rw [e, List.drop_length] at ew
      have : nthP d.ct d.le d.gr [] us rest = [] := rfl
      rw [this, List.append_nil] at ew
      rw [← ew] at q
      exact ⟨_, rfl, q _ b2⟩
end
end Gm

/-! several except clauses, each with a name -/
namespace L2
open PySem PySem.Spec PyProof.Rows
abbrev Clause := Value × Nat × (Addr → Value → Option Addr → TS)
/-- ends behind a suite: the clause's name is gone -/
def endsGone (D : Ends) (i : Nat) : Ends := { nx := fun σ H => D.nx (σ.set i none) H, rt := D.rt, bk := fun σ H => D.bk (σ.set i none) H, ct := fun σ H => D.ct (σ.set i none) H }
def wNamed (K : PySem.W.Frag) (Wo : WX) (D : Ends) : List Clause → WX
  | [] => Wo
  | k :: r => fun cl d σ H => ∃ b, PySem.W.exmOne K cl k.1 = some b ∧ (b = true → ∀ a, H a = none → k.2.2 a cl d (endsGone D k.2.1) (σ.set k.2.1 (some (.ref a))) H) ∧ (b = false → wNamed K Wo D r cl d σ H)
def wLen (n : Nat) (W : WX) : WX := fun cl d σ H => σ.length = n → W cl d σ H
structure ClauseOk (X : Cx) (x n : Str) (suite : List Stmt) (k : Clause) : Prop where
  names : Names X x k.1
  at_ : X.N[k.2.1]? = some n
  loc : X.env.kindOf n = some .local
  run : ∀ (a : Addr) (o : Obj) (cl : Value) (d : Option Addr) (pn : List (Addr × Obj)), Zc cl d o → (∃ vs, o.data = .fields vs) → PSs (X.suite a ((a, o) :: pn)) suite (k.2.2 a cl d)
inductive NamedOk (X : Cx) : List ExceptHandler → List Clause → Prop
  | nil : NamedOk X [] []
  | cons {x n : Str} {k : Clause} {b : Stmt} {su : List Stmt} {p1 p2 : Pos} {hd : List ExceptHandler} {l : List Clause} (ok : ClauseOk X x n (b :: su) k) (r : NamedOk X hd l) : NamedOk X (.ExceptHandler (some (.Name x p1)) (some n) (b :: su) p2 :: hd) (k :: l)
section
variable {X : Cx} {hd0 : ExceptHandler} {hds : List ExceptHandler} {l : List Clause} {pos : Pos} {body : List Stmt} {tb : WX → TS} {Wo : WX} {pins : List (Addr × Obj)} {σ : L2.St} {H : Hp} {D : Ends}
/-- try: body, then except C as n: .. clauses, each by a name of its own -/
theorem ps_try_named (st : X.stack = X.env :: X.outer) (fr : X.env.frame = some X.env.locals) (nd : X.N.Nodup) (take : Takes X Wo)
    (run : ∀ (W : WX) (pn : List (Addr × Obj)) (xe : Value → Shared → Prop), Takes (X.tr pn xe) W → PassesOwn (model X.prog X.w) X.A X.env xe → PSs (X.tr pn xe) body (tb W)) (all : NamedOk X (hd0 :: hds) l) :
    PS X (.Try body (hd0 :: hds) [] [] pos) (fun D σ H => tb (wLen X.N.length (wNamed X.K Wo D l)) D σ H) := by
  constructor
  intro pins s σ H D I h
  have okX := I.ok
  have frs_eq : X.A.frames = some (X.env :: X.outer) := okX.frames.trans (congrArg some st)
  apply wpAny_Try_except
  refine wpAny_mono ((run (wLen X.N.length (wNamed X.K Wo D l)) (X.pn ++ pins) (fun e r1 => wpAny (model X.prog X.w) X.A (noteFrame e X.env) (fun _ r2 => wpAny (model X.prog X.w) X.A (setFlight e none) (fun _ r3 => wpAny (model X.prog X.w) X.A (handleBy e X.env (hd0 :: hds)) (SP X pins D) X.xe r3) X.xe r2) X.xe r1) (fun u s' x => ?_) PassesOwn.looking).run [] s σ H D (I.toTry _) h) (fun f s1 e => ?_) (fun _ _ z => z)
  · obtain ⟨a, B, sI, ps', τ, G, cl, d, rfl, J0, nb, up, sk, ga, eo, ag, wish⟩ := x
    have J : Inv X pins τ G sI := J0.ofTry okX
    rw [st] at sk
    show wpAny (model X.prog X.w) X.A (noteFrame (.ref a) X.env) _ _ _
    refine Sky.land Zc.steady frs_eq fr sk fun g3 dn up3 => ?_
    have J3 : Inv X pins τ G { s' with heap := g3 } := J.landed nb dn.1 (up.trans up3) eo ag
    obtain ⟨o3, v3, ho, zo, fo⟩ := dn.there
    have off : a ∉ frs (X.env :: X.outer) := fun m => by
      obtain ⟨_, o', ho', no⟩ := dn.2.2.1.mem m
      exact no _ ((Option.some.inj (ho.symm.trans ho')) ▸ fo)
    have aL : a ≠ X.env.locals := fun z => off (List.mem_filterMap.mpr ⟨X.env, List.mem_cons_self, z ▸ fr⟩)
    have aF : a ∉ X.fs := fun m => by
      obtain ⟨e, i, q⟩ := List.mem_filterMap.mp m
      exact off (List.mem_filterMap.mpr ⟨e, List.mem_cons_of_mem _ i, q⟩)
    have S3 := J3.suite ho fo ga aL aF
    have each : ∀ {hd : List ExceptHandler} {l : List Clause}, NamedOk X hd l → wNamed X.K Wo D l cl d τ G → wpAny (model X.prog X.w) X.A (handleBy (.ref a) X.env hd) (SP X pins D) X.xe { s' with heap := g3 } := by
      intro hd l m
      induction m with
      | nil =>
        intro wish
        apply wpAny_handleBy_nil
        obtain ⟨k1, k2, k3, oe, vs, T, oT, t', e1, e2, e3, e4, e5⟩ := id dn
        unfold PySem.passOn
        refine wpAny_bind (wpAny_field e1 e3 e4 ?_)
        rw [if_neg (show ¬ ((Value.ref T == Value.none) = true) from by simp)]
        have out : wpAny (model X.prog X.w) X.A (setFlight (.ref a) X.env.frame) (fun _ r => wpAny (model X.prog X.w) X.A (throw (.ref a) : Sem Flow) (SP X pins D) X.xe r) X.xe { s' with heap := g3 } := by
          rw [fr]
          exact HandSPX.setFlight_upZ dn fun g4 k4 up4 => wpAny_throw (take _ _ ⟨a, B, sI, pins, τ, G, cl, d, rfl, J, nb, (up.trans up3).trans up4, .inr (.inr (st ▸ k4)), ga, eo, ag, wish⟩)
        first | exact wpAny_bind (wpAny_pure (wpAny_bind out)) | exact wpAny_bind out
      | @cons x n k b su p1 p2 hd2 l2 C m2 ih =>
        intro wish
        obtain ⟨v, isK, yes, no⟩ := wish
        refine wpAny_handleBy_cons (codeAny_handlers_test ?_) nofun
        have tyA : PySem.W.Looks (model X.prog X.w) g3 (typeOf (.ref a)) cl := fun A Q E r k q => wpAny_typeOf_ref (k _ _ ho) (zo.1.symm ▸ q)
        have ans := PySem.W.exm_one (M := model X.prog X.w) (J3.kIn) tyA isK
        have reads : ∀ {Q E : Value → Shared → Prop}, Q k.1 { s' with heap := g3 } → wpAny (model X.prog X.w) (X.A.mark (some (.ref a))) (eval (.Name x p1) X.env) Q E { s' with heap := g3 } := fun {Q E} q => by
          rcases C.names with ⟨n1, n2, n3 | ⟨n3, n4, n5⟩⟩
          · exact ld_glob (X := X.suite a ((a, o3) :: (X.pn ++ pins))) S3 n1 n3 q n2
          · exact ld_blt (X := X.suite a ((a, o3) :: (X.pn ++ pins))) S3 n1 n3 n4 q n5 n2
        refine reads (ans.here ?_)
        cases v with
        | false => exact ih (no rfl)
        | true =>
          apply codeAny_handlers_suite_as
          refine HandSPX.lands_againZ dn fun g4 dn4 up4 => ?_
          have J4 : Inv X pins τ G { s' with heap := g4 } := J.landed nb dn4.1 ((up.trans up3).trans up4) eo ag
          obtain ⟨o4, v4, h4, z4, f4⟩ := dn4.there
          refine store_ok (X := X.suite a ((a, o4) :: (X.pn ++ pins))) (v := .ref a) (J4.suite h4 f4 ga aL aF) nd C.at_ (.inl C.loc) rfl (fun s5 S5 => ?_) (.inr C.loc)
          refine wpAny_mono ((C.run a o4 cl d (X.pn ++ pins) z4 ⟨_, f4⟩).run [] s5 _ G _ S5 (yes rfl a ga)) (fun f s6 e => ?_) (fun _ _ z => z.elim)
          have bye : ∀ {σ6 : L2.St} {H6 : Hp} {Q : Shared → Prop}, Inv (X.suite a ((a, o4) :: (X.pn ++ pins))) [] σ6 H6 s6 → (∀ s7, Inv X pins (σ6.set k.2.1 none) H6 s7 → Q s7) →
              wpAny (model X.prog X.w) X.A (do bindName X.env n .none; unbindBehindTheSuite X.env n p2) (fun _ s7 => Q s7) X.xe s6 := fun S6 q => gone_ok (S6.unsuite okX) nd C.at_ C.loc q
          cases f with
          | ret u =>
            obtain ⟨v6, σ6, H6, S6, r6, q6⟩ := e
            exact bye S6 fun s7 J7 => ⟨_, _, _, J7, r6, q6⟩
          | _ =>
            obtain ⟨σ6, H6, S6, q6⟩ := e
            exact bye S6 fun s7 J7 => ⟨_, _, J7, q6⟩
    exact each all (wish J.len)
  · cases f with
    | next =>
      obtain ⟨τ, G, J, q⟩ := e
      exact wpAny_execs_nil ⟨τ, G, J.ofTry okX, q⟩
    | ret u =>
      obtain ⟨v, τ, G, J, r, q⟩ := e
      exact ⟨v, τ, G, J.ofTry okX, r, q⟩
    | _ =>
      obtain ⟨τ, G, J, q⟩ := e
      exact ⟨τ, G, J.ofTry okX, q⟩
end
end L2

/-! error classes of the program that keep their argument: made, raised, caught, asked for their class -/
namespace L2
open PySem PySem.Spec PyProof.Rows
/-- what stands of an error class C with the field f; its __init__ at fI -/
structure ErrC (K : PySem.W.Frag) (mg : Str → Option Value) (x f : Str) (C fI : Addr) : Prop where
  gC : mg x = some (.ref C)
  ox : OexC K C
  no : PySem.W.findIn K (.ref C) f = some none
  iC : PySem.W.findIn K (.ref C) "__init__" = some (some (.ref fI))
  tI : PySem.W.typeIn K (.ref fI) = some (.type "function")
  ga : PySem.W.findIn K (.ref C) "__getattribute__" = some (some (.builtin "BaseException.__getattribute__"))
  gg : PySem.W.findIn K (.ref C) "__getattr__" = some none
  hd : PySem.W.hasDictIn K C = true
  ac : PySem.W.findIn K (.ref C) "__class__" = some (some (.builtin "object.__class__"))
  gt : PySem.W.specialIn K (.builtin "object.__class__") "__get__" = some (some (.builtin "getset_descriptor.__get__"))
  tk : PySem.W.takesIn K (.builtin "object.__class__") = some true
  ob : PySem.W.mroIn K C (.type "object") = some true
theorem ErrC.xf {K : PySem.W.Frag} {mg : Str → Option Value} {x f : Str} {C fI : Addr} (T : ErrC K mg x f C fI) : XfC K C := ⟨T.ga, T.gg, T.ox.exC, T.hd⟩
theorem ErrC.cl {K : PySem.W.Frag} {mg : Str → Option Value} {x f : Str} {C fI : Addr} (T : ErrC K mg x f C fI) : (PySem.W.clsIn K C).isSome = true := by
  obtain ⟨cd, hc, _⟩ := PySem.W.any_some T.hd
  rw [hc]
  rfl
def spErr (C : Addr) (f : Str) : Sp := fun vs H Q _ => ∃ (a : Addr) (v : V), vs = [.ref a, v] ∧ H a = some (exo a C none) ∧ ∀ dx, H dx = none → dx ≠ a → Q .non (upd (upd H dx (exd dx [(f, v)])) a (exo a C (some dx)))
theorem ok_err {P : Program} {w : World} {K : PySem.W.Frag} {mg : Str → Option Value} {base : Heap} {qual f x par : Str} {st : Stmt} {fI C : Addr} {fd : FuncData} {p1 p2 p3 p4 : Pos} (F : Fun K "__init__" qual st fI fd) (T : ErrC K mg x f C fI)
    (hB : defBody st = [.Assign [.Attribute (.Name "self" p1) f p2] (.Name par p3) p4]) (S : FnScope ["self", par] ["self", par] (defScope st)) (v0 : Vis (defScope st) "self") (v1 : Vis (defScope st) par)
    (d0 : (par == ("__debug__" : Str)) = false := by decide) (d1 : (par == ("__classdict__" : Str)) = false := by decide) : FnOk P w K mg base CX0 1 fI fd ["self", par] (spErr C f) := by
  refine F.ok S (fun vs H Q E h => ?_) (fun cdv A outer s H vs Q E hr h => ?_)
  · obtain ⟨a, v, rfl, _⟩ := h
    rfl
  · obtain ⟨a, v, rfl, e, q⟩ := h
    rw [hB]
    refine ⟨_, pss_one (ps_ost (pe_var (i := 0) rfl v0 (by decide) (by decide)) (pe_var (i := 1) rfl v1 d0 d1)), ?_⟩
    exact ⟨_, rfl, _, rfl, a, C, rfl, T.ox, T.no, .inl ⟨e, fun dx n ne => q dx n ne⟩⟩
theorem mkErr {C : Addr} {f : Str} {v : V} {H1 : Hp} {Q : XK} (h : ∀ H' d, Same H1 H' → H1 d = none → H' d = some (.xd [(f, v)]) → Q (.ref C) (some d) H') :
    [v].length ≤ 1000 ∧ ∀ a, H1 a = none → spErr C f (.ref a :: ([v] ++ [])) (upd H1 a (exo a C none))
      (fun u H2 => u = .non ∧ ∃ (d : Addr) (fs : List (Str × V)), H2 a = some (exo a C (some d)) ∧ H2 d = some (exd d fs) ∧ H1 d = none ∧ Q (.ref C) (some d) (upd (del H2 a) d (.xd fs))) (fun _ _ _ => False) := by
  refine ⟨(by decide : 1 ≤ 1000), fun a na => ⟨a, v, rfl, upd_same, fun dx nd ne => ⟨rfl, dx, [(f, v)], upd_same, (upd_ne ne).trans upd_same, ?_, ?_⟩⟩⟩
  · rwa [upd_ne ne] at nd
  · rw [upd_ne ne] at nd
    refine h _ dx (fun b o e => ?_) nd upd_same
    have n1 : b ≠ a := ne_of_none e na
    have n2 : b ≠ dx := ne_of_none e nd
    rw [upd_ne n2, del_ne n1, upd_ne n1, upd_ne n2, upd_ne n1]
    exact e
/-- isinstance(e, c) of the caught error with its dict -/
def rIsX (K : PySem.W.Frag) (D a : Addr) (cls : Value) (d : Option Addr) : List V → Hp → VK → Prop := fun xs H Q =>
  ∃ (c : V) (cv : Value) (b : Bool) (dd : Addr) (fs : List (Str × V)), xs = [.ref a, c] ∧ ClsV c cv ∧ cls = .ref D ∧ d = some dd ∧ H dd = some (.xd fs) ∧ PySem.W.kitOne K (.ref D) cv = some b ∧ Q (.bl b) H
theorem call_isX {X : Cx} {a D fI : Addr} {x f : Str} {oe : Obj} {cls : Value} {d : Option Addr} {pn : List (Addr × Obj)} (T : ErrC X.K X.mg x f D fI) (hz : Zc cls d oe) (hf : ∃ vs, oe.data = .fields vs) :
    CallR (X.suite a ((a, oe) :: pn)) (.builtin "isinstance") (rIsX X.K D a cls d) := by
  intro pins s σ H xs us Q I r h
  obtain ⟨c, cv, b, dd, fs, rfl, k, rfl, rfl, hd, e, q⟩ := h
  cases r with
  | cons rx rr =>
    cases rr with
    | cons rt rr =>
      cases rr
      cases rx
      have ec := k.eq rt
      subst ec
      obtain ⟨hget, _⟩ := I.pin (a, oe) (List.mem_append_left _ List.mem_cons_self)
      obtain ⟨vs, hv⟩ := hf
      have hx : ObjOk X.prog X.w H s.heap dd (.xd fs) := I.hok dd _ hd
      obtain ⟨mA, hns, _⟩ := hx
      obtain ⟨od, ho, _⟩ := lookIn_ns hns
      have J : PySem.W.InstAt s.heap a oe D (some od) := ⟨hget, hz.1, by unfold PySem.W.notCls; rw [hv] <;> rfl, by rw [hz.2]; exact ho⟩
      exact PySem.W.kia_one (PySem.W.kitx_exc T.cl T.ga T.gg T.ox.exC T.ac T.gt T.tk T.ob) I.kIn J e (fun z => nomatch z) fun tk => ⟨.bl b, H, I.kept (t' := tk) fun _ _ z => z, rfl, q⟩
theorem TyX.same {K : PySem.W.Frag} {H H' : Hp} {v : V} {t : Value} (ty : TyX K H v t) (s : Same H H') : TyX K H' v t := by
  cases ty with
  | base b =>
    cases b with
    | non => exact .base .non
    | bl y => exact .base (.bl y)
    | int i => exact .base (.int i)
    | str y => exact .base (.str y)
    | flt y => exact .base (.flt y)
    | lst e => exact .base (.lst (s _ _ e))
    | frz e => exact .base (.frz (s _ _ e))
    | tup e => exact .base (.tup (s _ _ e))
    | dK e => exact .base (.dK (s _ _ e))
    | dT e => exact .base (.dT (s _ _ e))
    | ins e cl ha hn htk hm => exact .base (.ins (s _ _ e) cl ha hn htk hm)
  | byt b => exact .byt b
  | set e => exact .set (s _ _ e)
  | kList e c => exact .kList e c
  | kTuple e c => exact .kTuple e c
  | kDict e c => exact .kDict e c
  | fTuple e => exact .fTuple (s _ _ e)
  | fDict e => exact .fDict (s _ _ e)
end L2

/-! error classes over any built-in error: made, raised, caught, asked for their class (X0 has those over ValueError) -/
namespace PySem.HandSPX
open PySem PySem.W PySem.Calls PyProof.Rows Builtin Builtin.ObjectAttr
theorem passAE (self : Value) : refuseLoop self "__setattr__" [.type "ArithmeticError", .type "Exception", .type "BaseException", .type "object"] = pure () := by kernel_rfl
theorem passLE (self : Value) : refuseLoop self "__setattr__" [.type "LookupError", .type "Exception", .type "BaseException", .type "object"] = pure () := by kernel_rfl
section
variable {prog : Program} {w : World} {A : Around} {R : Result → Shared → Prop} {hp : Heap} {g : Array GenState} {dr : Drawn} {tk0 : Nat} {os : OsState}
/-- the first attribute of an error, whatever built-in error its class is over -/
theorem gm_store {K : W.Frag} {nm : Str} {tk : Tok} {v : Value} {x C : Addr} {fv : Array Value} {cd : ClassData} (X : K.In hp) (hx : hp.get? x = some { cls := .ref C, data := .fields fv }) (hcd : W.clsIn K C = some cd)
    (full : cd.mro.isEmpty = false) (hob : cd.mro.contains (.type "object") = true) (pass : refuseLoop (.ref x) "__setattr__" cd.mro = pure ()) (hh : cd.hasDict = true) (ha : W.findIn K (.ref C) nm = some none)
    (done : ∀ h1 tk1 dx, (∀ b o, b ≠ x → hp.get? b = some o → h1.get? b = some o) → hp.objs.size ≤ dx → dx ≠ x → h1.get? x = some { cls := .ref C, dict := some dx, data := .fields fv } → h1.Ns1 dx (fun y => if y = nm then some v else none) → R (.ok (.ret .none)) ⟨h1, g, dr, tk1, os⟩) :
    codeAny (model prog w) A (.call (.builtin "object.__setattr__") ⟨[.ref x, .str nm tk, v], []⟩) R ⟨hp, g, dr, tk0, os⟩ := by
  have J : W.InstAt hp x { cls := .ref C, data := .fields fv } C none := ⟨hx, rfl, rfl, trivial⟩
  have S := F.store_object
  have off : x ≠ hp.objs.size := Nat.ne_of_lt (Heap.lt_size hx)
  have mroO : W.mroIn K C (.type "object") = some true := by
    unfold W.mroIn
    rw [hcd, Option.bind_some, if_neg (by rw [full]; decide), hob]
  have isO : W.Looks (model prog w) hp (isInstance (.ref x) (.type "object")) true := J.type.andThen (W.looks_mroIn X mroO)
  refine codeAny_call_builtin S.slot.plain S.entry (@W.check_slot (model prog w) _ _ ⟨hp, g, dr, tk0, os⟩ "object.__setattr__" "object" "__setattr__" (.ref x) [.str nm tk, v] [] _ S.kind S.split isO (S.args (.ref x) (.str nm tk) v) ?_)
  have look : W.Looks (model prog w) hp (classData C) cd := W.looks_clsIn X hcd
  have order : W.Looks (model prog w) hp (mroOf (.ref C)) cd.mro := look.andThen .now
  have none3 : W.Looks (model prog w) hp (storeTaker? none) none := .now
  rw [W.osa_eq, refuse_eq]
  refine wpAny_bind <| wpAny_bind <| J.type.at <| wpAny_bind <| order.at ?_
  rw [pass]
  refine wpAny_pure <| wpAny_bind <| J.type.at <| wpAny_bind <| (W.looks_findIn X ha).at <| wpAny_bind <| none3.at ?_
  show wpAny _ _ (storeInOwnDict (.ref x) (.ref C) (.str nm tk) nm v false) _ _ _
  obtain ⟨c1, c2, c3, c4, c5, c6, c7, c8, c9, c10, c11⟩ := cd
  dsimp only at hh
  subst hh
  unfold storeInOwnDict ownDictForStores
  repeat (first | (with_reducible refine store_in_new ?_ ?_) | (with_reducible refine wpAny_loadPart_at hx ?_) | (with_reducible refine look.at ?_) | wp_step)
  · exact ⟨_, #[], _, (Heap.get?_update_ne _ _ _ _ off.symm).trans (Heap.get?_push_at rfl rfl), rfl, (fun e he => absurd he (by simp)), fun _ => rfl⟩
  intro h1 tk1 hn1 same
  have hx1 : (hp.push { cls := .type "dict", data := .dict #[] }).get? x = some { cls := .ref C, data := .fields fv } := Heap.get?_push_of_some _ hx
  refine done h1 tk1 hp.objs.size (fun b o nb e => ?_) (Nat.le_refl _) off.symm ?_ hn1
  · exact (same.2 b (Nat.ne_of_lt (Heap.lt_size e))).trans ((Heap.get?_update_ne _ _ _ _ nb).trans (Heap.get?_push_of_some _ e))
  · exact (same.2 x off).trans (Heap.get?_update_self _ hx1 rfl)
end
end PySem.HandSPX
namespace L2
open PySem PySem.Spec PyProof.Rows
/-- what the written part says of an error class over some built-in error -/
structure OexB (K : PySem.W.Frag) (C : Addr) : Prop where
  cls : ∃ (nm q : Str) (N : Addr) (bs bm sub bmB : List Value) (sn : List Str) (ab : Bool) (col : Option Bool) (dd : Option Addr) (k0 k1 k2 k3 k5 : Option Value) (B newId initId : String),
    K.lookup C = some (excClassObj nm q C N bs bm true sn sub ab col dd k0 k1 k2 k3 k5 newId) ∧ ExcBaseFacts B newId initId bmB ∧ (∀ Y : String, bm.contains (.type Y) = bmB.contains (.type Y)) ∧ (∀ self : Value, refuseLoop self "__setattr__" bm = pure ()) ∧ bmB.contains (.type "object") = true
  sa : PySem.W.findIn K (.ref C) "__setattr__" = some (some (.builtin "object.__setattr__"))
  exC : PySem.W.subIn K (.ref C) (.type "BaseException") = some true
  tyC : PySem.W.typeIn K (.ref C) = some (.type "type")
  kC : PySem.W.keepIn K (.ref C) = true
theorem OexC.toB {K : PySem.W.Frag} {C : Addr} (T : OexC K C) : OexB K C := by
  obtain ⟨nm, q, N, bs, bm, sn, sub, ab, col, dd, k0, k1, k2, k3, k5, hC, hbm⟩ := T.cls
  exact ⟨⟨nm, q, N, bs, bm, sub, _, sn, ab, col, dd, k0, k1, k2, k3, k5, _, _, _, hC, PySem.F.excBase_ValueError, fun Y => PySem.HandSPX.refsVE_contains Y bm hbm, fun self => PySem.HandSPX.refsVE_pass self bm hbm, by decide +kernel⟩, T.sa, T.exC, T.tyC, T.kC⟩
section
variable {X : Cx} {pins : List (Addr × Obj)} {σ : St} {H : Hp} {s : Shared} {a C : Addr} {f : Str} {y : V} {u : Value} {Q : Unit → Shared → Prop} {E : Value → Shared → Prop} {A : Around}
theorem gm_first (T : OexB X.K C) (I : Inv X pins σ H s) (e : H a = some (exo a C none)) (hno : PySem.W.findIn X.K (.ref C) f = some none) (ry : RelV y u)
    (h : ∀ dx s', H dx = none → dx ≠ a → Inv X pins σ (upd (upd H dx (exd dx [(f, y)])) a (exo a C (some dx))) s' → Q () s') : wpAny (model X.prog X.w) A (setAttr (.ref a) f u) Q E s := by
  obtain ⟨nm, q, N, bs, bm, sub, bmB, sn, ab, col, dd, k0, k1, k2, k3, k5, B, n1, n2, hC, FB, has, pass, ob⟩ := T.cls
  have hcl : PySem.W.clsIn X.K C = some { name := nm, bases := bs, mro := .ref C :: bm, ns := N, qualname := q, hasDict := true, slotNames := sn, subclasses := sub, abstract := ab, collection := col, hasDel := false } := by
    unfold PySem.W.clsIn
    rw [hC] <;> rfl
  obtain ⟨t1, ho⟩ := exo_at I.hok e
  obtain ⟨hp, g, d, t, os⟩ := s
  refine PySem.W.set_plain I.kIn (od := none) (ox := { cls := .ref C, dict := none, data := .fields #[.ref t1, .none, .none, .none, .bool false, .none] }) ⟨ho, rfl, rfl, trivial⟩ T.sa ?_
  refine PySem.HandSPX.gm_store I.kIn ho hcl rfl (show (Value.ref C :: bm).contains (.type "object") = true from by rw [List.contains_cons, has, ob, Bool.or_true]) ((PySem.refuseLoop_ref _ _ C bm).trans (pass _)) rfl hno fun h' tk' dx k dn dne hx hn => ?_
  have hnd : H dx = none := I.hok.fresh dn
  have nd : ∀ {b : Addr} {o : Obj}, hp.get? b = some o → b ≠ dx := fun {b o} z => Nat.ne_of_lt (Nat.lt_of_lt_of_le (Heap.lt_size z) dn)
  have na : ∀ {b : Addr}, H b = none → b ≠ a := fun {b} n z => by
    rw [z, e] at n
    cases n
  have U : Un X.fs [] H (upd (upd H dx (exd dx [(f, y)])) a (exo a C (some dx))) hp h' := by
    constructor
    · intro b o z n _ _
      exact k b o (na n) z
    · intro b o z n _ _
      exact ⟨o.slots, k b o (na n) z⟩
    · intro b o z n _
      rw [upd_ne (na n), upd_ne (nd z)]
      exact n
    · intro b o z _
      by_cases hb : b = a
      · rw [hb]
        exact ⟨_, hx⟩
      · exact ⟨o, k b o hb z⟩
    · intro b xs z
      rw [upd_ne (at_ne e z exo_tup), upd_ne (ne_of_none z hnd)]
      exact z
    · intro b o v z
      rw [upd_ne (at_ne e z exo_frz), upd_ne (ne_of_none z hnd)]
      exact z
    · intro b ps z
      refine ⟨#[], ?_⟩
      rw [upd_ne (at_ne e z exo_tbl), upd_ne (ne_of_none z hnd), z]
      simp
  refine h dx _ hnd dne (I.un (t' := tk') U fun b o z => ?_)
  by_cases hb : b = a
  · subst hb
    rw [upd_same] at z
    cases z
    exact exo_ok hx
  rw [upd_ne hb] at z
  by_cases hd : b = dx
  · subst hd
    rw [upd_same] at z
    cases z
    exact exd_ok hn (relO_put (fs := []) ry fun _ => True.intro)
  rw [upd_ne hd] at z
  refine (I.hok b o z).stay (fun c v hc y => k c v ?_ y) (fun c hc => ?_) (fun c xs hc => ?_)
  · rcases hc with hc | hc
    · rw [hc]
      exact hb
    · exact at_ne e hc exo_own
  · rw [upd_ne (at_ne e hc exo_own), upd_ne (ne_of_none hc hnd)]
    exact hc
  · rw [upd_ne (at_ne e hc exo_tup), upd_ne (ne_of_none hc hnd)]
    exact hc
end
/-- self.f = e, the first attribute of an error -/
def tOstB (K : PySem.W.Frag) (f : Str) (to te : TE) : TS := fun D σ H => te σ H fun y H1 => to σ H1 fun x H2 => ∃ a C : Addr, x = .ref a ∧ OexB K C ∧ PySem.W.findIn K (.ref C) f = some none ∧
  H2 a = some (exo a C none) ∧ ∀ dx, H2 dx = none → dx ≠ a → D.nx σ (upd (upd H2 dx (exd dx [(f, y)])) a (exo a C (some dx)))
section
variable {X : Cx} {o e : Expr} {es : List Expr} {to te : TE} {ta : TA} {f : Str} {p p' pos : Pos}
theorem ps_ostB (ho : PE X o to) (he : PE X e te) (hs : swapsWith e (some (.Attribute o f p')) pos.line X.env = pure false := by rfl) : PS X (.Assign [.Attribute o f p'] e pos) (tOstB X.K f to te) := by
  constructor
  intro pins s σ H D I h
  refine plainObj_wpAny_Assign_Attribute (thn (he.run pins s σ H _ I h) fun v s1 h1 => ?_) hs
  obtain ⟨y, H1, I1, r1, q1⟩ := h1
  refine thn (ho.run pins s1 σ H1 _ I1 q1) fun u s2 h2 => ?_
  obtain ⟨x, H2, I2, r2, a, C, rfl, T, hno, ea, q⟩ := h2
  obtain rfl : u = Value.ref a := r2
  exact gm_first T I2 ea hno r1 fun dx s' n ne J => ⟨σ, _, J, q dx n ne⟩
theorem pmk_oexB {CX : CXT} {x : Str} {C fI : Addr} {k : Nat} {fd : FuncData} {ps : List Str} {sp : Sp} (T : OexB X.K C) (iC : PySem.W.findIn X.K (.ref C) "__init__" = some (some (.ref fI))) (tI : PySem.W.typeIn X.K (.ref fI) = some (.type "function"))
    (F1 : FnOk X.prog X.w X.K X.mg X.base CX k fI fd ps sp) (hr : Room (k + 1) X.A) (hb : Binds X.K fd ps []) (hx : Passes CX X (fun _ _ _ => False)) (hg : Gl X x) (hm : X.mg x = some (.ref C)) (ha : PA X (e :: es) ta)
    (hdb : (x == ("__debug__" : Str)) = false := by decide) (he : starEach (e :: es) X.env = (false, eval e X.env) :: starEach es X.env := by rfl) (hpl : (backTo pos (starEach es X.env)).any (·.1) = false := by rfl) :
    PMk X (.Call (.Name x p) (e :: es) [] pos) (tMkO C sp [] ta) := by
  intro pins s σ H Q I h
  obtain ⟨nm, q, N, bs, bm, sub, bmB, sn, ab, col, dd, k0, k1, k2, k3, k5, B, n1, n2, hC, FB, has, pass, ob⟩ := T.cls
  refine wpAny_Call_Name_kw (ld_glob I hg hm ?_ hdb)
  refine PySem.W.callWith_K (h₀ := X.base) I.ok.mod.kin T.kC (thn (ha.run pos pins s σ H _ I h) fun us s1 h1 => ?_) he hpl
  obtain ⟨vs, H1, I1, r1, hz, q1⟩ := h1
  refine ⟨I1.kIn, ?_⟩
  show wpAny _ _ (call (.ref C) us) _ _ _
  obtain ⟨hp, g, dr, tk, os⟩ := s1
  obtain ⟨top, etop⟩ : ∃ z, z = hp.objs.size + 1 := ⟨_, rfl⟩
  have hsz : hp.objs.size ≤ top := etop ▸ Nat.le_succ _
  have hq := q1 top (I1.hok.fresh hsz)
  have kk : ∀ b o, hp.get? b = some o → ((hp.push (PySem.W.kdv_tup us)).push (PySem.HandSPX.excO C hp.objs.size)).get? b = some o := fun b o z => Heap.get?_push_of_some _ (Heap.get?_push_of_some _ z)
  have hget : ((hp.push (PySem.W.kdv_tup us)).push (PySem.HandSPX.excO C hp.objs.size)).get? top = some (PySem.HandSPX.excO C hp.objs.size) := by
    rw [etop]
    heap_get
  have I2 : Inv X pins σ (upd H1 top (exo top C none)) ⟨(hp.push (PySem.W.kdv_tup us)).push (PySem.HandSPX.excO C hp.objs.size), g, dr, tk, os⟩ := I1.laid (t' := tk) kk hsz (exo_ok hget)
  have r2 : Vals (V.ref top :: (vs ++ [])) (Value.ref top :: (us ++ [])) := .cons rfl (r1.append .nil)
  have hl : (Value.ref top :: us ++ []).length = ps.length := by
    have z := r2.length
    rw [F1.len _ _ _ _ hq] at z
    exact z.symm
  have hus : us.length ≤ sizeLine := by
    rw [← Paired.length r1, sizeLine_eq]
    omega
  have bound : BindsTo ⟨(hp.push (PySem.W.kdv_tup us)).push (PySem.HandSPX.excO C hp.objs.size), g, dr, tk, os⟩ fd ⟨Value.ref top :: us, []⟩ (ps.zip (Value.ref top :: us ++ [])) := hb _ (Value.ref top :: us) I2.kIn hl
  have run := F1.run _ X.stack _ _ ⟨Value.ref top :: us, []⟩ (Value.ref top :: us ++ []) _ _ (fun _ _ _ => False) (hr.make C us []) (I2.env0.make C us []) bound r2 hq
  subst etop
  refine wpAny_call (PySem.HandSPX.call_own FB has (I1.kIn _ _ hC) (PySem.W.looks_findIn I1.kIn iC) (fun self => PySem.W.bind_fn I1.kIn self tI) hus (codeAny_mono run fun r s' hq' => ?_))
  match r, hq' with
  | .error er, hq' => exact hx pins σ _ _ er s' I2 hq'
  | .ok (.ret u), hq' =>
    obtain ⟨v, H2, os2, bare2, un2, hok2, rv, ev, d, fs, ea, ed, hd1, q2⟩ := hq'
    subst ev
    obtain ⟨h2, g2, d2, t2, os'⟩ := s'
    exact ⟨rv, mk_end (raises_own T.exC T.tyC) I1 hsz kk un2 hok2 os2 bare2 ea ed hd1 q2⟩
end
/-- an error class with one attribute, over any built-in error -/
structure ErrB (K : PySem.W.Frag) (mg : Str → Option Value) (x f : Str) (C fI : Addr) : Prop where
  gC : mg x = some (.ref C)
  ox : OexB K C
  no : PySem.W.findIn K (.ref C) f = some none
  iC : PySem.W.findIn K (.ref C) "__init__" = some (some (.ref fI))
  tI : PySem.W.typeIn K (.ref fI) = some (.type "function")
  ga : PySem.W.findIn K (.ref C) "__getattribute__" = some (some (.builtin "BaseException.__getattribute__"))
  gg : PySem.W.findIn K (.ref C) "__getattr__" = some none
  hd : PySem.W.hasDictIn K C = true
  ac : PySem.W.findIn K (.ref C) "__class__" = some (some (.builtin "object.__class__"))
  gt : PySem.W.specialIn K (.builtin "object.__class__") "__get__" = some (some (.builtin "getset_descriptor.__get__"))
  tk : PySem.W.takesIn K (.builtin "object.__class__") = some true
  ob : PySem.W.mroIn K C (.type "object") = some true
section
variable {K : PySem.W.Frag} {mg : Str → Option Value} {x f : Str} {C fI : Addr}
theorem ErrC.toB (T : ErrC K mg x f C fI) : ErrB K mg x f C fI := ⟨T.gC, T.ox.toB, T.no, T.iC, T.tI, T.ga, T.gg, T.hd, T.ac, T.gt, T.tk, T.ob⟩
theorem ErrB.xf (T : ErrB K mg x f C fI) : XfC K C := ⟨T.ga, T.gg, T.ox.exC, T.hd⟩
theorem ErrB.cl (T : ErrB K mg x f C fI) : (PySem.W.clsIn K C).isSome = true := by
  obtain ⟨cd, hc, _⟩ := PySem.W.any_some T.hd
  rw [hc]
  rfl
end
theorem ok_errB {P : Program} {w : World} {K : PySem.W.Frag} {mg : Str → Option Value} {base : Heap} {qual f x par : Str} {st : Stmt} {fI C : Addr} {fd : FuncData} {p1 p2 p3 p4 : Pos} (F : Fun K "__init__" qual st fI fd) (T : ErrB K mg x f C fI)
    (hB : defBody st = [.Assign [.Attribute (.Name "self" p1) f p2] (.Name par p3) p4]) (S : FnScope ["self", par] ["self", par] (defScope st)) (v0 : Vis (defScope st) "self") (v1 : Vis (defScope st) par)
    (d0 : (par == ("__debug__" : Str)) = false := by decide) (d1 : (par == ("__classdict__" : Str)) = false := by decide) : FnOk P w K mg base CX0 1 fI fd ["self", par] (spErr C f) := by
  refine F.ok S (fun vs H Q E h => ?_) (fun cdv A outer s H vs Q E hr h => ?_)
  · obtain ⟨a, v, rfl, _⟩ := h
    rfl
  · obtain ⟨a, v, rfl, e, q⟩ := h
    rw [hB]
    refine ⟨_, pss_one (ps_ostB (pe_var (i := 0) rfl v0 (by decide) (by decide)) (pe_var (i := 1) rfl v1 d0 d1)), ?_⟩
    exact ⟨_, rfl, _, rfl, a, C, rfl, T.ox, T.no, e, fun dx n ne => q dx n ne⟩
theorem call_isXB {X : Cx} {a D fI : Addr} {x f : Str} {oe : Obj} {cls : Value} {d : Option Addr} {pn : List (Addr × Obj)} (T : ErrB X.K X.mg x f D fI) (hz : Zc cls d oe) (hf : ∃ vs, oe.data = .fields vs) :
    CallR (X.suite a ((a, oe) :: pn)) (.builtin "isinstance") (rIsX X.K D a cls d) := by
  intro pins s σ H xs us Q I r h
  obtain ⟨c, cv, b, dd, fs, rfl, k, rfl, rfl, hd, e, q⟩ := h
  cases r with
  | cons rx rr =>
    cases rr with
    | cons rt rr =>
      cases rr
      cases rx
      have ec := k.eq rt
      subst ec
      obtain ⟨hget, _⟩ := I.pin (a, oe) (List.mem_append_left _ List.mem_cons_self)
      obtain ⟨vs, hv⟩ := hf
      have hx : ObjOk X.prog X.w H s.heap dd (.xd fs) := I.hok dd _ hd
      obtain ⟨mA, hns, _⟩ := hx
      obtain ⟨od, ho, _⟩ := lookIn_ns hns
      have J : PySem.W.InstAt s.heap a oe D (some od) := ⟨hget, hz.1, by unfold PySem.W.notCls; rw [hv] <;> rfl, by rw [hz.2]; exact ho⟩
      exact PySem.W.kia_one (PySem.W.kitx_exc T.cl T.ga T.gg T.ox.exC T.ac T.gt T.tk T.ob) I.kIn J e (fun z => nomatch z) fun tk => ⟨.bl b, H, I.kept (t' := tk) fun _ _ z => z, rfl, q⟩
end L2

/-! nth_word: of a number of a word, and of another thing -/
namespace Gm
open PySem L2

def spNthW (C CH : Addr) : Sp := fun vs H Q _ => ∃ (p : Addr) (l wd : List Nat) (n : Int) (rows : List Row) (j : Nat), vs = [.ref p, .int (j : Int)] ∧ HistAt C CH H p l n rows ∧ l.Pairwise (· < ·) ∧ (leftL l n rows)[j]? = some wd ∧ (n ≤ 5 ∨ l.length ≤ 8) ∧ ∀ H', Same H H' → Q (.str (tx wd)) H'
def spNthX (K : PySem.W.Frag) (C CH CX : Addr) : Sp := fun vs H _ E => ∃ (p : Addr) (l : List Nat) (n : Int) (rows : List Row) (v : V), vs = [.ref p, v] ∧ HistAt C CH H p l n rows ∧ l.Nodup ∧
  ((∃ i : Int, v = .int i ∧ ¬ (0 ≤ i ∧ i ≤ ((leftL l n rows).length : Int) - 1)) ∨ (∃ t, TyX K H v t ∧ NoInt K t)) ∧ ∀ H' d, Same H H' → H d = none → H' d = some (.xd [("value", v)]) → E (.ref CX) (some d) H'
section
variable {P : Program} {w : World} {K : PySem.W.Frag} {mg : Str → Option Value} {base : Heap}
theorem words_to {C CB CW b r e : Addr} {H : Hp} {l : List Nat} {n : Int} {rows : List Row} {E : XK} (hb : Bn C H b l n) (hrw : RowsAt H r rows) (rok : ∀ x ∈ rows, RowOk l n x) (r1000 : rows.length ≤ 1000) (he : H e = some (.tup [])) : ∀ x dx, H x = none → H dx = none → dx ≠ x →
    ∀ R : V → Hp → Prop, (∀ (dx m : Addr) (fs : List (Str × V)) H1, Same H H1 → H1 x = some (.ins CW dx fs) → (∀ f : Str, (["allowed", "counted", "least", "greatest", "known"] : List Str).all (fun y => !(f == y)) = true → fs.lookup f = none) → WFix CW H1 x m (wdOf l n rows) → MemOk P w H1 m (wdOf l n rows) 0 → H m = none → R .non H1) →
    spWInit P w C CB CW (.ref x :: ([.ref b, .ref r, .ref e] ++ [])) (upd (upd H dx (.own x)) x (.ins CW dx [])) R E := by
  intro x dx nx ndx ne R fin
  have sm0 : Same H (upd (upd H dx (.own x)) x (.ins CW dx [])) := fun a o z => by rw [upd_ne (ne_of_none z nx), upd_ne (ne_of_none z ndx)]; exact z
  refine ⟨x, dx, b, r, e, l, n, rows, rfl, upd_same, hb.same sm0, hrw.same sm0, rok, r1000, sm0 _ _ he, fun H1 m b1 m0 fx me => ?_⟩
  have s1 : Same H H1 := fun a o z => b1 a o (ne_of_none z nx) (sm0 a o z)
  obtain ⟨dx', a, l', g, hp, _⟩ := _root_.id fx
  refine fin dx' m _ H1 s1 hp (fun f hf => wf_no a l' g m _ hf) fx me ?_
  rw [upd_ne (by rintro rfl; rw [upd_same] at m0; cases m0)] at m0
  by_cases e : m = dx
  · subst e
    rw [upd_same] at m0
    cases m0
  · rwa [upd_ne e] at m0
theorem wide_wd {l : List Nat} {n : Int} {rows : List Row} (nd : l.Nodup) : wideOf (wdOf l n rows).al ≤ l.length := wide_of fun a ha => by
  have nda := wd_nd nd a ha
  obtain ⟨t, ht, rfl⟩ := List.mem_map.mp ha
  have sub : ∀ c ∈ cc t (usOf l (bsOf l n.toNat rows) rows), c ∈ l := fun c hc => by
    have := (cc_mem.mp hc).2
    unfold usOf at this
    split at this
    · exact (List.mem_filter.mp this).1
    · cases this
  have p : (cc t (usOf l (bsOf l n.toNat rows) rows)).Perm (l.filter fun c => decide (c ∈ cc t (usOf l (bsOf l n.toNat rows) rows))) := (List.perm_ext_iff_of_nodup nda (nd.filter _)).mpr fun c => by
    rw [List.mem_filter, decide_eq_true_iff]
    exact ⟨fun h => ⟨sub c h, h⟩, fun h => h.2⟩
  rw [p.length_eq]
  exact List.length_filter_le _ _
theorem cap_two {d : WD} (h : WOk d) (hs : d.al.length ≤ 5 ∨ wideOf d.al ≤ 8) : cap d.b d.al.length + cap d.b d.al.length ≤ sizeLine := by
  rw [sizeLine_eq]
  have k : ∀ {b c r s : Nat}, b ≤ c → r ≤ s → cap b r ≤ cap c s := fun h1 h2 => Nat.le_trans (cap_wide h1 _) (cap_mono h2)
  rcases hs with hs | hs
  · have e1 : cap d.b d.al.length ≤ 551881 := k (b := d.b) (c := 26) (wide_of h.a26) hs
    omega
  · have e1 : cap d.b d.al.length ≤ 66430 := k (b := d.b) (c := 8) hs h.na
    omega
theorem al_len (l : List Nat) (n : Int) (rows : List Row) : (wdOf l n rows).al.length = n.toNat := by
  have bl : (bsOf l n.toNat rows).al.length = n.toNat := by
    have k : ∀ (rs : List Row) (b : BS), (rs.foldl rowB b).al.length = b.al.length := fun rs => by
      induction rs with
      | nil => exact fun b => rfl
      | cons r rs ih => exact fun b => by rw [List.foldl_cons, ih, rowB_al, placeB_al]
    show (rows.foldl rowB (bs0 l n.toNat)).al.length = _
    rw [k]
    exact List.length_replicate ..
  show ((bsOf l n.toNat rows).al.map _).length = _
  rw [List.length_map, bl]
theorem scNX : FnScope ["history", "number", "words"] ["history", "number"] (defScope sNthW) := ⟨rfl, rfl, rfl, by decide +kernel, rfl, by decide +kernel, by decide +kernel⟩
theorem ok_nthW {f C CH CB CW fC fW fI fM fN : Addr} {fd fdC fdW fdI fdM fdN : FuncData} (F : Fun K "nth_word" "nth_word" sNthW f fd) (TH : TxH K mg CH) (T : TxN K mg CW) (mW : mg "Words" = some (.ref CW))
    (GC : FnOk P w K mg base CX0 1 fC fdC ["history"] (spChkH C CH)) (DC : Df K mg "check_history" fC fdC ["history"])
    (GW : FnOk P w K mg base CX0 1 fW fdW ["value", "least", "most"] (spWithin K)) (DW : Df K mg "is_integer_within" fW fdW ["value", "least", "most"])
    (M : Mk K CW fI) (GI : FnOk P w K mg base CX0 5 fI fdI ["self", "board", "rows", "facts"] (spWInit P w C CB CW)) (bI : Binds K fdI ["self", "board", "rows", "facts"] [])
    (mM : Meth K CW "many" fM) (GM : FnOk P w K mg base CX0 20 fM fdM ["self"] (spMany P w CW)) (bM : Binds K fdM ["self"] [])
    (mN : Meth K CW "nth" fN) (GN : FnOk P w K mg base CX0 22 fN fdN ["self", "number"] (spNth P w CW)) (bN : Binds K fdN ["self", "number"] []) : FnOk P w K mg base CX0 23 f fd ["history", "number"] (spNthW C CH) := by
  refine F.ok scNX (fun vs H Q E h => ?_) (fun cdv A outer s H vs Q E hr h => ?_)
  · obtain ⟨p, l, wd, n, rows, j, rfl, _⟩ := h
    rfl
  · obtain ⟨p, l, wd, n, rows, j, rfl, hP, srt, hj, hsm, fin⟩ := h
    have nd := scNX.nd
    have hr20 : Room 20 _ := hr.mono (by decide)
    have hr6 : Room (5 + 1) _ := hr.mono (by decide)
    have hr1 : Room 1 _ := hr.mono (by decide)
    refine ⟨_, pss_cons (ps_expr (pe_call GC hr1 (by rfl) DC.mg DC.kp DC.b .nil pass0 (pa_cons (pv 0) pa_nil)))
      (pss_cons (ps_set (i := 2) nd rfl (Or.inl rfl) (pe_make M GI hr6 (by rfl) mW bI .nil pass0 (pa_cons (pe_fld (pv 0) rfl) (pa_cons (pe_fld (pv 0) rfl) (pa_cons (pe_tup pa_nil) pa_nil)))))
      (pss_cons (ps_if (pt_not (pt_val (pe_call GW hr1 (by rfl) DW.mg DW.kp DW.b .nil pass0 (pa_cons (pv 1) (pa_cons pe_int (pa_cons (pe_op op_sub (pe_meth0 (pv 2) T.cl mM GM hr20 bM .nil pass0) pe_int) pa_nil)))))) (pss_one ps_never) pss_nil)
      (pss_one (ps_ret (pe_meth (pv 2) T.cl mN GN hr bN .nil pass0 (pa_cons (pv 1) pa_nil)))))), ?_⟩
    obtain ⟨dx, b, r, hp, hb, ⟨vs, hv, hw⟩, ok⟩ := _root_.id hP
    have n1 := hb.2.2.1
    have n6 := hb.2.2.2
    have o20 := ok.2
    have lnd : l.Nodup := srt.imp fun h => Nat.ne_of_lt h
    have wok : WOk (wdOf l n rows) := wd_ok hb.2.1 (by omega) n6
    have c2 := cap_two wok (by
      rcases hsm with h | h
      · left; rw [al_len]; omega
      · right; exact Nat.le_trans (wide_wd lnd) h)
    have hlt := (List.getElem?_eq_some_iff.mp hj).1
    have ec := cnt_eq n1 lnd ok.1
    refine ⟨_, rfl, p, l, n, rows, rfl, hP, ?_⟩
    refine ⟨_, rfl, p, CH, dx, _, _, rfl, hp, TH.cl, TH.nB, hf_board b r, _, rfl, p, CH, dx, _, _, rfl, hp, TH.cl, TH.nR, hf_rows b r, by show 0 ≤ sizeLine; decide, fun e1 z1 => ?_⟩
    have s2 := same_upd (o := .tup []) z1
    intro x0 dx0 nx0 ndx0 ne0'
    refine words_to (P := P) (w := w) (CB := CB) (CW := CW) ⟨hb.same s2, lnd⟩ ⟨vs, s2 _ _ hv, hw.same s2⟩ ok.1 (by omega) upd_same x0 dx0 nx0 ndx0 ne0' _ (fun dx3 m fs H3 s3 hx no fx me nm => ?_)
    refine ⟨rfl, ?_⟩
    refine ⟨_, rfl, _, rfl, x0, dx3, fs, rfl, hx, no _ (by decide +kernel), ?_⟩
    refine ⟨x0, m, wdOf l n rows, 0, rfl, wok, fx, me, by omega, fun H4 b4 me4 => ?_⟩
    have e4 : ways (wdOf l n rows) 0 (List.replicate (wdOf l n rows).ct.length 0) = ((leftL l n rows).length : Int) := ec
    refine ⟨_, _, rfl, rfl, .int (j : Int), 0, _, rfl, .inl ⟨_, rfl, _, rfl, ?_⟩⟩
    rw [e4, decide_eq_true (by omega : (0 : Int) ≤ (j : Int) ∧ (j : Int) ≤ ((leftL l n rows).length : Int) - 1)]
    have fx4 := fx.but me b4
    obtain ⟨dx4, a4, l4, g4, hp4, _⟩ := _root_.id fx4
    refine iteF ⟨_, rfl, x0, dx4, _, rfl, hp4, wf_no a4 l4 g4 m _ (by decide +kernel), _, rfl, ?_⟩
    have ew : ((leftL l n rows).length : Int) = wayF (wdOf l n rows).ct (wdOf l n rows).le (wdOf l n rows).gr (wdOf l n rows).al (List.replicate (wdOf l n rows).ct.length 0) := by
      rw [← e4]
      unfold ways
      rw [List.drop_zero]
    refine ⟨x0, m, wdOf l n rows, _, j, rfl, wok, fx4, me4, by omega, by omega, by rw [← ew]; omega, fun H5 b5 => ?_⟩
    rw [nth_eq n1 srt ok.1 hj]
    refine fin H5 fun c o z => ?_
    have zc := s3 _ _ (s2 _ _ z)
    exact b5 c o (ne_of_none (s2 _ _ z) nm) (b4 c o (ne_of_none (s2 _ _ z) nm) zc)
theorem ok_nthX {f C CH CB CW CN fC fW fI fM eN : Addr} {fd fdC fdW fdI fdM fdN : FuncData} (F : Fun K "nth_word" "nth_word" sNthW f fd) (TH : TxH K mg CH) (T : TxN K mg CW) (mW : mg "Words" = some (.ref CW))
    (GC : FnOk P w K mg base CX0 1 fC fdC ["history"] (spChkH C CH)) (DC : Df K mg "check_history" fC fdC ["history"])
    (GW : FnOk P w K mg base CX0 1 fW fdW ["value", "least", "most"] (spWithin K)) (DW : Df K mg "is_integer_within" fW fdW ["value", "least", "most"])
    (M : Mk K CW fI) (GI : FnOk P w K mg base CX0 5 fI fdI ["self", "board", "rows", "facts"] (spWInit P w C CB CW)) (bI : Binds K fdI ["self", "board", "rows", "facts"] [])
    (mM : Meth K CW "many" fM) (GM : FnOk P w K mg base CX0 20 fM fdM ["self"] (spMany P w CW)) (bM : Binds K fdM ["self"] [])
    (EN : ErrB K mg "InvalidNumber" "value" CN eN) (GE : FnOk P w K mg base CX0 1 eN fdN ["self", "value"] (spErr CN "value")) (bE : Binds K fdN ["self", "value"] []) : FnOk P w K mg base (CX P w) 21 f fd ["history", "number"] (spNthX K C CH CN) := by
  refine F.okX scNX (fun vs H Q E h => ?_) (fun cdv A outer s H vs Q E hr h => ?_)
  · obtain ⟨p, l, n, rows, v, rfl, _⟩ := h
    rfl
  · obtain ⟨p, l, n, rows, v, rfl, hP, lnd, hk, ex⟩ := h
    have nd := scNX.nd
    have hr6 : Room (5 + 1) _ := hr.mono (by decide)
    have hr2 : Room 2 _ := hr.mono (by decide)
    have hr1 : Room 1 _ := hr.mono (by decide)
    refine ⟨_, pss_cons (ps_expr (pe_call GC hr1 (by rfl) DC.mg DC.kp DC.b .nil pass0 (pa_cons (pv 0) pa_nil)))
      (pss_cons (ps_set (i := 2) nd rfl (Or.inl rfl) (pe_make M GI hr6 (by rfl) mW bI .nil pass0 (pa_cons (pe_fld (pv 0) rfl) (pa_cons (pe_fld (pv 0) rfl) (pa_cons (pe_tup pa_nil) pa_nil)))))
      (pss_cons (ps_if (pt_not (pt_val (pe_call GW hr1 (by rfl) DW.mg DW.kp DW.b .nil pass0 (pa_cons (pv 1) (pa_cons pe_int (pa_cons (pe_op op_sub (pe_meth0 (pv 2) T.cl mM GM hr bM .nil pass0) pe_int) pa_nil))))))
        (pss_one (ps_raise rfl (takes_of rfl rfl rfl rfl) (pmk_oexB EN.ox EN.iC EN.tI GE hr2 bE pass0 (by rfl) EN.gC (pa_cons (pv 1) pa_nil)))) pss_nil)
      (pss_one ps_never))), ?_⟩
    obtain ⟨dx, b, r, hp, hb, ⟨vs, hv, hw⟩, ok⟩ := _root_.id hP
    have n1 := hb.2.2.1
    have n6 := hb.2.2.2
    have o20 := ok.2
    have wok : WOk (wdOf l n rows) := wd_ok hb.2.1 (by omega) n6
    have ec := cnt_eq n1 lnd ok.1
    refine ⟨_, rfl, p, l, n, rows, rfl, hP, ?_⟩
    refine ⟨_, rfl, p, CH, dx, _, _, rfl, hp, TH.cl, TH.nB, hf_board b r, _, rfl, p, CH, dx, _, _, rfl, hp, TH.cl, TH.nR, hf_rows b r, by show 0 ≤ sizeLine; decide, fun e1 z1 => ?_⟩
    have s2 := same_upd (o := .tup []) z1
    intro x0 dx0 nx0 ndx0 ne0'
    refine words_to (P := P) (w := w) (CB := CB) (CW := CW) ⟨hb.same s2, lnd⟩ ⟨vs, s2 _ _ hv, hw.same s2⟩ ok.1 (by omega) upd_same x0 dx0 nx0 ndx0 ne0' _ (fun dx3 m fs H3 s3 hx no fx me nm => ?_)
    refine ⟨rfl, ?_⟩
    refine ⟨_, rfl, _, rfl, x0, dx3, fs, rfl, hx, no _ (by decide +kernel), ?_⟩
    refine ⟨x0, m, wdOf l n rows, 0, rfl, wok, fx, me, by rw [Nat.zero_add]; exact wok.fit, fun H4 b4 me4 => ?_⟩
    have e4 : ways (wdOf l n rows) 0 (List.replicate (wdOf l n rows).ct.length 0) = ((leftL l n rows).length : Int) := ec
    have s34 : Same H H4 := fun c o z => by
      have zc := s3 _ _ (s2 _ _ z)
      exact b4 c o (ne_of_none (s2 _ _ z) nm) zc
    have out : ∀ H' d, Same H4 H' → H4 d = none → H' d = some (.xd [("value", v)]) → E (.ref CN) (some d) H' := fun H' d s5 nd' e => ex H' d (s34.trans s5) (s34.free nd') e
    refine ⟨_, _, rfl, rfl, v, 0, _, rfl, ?_⟩
    rcases hk with ⟨i, rfl, no⟩ | ⟨t, ty, no⟩
    · refine .inl ⟨_, rfl, _, rfl, ?_⟩
      rw [e4, decide_eq_false no]
      exact iteT ⟨_, rfl, mkErr out⟩
    · exact .inr ⟨t, ty.same s34, no, _, rfl, iteT ⟨_, rfl, mkErr out⟩⟩
end
end Gm

/-! x(e, ..), x a def of the module known by its positional promise (a star def) -/
namespace L2
open PySem PySem.Spec PyProof.Rows
def tCallR (sp : Sp) (E : XK) (t : TA) : TE := fun σ H Q => t σ H fun vs H1 => sp vs H1 Q E
section
variable {X : Cx} {CX : CXT} {k : Nat} {f : Addr} {sp : Sp} {E : XK} {x : Str} {e : Expr} {es : List Expr} {t : TA} {p pos : Pos}
theorem pe_callR (F : FnR X.prog X.w X.K X.mg X.base CX k f sp) (hr : Room k X.A) (hk : PySem.W.keepIn X.K (.ref f) = true) (hg : Gl X x) (hm : X.mg x = some (.ref f)) (hx : Passes CX X E) (ha : PA X (e :: es) t)
    (hd : (x == ("__debug__" : Str)) = false := by decide) (he : starEach (e :: es) X.env = (false, eval e X.env) :: starEach es X.env := by rfl) (hpl : (backTo pos (starEach es X.env)).any (·.1) = false := by rfl) :
    PE X (.Call (.Name x p) (e :: es) [] pos) (tCallR sp E t) := by
  refine ⟨fun pins s σ H Q I h => ?_⟩
  refine wpAny_Call_Name_kw (ld_glob I hg hm ?_ hd)
  refine PySem.W.callWith_K (h₀ := X.base) I.ok.mod.kin hk (thn (ha.run pos pins s σ H _ I h) fun us s1 ⟨vs, H1, I1, r, q⟩ => ⟨I1.kIn, ?_⟩) he hpl
  exact wpAny_call (run_fnR F hr hx I1 r q)
end
end L2

/-! facts are asked; count_with -/
namespace Gm
open PySem L2




inductive Fact
  | pl (neg : Bool) (i c : Nat)
  | nm (most : Bool) (c m : Nat)
def factV : Fact → List V
  | .pl false i c => [.str (Str.ofString "at"), .int (i : Nat), .str (one c)]
  | .pl true i c => [.str (Str.ofString "not"), .int (i : Nat), .str (one c)]
  | .nm false c m => [.str (Str.ofString "least"), .str (one c), .int (m : Nat)]
  | .nm true c m => [.str (Str.ofString "most"), .str (one c), .int (m : Nat)]
def FactAt (H : Hp) (a : Addr) (f : Fact) : Prop := H a = some (.tup (factV f))
def FactOk (l : List Nat) (n : Int) : Fact → Prop
  | .pl _ i c => (i : Int) < n ∧ c ∈ l
  | .nm _ c m => c ∈ l ∧ (m : Int) ≤ n
def spIsL (C : Addr) : Sp := fun vs H Q _ => ∃ (p : Addr) (l : List Nat) (n : Int) (c : Nat), vs = [.ref p, .str (one c)] ∧ Bd C H p l n ∧ c ∈ l ∧ ∀ H', Same H H' → Q (.bl true) H'
def spIsF (C : Addr) : Sp := fun vs H Q _ => ∃ (p a : Addr) (l : List Nat) (n : Int) (f : Fact), vs = [.ref p, .ref a] ∧ Bd C H p l n ∧ FactAt H a f ∧ FactOk l n f ∧ ∀ H', Same H H' → Q (.bl true) H'
/-- the fact of T_CP's kind -/
def toFact : Fct → Fact
  | .at_ i c => .pl false i c
  | .out i c => .pl true i c
  | .least c v => .nm false c v.toNat
  | .most c v => .nm true c v.toNat
theorem toFact_at {l : List Nat} {n : Nat} {f : Fct} (ok : FctOk l n f) : factV (toFact f) = fctV f := by
  cases f with
  | at_ i c => rfl
  | out i c => rfl
  | least c v =>
    have e : ((v.toNat : Nat) : Int) = v := by have := ok.2.1; omega
    show [V.str (Str.ofString "least"), .str (one c), .int ((v.toNat : Nat) : Int)] = [.str "least", .str (one c), .int v]
    rw [e]
  | most c v =>
    have e : ((v.toNat : Nat) : Int) = v := by have := ok.2.1; omega
    show [V.str (Str.ofString "most"), .str (one c), .int ((v.toNat : Nat) : Int)] = [.str "most", .str (one c), .int v]
    rw [e]
theorem same_updF {H : Hp} {T : Addr} {o : HO} (z : H T = none) : Same H (upd H T o) := same_upd z
theorem toFact_ok {l : List Nat} {n : Int} {f : Fct} (n0 : 0 ≤ n) (ok : FctOk l n.toNat f) : FactOk l n (toFact f) := by
  cases f with
  | at_ i c => exact ⟨by have := ok.1; omega, ok.2⟩
  | out i c => exact ⟨by have := ok.1; omega, ok.2⟩
  | least c v => exact ⟨ok.1, by have := ok.2; omega⟩
  | most c v => exact ⟨ok.1, by have := ok.2; omega⟩
def spChkF (C : Addr) : Sp := fun vs H Q _ => ∃ (p e : Addr) (l : List Nat) (n : Int) (fvs : List V) (facts : List Fct), vs = [.ref p, .ref e] ∧ Bd C H p l n ∧ H e = some (.tup fvs) ∧ Fcs H fvs facts ∧ (∀ f ∈ facts, FctOk l n.toNat f) ∧ facts.length ≤ 4 ∧ ∀ H', Same H H' → Q .non H'
def spCntW (C CH : Addr) : Sp := fun vs H Q _ => ∃ (p e : Addr) (l : List Nat) (n : Int) (rows : List Row) (fvs : List V) (facts : List Fct), vs = [.ref p, .ref e] ∧ HistAt C CH H p l n rows ∧ l.Nodup ∧ H e = some (.tup fvs) ∧ Fcs H fvs facts ∧ (∀ f ∈ facts, FctOk l n.toNat f ∧ Easy f) ∧ facts.length ≤ 4 ∧
  ∀ H', Same H H' → Q (.int (((leftL l n rows).filter fun w => decide (hasAll facts w)).length : Int)) H'
def spCntWR (C CH : Addr) : Sp := fun vs H Q E => ∃ ws rest, vs = ws ++ rest ∧ ws.length = (["history"] : List Str).length ∧ rest.length ≤ sizeLine ∧ ∀ p, H p = none → spCntW C CH (ws ++ [V.ref p]) (upd H p (.tup rest)) Q E
section
variable {P : Program} {w : World} {K : PySem.W.Frag} {mg : Str → Option Value} {base : Heap}
theorem words_manyG {C CB CW b r e : Addr} {H : Hp} {l : List Nat} {n : Int} {rows : List Row} {facts : List Fct} {fvs : List V} {σ : L2.St} {Q : V → Hp → Prop} {E : XK} (hb : Bn C H b l n) (hrw : RowsAt H r rows) (rok : ∀ x ∈ rows, RowOk l n x) (r1000 : rows.length ≤ 1000) (he : H e = some (.tup fvs)) (hfs : Fcs H fvs facts) (fok : ∀ f ∈ facts, FctOk l n.toNat f ∧ Easy f)
    (fin : ∀ H', Same H H' → Q (.int (cntG l n rows facts)) H') : ∀ x dx, H x = none → H dx = none → dx ≠ x →
    spWInitF P w C CB CW (.ref x :: ([.ref b, .ref r, .ref e] ++ [])) (upd (upd H dx (.own x)) x (.ins CW dx [])) (fun v H2 => v = .non ∧ ∃ a dx fs, V.ref x = .ref a ∧ H2 a = some (.ins CW dx fs) ∧ fs.lookup ("many" : Str) = none ∧ tNil σ H2 fun vs H3 => spMany P w CW (V.ref x :: (vs ++ [])) H3 Q E) E := by
  intro x dx nx ndx ne
  have hn := hb.1.2
  have sm0 : Same H (upd (upd H dx (.own x)) x (.ins CW dx [])) := fun a o z => by rw [upd_ne (ne_of_none z nx), upd_ne (ne_of_none z ndx)]; exact z
  refine ⟨x, dx, b, r, e, l, n, rows, facts, fvs, rfl, upd_same, hb.same sm0, hrw.same sm0, rok, r1000, sm0 _ _ he, hfs.same sm0, fok, fun H1 m b1 m0 fx me => ⟨rfl, ?_⟩⟩
  have s1 : Same H H1 := fun a o z => b1 a o (ne_of_none z nx) (sm0 a o z)
  obtain ⟨dx', a, l', g, hp, _⟩ := _root_.id fx
  refine ⟨x, dx', _, rfl, hp, wf_no a l' g m _ (by decide +kernel), x, m, _, 0, rfl, wd_okG hn.1 (by omega) hn.2.2, fx, me, by rw [Nat.zero_add]; exact (wd_okG hn.1 (by omega) hn.2.2).fit, fun H2 b2 me2 => ?_⟩
  refine fin H2 fun c o z => ?_
  exact b2 c o (ne_of_none (sm0 c o z) m0) (s1 c o z)
theorem scIL : FnScope ["board", "value"] ["board", "value"] (defScope sIsL) := ⟨rfl, rfl, rfl, by decide +kernel, rfl, by decide +kernel, by decide +kernel⟩
theorem ok_isL {f C fO : Addr} {fd fdO : FuncData} (F : Fun K "is_letter" "is_letter" sIsL f fd) (TC : TxC K mg C) (GO : FnOk P w K mg base CX0 1 fO fdO ["value", "characters", "length"] (spOver K)) (DO : Df K mg "is_text_over" fO fdO ["value", "characters", "length"]) :
    FnOk P w K mg base CX0 2 f fd ["board", "value"] (spIsL C) := by
  refine F.ok scIL (fun vs H Q E h => ?_) (fun cdv A outer s H vs Q E hr h => ?_)
  · obtain ⟨p, l, n, c, rfl, _⟩ := h
    rfl
  · obtain ⟨p, l, n, c, rfl, ⟨⟨dx, hp⟩, l26, n1, n6⟩, hc, q⟩ := h
    refine ⟨_, pss_one (ps_ret (pe_call GO hr (by rfl) DO.mg DO.kp DO.b .nil pass0 (pa_cons (pv 1) (pa_cons (pe_fld (pv 0) rfl) (pa_cons pe_int pa_nil))))), ?_⟩
    refine ⟨_, rfl, _, rfl, p, C, dx, _, _, rfl, hp, TC.cl, TC.nL, bf_letters _ _, _, _, _, rfl, .inl ⟨[c], rfl, by (show 1 ≤ 1000; decide), fun H' s => ?_⟩⟩
    rw [decide_eq_true (show ((([c] : List Nat).length : Nat) : Int) = 1 ∧ ∀ x ∈ [c], x ∈ l from ⟨rfl, fun x hx => by rw [List.mem_singleton.mp hx]; exact hc⟩)]
    exact q H' s
abbrev nIf : List Str := ["board", "value", "kind", "first", "second"]
theorem scIf : FnScope nIf ["board", "value"] (defScope sIsF) := ⟨rfl, rfl, rfl, by decide +kernel, rfl, by decide +kernel, by decide +kernel⟩
theorem ok_isF {f C fL fW : Addr} {fd fdL fdW : FuncData} (F : Fun K "is_fact" "is_fact" sIsF f fd) (T : TxW mg) (tt : mg "tuple" = none) (TC : TxC K mg C) (GL : FnOk P w K mg base CX0 2 fL fdL ["board", "value"] (spIsL C)) (DL : Df K mg "is_letter" fL fdL ["board", "value"])
    (GW : FnOk P w K mg base CX0 1 fW fdW ["value", "least", "most"] (spWithin K)) (DW : Df K mg "is_integer_within" fW fdW ["value", "least", "most"]) : FnOk P w K mg base CX0 3 f fd ["board", "value"] (spIsF C) := by
  refine F.ok scIf (fun vs H Q E h => ?_) (fun cdv A outer s H vs Q E hr h => ?_)
  · obtain ⟨p, a, l, n, fc, rfl, _⟩ := h
    rfl
  · obtain ⟨p, a, l, n, fc, rfl, hb, ha, ok, q⟩ := h
    have nd := scIf.nd
    have hr1 : Room 1 _ := hr.mono (by decide)
    refine ⟨_, pss_cons (ps_if (PW.pt (pw_or (pt_not (pt_val (pe_callB call_isi (by rfl) T.isi (by decide +kernel) (pa_cons (pv 1) (pa_cons (pe_bltn (v := .ty "tuple") (by rfl) tt (by decide +kernel) rfl) pa_nil)))))
        (pw_or1 (pt_cmpR op_ne (pe_callB call_len_seq (by rfl) T.len PySem.boot_len (pa_cons (pv 1) pa_nil)) pe_int (nomark _))))) (pss_one (ps_ret pe_bl)) pss_nil)
      (pss_cons (ps_asg (pv 1) (pg_tup (by rfl) (pgs_cons (pg_name (i := 2) nd rfl (Or.inl rfl)) (pgs_cons (pg_name (i := 3) nd rfl (Or.inl rfl)) (pgs_cons (pg_name (i := 4) nd rfl (Or.inl rfl)) pgs_nil)))))
      (pss_cons (ps_if (pt_not (pt_val (pe_callB call_isi (by rfl) T.isi (by decide +kernel) (pa_cons (pv 2) (pa_cons (pe_bltn (v := .ty "str") (by rfl) T.str (by decide +kernel) rfl) pa_nil))))) (pss_one (ps_ret pe_bl)) pss_nil)
      (pss_cons (ps_if (pt_cmpR op_in_seq (pv 2) (pe_tup (pa_cons pe_str (pa_cons pe_str pa_nil))) rfl) (pss_one (ps_ret (pe_and (pe_call GW hr1 (by rfl) DW.mg DW.kp DW.b .nil pass0 (pa_cons (pv 3) (pa_cons pe_int (pa_cons (pe_op op_sub (pe_fld (pv 0) rfl) pe_int) pa_nil))))
        (pe_one (pe_call GL hr (by rfl) DL.mg DL.kp DL.b .nil pass0 (pa_cons (pv 0) (pa_cons (pv 4) pa_nil))))))) pss_nil)
      (pss_cons (ps_if (pt_cmpR op_in_seq (pv 2) (pe_tup (pa_cons pe_str (pa_cons pe_str pa_nil))) rfl) (pss_one (ps_ret (pe_and (pe_call GL hr (by rfl) DL.mg DL.kp DL.b .nil pass0 (pa_cons (pv 0) (pa_cons (pv 3) pa_nil)))
        (pe_one (pe_call GW hr1 (by rfl) DW.mg DW.kp DW.b .nil pass0 (pa_cons (pv 4) (pa_cons pe_int (pa_cons (pe_fld (pv 0) rfl) pa_nil)))))))) pss_nil)
      (pss_one (ps_ret pe_bl)))))), ?_⟩
    obtain ⟨dx, hp⟩ := hb.1
    rcases fc with ⟨neg, i, c⟩ | ⟨most, c, m⟩
    · cases neg with
      | false =>
        have ha : H a = some (.tup [.str (Str.ofString "at"), .int (i : Nat), .str (one c)]) := ha
        refine ⟨_, rfl, _, _, _, _, _, rfl, .ty "tuple", .base (.tup ha), kit_ty (r := true) (by decide +kernel), _, rfl, iteF ?_⟩
        refine ⟨_, rfl, a, _, rfl, .inr (SqT.of ha), rfl, _, rfl, iteF ?_⟩
        refine ⟨_, rfl, a, _, rfl, SqT.of ha, rfl, _, _, rfl, _, _, rfl, _, _, rfl, rfl, ?_⟩
        refine ⟨_, rfl, _, _, _, _, _, rfl, .ty "str", .base (.str _), kit_ty (r := true) (by decide +kernel), _, rfl, iteF ?_⟩
        refine ⟨_, rfl, by show 2 ≤ sizeLine; decide, fun T1 z1 => ⟨T1, _, rfl, .inr (SqT.of upd_same), rfl, rfl, _, rfl, ?_⟩⟩
        have s1 := same_upd (o := .tup [.str (Str.ofString "at"), .str (Str.ofString "not")]) z1
        refine iteT ⟨_, rfl, _, rfl, p, C, dx, _, _, rfl, s1 _ _ hp, TC.cl, TC.nN, bf_length _ _, _, _, rfl, rfl, _, _, _, rfl, .inl ⟨_, rfl, _, rfl, ?_⟩⟩
        rw [decide_eq_true (show (0 : Int) ≤ (i : Nat) ∧ ((i : Nat) : Int) ≤ n - 1 from ⟨by omega, by have := ok.1; omega⟩)]
        exact iteT ⟨_, rfl, _, rfl, p, l, n, c, rfl, hb.same s1, ok.2, fun H' s' => q H' (s1.trans s')⟩
      | true =>
        have ha : H a = some (.tup [.str (Str.ofString "not"), .int (i : Nat), .str (one c)]) := ha
        refine ⟨_, rfl, _, _, _, _, _, rfl, .ty "tuple", .base (.tup ha), kit_ty (r := true) (by decide +kernel), _, rfl, iteF ?_⟩
        refine ⟨_, rfl, a, _, rfl, .inr (SqT.of ha), rfl, _, rfl, iteF ?_⟩
        refine ⟨_, rfl, a, _, rfl, SqT.of ha, rfl, _, _, rfl, _, _, rfl, _, _, rfl, rfl, ?_⟩
        refine ⟨_, rfl, _, _, _, _, _, rfl, .ty "str", .base (.str _), kit_ty (r := true) (by decide +kernel), _, rfl, iteF ?_⟩
        refine ⟨_, rfl, by show 2 ≤ sizeLine; decide, fun T1 z1 => ⟨T1, _, rfl, .inr (SqT.of upd_same), rfl, rfl, _, rfl, ?_⟩⟩
        have s1 := same_upd (o := .tup [.str (Str.ofString "at"), .str (Str.ofString "not")]) z1
        refine iteT ⟨_, rfl, _, rfl, p, C, dx, _, _, rfl, s1 _ _ hp, TC.cl, TC.nN, bf_length _ _, _, _, rfl, rfl, _, _, _, rfl, .inl ⟨_, rfl, _, rfl, ?_⟩⟩
        rw [decide_eq_true (show (0 : Int) ≤ (i : Nat) ∧ ((i : Nat) : Int) ≤ n - 1 from ⟨by omega, by have := ok.1; omega⟩)]
        exact iteT ⟨_, rfl, _, rfl, p, l, n, c, rfl, hb.same s1, ok.2, fun H' s' => q H' (s1.trans s')⟩
    · cases most with
      | false =>
        have ha : H a = some (.tup [.str (Str.ofString "least"), .str (one c), .int (m : Nat)]) := ha
        refine ⟨_, rfl, _, _, _, _, _, rfl, .ty "tuple", .base (.tup ha), kit_ty (r := true) (by decide +kernel), _, rfl, iteF ?_⟩
        refine ⟨_, rfl, a, _, rfl, .inr (SqT.of ha), rfl, _, rfl, iteF ?_⟩
        refine ⟨_, rfl, a, _, rfl, SqT.of ha, rfl, _, _, rfl, _, _, rfl, _, _, rfl, rfl, ?_⟩
        refine ⟨_, rfl, _, _, _, _, _, rfl, .ty "str", .base (.str _), kit_ty (r := true) (by decide +kernel), _, rfl, iteF ?_⟩
        refine ⟨_, rfl, by show 2 ≤ sizeLine; decide, fun T1 z1 => ⟨T1, _, rfl, .inr (SqT.of upd_same), rfl, rfl, _, rfl, ?_⟩⟩
        have s1 := same_upd (o := .tup [.str (Str.ofString "at"), .str (Str.ofString "not")]) z1
        refine iteF ?_
        refine ⟨_, rfl, by show 2 ≤ sizeLine; decide, fun T2 z2 => ⟨T2, _, rfl, .inr (SqT.of upd_same), rfl, rfl, _, rfl, ?_⟩⟩
        have s2 := s1.trans (same_upd (o := .tup [.str (Str.ofString "least"), .str (Str.ofString "most")]) z2)
        refine iteT ⟨_, rfl, _, rfl, p, l, n, c, rfl, hb.same s2, ok.1, fun H3 s3 => ⟨_, rfl, iteT ?_⟩⟩
        have s4 := s2.trans s3
        refine ⟨_, rfl, _, rfl, p, C, dx, _, _, rfl, s4 _ _ hp, TC.cl, TC.nN, bf_length _ _, _, _, _, rfl, .inl ⟨_, rfl, ?_⟩⟩
        rw [decide_eq_true (show (0 : Int) ≤ (m : Nat) ∧ ((m : Nat) : Int) ≤ n from ⟨by omega, ok.2⟩)]
        exact q _ s4
      | true =>
        have ha : H a = some (.tup [.str (Str.ofString "most"), .str (one c), .int (m : Nat)]) := ha
        refine ⟨_, rfl, _, _, _, _, _, rfl, .ty "tuple", .base (.tup ha), kit_ty (r := true) (by decide +kernel), _, rfl, iteF ?_⟩
        refine ⟨_, rfl, a, _, rfl, .inr (SqT.of ha), rfl, _, rfl, iteF ?_⟩
        refine ⟨_, rfl, a, _, rfl, SqT.of ha, rfl, _, _, rfl, _, _, rfl, _, _, rfl, rfl, ?_⟩
        refine ⟨_, rfl, _, _, _, _, _, rfl, .ty "str", .base (.str _), kit_ty (r := true) (by decide +kernel), _, rfl, iteF ?_⟩
        refine ⟨_, rfl, by show 2 ≤ sizeLine; decide, fun T1 z1 => ⟨T1, _, rfl, .inr (SqT.of upd_same), rfl, rfl, _, rfl, ?_⟩⟩
        have s1 := same_upd (o := .tup [.str (Str.ofString "at"), .str (Str.ofString "not")]) z1
        refine iteF ?_
        refine ⟨_, rfl, by show 2 ≤ sizeLine; decide, fun T2 z2 => ⟨T2, _, rfl, .inr (SqT.of upd_same), rfl, rfl, _, rfl, ?_⟩⟩
        have s2 := s1.trans (same_upd (o := .tup [.str (Str.ofString "least"), .str (Str.ofString "most")]) z2)
        refine iteT ⟨_, rfl, _, rfl, p, l, n, c, rfl, hb.same s2, ok.1, fun H3 s3 => ⟨_, rfl, iteT ?_⟩⟩
        have s4 := s2.trans s3
        refine ⟨_, rfl, _, rfl, p, C, dx, _, _, rfl, s4 _ _ hp, TC.cl, TC.nN, bf_length _ _, _, _, _, rfl, .inl ⟨_, rfl, ?_⟩⟩
        rw [decide_eq_true (show (0 : Int) ≤ (m : Nat) ∧ ((m : Nat) : Int) ≤ n from ⟨by omega, ok.2⟩)]
        exact q _ s4
abbrev nCF : List Str := ["board", "facts", "index", "fact"]
theorem scCF : FnScope nCF ["board", "facts"] (defScope sChkF) := ⟨rfl, rfl, rfl, by decide +kernel, rfl, by decide +kernel, by decide +kernel⟩
theorem ok_chkF {f C fF : Addr} {fd fdF : FuncData} (F : Fun K "check_facts" "check_facts" sChkF f fd) (len : mg "len" = none) (te : mg "enumerate" = none) (tF : ∃ t, mg "MOST_FACTS" = some (.int 4 t)) (GF : FnOk P w K mg base CX0 3 fF fdF ["board", "value"] (spIsF C)) (DF : Df K mg "is_fact" fF fdF ["board", "value"]) :
    FnOk P w K mg base CX0 4 f fd ["board", "facts"] (spChkF C) := by
  refine F.ok scCF (fun vs H Q E h => ?_) (fun cdv A outer s H vs Q E hr h => ?_)
  · obtain ⟨p, e, l, n, fvs, facts, rfl, _⟩ := h
    rfl
  · obtain ⟨p, e, l, n, fvs, facts, rfl, hb, he, hfs, fok, f4, q⟩ := h
    have nd := scCF.nd
    obtain ⟨tm, mgF⟩ := tF
    refine ⟨_, pss_cons (ps_if (pt_cmpR op_gt (pe_callB call_len_seq (by rfl) len PySem.boot_len (pa_cons (pv 1) pa_nil)) (pe_glob (v := .int 4) (by rfl) mgF ⟨_, rfl⟩) (nomark _)) (pss_one ps_never) pss_nil)
      (pss_one (ps_for PassesOwn.never rfl (pi_enumT (by rfl) te (pa_cons (pv 1) pa_nil)) (pg_tup (by rfl) (pgs_cons (pg_name (i := 2) nd rfl (Or.inl rfl)) (pgs_cons (pg_name (i := 3) nd rfl (Or.inl rfl)) pgs_nil)))
        (pss_one (ps_if (pt_not (pt_val (pe_call GF hr (by rfl) DF.mg DF.kp DF.b .nil pass0 (pa_cons (pv 0) (pa_cons (pv 3) pa_nil))))) (pss_one ps_never) pss_nil)))), ?_⟩
    have hl := hfs.len
    refine ⟨_, rfl, e, _, rfl, .inr (SqT.of he), _, _, rfl, rfl, _, rfl, ?_⟩
    rw [decide_eq_false (show ¬ (4 : Int) < ((fvs.length : Nat) : Int) by omega)]
    refine iteF ?_
    refine ⟨_, rfl, e, fvs, rfl, SqT.of he, for_it walk_iten (fun i σ H' => (∃ v1 v2 : Option V, σ = [some (.ref p), some (.ref e), v1, v2]) ∧ Same H H') ⟨⟨_, _, rfl⟩, Same.refl H⟩ (fun i σ H' _ ⟨_, sm⟩ => SqT.of (sm _ _ he)) ?_ ?_⟩
    · rintro i x σ H1 H2 hi ⟨⟨v1, v2, rfl⟩, sm⟩ ⟨T, y, rfl, hT, rfl, hy⟩
      obtain ⟨a, fc, rfl, hf, ha⟩ := hfs.get hy
      have fk := fok fc (List.mem_of_getElem? hf)
      have sm2 : Same H (upd H1 T (.tup [.int (i : Nat), .ref a])) := fun b o e => same_updF hT _ _ (sm _ _ e)
      have n0 := hb.2.2.1
      refine ⟨T, _, rfl, SqT.of upd_same, rfl, _, _, rfl, _, _, rfl, rfl, ?_⟩
      refine ⟨_, rfl, _, rfl, p, a, l, n, toFact fc, rfl, hb.same sm2, ?_, toFact_ok (by omega) fk, fun H3 s3 => ⟨_, rfl, iteF ⟨⟨_, _, rfl⟩, sm2.trans s3⟩⟩⟩
      have ha' : H a = some (.tup (fctV fc)) := ha
      rw [← toFact_at fk] at ha'
      exact sm2 _ _ ha'
    · rintro σ H1 ⟨_, sm⟩
      exact q _ sm
abbrev nCw : List Str := ["history", "facts"]
theorem scCw : FnScope nCw ((["history"] : List Str) ++ (["facts"] : List Str)) (defScope sCntW) := ⟨rfl, rfl, rfl, by decide +kernel, rfl, by decide +kernel, by decide +kernel⟩
theorem ok_cntW {f C CH CB CW fC fF fI fM : Addr} {fd fdC fdF fdI fdM : FuncData} (F : Fun K "count_with" "count_with" sCntW f fd) (TH : TxH K mg CH) (T : TxN K mg CW) (mW : mg "Words" = some (.ref CW))
    (GC : FnOk P w K mg base CX0 1 fC fdC ["history"] (spChkH C CH)) (DC : Df K mg "check_history" fC fdC ["history"]) (GF : FnOk P w K mg base CX0 4 fF fdF ["board", "facts"] (spChkF C)) (DF : Df K mg "check_facts" fF fdF ["board", "facts"])
    (M : Mk K CW fI) (GI : FnOk P w K mg base CX0 5 fI fdI ["self", "board", "rows", "facts"] (spWInitF P w C CB CW)) (bI : Binds K fdI ["self", "board", "rows", "facts"] [])
    (mM : Meth K CW "many" fM) (GM : FnOk P w K mg base CX0 20 fM fdM ["self"] (spMany P w CW)) (bM : Binds K fdM ["self"] []) : FnR P w K mg base CX0 21 f (spCntWR C CH) := by
  obtain ⟨oc, od, kV, doc, pm, an, cdv, ct, osl, rfl, lk, hcd⟩ := F.ex
  refine StX.fn_star (ps := ["history"]) (pv := "facts") (k := 20) lk hcd scCw StX.cxUp_none (StX.bind_star1 (B := fun us => bindArgs (PySem.W.fnOf "count_with" "count_with" (defArgs sCntW) (defBody sCntW) (defScope sCntW) .none kV doc pm an cdv ct) ⟨us, []⟩) (p1 := "history") (pv := "facts") (fun a => rfl) (fun a r rs => rfl)) fun A outer s H vs Q E hr h => ?_
  obtain ⟨p, e, l, n, rows, fvs, facts, rfl, hP, lnd, he, hfs, fok, f4, fin⟩ := h
  have hr6 : Room (5 + 1) _ := hr.mono (by decide)
  have hr4 : Room 4 _ := hr.mono (by decide)
  have hr1 : Room 1 _ := hr.mono (by decide)
  have body : ∃ t, PSs (cxOf CX0 P w K mg base nCw "count_with" (defScope sCntW) f cdv A outer s H E).nox (defBody sCntW) t ∧ t { nx := fun _ H' => Q .non H', rt := Q } (L2.start nCw [V.ref p, V.ref e]) H := by
    refine ⟨_, pss_cons (ps_expr (pe_call GC hr1 (by rfl) DC.mg DC.kp DC.b .nil pass0 (pa_cons (pv 0) pa_nil)))
      (pss_cons (ps_expr (pe_call GF hr4 (by rfl) DF.mg DF.kp DF.b .nil pass0 (pa_cons (pe_fld (pv 0) rfl) (pa_cons (pv 1) pa_nil))))
      (pss_one (ps_ret (pe_meth0 (pe_make M GI hr6 (by rfl) mW bI .nil pass0 (pa_cons (pe_fld (pv 0) rfl) (pa_cons (pe_fld (pv 0) rfl) (pa_cons (pv 1) pa_nil)))) T.cl mM GM hr bM .nil pass0)))), ?_⟩
    obtain ⟨dx, b, r, hp, hb, ⟨vs, hv, hw⟩, ok⟩ := _root_.id hP
    have o20 := ok.2
    refine ⟨_, rfl, p, l, n, rows, rfl, hP, ?_⟩
    refine ⟨_, rfl, p, CH, dx, _, _, rfl, hp, TH.cl, TH.nB, hf_board b r, _, rfl, b, e, l, n, fvs, facts, rfl, hb, he, hfs, fun f hf => (fok f hf).1, f4, fun H1 s1 => ?_⟩
    refine ⟨_, rfl, p, CH, dx, _, _, rfl, s1 _ _ hp, TH.cl, TH.nB, hf_board b r, _, rfl, p, CH, dx, _, _, rfl, s1 _ _ hp, TH.cl, TH.nR, hf_rows b r, _, rfl, ?_⟩
    intro x0 dx0 nx0 ndx0 ne0'
    refine words_manyG (P := P) (w := w) (CB := CB) (CW := CW) ⟨hb.same s1, lnd⟩ ⟨vs, s1 _ _ hv, hw.same s1⟩ ok.1 (by omega) (s1 _ _ he) (hfs.same s1) fok (fun H3 s3 => ?_) x0 dx0 nx0 ndx0 ne0'
    rw [cnt_eqG hb.2.2.1 lnd ok.1 fun f hf => (fok f hf).1]
    exact fin H3 (s1.trans s3)
  obtain ⟨t, ht, hq⟩ := body
  exact ⟨t, ht.nox, hq⟩
end
end Gm

/-! the words that are left; a history of rows -/
namespace Gm
open PySem L2

def spLeft : Sp := fun vs H Q _ => ∃ (W E : Addr) (ws : List (List Nat)) (l : List Nat) (n : Int) (rows : List Row), vs = [.ref W, .ref E] ∧ H W = some (.lst (txs ws)) ∧ ws.length ≤ 256 ∧ (∀ w ∈ ws, (w.length : Int) = n) ∧ n ≤ 6 ∧ LRows H E rows ∧ (∀ r ∈ rows, RowOk l n r) ∧
  ∀ H' D, Same H H' → H D = none → H' D = some (.lst (txs (ws.filter (fitsB rows)))) → Q (.ref D) H'
def spHist (C CH : Addr) : Sp := fun vs H Q _ => ∃ (a : Addr) (l : List Nat) (n : Int) (rows : List Row), vs = [.str (tx l), .int n, .ref a] ∧ Alph (tx l) ∧ 1 ≤ n ∧ n ≤ 6 ∧ LRows H a rows ∧ RowsOk l n rows ∧
  ∀ H' q, Same H H' → H q = none → HistAt C CH H' q l n rows → Q (.ref q) H'
theorem fits_snoc (rows : List Row) (r : Row) (w : List Nat) : fitsB (rows ++ [r]) w = (fitsB rows w && decide (mk r.1 w = r.2)) := by
  rw [fitsB_app]
  congr 1
  unfold fitsB
  simp
section
variable {P : Program} {w : World} {K : PySem.W.Frag} {mg : Str → Option Value} {base : Heap}
abbrev nHi : List Str := ["_law_alpha", "_law_wide", "_law_entries", "_law_box", "_law_one", "_law_signs_here"]
theorem scHi : FnScope nHi ["_law_alpha", "_law_wide", "_law_entries"] (defScope sHist) := ⟨rfl, rfl, rfl, by decide +kernel, rfl, by decide +kernel, by decide +kernel⟩
theorem ok_hist {f C CH fT fI fB : Addr} {fd fdT fdB : FuncData} (F : Fun K "_law_history" "_law_history" sHist f fd) (TC : TxC K mg C) (TH : TxH K mg CH) (GT : FnOk P w K mg base CX0 7 fT fdT ["self", "guess", "told"] (spThen C CH)) (mT : Meth K CH "then" fT) (bT : Binds K fdT ["self", "guess", "told"] [])
    (GI : FnR P w K mg base CX0 5 fI (spHInitR C CH)) (M : Mk K CH fI) (GB : FnOk P w K mg base CX0 2 fB fdB ["self", "letters", "length"] (spInit C)) (MB : Mk K C fB) (bB : Binds K fdB ["self", "letters", "length"] []) : FnOk P w K mg base CX0 8 f fd ["_law_alpha", "_law_wide", "_law_entries"] (spHist C CH) := by
  refine F.ok scHi (fun vs H Q E h => ?_) (fun cdv A outer s H vs Q E hr h => ?_)
  · obtain ⟨a, l, n, rows, rfl, _⟩ := h
    rfl
  · obtain ⟨a, l, n, rows, rfl, hA, n1, n6, ⟨vs, hv, hw⟩, ok, q⟩ := h
    have nd := scHi.nd
    have hr6 : Room 6 _ := hr.mono (by decide)
    have hr3 : Room 3 _ := hr.mono (by decide)
    have l26 := hA.2.1
    rw [tx_len] at l26
    refine ⟨_, pss_cons (ps_set (i := 3) nd rfl (Or.inl rfl) (StX.pe_makeR M GI hr6 (by rfl) TH.mgC pass0 (pa_cons (pe_make MB GB hr3 (by rfl) TC.mgC bB .nil pass0 (pa_cons (pv 0) (pa_cons (pv 1) pa_nil))) pa_nil)))
      (pss_cons (ps_for PassesOwn.never rfl (pi_list (pv 2)) (pg_tup (by rfl) (pgs_cons (pg_name (i := 4) nd rfl (Or.inl rfl)) (pgs_cons (pg_name (i := 5) nd rfl (Or.inl rfl)) pgs_nil)))
        (pss_one (ps_set (i := 3) nd rfl (Or.inl rfl) (pe_meth (pv 3) TH.cl mT GT hr bT .nil pass0 (pa_cons (pv 4) (pa_cons (pv 5) pa_nil))))))
      (pss_one (ps_ret (pv 3)))), ?_⟩
    have hl := hw.len
    refine ⟨_, rfl, _, rfl, fun x dx hx hdx ne => ⟨x, dx, tx l, n, rfl, hA, n1, n6, upd_same, fun H0 b0 B0 => ⟨rfl, ?_⟩⟩⟩
    have s0 := made_same2 hx hdx b0
    refine hist_made (CH := CH) (rows := []) (show Bd C H0 x l n from ⟨B0, by omega, n1, n6⟩) .nil (show RowsOk l n [] from ⟨fun r m => (by cases m), Nat.zero_le _⟩) fun H1 x s1' nx hx => ?_
    have s1 := s0.trans s1'
    refine ⟨_, rfl, a, rfl, ⟨_, SqL.of (s1 _ _ hv)⟩, for_it walk_list (fun i σ H' => ∃ (x : Addr) (v3 v4 : Option V), σ = [some (.str (tx l)), some (.int n), some (.ref a), some (.ref x), v3, v4] ∧ Same H H' ∧ H x = none ∧ HistAt C CH H' x l n (rows.take i)) ⟨x, _, _, rfl, s1, s0.free nx, hx⟩ (fun i σ H' _ ⟨_, _, _, _, sm, _⟩ => SqL.of (sm _ _ hv)) ?_ ?_⟩
    · rintro i y σ H2 H3 hi ⟨x, v3, v4, rfl, sm, nx, hx⟩ ⟨rfl, hy⟩
      obtain ⟨a', rw_, rfl, hrow, ha⟩ := hw.get hy
      have ha2 := sm _ _ ha
      refine ⟨a', _, rfl, SqT.of ha2, rfl, _, _, rfl, _, _, rfl, rfl, ?_⟩
      have lr := (List.getElem?_eq_some_iff.mp hrow).1
      obtain ⟨dx, b', r', e, hb', hr', ok'⟩ := _root_.id hx
      refine ⟨_, rfl, x, dx, _, rfl, e, hf_none _ _ (by decide +kernel) (by decide +kernel), _, rfl, _, rfl, x, l, rw_.1, rw_.2, n, _, rfl, hx, ok.1 _ (List.mem_of_getElem? hrow), by have := ok.2; rw [List.length_take]; omega, fun H4 x' s4 nx' hx' => ?_⟩
      exact ⟨x', _, _, rfl, sm.trans s4, sm.free nx', by rw [take_snoc hrow]; exact hx'⟩
    · rintro σ H2 ⟨x, v3, v4, rfl, sm, nx, hx⟩
      rw [hl, List.take_length] at hx
      exact ⟨_, rfl, q _ x sm nx hx⟩
end
end Gm

/-! small boards; is; count -/
namespace Gm
open PySem L2

def IPairs (H : Hp) : List Addr → List (Int × Int) → Prop
  | [], [] => True
  | T :: Ts, p :: ps => H T = some (.tup [.int p.1, .int p.2]) ∧ IPairs H Ts ps
  | _, _ => False
theorem IPairs.same {H H' : Hp} (s : Same H H') : ∀ {Ts : List Addr} {ps : List (Int × Int)}, IPairs H Ts ps → IPairs H' Ts ps
  | [], [], _ => trivial
  | T :: Ts, p :: ps, h => ⟨s _ _ h.1, IPairs.same s h.2⟩
theorem IPairs.app {H : Hp} : ∀ {Ts : List Addr} {ps : List (Int × Int)} {Us : List Addr} {qs : List (Int × Int)}, IPairs H Ts ps → IPairs H Us qs → IPairs H (Ts ++ Us) (ps ++ qs)
  | [], [], _, _, _, h => h
  | T :: Ts, p :: ps, _, _, h, k => ⟨h.1, IPairs.app h.2 k⟩
theorem IPairs.len {H : Hp} : ∀ {Ts : List Addr} {ps : List (Int × Int)}, IPairs H Ts ps → Ts.length = ps.length
  | [], [], _ => rfl
  | T :: Ts, p :: ps, h => by rw [List.length_cons, List.length_cons, IPairs.len h.2]
theorem IPairs.at {H : Hp} : ∀ {Ts : List Addr} {ps : List (Int × Int)} {i : Nat} {T : Addr}, IPairs H Ts ps → Ts[i]? = some T → ∃ p, p ∈ ps ∧ H T = some (.tup [.int p.1, .int p.2])
  | T :: Ts, p :: ps, 0, U, h, e => by
    cases e
    exact ⟨p, List.mem_cons_self, h.1⟩
  | T :: Ts, p :: ps, i + 1, U, h, e => by
    obtain ⟨q, m, r⟩ := IPairs.at h.2 (i := i) (by simpa using e)
    exact ⟨q, List.mem_cons_of_mem _ m, r⟩
def taInts : List (Int × Int) → TA
  | [] => tNil
  | p :: ps => tCons (tTup (tCons (tC (.int p.1)) (tCons (tC (.int p.2)) tNil))) (taInts ps)
theorem ev_ints {σ : L2.St} : ∀ (ps : List (Int × Int)) (H : Hp) (Q : List V → Hp → Prop), (∀ H' Ts, Same H H' → IPairs H' Ts ps → Q (Ts.map V.ref) H') → taInts ps σ H Q
  | [], H, Q, k => k H [] (Same.refl H) trivial
  | p :: ps, H, Q, k => ⟨by show 2 ≤ sizeLine; decide, fun T hT => ev_ints ps _ _ fun H' Ts s P => k H' (T :: Ts) ((same_upd hT).trans s) ⟨s _ _ upd_same, P⟩⟩
theorem evI12 {a0 b0 a1 b1 a2 b2 a3 b3 a4 b4 a5 b5 a6 b6 a7 b7 a8 b8 a9 b9 a10 b10 a11 b11 : Int} {σ : L2.St} {H : Hp} {Q : List V → Hp → Prop} (k : ∀ H' Ts, Same H H' → IPairs H' Ts [(a0, b0), (a1, b1), (a2, b2), (a3, b3), (a4, b4), (a5, b5), (a6, b6), (a7, b7), (a8, b8), (a9, b9), (a10, b10), (a11, b11)] → Q (Ts.map V.ref) H') : tCons (tTup (tCons (tC (.int a0)) (tCons (tC (.int b0)) tNil))) (tCons (tTup (tCons (tC (.int a1)) (tCons (tC (.int b1)) tNil))) (tCons (tTup (tCons (tC (.int a2)) (tCons (tC (.int b2)) tNil))) (tCons (tTup (tCons (tC (.int a3)) (tCons (tC (.int b3)) tNil))) (tCons (tTup (tCons (tC (.int a4)) (tCons (tC (.int b4)) tNil))) (tCons (tTup (tCons (tC (.int a5)) (tCons (tC (.int b5)) tNil))) (tCons (tTup (tCons (tC (.int a6)) (tCons (tC (.int b6)) tNil))) (tCons (tTup (tCons (tC (.int a7)) (tCons (tC (.int b7)) tNil))) (tCons (tTup (tCons (tC (.int a8)) (tCons (tC (.int b8)) tNil))) (tCons (tTup (tCons (tC (.int a9)) (tCons (tC (.int b9)) tNil))) (tCons (tTup (tCons (tC (.int a10)) (tCons (tC (.int b10)) tNil))) (tCons (tTup (tCons (tC (.int a11)) (tCons (tC (.int b11)) tNil))) tNil))))))))))) σ H Q := ev_ints [(a0, b0), (a1, b1), (a2, b2), (a3, b3), (a4, b4), (a5, b5), (a6, b6), (a7, b7), (a8, b8), (a9, b9), (a10, b10), (a11, b11)] H Q k
theorem evI4 {a0 b0 a1 b1 a2 b2 a3 b3 : Int} {σ : L2.St} {H : Hp} {Q : List V → Hp → Prop} (k : ∀ H' Ts, Same H H' → IPairs H' Ts [(a0, b0), (a1, b1), (a2, b2), (a3, b3)] → Q (Ts.map V.ref) H') : tCons (tTup (tCons (tC (.int a0)) (tCons (tC (.int b0)) tNil))) (tCons (tTup (tCons (tC (.int a1)) (tCons (tC (.int b1)) tNil))) (tCons (tTup (tCons (tC (.int a2)) (tCons (tC (.int b2)) tNil))) (tCons (tTup (tCons (tC (.int a3)) (tCons (tC (.int b3)) tNil))) tNil))) σ H Q := ev_ints [(a0, b0), (a1, b1), (a2, b2), (a3, b3)] H Q k
theorem startL {j : Nat} {ta : TA} {tz : TS} {D : Ends} {σ : L2.St} {H : Hp} (h : ta σ H fun xs H1 => xs.length ≤ sizeLine ∧ ∀ p, H1 p = none → gName j (.ref p) σ (upd H1 p (.lst xs)) ({ D with nx := tz D } : Ends).nx) : tSeq (tAsg (tLst ta) (gName j)) tz D σ H := h
theorem asgC0 {i j k : Nat} {v : V} {ta : TA} {tz : TS} {D : Ends} {σ : L2.St} {H : Hp} {a : V} (hk : (σ.set i (some v))[k]? = some (some a)) (h : ta (σ.set i (some v)) H fun xs H1 => xs.length ≤ sizeLine ∧ ∀ p, H1 p = none → rCat a (.ref p) (upd H1 p (.lst xs)) fun y H2 => gName j y (σ.set i (some v)) H2 ({ D with nx := tz D } : Ends).nx) :
    gName i v σ H ({ D with nx := tSeq (tAsg (tOp rCat (tVar k) (tLst ta)) (gName j)) tz D } : Ends).nx := ⟨a, hk, h⟩
abbrev sz1 : List (Int × Int) := [(2, 1), (26, 1), (2, 2), (3, 2), (16, 2), (2, 3), (3, 3), (4, 3), (6, 3), (5, 3), (2, 4), (3, 4)]
abbrev sz2 : List (Int × Int) := [(4, 4), (2, 5), (3, 5), (2, 6)]
theorem sz_ok : ∀ p ∈ sz1 ++ sz2, 2 ≤ p.1 ∧ p.1 ≤ 26 ∧ 1 ≤ p.2 ∧ p.2 ≤ 6 ∧ p.1.toNat ^ p.2.toNat ≤ 256 := by decide +kernel
def spSmall : Sp := fun vs H Q _ => ∃ (p : Addr), vs = [.ref p] ∧ BowlC 27 H p ∧ ∀ H' T l n, Stir 27 p H H' → H' T = some (.tup [.str (tx l), .int n]) → Alph (tx l) → 1 ≤ n → n ≤ 6 → l.length ^ n.toNat ≤ 256 → Q (.ref T) H'
def spIs : Sp := fun vs H Q _ => ∃ (i j : Int), vs = [.int i, .int j] ∧ Q (.bl (decide (i = j))) H
def spCnt2 (C CH : Addr) : Sp := fun vs H Q _ => ∃ (p : Addr) (l : List Nat) (n : Int) (rows : List Row), vs = [.ref p] ∧ HistAt C CH H p l n rows ∧ l.Nodup ∧ ∀ H', Same H H' → Q (.int ((leftL l n rows).length : Int)) H'
section
variable {P : Program} {w : World} {K : PySem.W.Frag} {mg : Str → Option Value} {base : Heap}
theorem scC2 : FnScope ["history"] ["history"] (defScope sCount2) := ⟨rfl, rfl, rfl, by decide +kernel, rfl, by decide +kernel, by decide +kernel⟩
theorem ok_count2 {f C CH CB CW fC fI fM : Addr} {fd fdC fdI fdM : FuncData} (F : Fun K "count" "count" sCount2 f fd) (TH : TxH K mg CH) (T : TxN K mg CW) (mW : mg "Words" = some (.ref CW))
    (GC : FnOk P w K mg base CX0 1 fC fdC ["history"] (spChkH C CH)) (DC : Df K mg "check_history" fC fdC ["history"]) (M : Mk K CW fI) (GI : FnOk P w K mg base CX0 5 fI fdI ["self", "board", "rows", "facts"] (spWInit P w C CB CW)) (bI : Binds K fdI ["self", "board", "rows", "facts"] [])
    (mM : Meth K CW "many" fM) (GM : FnOk P w K mg base CX0 20 fM fdM ["self"] (spMany P w CW)) (bM : Binds K fdM ["self"] []) : FnOk P w K mg base CX0 21 f fd ["history"] (spCnt2 C CH) := by
  refine F.ok scC2 (fun vs H Q E h => ?_) (fun cdv A outer s H vs Q E hr h => ?_)
  · obtain ⟨p, l, n, rows, rfl, _⟩ := h
    rfl
  · obtain ⟨p, l, n, rows, rfl, hP, lnd, fin⟩ := h
    have hr6 : Room (5 + 1) _ := hr.mono (by decide)
    have hr1 : Room 1 _ := hr.mono (by decide)
    refine ⟨_, pss_cons (ps_expr (pe_call GC hr1 (by rfl) DC.mg DC.kp DC.b .nil pass0 (pa_cons (pv 0) pa_nil)))
      (pss_one (ps_ret (pe_meth0 (pe_make M GI hr6 (by rfl) mW bI .nil pass0 (pa_cons (pe_fld (pv 0) rfl) (pa_cons (pe_fld (pv 0) rfl) (pa_cons (pe_tup pa_nil) pa_nil)))) T.cl mM GM hr bM .nil pass0))), ?_⟩
    obtain ⟨dx, b, r, hp, hb, ⟨vs, hv, hw⟩, ok⟩ := _root_.id hP
    have o20 := ok.2
    refine ⟨_, rfl, p, l, n, rows, rfl, hP, ?_⟩
    refine ⟨_, rfl, p, CH, dx, _, _, rfl, hp, TH.cl, TH.nB, hf_board b r, _, rfl, p, CH, dx, _, _, rfl, hp, TH.cl, TH.nR, hf_rows b r, by show 0 ≤ sizeLine; decide, fun e1 z1 => ?_⟩
    have s2 := same_upd (o := .tup []) z1
    intro x0 dx0 nx0 ndx0 ne0'
    refine words_many (P := P) (w := w) (CB := CB) (CW := CW) ⟨hb.same s2, lnd⟩ ⟨vs, s2 _ _ hv, hw.same s2⟩ ok.1 (by omega) upd_same (fun H3 s3 => ?_) x0 dx0 nx0 ndx0 ne0'
    rw [cnt_eq hb.2.2.1 lnd ok.1]
    exact fin H3 (s2.trans s3)
end
end Gm

/-! k58: the right -/
namespace Gm
open PySem PySem.Spec PyProof.Rows L2

def ilD (c : List Int) : PyData := .list (c.map PyData.int)
theorem dp_ils {K : PySem.W.Frag} {H : Hp} : ∀ c : List Int, DpAll K H (c.map V.int) (c.map PyData.int)
  | [] => .nil
  | x :: c => .cons (.int x) (dp_ils c)
theorem dp_il {K : PySem.W.Frag} {H : Hp} {a : Addr} {c : List Int} (h : H a = some (.lst (c.map V.int))) : Dp K H (.ref a) (ilD c) := .lst (SqL.of h) (dp_ils c)
theorem eqv_ils : ∀ a b : List Int, PyData.eqvAll (a.map PyData.int) (b.map PyData.int) = decide (a = b)
  | [], [] => rfl
  | [], _ :: _ => rfl
  | _ :: _, [] => rfl
  | x :: a, y :: b => by
    show PyData.eqvAll (.int x :: a.map PyData.int) (.int y :: b.map PyData.int) = _
    rw [PyData.eqvAll, eqv_ils a b]
    show ((x == y) && _) = _
    by_cases h : x = y
    · subst h; simp
    · simp [h]
theorem eqv_il (a b : List Int) : PyData.eqv (ilD a) (ilD b) = decide (a = b) := by
  unfold ilD
  simp only [PyData.eqv]
  exact eqv_ils a b
theorem shaped_il (a : List Int) : SeqAt.shaped (ilD a) = true := by
  have c : ∀ x : List Int, PyData.canLayAll0 (x.map PyData.int) = true := fun x => by
    induction x with
    | nil => rfl
    | cons k x ih => exact ih
  have d : ∀ x : List Int, PyData.depthAll (x.map PyData.int) = 0 := fun x => by
    induction x with
    | nil => simp [PyData.depthAll]
    | cons k x ih =>
      show PyData.depthAll (.int k :: x.map PyData.int) = 0
      rw [PyData.depthAll, ih]
      simp [PyData.depth]
  unfold SeqAt.shaped ilD
  have e : PyData.canLay0 (.list (a.map PyData.int)) = true := by simp only [PyData.canLay0]; exact c a
  rw [e, Bool.true_and]
  exact decide_eq_true (by simp only [PyData.depth]; rw [d]; omega)
theorem TabAt.stir {c k : Nat} {p t : Addr} {H H' : Hp} {l : List Nat} {W : List (List Nat)} {n : Nat} (h : TabAt H t l W n) (hp : BowlC c H p) (R : Stir k p H H') : TabAt H' t l W n := by
  obtain ⟨A, B, bs, e1, e2, e3, e4, e5⟩ := h
  have kp : ∀ {a : Addr} {xs : List V}, H a = some (.tup xs) → H' a = some (.tup xs) := fun {a} {xs} e => R.1 _ _ (ne_bowl hp e fun _ z => by cases z) e
  exact ⟨A, B, bs, kp e1, kp e2, kp e3, e4, fun j b c h1 h2 => kp (e5 j b c h1 h2)⟩
theorem HistAt.stirT {c k : Nat} {C CH p q : Addr} {H H' : Hp} {l : List Nat} {n : Int} {rows : List Row} (h : HistAt C CH H q l n rows) (hp : BowlC c H p) (R : Stir k p H H') : HistAt C CH H' q l n rows := by
  obtain ⟨dx, b, r, e, ⟨⟨dxb, eb⟩, kb⟩, ⟨vs, ev, kv⟩, ok⟩ := h
  exact ⟨dx, b, r, R.1 _ _ (ne_bowl hp e fun _ z => by cases z) e, ⟨⟨dxb, R.1 _ _ (ne_bowl hp eb fun _ z => by cases z) eb⟩, kb⟩, ⟨vs, R.1 _ _ (ne_bowl hp ev fun _ z => by cases z) ev, kv.stir hp R⟩, ok⟩
theorem lo_leN {W : List (List Nat)} {n c : Nat} : 0 ≤ loT W n c ∧ loT W n c ≤ n := by
  unfold loT
  refine ⟨by omega, ?_⟩
  rw [List.getD_eq_getElem?_getD]
  cases e : (nuT W n c)[0]? with
  | none => show ((0 : Nat) : Int) ≤ n; omega
  | some k =>
    have := (mem_nuT.mp (List.mem_of_getElem? e)).1
    show (k : Int) ≤ n
    omega
theorem hi_leN {W : List (List Nat)} {n c : Nat} : 0 ≤ hiT W n c ∧ hiT W n c ≤ n := by
  unfold hiT
  refine ⟨by omega, ?_⟩
  rw [List.getD_eq_getElem?_getD]
  cases e : (nuT W n c)[(nuT W n c).length - 1]? with
  | none => show ((0 : Nat) : Int) ≤ n; omega
  | some k =>
    have := (mem_nuT.mp (List.mem_of_getElem? e)).1
    show (k : Int) ≤ n
    omega
theorem at_pos {W : List (List Nat)} {i c : Nat} : decide ((0 : Int) < ((W.filter fun w => decide (hasAll [Fct.at_ i c] w)).length : Int)) = atT W i c := by
  rw [Bool.eq_iff_iff, decide_eq_true_iff]
  unfold atT
  rw [List.any_eq_true, show ((0 : Int) < ((W.filter fun w => decide (hasAll [Fct.at_ i c] w)).length : Int)) ↔ 0 < (W.filter fun w => decide (hasAll [Fct.at_ i c] w)).length by omega, List.length_pos_iff_exists_mem]
  constructor
  · rintro ⟨w, hw⟩
    obtain ⟨h1, h2⟩ := List.mem_filter.mp hw
    exact ⟨w, h1, decide_eq_true (of_decide_eq_true h2 _ (List.mem_singleton.mpr rfl))⟩
  · rintro ⟨w, h1, h2⟩
    exact ⟨w, List.mem_filter.mpr ⟨h1, decide_eq_true fun f hf => by rw [List.mem_singleton.mp hf]; exact of_decide_eq_true h2⟩⟩
theorem cp_pos {W : List (List Nat)} {k c : Nat} : decide ((0 : Int) < ((W.filter fun w => decide (hasAll [Fct.least c k, Fct.most c k] w)).length : Int)) = cpT W k c := by
  rw [Bool.eq_iff_iff, decide_eq_true_iff]
  unfold cpT
  rw [List.any_eq_true, show ((0 : Int) < ((W.filter fun w => decide (hasAll [Fct.least c k, Fct.most c k] w)).length : Int)) ↔ 0 < (W.filter fun w => decide (hasAll [Fct.least c k, Fct.most c k] w)).length by omega, List.length_pos_iff_exists_mem]
  constructor
  · rintro ⟨w, hw⟩
    obtain ⟨h1, h2⟩ := List.mem_filter.mp hw
    have h3 : (k : Int) ≤ (w.count c : Int) := of_decide_eq_true h2 (Fct.least c k) List.mem_cons_self
    have h4 : (w.count c : Int) ≤ (k : Int) := of_decide_eq_true h2 (Fct.most c k) (List.mem_cons_of_mem _ List.mem_cons_self)
    exact ⟨w, h1, decide_eq_true (by omega)⟩
  · rintro ⟨w, h1, h2⟩
    have h2 : w.count c = k := of_decide_eq_true h2
    refine ⟨w, List.mem_filter.mpr ⟨h1, decide_eq_true fun f hf => ?_⟩⟩
    rcases List.mem_cons.mp hf with h | h
    · subst h
      show (k : Int) ≤ (w.count c : Int)
      omega
    · rw [List.mem_singleton.mp h]
      show (w.count c : Int) ≤ (k : Int)
      omega
def spRight58 : Sp := fun vs H Q _ => ∃ (p : Addr), vs = [.ref p] ∧ BowlC 400 H p ∧ ∀ H', Stir 400 p H H' → Q (.bl true) H'
section
variable {P : Program} {w : World} {K : PySem.W.Frag} {mg : Str → Option Value} {base : Heap} {C CH : Addr}
abbrev nR58 : List Str := ["_law_well_here", "_law_alpha", "_law_wide", "_law_hidden", "_law_at", "_law_entries", "_law_box", "_law_said", "_law_sign", "_law_least", "_law_most", "_law_each", "_law_ends", "_law_k", "_law_text_here"]
theorem scR58 : FnScope nR58 ["_law_well_here"] (defScope sRight58) := ⟨rfl, rfl, rfl, by decide +kernel, rfl, by decide +kernel, by decide +kernel⟩
theorem ok_right {f fD fM fT fU fH fB fC fX fI : Addr} {fd fdD fdM fdT fdU fdH fdB fdC fdX fdI : FuncData} (F : Fun K "_law_right" "_law_right" sRight58 f fd) (T : TxS mg) (tisinstance : mg "isinstance" = none) (ttuple : mg "tuple" = none) (tlist : mg "list" = none) (tall : mg "all" = none)
    {fW : Addr} (GW : FnR P w K mg base CX0 21 fW (spCntWR C CH)) (mgW : mg "count_with" = some (.ref fW)) (kpW : PySem.W.keepIn K (.ref fW) = true)
    (GD : FnOk P w K mg base CX0 1 fD fdD ["_law_well_here", "_law_many"] spDip) (DD : Df K mg "_law_next" fD fdD ["_law_well_here", "_law_many"])
    (GM : FnOk P w K mg base CX0 3 fM fdM ["_law_well_here"] spMed) (DM : Df K mg "_law_medium" fM fdM ["_law_well_here"])
    (GT : FnOk P w K mg base CX0 2 fT fdT ["_law_well_here", "_law_alpha", "_law_wide"] spText) (DT : Df K mg "_law_text" fT fdT ["_law_well_here", "_law_alpha", "_law_wide"])
    (GU : FnOk P w K mg base CX0 4 fU fdU ["_law_well_here", "_law_alpha", "_law_wide", "_law_hidden", "_law_many"] spTrue) (DU : Df K mg "_law_true_entries" fU fdU ["_law_well_here", "_law_alpha", "_law_wide", "_law_hidden", "_law_many"])
    (GH : FnOk P w K mg base CX0 8 fH fdH ["_law_alpha", "_law_wide", "_law_entries"] (spHist C CH)) (DH : Df K mg "_law_history" fH fdH ["_law_alpha", "_law_wide", "_law_entries"])
    (GB : FnOk P w K mg base CX0 24 fB fdB ["history"] (spTable C CH)) (DB : Df K mg "table" fB fdB ["history"])
    (GC : FnOk P w K mg base CX0 21 fC fdC ["history"] (spCnt2 C CH)) (DC : Df K mg "count" fC fdC ["history"])
    (GX : FnOk P w K mg base CX0 23 fX fdX ["history", "number"] (spNthW C CH)) (DX : Df K mg "nth_word" fX fdX ["history", "number"])
    (GI : FnOk P w K mg base CX0 1 fI fdI ["_law_alpha", "_law_wide", "_law_said", "_law_text_here"] spInTab) (DI : Df K mg "_law_within" fI fdI ["_law_alpha", "_law_wide", "_law_said", "_law_text_here"])
    : FnOk P w K mg base CX0 25 f fd ["_law_well_here"] spRight58 := by
  refine F.ok scR58 (fun vs H Q E h => ?_) (fun cdv A outer s H vs Q E hr h => ?_)
  · obtain ⟨p, rfl, _⟩ := h
    rfl
  · obtain ⟨p, rfl, hp, q⟩ := h
    have nd := scR58.nd
    have hline : sizeLine = 16777216 := sizeLine_eq
    have hrD : Room 1 _ := hr.mono (by decide)
    have hrM : Room 3 _ := hr.mono (by decide)
    have hrT : Room 2 _ := hr.mono (by decide)
    have hrU : Room 4 _ := hr.mono (by decide)
    have hrH : Room 8 _ := hr.mono (by decide)
    have hrB : Room 24 _ := hr.mono (by decide)
    have hrC : Room 21 _ := hr.mono (by decide)
    have hrX : Room 23 _ := hr.mono (by decide)
    have hrI : Room 1 _ := hr.mono (by decide)
    have hrW : Room 21 _ := hr.mono (by decide)
    refine ⟨_, pss_cons (ps_asg (pe_call GM hrM (by rfl) DM.mg DM.kp DM.b .nil pass0 (pa_cons (pv 0) pa_nil)) (pg_tup (by rfl) (pgs_cons (pg_name (i := 1) nd rfl (Or.inr rfl)) (pgs_cons (pg_name (i := 2) nd rfl (Or.inr rfl)) pgs_nil))))
      (pss_cons (ps_asg (pe_tup (pa_cons (pe_call GT hrT (by rfl) DT.mg DT.kp DT.b .nil pass0 (pa_cons (pv 0) (pa_cons (pv 1) (pa_cons (pv 2) pa_nil)))) (pa_cons (pe_call GD hrD (by rfl) DD.mg DD.kp DD.b .nil pass0 (pa_cons (pv 0) (pa_cons (pv 2) pa_nil))) pa_nil))) (pg_tup (by rfl) (pgs_cons (pg_name (i := 3) nd rfl (Or.inl rfl)) (pgs_cons (pg_name (i := 4) nd rfl (Or.inr rfl)) pgs_nil))))
      (pss_cons (ps_set (i := 5) nd rfl (Or.inl rfl) (pe_call GU hrU (by rfl) DU.mg DU.kp DU.b .nil pass0 (pa_cons (pv 0) (pa_cons (pv 1) (pa_cons (pv 2) (pa_cons (pv 3) (pa_cons (pe_call GD hrD (by rfl) DD.mg DD.kp DD.b .nil pass0 (pa_cons (pv 0) (pa_cons pe_int pa_nil))) pa_nil)))))))
      (pss_cons (ps_set (i := 6) nd rfl (Or.inr rfl) (pe_call GH hrH (by rfl) DH.mg DH.kp DH.b .nil pass0 (pa_cons (pv 1) (pa_cons (pv 2) (pa_cons (pv 5) pa_nil)))))
      (C8.pss_cut (ps_set (i := 7) nd rfl (Or.inr rfl) (pe_call GB hrB (by rfl) DB.mg DB.kp DB.b .nil pass0 (pa_cons (pv 6) pa_nil)))
      (C8.pss_cut (ps_if (PW.pt (pw_or (pt_not (pt_val (pe_callB call_isi (by rfl) tisinstance (by decide +kernel) (pa_cons (pv 7) (pa_cons (pe_bltn (v := .ty "tuple") (by rfl) ttuple (by decide +kernel) rfl) pa_nil))))) (pw_or (pt_cmpR op_ne (pe_callB call_len_seq (by rfl) T.len PySem.boot_len (pa_cons (pv 7) pa_nil)) pe_int (nomark _)) (pw_or1 (pt_cmpR (op_neD hr.units) (pe_lst (pa_cons (pe_callB call_len_seq (by rfl) T.len PySem.boot_len (pa_cons (pe_ix ix_tup (pv 7) pe_int (fun _ _ => rfl)) pa_nil)) (pa_cons (pe_callB call_len_seq (by rfl) T.len PySem.boot_len (pa_cons (pe_ix ix_tup (pv 7) pe_int (fun _ _ => rfl)) pa_nil)) pa_nil))) (pe_lst (pa_cons (pv 2) (pa_cons (pe_callB call_len_str (by rfl) T.len PySem.boot_len (pa_cons (pv 1) pa_nil)) pa_nil))) (nomark _)))))) (pss_one (ps_ret pe_bl)) pss_nil)
      (C8.pss_cut (ps_if (pt_cmpR op_ne (pe_ix ix_tup (pe_ix ix_tup (pv 7) pe_int (fun _ _ => rfl)) (pv 4) (fun _ _ => rfl)) (pe_join pe_str (pe_lc (tt := (tTest (tOp (rI0 fun i j => .bl (decide (j < i))) (tCallR (spCntWR C CH) E0 (tCons (tVar 6) (tCons (tTup (tCons (tC (.str "at")) (tCons (tVar 4) (tCons (tVar 8) tNil)))) tNil))) (tC (.int 0))))) (own := [("_law_sign", 8)]) (g := gName 8) (by rfl) nd (pi_str (pv 1)) (blkOk_by (own := [("_law_sign", 8)]) (N := nR58) (sc := defScope sRight58) (by decide +kernel)) (fun _ _ _ _ _ => pg_name (i := 8) nd rfl (Or.inl rfl)) (fun _ _ _ _ _ => by exact pts_one (pt_cmpR op_gt (pe_callR GW hrW kpW (by rfl) mgW pass0 (pa_cons (pv 6) (pa_cons (pe_tup (pa_cons pe_str (pa_cons (pv 4) (pa_cons (pv 8) pa_nil)))) pa_nil))) pe_int (nomark _))) (fun _ _ _ _ _ => by exact (pv 8)))) (nomark _)) (pss_one (ps_ret pe_bl)) pss_nil)
      (pss_cons (ps_for PassesOwn.never rfl (pi_list (pe_lst (pa_cons (pe_ix ix_str (pv 3) (pv 4) (fun _ _ => rfl)) (pa_cons (pe_ix ix_str (pv 1) (pe_call GD hrD (by rfl) DD.mg DD.kp DD.b .nil pass0 (pa_cons (pv 0) (pa_cons (pe_callB call_len_str (by rfl) T.len PySem.boot_len (pa_cons (pv 1) pa_nil)) pa_nil))) (fun _ _ => rfl)) pa_nil)))) (pg_name (i := 8) nd rfl (Or.inr rfl))
        (pss_cons (ps_asg (pe_ix ix_tup (pe_ix ix_tup (pv 7) pe_int (fun _ _ => rfl)) (pe_m1 PySem.F.slot_str_index PySem.F.type_str_index mt_sindex (pv 1) (pv 8)) (fun _ _ => rfl)) (pg_tup (by rfl) (pgs_cons (pg_name (i := 9) nd rfl (Or.inl rfl)) (pgs_cons (pg_name (i := 10) nd rfl (Or.inl rfl)) pgs_nil))))
      (pss_cons (ps_set (i := 11) nd rfl (Or.inr rfl) (pe_lc (te := (tCallR (spCntWR C CH) E0 (tCons (tVar 6) (tCons (tTup (tCons (tC (.str "least")) (tCons (tVar 8) (tCons (tVar 13) tNil)))) (tCons (tTup (tCons (tC (.str "most")) (tCons (tVar 8) (tCons (tVar 13) tNil)))) tNil))))) (own := [("_law_k", 13)]) (g := gName 13) (by rfl) nd (pi_range1 (by rfl) T.range (pa_cons (pe_op op_add (pv 2) pe_int) pa_nil)) (blkOk_by (own := [("_law_k", 13)]) (N := nR58) (sc := defScope sRight58) (by decide +kernel)) (fun _ _ _ _ _ => pg_name (i := 13) nd rfl (Or.inl rfl)) (fun _ _ _ _ _ => by exact pts_nil) (fun _ _ _ _ _ => by exact (pe_callR GW hrW kpW (by rfl) mgW pass0 (pa_cons (pv 6) (pa_cons (pe_tup (pa_cons pe_str (pa_cons (pv 8) (pa_cons (pv 13) pa_nil)))) (pa_cons (pe_tup (pa_cons pe_str (pa_cons (pv 8) (pa_cons (pv 13) pa_nil)))) pa_nil)))))))
      (pss_one (ps_if (pt_cmpR (op_neD hr.units) (pe_lc (tt := (tTest (tOp (rI0 fun i j => .bl (decide (j < i))) (tOp (rIxL K) (tVar 11) (tVar 13)) (tC (.int 0))))) (own := [("_law_k", 13)]) (g := gName 13) (by rfl) nd (pi_range1 (by rfl) T.range (pa_cons (pe_op op_add (pv 2) pe_int) pa_nil)) (blkOk_by (own := [("_law_k", 13)]) (N := nR58) (sc := defScope sRight58) (by decide +kernel)) (fun _ _ _ _ _ => pg_name (i := 13) nd rfl (Or.inl rfl)) (fun _ _ _ _ _ => by exact pts_one (pt_cmpR op_gt (pe_ix ix_list (pv 11) (pv 13) (fun _ _ => rfl)) pe_int (nomark _))) (fun _ _ _ _ _ => by exact (pv 13))) (pe_listRg rfl (by rfl) tlist (prg_2 (by rfl) T.range (pv 9) (pe_op op_add (pv 10) pe_int))) (nomark _)) (pss_one (ps_ret pe_bl)) pss_nil)))))
      (pss_cons (ps_set (i := 12) nd rfl (Or.inl rfl) (pe_lst (pa_cons (pe_call GX hrX (by rfl) DX.mg DX.kp DX.b .nil pass0 (pa_cons (pv 6) (pa_cons pe_int pa_nil))) (pa_cons (pe_call GX hrX (by rfl) DX.mg DX.kp DX.b .nil pass0 (pa_cons (pv 6) (pa_cons (pe_op op_sub (pe_call GC hrC (by rfl) DC.mg DC.kp DC.b .nil pass0 (pa_cons (pv 6) pa_nil)) pe_int) pa_nil))) (pa_cons (pv 3) pa_nil)))))
      (pss_one (ps_ret (pe_callB (cr_all rfl) (by rfl) tall (by decide +kernel) (pa_cons (pe_lc (own := [("_law_text_here", 14)]) (g := gName 14) (by rfl) nd (pi_list (pv 12)) (blkOk_by (own := [("_law_text_here", 14)]) (N := nR58) (sc := defScope sRight58) (by decide +kernel)) (fun _ _ _ _ _ => pg_name (i := 14) nd rfl (Or.inl rfl)) (fun _ _ _ _ _ => pts_nil) (fun _ _ _ _ _ => pe_call GI hrI (by rfl) DI.mg DI.kp DI.b .nil pass0 (pa_cons (pv 1) (pa_cons (pv 2) (pa_cons (pv 7) (pa_cons (pv 14) pa_nil)))))) pa_nil)))))))))))), ?_⟩
    refine ⟨_, rfl, p, rfl, hp.mono (by decide), fun H1 T1 l n R1 hT1 hA n1 n6 small => ?_⟩
    have l2 := hA.1
    have l26 := hA.2.1
    rw [tx_len] at l2 l26
    have srt := (alph_lowN hA).1
    have lnd : l.Nodup := srt.imp fun h => Nat.ne_of_lt h
    refine ⟨_, _, rfl, SqT.of hT1, rfl, _, _, rfl, _, _, rfl, rfl, ?_⟩
    refine ⟨_, rfl, _, rfl, _, rfl, p, l, n, rfl, R1.bowl hp (by decide), by omega, l26, by omega, n6, fun H2 hid R2 hl hm => ?_⟩
    have hw : Wd l n hid := ⟨by omega, hm⟩
    have R12 := R1.trans R2
    refine ⟨_, rfl, _, rfl, p, n, rfl, R12.bowl hp (by decide), by omega, by omega, fun H3 a R3 a0 an => ⟨by show 2 ≤ sizeLine; omega, fun T2 zT2 => ?_⟩⟩
    obtain ⟨ai, rfl⟩ := Int.eq_ofNat_of_zero_le a0
    have R13 := (R12.trans R3).same (same_upd (o := .tup [.str (tx hid), .int (ai : Int)]) zT2)
    refine ⟨_, _, rfl, SqT.of upd_same, rfl, _, _, rfl, _, _, rfl, rfl, ?_⟩
    generalize upd H3 T2 (.tup [.str (tx hid), .int (ai : Int)]) = H3 at R13 ⊢
    refine ⟨_, rfl, _, rfl, _, rfl, _, rfl, _, rfl, p, 4, rfl, R13.bowl hp (by decide), by decide, by decide, fun H4 m R4 m0 m4 => ?_⟩
    have R14 := R13.trans R4
    refine ⟨p, l, hid, n, m, rfl, R14.bowl hp (by decide), by omega, l26, n1, n6, hw, m0, by omega, fun H5 L rows R5 zL hL okm len => ?_⟩
    have R15 := R14.trans R5
    have okr : ∀ r ∈ rows, RowOk l n r := fun r hr' => (okm r hr').1
    have rk : RowsOk l n rows := ⟨okr, by omega⟩
    have b5 : BowlC 200 H5 p := R15.bowl hp (by decide)
    refine ⟨_, rfl, _, rfl, _, rfl, L, l, n, rows, rfl, hA, n1, n6, hL, rk, fun H6 hq s6 zq hh => ?_⟩
    have mem : hid ∈ leftL l n rows := (mem_leftL (by omega)).mpr ⟨hw.1, hw.2, fun r hr' => (okm r hr').2⟩
    have ne : leftL l n rows ≠ [] := fun z => by rw [z] at mem; cases mem
    have b6 := b5.same s6
    have hiw : ai < hid.length := by omega
    have hsm : n ≤ 5 ∨ l.length ≤ 8 := small.imp_left fun z => by omega
    have wlen : ∀ w ∈ leftL l n rows, (w.length : Int) = n := fun w hw' => ((mem_leftL (by omega)).mp hw').1
    have win : ∀ w ∈ leftL l n rows, ∀ c ∈ w, c ∈ l := fun w hw' => ((mem_leftL (by omega)).mp hw').2.1
    refine ⟨fun σ' H' => ∃ t, σ' = [some (.ref p), some (.str (tx l)), some (.int n), some (.str (tx hid)), some (.int (ai : Int)), some (.ref L), some (.ref hq), some (.ref t), none, none, none, none, none, none, none] ∧ Same H6 H' ∧ TabAt H' t l (leftL l n rows) n.toNat, ?_, ?_⟩
    · exact ⟨_, rfl, hq, l, n, rows, rfl, hh, lnd, fun H7 s7 => ⟨fun e => absurd e ne, fun _ t zt ht => ⟨t, rfl, s7, ht⟩⟩⟩
    rintro σ' H7 ⟨t, rfl, s7, ht⟩
    obtain ⟨A0, B0, bs, eT, eA, eB, lb, gb⟩ := _root_.id ht
    refine ⟨fun σ' H' => σ' = [some (.ref p), some (.str (tx l)), some (.int n), some (.str (tx hid)), some (.int (ai : Int)), some (.ref L), some (.ref hq), some (.ref t), none, none, none, none, none, none, none] ∧ Same H7 H', ?_, ?_⟩
    · refine ⟨_, rfl, _, _, _, _, _, rfl, .ty "tuple", .base (.tup eT), kit_ty (r := true) (by decide +kernel), _, rfl, iteF ?_⟩
      refine ⟨_, rfl, t, _, rfl, .inr (SqT.of eT), rfl, _, rfl, ?_⟩
      refine ite2 (fun h => absurd h (by simp)) (fun _ => ?_)
      refine ⟨_, rfl, t, _, _, _, rfl, rfl, SqT.of eT, atI_nat (j := 0) rfl, A0, _, rfl, .inr (SqT.of eA), _, rfl, t, _, _, _, rfl, rfl, SqT.of eT, atI_nat (j := 1) rfl, B0, _, rfl, .inr (SqT.of eB), by show 2 ≤ sizeLine; omega, fun Z1 z1 => ?_⟩
      refine ⟨_, rfl, _, rfl, tx l, rfl, by rw [tx_len]; omega, by show 2 ≤ sizeLine; omega, fun Z2 z2 => ?_⟩
      have sZ1 := same_upd (o := .lst [.int (((List.range n.toNat).map fun i => V.str (tx (ltT l (leftL l n rows) i))).length : Nat), .int ((bs.map V.ref).length : Nat)]) z1
      have sZ2 := same_upd (o := .lst [.int n, .int ((tx l).length : Nat)]) z2
      refine ⟨ilD [_, _], ilD [_, _], dp_il (sZ2 _ _ upd_same), dp_il upd_same, shaped_il _, shaped_il _, _, rfl, ?_⟩
      rw [eqv_il, decide_eq_true (by rw [List.length_map, List.length_range, List.length_map, lb, tx_len, show ((n.toNat : Nat) : Int) = n by omega])]
      exact iteF ⟨rfl, sZ1.trans sZ2⟩
    rintro σ' H8 ⟨rfl, s8⟩
    have hh8 := hh.same (s7.trans s8)
    have eT8 := s8 _ _ eT
    have eA8 := s8 _ _ eA
    have hA3 : (((List.range n.toNat).map fun i => V.str (tx (ltT l (leftL l n rows) i))))[ai]? = some (V.str (tx (ltT l (leftL l n rows) ai))) := by
      rw [List.getElem?_map, List.getElem?_range (by omega)]
      rfl
    refine ⟨fun σ' H' => σ' = [some (.ref p), some (.str (tx l)), some (.int n), some (.str (tx hid)), some (.int (ai : Int)), some (.ref L), some (.ref hq), some (.ref t), none, none, none, none, none, none, none] ∧ Same H8 H', ?_, ?_⟩
    · refine ⟨_, rfl, t, _, _, _, rfl, rfl, SqT.of eT8, atI_nat (j := 0) rfl, _, rfl, A0, _, _, _, rfl, rfl, SqT.of eA8, atI_nat hA3, ⟨_, rfl⟩, _, rfl, tx l, rfl, fun M zM => ?_⟩
      refine lc_it (walk_str (z := tx l)) (fun i H' => Same H8 H' ∧ H' M = some (.lst (onesV (ltT (l.take i) (leftL l n rows) ai)))) ⟨same_upd zM, upd_same⟩ (fun _ _ _ _ => trivial) ?_ ?_
      · rintro i x H9 Hx hi ⟨s9, hM⟩ ⟨rfl, c, hc, rfl⟩
        have hc' := tx_at hc
        have hlt := (List.getElem?_eq_some_iff.mp hc').1
        have hcl := List.mem_of_getElem? hc'
        have et : ltT (l.take (i + 1)) (leftL l n rows) ai = ltT (l.take i) (leftL l n rows) ai ++ (if atT (leftL l n rows) ai c = true then [c] else []) := by
          unfold ltT
          rw [take_snocV hc', List.filter_append, List.filter_cons, List.filter_nil]
        refine ⟨rfl, _, rfl, _, rfl, _, rfl, by show 3 ≤ sizeLine; omega, fun T6 z6 => ?_⟩
        have s6' := same_upd (o := .tup [.str "at", .int (ai : Int), .str (one c)]) z6
        refine ⟨[.ref hq], [.ref T6], rfl, rfl, by show 1 ≤ sizeLine; omega, fun e ze => ?_⟩
        have s7' := same_upd (o := .tup [.ref T6]) ze
        have s67 := s6'.trans s7'
        refine ⟨hq, e, l, n, rows, [.ref T6], [Fct.at_ ai c], rfl, hh8.same (s9.trans s67), lnd, upd_same, .cons (f := .at_ ai c) (s7' _ _ upd_same) .nil, fun f hf => by rw [List.mem_singleton.mp hf]; exact ⟨⟨by omega, hcl⟩, trivial⟩, by show 1 ≤ 4; decide, fun He se => ⟨_, _, rfl, rfl, _, rfl, ?_⟩⟩
        rw [at_pos, et]
        have sE := s67.trans se
        refine ite2 (fun h => ?_) (fun h => ?_)
        · rw [if_pos h]
          refine ⟨_, rfl, _, sE _ _ hM, ?_, fun u o z => ?_, ?_⟩
          · rw [onesV_len]
            have h1 : (ltT (l.take i) (leftL l n rows) ai).length ≤ (l.take i).length := List.length_filter_le _ _
            rw [List.length_take] at h1
            omega
          · rw [upd_ne (ne_of_none z zM)]
            exact sE _ _ (s9 u o z)
          · rw [upd_same, onesV_app]
            rfl
        · rw [if_neg h, List.append_nil]
          exact ⟨s9.trans sE, sE _ _ hM⟩
      rintro H9 ⟨s9, hM⟩
      rw [tx_size, List.take_length] at hM
      refine ⟨_, M, (ltT l (leftL l n rows) ai).map one, rfl, rfl, .inl (SqL.of (by rw [List.map_map]; exact hM)), ?_, rfl, _, rfl, ?_⟩
      · rw [sum_one, List.length_map]
        have h1 : (ltT l (leftL l n rows) ai).length ≤ l.length := List.length_filter_le _ _
        show (ltT l (leftL l n rows) ai).length + (ltT l (leftL l n rows) ai).length * 0 ≤ 16777216
        omega
      have ej : Txt.join (Str.ofString "") ((ltT l (leftL l n rows) ai).map one) = tx (ltT l (leftL l n rows) ai) := join_one _
      rw [show Txt.join "" ((ltT l (leftL l n rows) ai).map one) = tx (ltT l (leftL l n rows) ai) from ej, decide_eq_true rfl]
      exact iteF ⟨rfl, s9⟩
    rintro σ' H9 ⟨rfl, s9⟩
    have b9 := b6.same (s7.trans (s8.trans s9))
    have k6 : Stir 176 p H H9 := (((R15.same s6).same s7).same s8).same s9
    have hh9 := hh8.same s9
    have hT9 : TabAt H9 t l (leftL l n rows) n.toNat := (ht.same s8).same s9
    have l256 : l.length ≤ sizeLine := by omega
    have hc0 : hid[ai]? = some hid[ai] := List.getElem?_eq_getElem hiw
    have hc0m : hid[ai] ∈ l := hw.2 _ (List.getElem_mem hiw)
    generalize hid[ai] = c0 at hc0 hc0m
    refine ⟨_, rfl, _, rfl, tx hid, _, c0, rfl, rfl, by rw [tx_len]; omega, atI_nat hc0, _, rfl, _, rfl, _, rfl, tx l, rfl, by rw [tx_len]; omega, p, _, rfl, b9.mono (by decide), by rw [tx_len]; omega, by rw [tx_len]; omega, fun H10 d R10 d0 dl => ?_⟩
    rw [tx_len] at dl
    obtain ⟨di, rfl⟩ := Int.eq_ofNat_of_zero_le d0
    have hdi : di < l.length := by omega
    have hc1 : l[di]? = some l[di] := List.getElem?_eq_getElem hdi
    have hc1m : l[di] ∈ l := List.getElem_mem hdi
    generalize l[di] = c1 at hc1 hc1m
    refine ⟨tx l, _, c1, rfl, rfl, by rw [tx_len]; omega, atI_nat hc1, by show 2 ≤ sizeLine; omega, fun Z zZ => ?_⟩
    have hh10 : HistAt C CH H10 hq l n rows := hh9.stirT b9 R10
    have hT10 : TabAt H10 t l (leftL l n rows) n.toNat := hT9.stir b9 R10
    have k10 : Stir 177 p H H10 := k6.trans R10
    have sZ := same_upd (o := .lst [V.str (one c0), V.str (one c1)]) zZ
    have hZ : upd H10 Z (.lst [V.str (one c0), V.str (one c1)]) Z = some (.lst [V.str (one c0), V.str (one c1)]) := upd_same
    have hh11 := hh10.same sZ
    have hT11 := hT10.same sZ
    have k11 := k10.same sZ
    generalize upd H10 Z (.lst [V.str (one c0), V.str (one c1)]) = H11 at sZ hZ hh11 hT11 k11 ⊢
    obtain ⟨A1, B1, bt, fT, fA, fB, lt, gt⟩ := _root_.id hT11
    refine ⟨Z, rfl, ⟨_, SqL.of hZ⟩, for_list (xs := [V.str (one c0), V.str (one c1)]) (fun i σ H' => ∃ v8 v9 v10 v11 : Option V, σ = [some (.ref p), some (.str (tx l)), some (.int n), some (.str (tx hid)), some (.int (ai : Int)), some (.ref L), some (.ref hq), some (.ref t), v8, v9, v10, v11, none, none, none] ∧ Same H11 H')
      ⟨_, _, _, _, rfl, Same.refl H11⟩ (fun i σ H' _ h => ?_) ?_ ?_⟩
    · obtain ⟨_, _, _, _, _, s⟩ := h
      exact SqL.of (s _ _ hZ)
    · rintro i x σ H12 hx ⟨v8, v9, v10, v11, rfl, s12⟩
      obtain ⟨c, rfl, hcl⟩ : ∃ c, x = V.str (one c) ∧ c ∈ l := by
        match i, hx with
        | 0, h => exact ⟨c0, (Option.some.inj h).symm, hc0m⟩
        | 1, h => exact ⟨c1, (Option.some.inj h).symm, hc1m⟩
        | i + 2, h => simp at h
      obtain ⟨rest, hocc⟩ := index_oneN hcl
      have hix : l.idxOf c < l.length := List.idxOf_lt_length_iff.mpr hcl
      have hlc : l[l.idxOf c]? = some c := by
        rw [List.getElem?_eq_getElem hix, List.getElem_idxOf hix]
      have hbj : bt[l.idxOf c]? = some (bt[l.idxOf c]'(by omega)) := List.getElem?_eq_getElem _
      generalize bt[l.idxOf c]'(by omega) = b at hbj
      have eb := gt _ b c hbj hlc
      have hbv : (bt.map V.ref)[l.idxOf c]? = some (V.ref b) := by
        rw [List.getElem?_map, hbj]
        rfl
      refine ⟨_, rfl, t, _, _, _, rfl, rfl, SqT.of (s12 _ _ fT), atI_nat (j := 1) rfl, _, rfl, ⟨_, rfl⟩, _, rfl, tx l, one c, _, rest, rfl, rfl, hocc, B1, _, _, _, rfl, rfl, SqT.of (s12 _ _ fB), atI_nat hbv, b, _, rfl, SqT.of (s12 _ _ eb), rfl, _, _, rfl, _, _, rfl, rfl, ?_⟩
      have hhx := hh11.same s12
      refine ⟨_, rfl, _, _, rfl, rfl, _, rfl, by omega, by omega, fun D zD => ?_⟩
      refine lc_range (lo := 0) (n := (n + 1).toNat) (fun i H' => Same H12 H' ∧ H' D = some (.lst ((List.range i).map fun (k : Nat) => V.int (((leftL l n rows).filter fun w => decide (hasAll [Fct.least c k, Fct.most c k] w)).length : Int)))) ⟨same_upd zD, upd_same⟩ ?_ ?_
      · rintro k H13 hk ⟨s13, hD⟩
        rw [Int.zero_add]
        refine ⟨rfl, _, rfl, _, rfl, _, rfl, by show 3 ≤ sizeLine; omega, fun T6 z6 => ⟨_, rfl, _, rfl, by show 3 ≤ sizeLine; omega, fun T7 z7 => ⟨[.ref hq], [.ref T6, .ref T7], rfl, rfl, by show 2 ≤ sizeLine; omega, fun e ze => ?_⟩⟩⟩
        have t6 := same_upd (o := .tup [.str "least", .str (one c), .int (k : Int)]) z6
        have t7 := same_upd (o := .tup [.str "most", .str (one c), .int (k : Int)]) z7
        have te := same_upd (o := .tup [.ref T6, .ref T7]) ze
        have sA := (t6.trans t7).trans te
        refine ⟨hq, e, l, n, rows, [.ref T6, .ref T7], [Fct.least c k, Fct.most c k], rfl, hhx.same (s13.trans sA), lnd, upd_same, .cons (f := .least c k) ((t7.trans te) _ _ upd_same) (.cons (f := .most c k) (te _ _ upd_same) .nil), fun f hf => ?_, by show 2 ≤ 4; decide, fun He se => ?_⟩
        · rcases List.mem_cons.mp hf with h | h
          · subst h
            exact ⟨⟨hcl, by omega, by omega⟩, trivial⟩
          · rw [List.mem_singleton.mp h]
            exact ⟨⟨hcl, by omega, by omega⟩, trivial⟩
        · have sE := sA.trans se
          refine ⟨_, sE _ _ hD, by rw [List.length_map, List.length_range]; omega, fun u o z => ?_, ?_⟩
          · rw [upd_ne (ne_of_none z zD)]
            exact sE _ _ (s13 u o z)
          · rw [upd_same, range_snocV, List.map_append]
            rfl
      rintro H13 ⟨s13, hD⟩
      refine ⟨_, rfl, _, _, rfl, rfl, _, rfl, by omega, by omega, fun D2 zD2 => ?_⟩
      refine lc_range (lo := 0) (n := (n + 1).toNat) (fun i H' => Same H13 H' ∧ H' D2 = some (.lst (ivs ((List.range i).filter fun k => cpT (leftL l n rows) k c)))) ⟨same_upd zD2, upd_same⟩ ?_ ?_
      · rintro k H14 hk ⟨s14, hD2⟩
        rw [Int.zero_add]
        have hk2 : (((List.range (n + 1).toNat).map fun (k : Nat) => V.int (((leftL l n rows).filter fun w => decide (hasAll [Fct.least c k, Fct.most c k] w)).length : Int)))[k]? = some (V.int (((leftL l n rows).filter fun w => decide (hasAll [Fct.least c k, Fct.most c k] w)).length : Int)) := by
          rw [List.getElem?_map, List.getElem?_range hk]
          rfl
        refine ⟨rfl, _, rfl, _, rfl, D, _, _, _, rfl, rfl, SqL.of (s14 _ _ hD), atI_nat hk2, _, _, rfl, rfl, _, rfl, ?_⟩
        rw [cp_pos, range_snocV, List.filter_append, List.filter_cons, List.filter_nil]
        refine ite2 (fun h => ?_) (fun h => ?_)
        · rw [if_pos h]
          refine ⟨_, rfl, _, hD2, ?_, fun u o z => ?_, ?_⟩
          · rw [ivs_len]
            have h1 := List.length_filter_le (fun k => cpT (leftL l n rows) k c) (List.range k)
            rw [List.length_range] at h1
            omega
          · rw [upd_ne (ne_of_none z zD2)]
            exact s14 u o z
          · rw [upd_same]
            unfold ivs
            rw [List.map_append]
            rfl
        · rw [if_neg h, List.append_nil]
          exact ⟨s14, hD2⟩
      rintro H14 ⟨s14, hD2⟩
      have hnu : (List.range (n + 1).toNat).filter (fun k => cpT (leftL l n rows) k c) = nuT (leftL l n rows) n.toNat c := by
        unfold nuT
        rw [show (n + 1).toNat = n.toNat + 1 by omega]
      rw [hnu] at hD2
      obtain ⟨lo1, lo2⟩ := lo_leN (W := leftL l n rows) (n := n.toNat) (c := c)
      obtain ⟨hi1, hi2⟩ := hi_leN (W := leftL l n rows) (n := n.toNat) (c := c)
      refine ⟨_, rfl, _, rfl, _, _, rfl, rfl, _, _, rfl, rfl, RgOk.of_le lo1 (by omega) (by omega) (by omega), fun Z5 z5 => ?_⟩
      have s5 := same_upd (o := .lst (rgV (loT (leftL l n rows) n.toNat c) (hiT (leftL l n rows) n.toNat c + 1))) z5
      have e5 : upd H14 Z5 (.lst (rgV (loT (leftL l n rows) n.toNat c) (hiT (leftL l n rows) n.toNat c + 1))) Z5 = some (.lst (ivs (nuT (leftL l n rows) n.toNat c))) := by
        rw [upd_same, nu_is (by omega) okr ne]
      have ivm : ivs (nuT (leftL l n rows) n.toNat c) = ((nuT (leftL l n rows) n.toNat c).map fun (k : Nat) => (k : Int)).map V.int := by
        unfold ivs
        rw [List.map_map]
        rfl
      have d2 := s5 _ _ hD2
      rw [ivm] at d2 e5
      refine ⟨ilD _, ilD _, dp_il d2, dp_il e5, shaped_il _, shaped_il _, _, rfl, ?_⟩
      rw [eqv_il, decide_eq_true rfl]
      exact iteF ⟨_, _, _, _, rfl, ((s12.trans s13).trans s14).trans s5⟩
    rintro σ H12 ⟨v8, v9, v10, v11, rfl, s12⟩
    have hh12 := hh11.same s12
    have hT12 := hT11.same s12
    have k12 := k11.same s12
    have pos : 0 < (leftL l n rows).length := List.length_pos_iff.mpr ne
    have h0 : (leftL l n rows)[0]? = some (leftL l n rows)[0] := List.getElem?_eq_getElem pos
    have h1 : (leftL l n rows)[(leftL l n rows).length - 1]? = some ((leftL l n rows)[(leftL l n rows).length - 1]'(by omega)) := List.getElem?_eq_getElem _
    have m0' := List.getElem_mem pos
    have m1' := List.getElem_mem (show (leftL l n rows).length - 1 < (leftL l n rows).length by omega)
    generalize (leftL l n rows)[0] = w0 at h0 m0'
    generalize (leftL l n rows)[(leftL l n rows).length - 1]'(by omega) = w1 at h1 m1'
    refine ⟨_, rfl, hq, l, w0, n, rows, 0, rfl, hh12, srt, h0, hsm, fun H13 s13 => ?_⟩
    refine ⟨_, rfl, _, rfl, hq, l, n, rows, rfl, hh12.same s13, lnd, fun H14 s14 => ⟨_, _, rfl, rfl, ?_⟩⟩
    refine ⟨hq, l, w1, n, rows, (leftL l n rows).length - 1, by dsimp only; rw [show (((leftL l n rows).length : Nat) : Int) - 1 = (((leftL l n rows).length - 1 : Nat) : Int) by omega]; rfl, (hh12.same s13).same s14, srt, h1, hsm, fun H15 s15 => ⟨_, rfl, by show 3 ≤ sizeLine; omega, fun Z7 z7 => ?_⟩⟩
    have s16 := ((s13.trans s14).trans s15).trans (same_upd (o := .lst [.str (tx w0), .str (tx w1), .str (tx hid)]) z7)
    have hZ7 : upd H15 Z7 (.lst [.str (tx w0), .str (tx w1), .str (tx hid)]) Z7 = some (.lst (txs [w0, w1, hid])) := upd_same
    generalize upd H15 Z7 (.lst [.str (tx w0), .str (tx w1), .str (tx hid)]) = H16 at s16 hZ7 ⊢
    have hT16 := hT12.same s16
    have k16 := k12.same s16
    refine ⟨_, rfl, Z7, rfl, ⟨_, SqL.of hZ7⟩, fun M zM => lc_list (fun j H' => Same H16 H' ∧ H' M = some (.lst ((List.replicate j true).map V.bl))) ⟨same_upd zM, upd_same⟩ (fun j H' _ h => SqL.of (h.1 _ _ hZ7)) ?_ ?_⟩
    · rintro j x H17 hx ⟨s17, hM⟩
      obtain ⟨z, rfl, hz⟩ := txs_get hx
      have jl := (List.getElem?_eq_some_iff.mp hx).1
      have hzW : z ∈ leftL l n rows := by
        rcases List.mem_cons.mp (List.mem_of_getElem? hz) with h | h
        · exact h ▸ m0'
        · rcases List.mem_cons.mp h with h | h
          · exact h ▸ m1'
          · exact (List.mem_singleton.mp h) ▸ mem
      refine ⟨rfl, _, rfl, _, rfl, _, rfl, _, rfl, t, l, n, leftL l n rows, z, rfl, hT16.same s17, hzW, wlen z hzW, win z hzW, l26, n1, n6, fun H18 s18 => ⟨_, s18 _ _ hM, by rw [List.length_map, List.length_replicate]; rw [txs_len] at jl; simp at jl; omega, fun u o y => ?_, ?_⟩⟩
      · rw [upd_ne (ne_of_none y zM)]
        exact s18 _ _ (s17 u o y)
      · rw [upd_same, List.replicate_succ', List.map_append]
        rfl
    rintro H17 ⟨s17, hM⟩
    refine ⟨M, _, rfl, SqL.of hM, ?_⟩
    rw [show (List.replicate (txs [w0, w1, hid]).length true).all id = true from by simp]
    exact q H17 ((k16.same s17).mono (by decide))
end
end Gm

namespace Gm
open PySem PySem.Spec PyProof.Rows L2

def spLaw (K : PySem.W.Frag) : Sp := fun vs H Q _ => ∃ (a : Addr) (ns : List Int), vs = [.ref a] ∧ SqL K H a (ns.map V.int) ∧ ns.length ≤ 63 ∧ ∀ H', Q (.bl true) H'
structure TxL (mg : Str → Option Value) : Prop where
  range : mg "range" = none
section
variable {P : Program} {w : World} {K : PySem.W.Frag} {mg : Str → Option Value} {base : Heap}
abbrev nL : List Str := ["_law_script", "_law_k"]
theorem scL : FnScope nL ["_law_script"] (defScope sLaw) := ⟨rfl, rfl, rfl, by decide +kernel, rfl, by decide +kernel, by decide +kernel⟩
theorem ok_law {f fB fR : Addr} {fd fdB fdR : FuncData} (F : Fun K "law" "law" sLaw f fd) (T : TxL mg)
    (GB : FnOk P w K mg base CX0 1 fB fdB ["_law_script", "_law_k"] (spBowl K)) (DB : Df K mg "_law_well" fB fdB ["_law_script", "_law_k"])
    (GR : FnOk P w K mg base CX0 25 fR fdR ["_law_well_here"] spRight58) (DR : Df K mg "_law_right" fR fdR ["_law_well_here"]) : FnOk P w K mg base CX0 26 f fd ["_law_script"] (spLaw K) := by
  refine F.ok scL (fun vs H Q E h => ?_) (fun cdv A outer s H vs Q E hr h => ?_)
  · obtain ⟨a, ns, rfl, _⟩ := h
    rfl
  · obtain ⟨a, ns, rfl, hS, hlen, q⟩ := h
    have nd := scL.nd
    have hr1 : Room 1 _ := hr.mono (by decide)
    refine ⟨_, pss_cons (ps_for PassesOwn.never rfl (pi_range1 (by rfl) T.range (pa_cons pe_int pa_nil)) (pg_name (i := 1) nd rfl (Or.inl rfl))
        (pss_one (ps_if (pt_not (pt_val (pe_call GR hr (by rfl) DR.mg DR.kp DR.b .nil pass0 (pa_cons (pe_call GB hr1 (by rfl) DB.mg DB.kp DB.b .nil pass0 (pa_cons (pv 0) (pa_cons (pv 1) pa_nil))) pa_nil)))) (pss_one (ps_ret pe_bl)) pss_nil)))
      (pss_one (ps_ret pe_bl)), ?_⟩
    refine ⟨2, rfl, by decide, by decide, for_range (n := 2) (fun i σ H' => (∃ v : Option V, σ = [some (.ref a), v]) ∧ Same H H') ⟨⟨_, rfl⟩, Same.refl H⟩ ?_ ?_⟩
    · rintro i σ H1 hi ⟨⟨v, rfl⟩, sm⟩
      refine ⟨_, rfl, _, rfl, a, ns, _, rfl, sm.seq hS, hlen, by omega, fun H2 p s2 np B => ⟨p, rfl, B.mono (by decide), fun H3 R3 => ⟨_, rfl, iteF ⟨⟨_, rfl⟩, ?_⟩⟩⟩⟩
      exact fun b o e => R3.1 b o (ne_of_none (sm _ _ e) np) (s2 b o (sm b o e))
    · rintro σ H1 _
      exact q _
end
end Gm

namespace Gm
open PySem PySem.Spec PyProof.Rows L2 LamX
theorem FnG.imp {P : Program} {w : World} {K : PySem.W.Frag} {mg : Str → Option Value} {base : Heap} {CX : CXT} {k : Nat} {f : Addr} {fd : FuncData} {ps : List Str} {sp sp' : Sp} (F : FnG P w K mg base CX k f fd ps sp) (h : ∀ {vs H Q E}, sp' vs H Q E → sp vs H Q E) : FnG P w K mg base CX k f fd ps sp' := ⟨fun q => F.many (h q), fun g hr e b r q => F.goes g hr e b r (h q)⟩
theorem all_mk {P : Program} {w : World} {K : PySem.W.Frag} {h : Heap} {mg : Str → Option Value} {fa CB CH CW CD fB fD fAl fMd fSg fTe fNe fTr fW fA fCn fOv fIw fAm fIr fCw fCm fCb fCr fCh fMo fLh fWc fWn fWg fOd fHw fCt fNw fQp fQn fQo fQl fQt fKl fKt fKf fKw fQi fR fL fI fHi fTh fFi fXt fXl fYf fYo fXi fXn fXu fXw fXf fXa fXm fYi fYr fYk fYl fYa fYm : Addr} (X : K.In h) (G : h.Ns mainGlobals mg) (hfa : mg "law" = some (.ref fa))
    {odB anB odD anD odAl anAl odMd anMd odSg anSg odTe anTe odNe anNe odTr anTr odW anW odA anA odCn anCn odOv anOv odIw anIw odAm anAm odIr anIr odCw anCw odCm anCm odCb anCb odCr anCr odCh anCh odMo anMo odLh anLh odWc anWc odWn anWn odWg anWg odOd anOd odHw anHw odCt anCt odNw anNw odQp anQp odQn anQn odQo anQo odQl anQl odQt anQt odKl anKl odKt anKt odKf anKf odKw anKw odQi anQi odR anR odL anL odI anI odHi anHi odTh anTh odFi anFi odXt anXt odXl anXl odYf anYf odYo anYo odXi anXi odXn anXn odXu anXu odXw anXw odXf anXf odXa anXa odXm anXm odYi anYi odYr anYr odYk anYk odYl anYl odYa anYa odYm anYm : Option Addr} {slB slD slAl slMd slSg slTe slNe slTr slW slA slCn slOv slIw slAm slIr slCw slCm slCb slCr slCh slMo slLh slWc slWn slWg slOd slHw slCt slNw slQp slQn slQo slQl slQt slKl slKt slKf slKw slQi slR slL slI slHi slTh slFi slXt slXl slYf slYo slXi slXn slXu slXw slXf slXa slXm slYi slYr slYk slYl slYa slYm : Array (Option Value)} {ocB kVB dcB pmB cdB ctB ocD kVD dcD pmD cdD ctD ocAl kVAl dcAl pmAl cdAl ctAl ocMd kVMd dcMd pmMd cdMd ctMd ocSg kVSg dcSg pmSg cdSg ctSg ocTe kVTe dcTe pmTe cdTe ctTe ocNe kVNe dcNe pmNe cdNe ctNe ocTr kVTr dcTr pmTr cdTr ctTr ocW kVW dcW pmW cdW ctW ocA kVA dcA pmA cdA ctA ocCn kVCn dcCn pmCn cdCn ctCn ocOv kVOv dcOv pmOv cdOv ctOv ocIw kVIw dcIw pmIw cdIw ctIw ocAm kVAm dcAm pmAm cdAm ctAm ocIr kVIr dcIr pmIr cdIr ctIr ocCw kVCw dcCw pmCw cdCw ctCw ocCm kVCm dcCm pmCm cdCm ctCm ocCb kVCb dcCb pmCb cdCb ctCb ocCr kVCr dcCr pmCr cdCr ctCr ocCh kVCh dcCh pmCh cdCh ctCh ocMo kVMo dcMo pmMo cdMo ctMo ocLh kVLh dcLh pmLh cdLh ctLh ocWc kVWc dcWc pmWc cdWc ctWc ocWn kVWn dcWn pmWn cdWn ctWn ocWg kVWg dcWg pmWg cdWg ctWg ocOd kVOd dcOd pmOd cdOd ctOd ocHw kVHw dcHw pmHw cdHw ctHw ocCt kVCt dcCt pmCt cdCt ctCt ocNw kVNw dcNw pmNw cdNw ctNw ocQp kVQp dcQp pmQp cdQp ctQp ocQn kVQn dcQn pmQn cdQn ctQn ocQo kVQo dcQo pmQo cdQo ctQo ocQl kVQl dcQl pmQl cdQl ctQl ocQt kVQt dcQt pmQt cdQt ctQt ocKl kVKl dcKl pmKl cdKl ctKl ocKt kVKt dcKt pmKt cdKt ctKt ocKf kVKf dcKf pmKf cdKf ctKf ocKw kVKw dcKw pmKw cdKw ctKw ocQi kVQi dcQi pmQi cdQi ctQi ocR kVR dcR pmR cdR ctR ocL kVL dcL pmL cdL ctL ocI kVI dcI pmI cdI ctI ocHi kVHi dcHi pmHi cdHi ctHi ocTh kVTh dcTh pmTh cdTh ctTh ocFi kVFi dcFi pmFi cdFi ctFi ocXt kVXt dcXt pmXt cdXt ctXt ocXl kVXl dcXl pmXl cdXl ctXl ocYf kVYf dcYf pmYf cdYf ctYf ocYo kVYo dcYo pmYo cdYo ctYo ocXi kVXi dcXi pmXi cdXi ctXi ocXn kVXn dcXn pmXn cdXn ctXn ocXu kVXu dcXu pmXu cdXu ctXu ocXw kVXw dcXw pmXw cdXw ctXw ocXf kVXf dcXf pmXf cdXf ctXf ocXa kVXa dcXa pmXa cdXa ctXa ocXm kVXm dcXm pmXm cdXm ctXm ocYi kVYi dcYi pmYi cdYi ctYi ocYr kVYr dcYr pmYr cdYr ctYr ocYk kVYk dcYk pmYk cdYk ctYk ocYl kVYl dcYl pmYl cdYl ctYl ocYa kVYa dcYa pmYa cdYa ctYa ocYm kVYm dcYm pmYm cdYm ctYm : Value}
    {tkML tkMM tkMR tkLO tkMA tkMF : Tok}
    (gCB : PySem.W.nsIn K mainGlobals "Board" = some (some (.ref CB)))
    (gCH : PySem.W.nsIn K mainGlobals "History" = some (some (.ref CH)))
    (gCW : PySem.W.nsIn K mainGlobals "Words" = some (some (.ref CW)))
    (gCD : PySem.W.nsIn K mainGlobals "Bounds" = some (some (.ref CD)))
    (aB : PySem.W.nsIn K mainGlobals "_law_well" = some (some (.ref fB)))
    (lB : K.lookup fB = some ⟨ocB, odB, .func (PySem.W.fnOf "_law_well" "_law_well" (defArgs sWell) (defBody sWell) (defScope sWell) .none kVB dcB pmB anB cdB ctB), slB⟩)
    (cB : PySem.W.codeIn K cdB "_law_well" = true)
    (kB : PySem.W.keepIn K (.ref fB) = true)
    (aD : PySem.W.nsIn K mainGlobals "_law_next" = some (some (.ref fD)))
    (lD : K.lookup fD = some ⟨ocD, odD, .func (PySem.W.fnOf "_law_next" "_law_next" (defArgs sNext) (defBody sNext) (defScope sNext) .none kVD dcD pmD anD cdD ctD), slD⟩)
    (cD : PySem.W.codeIn K cdD "_law_next" = true)
    (kD : PySem.W.keepIn K (.ref fD) = true)
    (aAl : PySem.W.nsIn K mainGlobals "_law_alphabet" = some (some (.ref fAl)))
    (lAl : K.lookup fAl = some ⟨ocAl, odAl, .func (PySem.W.fnOf "_law_alphabet" "_law_alphabet" (defArgs sAlp) (defBody sAlp) (defScope sAlp) .none kVAl dcAl pmAl anAl cdAl ctAl), slAl⟩)
    (cAl : PySem.W.codeIn K cdAl "_law_alphabet" = true)
    (kAl : PySem.W.keepIn K (.ref fAl) = true)
    (aMd : PySem.W.nsIn K mainGlobals "_law_medium" = some (some (.ref fMd)))
    (lMd : K.lookup fMd = some ⟨ocMd, odMd, .func (PySem.W.fnOf "_law_medium" "_law_medium" (defArgs sMed) (defBody sMed) (defScope sMed) .none kVMd dcMd pmMd anMd cdMd ctMd), slMd⟩)
    (cMd : PySem.W.codeIn K cdMd "_law_medium" = true)
    (kMd : PySem.W.keepIn K (.ref fMd) = true)
    (aSg : PySem.W.nsIn K mainGlobals "_law_signs" = some (some (.ref fSg)))
    (lSg : K.lookup fSg = some ⟨ocSg, odSg, .func (PySem.W.fnOf "_law_signs" "_law_signs" (defArgs sSg) (defBody sSg) (defScope sSg) .none kVSg dcSg pmSg anSg cdSg ctSg), slSg⟩)
    (cSg : PySem.W.codeIn K cdSg "_law_signs" = true)
    (kSg : PySem.W.keepIn K (.ref fSg) = true)
    (aTe : PySem.W.nsIn K mainGlobals "_law_text" = some (some (.ref fTe)))
    (lTe : K.lookup fTe = some ⟨ocTe, odTe, .func (PySem.W.fnOf "_law_text" "_law_text" (defArgs sText) (defBody sText) (defScope sText) .none kVTe dcTe pmTe anTe cdTe ctTe), slTe⟩)
    (cTe : PySem.W.codeIn K cdTe "_law_text" = true)
    (kTe : PySem.W.keepIn K (.ref fTe) = true)
    (aNe : PySem.W.nsIn K mainGlobals "_law_near" = some (some (.ref fNe)))
    (lNe : K.lookup fNe = some ⟨ocNe, odNe, .func (PySem.W.fnOf "_law_near" "_law_near" (defArgs sNear) (defBody sNear) (defScope sNear) .none kVNe dcNe pmNe anNe cdNe ctNe), slNe⟩)
    (cNe : PySem.W.codeIn K cdNe "_law_near" = true)
    (kNe : PySem.W.keepIn K (.ref fNe) = true)
    (aTr : PySem.W.nsIn K mainGlobals "_law_true_entries" = some (some (.ref fTr)))
    (lTr : K.lookup fTr = some ⟨ocTr, odTr, .func (PySem.W.fnOf "_law_true_entries" "_law_true_entries" (defArgs sTrue) (defBody sTrue) (defScope sTrue) .none kVTr dcTr pmTr anTr cdTr ctTr), slTr⟩)
    (cTr : PySem.W.codeIn K cdTr "_law_true_entries" = true)
    (kTr : PySem.W.keepIn K (.ref fTr) = true)
    (aW : PySem.W.nsIn K mainGlobals "is_integer_within" = some (some (.ref fW)))
    (lW : K.lookup fW = some ⟨ocW, odW, .func (PySem.W.fnOf "is_integer_within" "is_integer_within" (defArgs sWithin) (defBody sWithin) (defScope sWithin) .none kVW dcW pmW anW cdW ctW), slW⟩)
    (cW : PySem.W.codeIn K cdW "is_integer_within" = true)
    (kW : PySem.W.keepIn K (.ref fW) = true)
    (aA : PySem.W.nsIn K mainGlobals "is_alphabet" = some (some (.ref fA)))
    (lA : K.lookup fA = some ⟨ocA, odA, .func (PySem.W.fnOf "is_alphabet" "is_alphabet" (defArgs sAlpha) (defBody sAlpha) (defScope sAlpha) .none kVA dcA pmA anA cdA ctA), slA⟩)
    (cA : PySem.W.codeIn K cdA "is_alphabet" = true)
    (kA : PySem.W.keepIn K (.ref fA) = true)
    (aCn : PySem.W.nsIn K mainGlobals "count_words" = some (some (.ref fCn)))
    (lCn : K.lookup fCn = some ⟨ocCn, odCn, .func (PySem.W.fnOf "count_words" "count_words" (defArgs sCount) (defBody sCount) (defScope sCount) .none kVCn dcCn pmCn anCn cdCn ctCn), slCn⟩)
    (cCn : PySem.W.codeIn K cdCn "count_words" = true)
    (kCn : PySem.W.keepIn K (.ref fCn) = true)
    (aOv : PySem.W.nsIn K mainGlobals "is_text_over" = some (some (.ref fOv)))
    (lOv : K.lookup fOv = some ⟨ocOv, odOv, .func (PySem.W.fnOf "is_text_over" "is_text_over" (defArgs sOver) (defBody sOver) (defScope sOver) .none kVOv dcOv pmOv anOv cdOv ctOv), slOv⟩)
    (cOv : PySem.W.codeIn K cdOv "is_text_over" = true)
    (kOv : PySem.W.keepIn K (.ref fOv) = true)
    (aIw : PySem.W.nsIn K mainGlobals "is_word" = some (some (.ref fIw)))
    (lIw : K.lookup fIw = some ⟨ocIw, odIw, .func (PySem.W.fnOf "is_word" "is_word" (defArgs sIsW) (defBody sIsW) (defScope sIsW) .none kVIw dcIw pmIw anIw cdIw ctIw), slIw⟩)
    (cIw : PySem.W.codeIn K cdIw "is_word" = true)
    (kIw : PySem.W.keepIn K (.ref fIw) = true)
    (aAm : PySem.W.nsIn K mainGlobals "are_marks" = some (some (.ref fAm)))
    (lAm : K.lookup fAm = some ⟨ocAm, odAm, .func (PySem.W.fnOf "are_marks" "are_marks" (defArgs sAreM) (defBody sAreM) (defScope sAreM) .none kVAm dcAm pmAm anAm cdAm ctAm), slAm⟩)
    (cAm : PySem.W.codeIn K cdAm "are_marks" = true)
    (kAm : PySem.W.keepIn K (.ref fAm) = true)
    (aIr : PySem.W.nsIn K mainGlobals "is_row" = some (some (.ref fIr)))
    (lIr : K.lookup fIr = some ⟨ocIr, odIr, .func (PySem.W.fnOf "is_row" "is_row" (defArgs sIsRow) (defBody sIsRow) (defScope sIsRow) .none kVIr dcIr pmIr anIr cdIr ctIr), slIr⟩)
    (cIr : PySem.W.codeIn K cdIr "is_row" = true)
    (kIr : PySem.W.keepIn K (.ref fIr) = true)
    (aCw : PySem.W.nsIn K mainGlobals "check_word" = some (some (.ref fCw)))
    (lCw : K.lookup fCw = some ⟨ocCw, odCw, .func (PySem.W.fnOf "check_word" "check_word" (defArgs sChkW) (defBody sChkW) (defScope sChkW) .none kVCw dcCw pmCw anCw cdCw ctCw), slCw⟩)
    (cCw : PySem.W.codeIn K cdCw "check_word" = true)
    (kCw : PySem.W.keepIn K (.ref fCw) = true)
    (aCm : PySem.W.nsIn K mainGlobals "check_marks" = some (some (.ref fCm)))
    (lCm : K.lookup fCm = some ⟨ocCm, odCm, .func (PySem.W.fnOf "check_marks" "check_marks" (defArgs sChkM) (defBody sChkM) (defScope sChkM) .none kVCm dcCm pmCm anCm cdCm ctCm), slCm⟩)
    (cCm : PySem.W.codeIn K cdCm "check_marks" = true)
    (kCm : PySem.W.keepIn K (.ref fCm) = true)
    (aCb : PySem.W.nsIn K mainGlobals "check_board" = some (some (.ref fCb)))
    (lCb : K.lookup fCb = some ⟨ocCb, odCb, .func (PySem.W.fnOf "check_board" "check_board" (defArgs sChkB) (defBody sChkB) (defScope sChkB) .none kVCb dcCb pmCb anCb cdCb ctCb), slCb⟩)
    (cCb : PySem.W.codeIn K cdCb "check_board" = true)
    (kCb : PySem.W.keepIn K (.ref fCb) = true)
    (aCr : PySem.W.nsIn K mainGlobals "check_rows" = some (some (.ref fCr)))
    (lCr : K.lookup fCr = some ⟨ocCr, odCr, .func (PySem.W.fnOf "check_rows" "check_rows" (defArgs sChkR) (defBody sChkR) (defScope sChkR) .none kVCr dcCr pmCr anCr cdCr ctCr), slCr⟩)
    (cCr : PySem.W.codeIn K cdCr "check_rows" = true)
    (kCr : PySem.W.keepIn K (.ref fCr) = true)
    (aCh : PySem.W.nsIn K mainGlobals "check_history" = some (some (.ref fCh)))
    (lCh : K.lookup fCh = some ⟨ocCh, odCh, .func (PySem.W.fnOf "check_history" "check_history" (defArgs sChkH) (defBody sChkH) (defScope sChkH) .none kVCh dcCh pmCh anCh cdCh ctCh), slCh⟩)
    (cCh : PySem.W.codeIn K cdCh "check_history" = true)
    (kCh : PySem.W.keepIn K (.ref fCh) = true)
    (aMo : PySem.W.nsIn K mainGlobals "marks_of" = some (some (.ref fMo)))
    (lMo : K.lookup fMo = some ⟨ocMo, odMo, .func (PySem.W.fnOf "marks_of" "marks_of" (defArgs sMarksOf) (defBody sMarksOf) (defScope sMarksOf) .none kVMo dcMo pmMo anMo cdMo ctMo), slMo⟩)
    (cMo : PySem.W.codeIn K cdMo "marks_of" = true)
    (kMo : PySem.W.keepIn K (.ref fMo) = true)
    (aLh : PySem.W.nsIn K mainGlobals "_law_history" = some (some (.ref fLh)))
    (lLh : K.lookup fLh = some ⟨ocLh, odLh, .func (PySem.W.fnOf "_law_history" "_law_history" (defArgs sHist) (defBody sHist) (defScope sHist) .none kVLh dcLh pmLh anLh cdLh ctLh), slLh⟩)
    (cLh : PySem.W.codeIn K cdLh "_law_history" = true)
    (kLh : PySem.W.keepIn K (.ref fLh) = true)
    (aWc : PySem.W.nsIn K mainGlobals "common_letters" = some (some (.ref fWc)))
    (lWc : K.lookup fWc = some ⟨ocWc, odWc, .func (PySem.W.fnOf "common_letters" "common_letters" (defArgs sComm) (defBody sComm) (defScope sComm) .none kVWc dcWc pmWc anWc cdWc ctWc), slWc⟩)
    (cWc : PySem.W.codeIn K cdWc "common_letters" = true)
    (kWc : PySem.W.keepIn K (.ref fWc) = true)
    (aWn : PySem.W.nsIn K mainGlobals "counted_letters" = some (some (.ref fWn)))
    (lWn : K.lookup fWn = some ⟨ocWn, odWn, .func (PySem.W.fnOf "counted_letters" "counted_letters" (defArgs sCnt) (defBody sCnt) (defScope sCnt) .none kVWn dcWn pmWn anWn cdWn ctWn), slWn⟩)
    (cWn : PySem.W.codeIn K cdWn "counted_letters" = true)
    (kWn : PySem.W.keepIn K (.ref fWn) = true)
    (aWg : PySem.W.nsIn K mainGlobals "marks_given" = some (some (.ref fWg)))
    (lWg : K.lookup fWg = some ⟨ocWg, odWg, .func (PySem.W.fnOf "marks_given" "marks_given" (defArgs sGiven) (defBody sGiven) (defScope sGiven) .none kVWg dcWg pmWg anWg cdWg ctWg), slWg⟩)
    (cWg : PySem.W.codeIn K cdWg "marks_given" = true)
    (kWg : PySem.W.keepIn K (.ref fWg) = true)
    (aOd : PySem.W.nsIn K mainGlobals "is_in_order" = some (some (.ref fOd)))
    (lOd : K.lookup fOd = some ⟨ocOd, odOd, .func (PySem.W.fnOf "is_in_order" "is_in_order" (defArgs sOrd) (defBody sOrd) (defScope sOrd) .none kVOd dcOd pmOd anOd cdOd ctOd), slOd⟩)
    (cOd : PySem.W.codeIn K cdOd "is_in_order" = true)
    (kOd : PySem.W.keepIn K (.ref fOd) = true)
    (aHw : PySem.W.nsIn K mainGlobals "has_word" = some (some (.ref fHw)))
    (lHw : K.lookup fHw = some ⟨ocHw, odHw, .func (PySem.W.fnOf "has_word" "has_word" (defArgs sHas) (defBody sHas) (defScope sHas) .none kVHw dcHw pmHw anHw cdHw ctHw), slHw⟩)
    (cHw : PySem.W.codeIn K cdHw "has_word" = true)
    (kHw : PySem.W.keepIn K (.ref fHw) = true)
    (aCt : PySem.W.nsIn K mainGlobals "count" = some (some (.ref fCt)))
    (lCt : K.lookup fCt = some ⟨ocCt, odCt, .func (PySem.W.fnOf "count" "count" (defArgs sCount2) (defBody sCount2) (defScope sCount2) .none kVCt dcCt pmCt anCt cdCt ctCt), slCt⟩)
    (cCt : PySem.W.codeIn K cdCt "count" = true)
    (kCt : PySem.W.keepIn K (.ref fCt) = true)
    (aNw : PySem.W.nsIn K mainGlobals "nth_word" = some (some (.ref fNw)))
    (lNw : K.lookup fNw = some ⟨ocNw, odNw, .func (PySem.W.fnOf "nth_word" "nth_word" (defArgs sNthW) (defBody sNthW) (defScope sNthW) .none kVNw dcNw pmNw anNw cdNw ctNw), slNw⟩)
    (cNw : PySem.W.codeIn K cdNw "nth_word" = true)
    (kNw : PySem.W.keepIn K (.ref fNw) = true)
    (aQp : PySem.W.nsIn K mainGlobals "places_of_letter" = some (some (.ref fQp)))
    (lQp : K.lookup fQp = some ⟨ocQp, odQp, .func (PySem.W.fnOf "places_of_letter" "places_of_letter" (defArgs sPlcL) (defBody sPlcL) (defScope sPlcL) .none kVQp dcQp pmQp anQp cdQp ctQp), slQp⟩)
    (cQp : PySem.W.codeIn K cdQp "places_of_letter" = true)
    (kQp : PySem.W.keepIn K (.ref fQp) = true)
    (aQn : PySem.W.nsIn K mainGlobals "numbers_of_copies" = some (some (.ref fQn)))
    (lQn : K.lookup fQn = some ⟨ocQn, odQn, .func (PySem.W.fnOf "numbers_of_copies" "numbers_of_copies" (defArgs sNumC) (defBody sNumC) (defScope sNumC) .none kVQn dcQn pmQn anQn cdQn ctQn), slQn⟩)
    (cQn : PySem.W.codeIn K cdQn "numbers_of_copies" = true)
    (kQn : PySem.W.keepIn K (.ref fQn) = true)
    (aQo : PySem.W.nsIn K mainGlobals "occurrences" = some (some (.ref fQo)))
    (lQo : K.lookup fQo = some ⟨ocQo, odQo, .func (PySem.W.fnOf "occurrences" "occurrences" (defArgs sOcc) (defBody sOcc) (defScope sOcc) .none kVQo dcQo pmQo anQo cdQo ctQo), slQo⟩)
    (cQo : PySem.W.codeIn K cdQo "occurrences" = true)
    (kQo : PySem.W.keepIn K (.ref fQo) = true)
    (aQl : PySem.W.nsIn K mainGlobals "letters_at" = some (some (.ref fQl)))
    (lQl : K.lookup fQl = some ⟨ocQl, odQl, .func (PySem.W.fnOf "letters_at" "letters_at" (defArgs sLtA) (defBody sLtA) (defScope sLtA) .none kVQl dcQl pmQl anQl cdQl ctQl), slQl⟩)
    (cQl : PySem.W.codeIn K cdQl "letters_at" = true)
    (kQl : PySem.W.keepIn K (.ref fQl) = true)
    (aQt : PySem.W.nsIn K mainGlobals "table" = some (some (.ref fQt)))
    (lQt : K.lookup fQt = some ⟨ocQt, odQt, .func (PySem.W.fnOf "table" "table" (defArgs sTable) (defBody sTable) (defScope sTable) .none kVQt dcQt pmQt anQt cdQt ctQt), slQt⟩)
    (cQt : PySem.W.codeIn K cdQt "table" = true)
    (kQt : PySem.W.keepIn K (.ref fQt) = true)
    (aKl : PySem.W.nsIn K mainGlobals "is_letter" = some (some (.ref fKl)))
    (lKl : K.lookup fKl = some ⟨ocKl, odKl, .func (PySem.W.fnOf "is_letter" "is_letter" (defArgs sIsL) (defBody sIsL) (defScope sIsL) .none kVKl dcKl pmKl anKl cdKl ctKl), slKl⟩)
    (cKl : PySem.W.codeIn K cdKl "is_letter" = true)
    (kKl : PySem.W.keepIn K (.ref fKl) = true)
    (aKt : PySem.W.nsIn K mainGlobals "is_fact" = some (some (.ref fKt)))
    (lKt : K.lookup fKt = some ⟨ocKt, odKt, .func (PySem.W.fnOf "is_fact" "is_fact" (defArgs sIsF) (defBody sIsF) (defScope sIsF) .none kVKt dcKt pmKt anKt cdKt ctKt), slKt⟩)
    (cKt : PySem.W.codeIn K cdKt "is_fact" = true)
    (kKt : PySem.W.keepIn K (.ref fKt) = true)
    (aKf : PySem.W.nsIn K mainGlobals "check_facts" = some (some (.ref fKf)))
    (lKf : K.lookup fKf = some ⟨ocKf, odKf, .func (PySem.W.fnOf "check_facts" "check_facts" (defArgs sChkF) (defBody sChkF) (defScope sChkF) .none kVKf dcKf pmKf anKf cdKf ctKf), slKf⟩)
    (cKf : PySem.W.codeIn K cdKf "check_facts" = true)
    (kKf : PySem.W.keepIn K (.ref fKf) = true)
    (aKw : PySem.W.nsIn K mainGlobals "count_with" = some (some (.ref fKw)))
    (lKw : K.lookup fKw = some ⟨ocKw, odKw, .func (PySem.W.fnOf "count_with" "count_with" (defArgs sCntW) (defBody sCntW) (defScope sCntW) .none kVKw dcKw pmKw anKw cdKw ctKw), slKw⟩)
    (cKw : PySem.W.codeIn K cdKw "count_with" = true)
    (kKw : PySem.W.keepIn K (.ref fKw) = true)
    (aQi : PySem.W.nsIn K mainGlobals "_law_within" = some (some (.ref fQi)))
    (lQi : K.lookup fQi = some ⟨ocQi, odQi, .func (PySem.W.fnOf "_law_within" "_law_within" (defArgs sInTab) (defBody sInTab) (defScope sInTab) .none kVQi dcQi pmQi anQi cdQi ctQi), slQi⟩)
    (cQi : PySem.W.codeIn K cdQi "_law_within" = true)
    (kQi : PySem.W.keepIn K (.ref fQi) = true)
    (aR : PySem.W.nsIn K mainGlobals "_law_right" = some (some (.ref fR)))
    (lR : K.lookup fR = some ⟨ocR, odR, .func (PySem.W.fnOf "_law_right" "_law_right" (defArgs sRight58) (defBody sRight58) (defScope sRight58) .none kVR dcR pmR anR cdR ctR), slR⟩)
    (cR : PySem.W.codeIn K cdR "_law_right" = true)
    (kR : PySem.W.keepIn K (.ref fR) = true)
    (aL : PySem.W.nsIn K mainGlobals "law" = some (some (.ref fL)))
    (lL : K.lookup fL = some ⟨ocL, odL, .func (PySem.W.fnOf "law" "law" (defArgs sLaw) (defBody sLaw) (defScope sLaw) .none kVL dcL pmL anL cdL ctL), slL⟩)
    (cL : PySem.W.codeIn K cdL "law" = true)
    (kL : PySem.W.keepIn K (.ref fL) = true)
    (aI : PySem.W.findIn K (.ref CB) "__init__" = some (some (.ref fI)))
    (iI : PySem.W.isFn K (.ref fI) = true)
    (lI : K.lookup fI = some ⟨ocI, odI, .func (PySem.W.fnOf "__init__" "Board.__init__" (defArgs sInit) (defBody sInit) (defScope sInit) .none kVI dcI pmI anI cdI ctI), slI⟩)
    (cI : PySem.W.codeIn K cdI "Board.__init__" = true)
    (kI : PySem.W.keepIn K (.ref fI) = true)
    (aHi : PySem.W.findIn K (.ref CH) "__init__" = some (some (.ref fHi)))
    (iHi : PySem.W.isFn K (.ref fHi) = true)
    (lHi : K.lookup fHi = some ⟨ocHi, odHi, .func (PySem.W.fnOf "__init__" "History.__init__" (defArgs sHInit) (defBody sHInit) (defScope sHInit) .none kVHi dcHi pmHi anHi cdHi ctHi), slHi⟩)
    (cHi : PySem.W.codeIn K cdHi "History.__init__" = true)
    (kHi : PySem.W.keepIn K (.ref fHi) = true)
    (aTh : PySem.W.findIn K (.ref CH) "then" = some (some (.ref fTh)))
    (iTh : PySem.W.isFn K (.ref fTh) = true)
    (lTh : K.lookup fTh = some ⟨ocTh, odTh, .func (PySem.W.fnOf "then" "History.then" (defArgs sThen) (defBody sThen) (defScope sThen) .none kVTh dcTh pmTh anTh cdTh ctTh), slTh⟩)
    (cTh : PySem.W.codeIn K cdTh "History.then" = true)
    (kTh : PySem.W.keepIn K (.ref fTh) = true)
    (aFi : PySem.W.findIn K (.ref CH) "fits" = some (some (.ref fFi)))
    (iFi : PySem.W.isFn K (.ref fFi) = true)
    (lFi : K.lookup fFi = some ⟨ocFi, odFi, .func (PySem.W.fnOf "fits" "History.fits" (defArgs sFits) (defBody sFits) (defScope sFits) .none kVFi dcFi pmFi anFi cdFi ctFi), slFi⟩)
    (cFi : PySem.W.codeIn K cdFi "History.fits" = true)
    (kFi : PySem.W.keepIn K (.ref fFi) = true)
    (aXt : PySem.W.findIn K (.ref CW) "nth" = some (some (.ref fXt)))
    (iXt : PySem.W.isFn K (.ref fXt) = true)
    (lXt : K.lookup fXt = some ⟨ocXt, odXt, .func (PySem.W.fnOf "nth" "Words.nth" (defArgs sNth) (defBody sNth) (defScope sNth) .none kVXt dcXt pmXt anXt cdXt ctXt), slXt⟩)
    (cXt : PySem.W.codeIn K cdXt "Words.nth" = true)
    (kXt : PySem.W.keepIn K (.ref fXt) = true)
    (aXl : PySem.W.findIn K (.ref CW) "letter_at" = some (some (.ref fXl)))
    (iXl : PySem.W.isFn K (.ref fXl) = true)
    (lXl : K.lookup fXl = some ⟨ocXl, odXl, .func (PySem.W.fnOf "letter_at" "Words.letter_at" (defArgs sLetAt) (defBody sLetAt) (defScope sLetAt) .none kVXl dcXl pmXl anXl cdXl ctXl), slXl⟩)
    (cXl : PySem.W.codeIn K cdXl "Words.letter_at" = true)
    (kXl : PySem.W.keepIn K (.ref fXl) = true)
    (aYf : PySem.W.findIn K (.ref CD) "take_fact" = some (some (.ref fYf)))
    (iYf : PySem.W.isFn K (.ref fYf) = true)
    (lYf : K.lookup fYf = some ⟨ocYf, odYf, .func (PySem.W.fnOf "take_fact" "Bounds.take_fact" (defArgs sTakeF) (defBody sTakeF) (defScope sTakeF) .none kVYf dcYf pmYf anYf cdYf ctYf), slYf⟩)
    (cYf : PySem.W.codeIn K cdYf "Bounds.take_fact" = true)
    (kYf : PySem.W.keepIn K (.ref fYf) = true)
    (aYo : PySem.W.findIn K (.ref CD) "of_letter" = some (some (.ref fYo)))
    (iYo : PySem.W.isFn K (.ref fYo) = true)
    (lYo : K.lookup fYo = some ⟨ocYo, odYo, .func (PySem.W.fnOf "of_letter" "Bounds.of_letter" (defArgs sOfL) (defBody sOfL) (defScope sOfL) .none kVYo dcYo pmYo anYo cdYo ctYo), slYo⟩)
    (cYo : PySem.W.codeIn K cdYo "Bounds.of_letter" = true)
    (kYo : PySem.W.keepIn K (.ref fYo) = true)
    (aXi : PySem.W.findIn K (.ref CW) "__init__" = some (some (.ref fXi)))
    (iXi : PySem.W.isFn K (.ref fXi) = true)
    (lXi : K.lookup fXi = some ⟨ocXi, odXi, .func (PySem.W.fnOf "__init__" "Words.__init__" (defArgs sWInit) (defBody sWInit) (defScope sWInit) .none kVXi dcXi pmXi anXi cdXi ctXi), slXi⟩)
    (cXi : PySem.W.codeIn K cdXi "Words.__init__" = true)
    (kXi : PySem.W.keepIn K (.ref fXi) = true)
    (aXn : PySem.W.findIn K (.ref CW) "none_used" = some (some (.ref fXn)))
    (iXn : PySem.W.isFn K (.ref fXn) = true)
    (lXn : K.lookup fXn = some ⟨ocXn, odXn, .func (PySem.W.fnOf "none_used" "Words.none_used" (defArgs sNone) (defBody sNone) (defScope sNone) .none kVXn dcXn pmXn anXn cdXn ctXn), slXn⟩)
    (cXn : PySem.W.codeIn K cdXn "Words.none_used" = true)
    (kXn : PySem.W.keepIn K (.ref fXn) = true)
    (aXu : PySem.W.findIn K (.ref CW) "used_with" = some (some (.ref fXu)))
    (iXu : PySem.W.isFn K (.ref fXu) = true)
    (lXu : K.lookup fXu = some ⟨ocXu, odXu, .func (PySem.W.fnOf "used_with" "Words.used_with" (defArgs sUsed) (defBody sUsed) (defScope sUsed) .none kVXu dcXu pmXu anXu cdXu ctXu), slXu⟩)
    (cXu : PySem.W.codeIn K cdXu "Words.used_with" = true)
    (kXu : PySem.W.keepIn K (.ref fXu) = true)
    (aXw : PySem.W.findIn K (.ref CW) "many_with" = some (some (.ref fXw)))
    (iXw : PySem.W.isFn K (.ref fXw) = true)
    (lXw : K.lookup fXw = some ⟨ocXw, odXw, .func (PySem.W.fnOf "many_with" "Words.many_with" (defArgs sManyW) (defBody sManyW) (defScope sManyW) .none kVXw dcXw pmXw anXw cdXw ctXw), slXw⟩)
    (cXw : PySem.W.codeIn K cdXw "Words.many_with" = true)
    (kXw : PySem.W.keepIn K (.ref fXw) = true)
    (aXf : PySem.W.findIn K (.ref CW) "many_from" = some (some (.ref fXf)))
    (iXf : PySem.W.isFn K (.ref fXf) = true)
    (lXf : K.lookup fXf = some ⟨ocXf, odXf, .func (PySem.W.fnOf "many_from" "Words.many_from" (defArgs sManyF) (defBody sManyF) (defScope sManyF) .none kVXf dcXf pmXf anXf cdXf ctXf), slXf⟩)
    (cXf : PySem.W.codeIn K cdXf "Words.many_from" = true)
    (kXf : PySem.W.keepIn K (.ref fXf) = true)
    (aXa : PySem.W.findIn K (.ref CW) "add_ways" = some (some (.ref fXa)))
    (iXa : PySem.W.isFn K (.ref fXa) = true)
    (lXa : K.lookup fXa = some ⟨ocXa, odXa, .func (PySem.W.fnOf "add_ways" "Words.add_ways" (defArgs sAddW) (defBody sAddW) (defScope sAddW) .none kVXa dcXa pmXa anXa cdXa ctXa), slXa⟩)
    (cXa : PySem.W.codeIn K cdXa "Words.add_ways" = true)
    (kXa : PySem.W.keepIn K (.ref fXa) = true)
    (aXm : PySem.W.findIn K (.ref CW) "many" = some (some (.ref fXm)))
    (iXm : PySem.W.isFn K (.ref fXm) = true)
    (lXm : K.lookup fXm = some ⟨ocXm, odXm, .func (PySem.W.fnOf "many" "Words.many" (defArgs sMany) (defBody sMany) (defScope sMany) .none kVXm dcXm pmXm anXm cdXm ctXm), slXm⟩)
    (cXm : PySem.W.codeIn K cdXm "Words.many" = true)
    (kXm : PySem.W.keepIn K (.ref fXm) = true)
    (aYi : PySem.W.findIn K (.ref CD) "__init__" = some (some (.ref fYi)))
    (iYi : PySem.W.isFn K (.ref fYi) = true)
    (lYi : K.lookup fYi = some ⟨ocYi, odYi, .func (PySem.W.fnOf "__init__" "Bounds.__init__" (defArgs sBInit) (defBody sBInit) (defScope sBInit) .none kVYi dcYi pmYi anYi cdYi ctYi), slYi⟩)
    (cYi : PySem.W.codeIn K cdYi "Bounds.__init__" = true)
    (kYi : PySem.W.keepIn K (.ref fYi) = true)
    (aYr : PySem.W.findIn K (.ref CD) "take_row" = some (some (.ref fYr)))
    (iYr : PySem.W.isFn K (.ref fYr) = true)
    (lYr : K.lookup fYr = some ⟨ocYr, odYr, .func (PySem.W.fnOf "take_row" "Bounds.take_row" (defArgs sTakeR) (defBody sTakeR) (defScope sTakeR) .none kVYr dcYr pmYr anYr cdYr ctYr), slYr⟩)
    (cYr : PySem.W.codeIn K cdYr "Bounds.take_row" = true)
    (kYr : PySem.W.keepIn K (.ref fYr) = true)
    (aYk : PySem.W.findIn K (.ref CD) "keep_only" = some (some (.ref fYk)))
    (iYk : PySem.W.isFn K (.ref fYk) = true)
    (lYk : K.lookup fYk = some ⟨ocYk, odYk, .func (PySem.W.fnOf "keep_only" "Bounds.keep_only" (defArgs sKeep) (defBody sKeep) (defScope sKeep) .none kVYk dcYk pmYk anYk cdYk ctYk), slYk⟩)
    (cYk : PySem.W.codeIn K cdYk "Bounds.keep_only" = true)
    (kYk : PySem.W.keepIn K (.ref fYk) = true)
    (aYl : PySem.W.findIn K (.ref CD) "leave_out" = some (some (.ref fYl)))
    (iYl : PySem.W.isFn K (.ref fYl) = true)
    (lYl : K.lookup fYl = some ⟨ocYl, odYl, .func (PySem.W.fnOf "leave_out" "Bounds.leave_out" (defArgs sLeave) (defBody sLeave) (defScope sLeave) .none kVYl dcYl pmYl anYl cdYl ctYl), slYl⟩)
    (cYl : PySem.W.codeIn K cdYl "Bounds.leave_out" = true)
    (kYl : PySem.W.keepIn K (.ref fYl) = true)
    (aYa : PySem.W.findIn K (.ref CD) "ask_least" = some (some (.ref fYa)))
    (iYa : PySem.W.isFn K (.ref fYa) = true)
    (lYa : K.lookup fYa = some ⟨ocYa, odYa, .func (PySem.W.fnOf "ask_least" "Bounds.ask_least" (defArgs sAskL) (defBody sAskL) (defScope sAskL) .none kVYa dcYa pmYa anYa cdYa ctYa), slYa⟩)
    (cYa : PySem.W.codeIn K cdYa "Bounds.ask_least" = true)
    (kYa : PySem.W.keepIn K (.ref fYa) = true)
    (aYm : PySem.W.findIn K (.ref CD) "ask_most" = some (some (.ref fYm)))
    (iYm : PySem.W.isFn K (.ref fYm) = true)
    (lYm : K.lookup fYm = some ⟨ocYm, odYm, .func (PySem.W.fnOf "ask_most" "Bounds.ask_most" (defArgs sAskM) (defBody sAskM) (defScope sAskM) .none kVYm dcYm pmYm anYm cdYm ctYm), slYm⟩)
    (cYm : PySem.W.codeIn K cdYm "Bounds.ask_most" = true)
    (kYm : PySem.W.keepIn K (.ref fYm) = true)
    (nML : PySem.W.nsIn K mainGlobals "MOST_LENGTH" = some (some (.int 6 tkML)))
    (nMM : PySem.W.nsIn K mainGlobals "MOST_LETTERS" = some (some (.int 26 tkMM)))
    (nMR : PySem.W.nsIn K mainGlobals "MOST_ROWS" = some (some (.int 20 tkMR)))
    (nLO : PySem.W.nsIn K mainGlobals "LOWERCASE" = some (some (.str lowTxt tkLO)))
    (nMA : PySem.W.nsIn K mainGlobals "MARKS" = some (some (.str (Str.ofString "012") tkMA)))
    (nMF : PySem.W.nsIn K mainGlobals "MOST_FACTS" = some (some (.int 4 tkMF)))
    (zlen : PySem.W.nsIn K mainGlobals "len" = some none)
    (zint : PySem.W.nsIn K mainGlobals "int" = some none)
    (zabs : PySem.W.nsIn K mainGlobals "abs" = some none)
    (zdivmod : PySem.W.nsIn K mainGlobals "divmod" = some none)
    (zisinstance : PySem.W.nsIn K mainGlobals "isinstance" = some none)
    (zbool : PySem.W.nsIn K mainGlobals "bool" = some none)
    (zstr : PySem.W.nsIn K mainGlobals "str" = some none)
    (zrange : PySem.W.nsIn K mainGlobals "range" = some none)
    (zlist : PySem.W.nsIn K mainGlobals "list" = some none)
    (zall : PySem.W.nsIn K mainGlobals "all" = some none)
    (zmax : PySem.W.nsIn K mainGlobals "max" = some none)
    (zmin : PySem.W.nsIn K mainGlobals "min" = some none)
    (zzip : PySem.W.nsIn K mainGlobals "zip" = some none)
    (ztuple : PySem.W.nsIn K mainGlobals "tuple" = some none)
    (zenumerate : PySem.W.nsIn K mainGlobals "enumerate" = some none)
    (zsum : PySem.W.nsIn K mainGlobals "sum" = some none)
    (gtc : PySem.W.specialIn K (.builtin "object.__class__") "__get__" = some (some (.builtin "getset_descriptor.__get__")))
    (tkc : PySem.W.takesIn K (.builtin "object.__class__") = some true)
    (pg : PySem.W.plainGet K CB Str.empty = true)
    (hd : PySem.W.hasDictIn K CB = true)
    (po : PySem.W.plainOver K CB = true)
    (sa : PySem.W.findIn K (.ref CB) "__setattr__" = some (some (.builtin "object.__setattr__")))
    (mk : PySem.W.makesIn K CB = true)
    (kc : PySem.W.keepIn K (.ref CB) = true)
    (pgH : PySem.W.plainGet K CH Str.empty = true)
    (hdH : PySem.W.hasDictIn K CH = true)
    (poH : PySem.W.plainOver K CH = true)
    (saH : PySem.W.findIn K (.ref CH) "__setattr__" = some (some (.builtin "object.__setattr__")))
    (mkH : PySem.W.makesIn K CH = true)
    (kcH : PySem.W.keepIn K (.ref CH) = true)
    (naL : PySem.W.findIn K (.ref CB) "letters" = some none)
    (naN : PySem.W.findIn K (.ref CB) "length" = some none)
    (naS : PySem.W.findIn K (.ref CB) "size" = some none)
    (ac : PySem.W.findIn K (.ref CB) "__class__" = some (some (.builtin "object.__class__")))
    (ob : PySem.W.mroIn K CB (.type "object") = some true)
    (kitO : PySem.W.kitOne K (.ref CB) (.ref CB) = some true)
    (nbB : PySem.W.findIn K (.ref CH) "board" = some none)
    (nbR : PySem.W.findIn K (.ref CH) "rows" = some none)
    (kitH : PySem.W.kitOne K (.ref CH) (.ref CH) = some true)
    (acH : PySem.W.findIn K (.ref CH) "__class__" = some (some (.builtin "object.__class__")))
    (obH : PySem.W.mroIn K CH (.type "object") = some true)
    (pgCW : PySem.W.plainGet K CW Str.empty = true)
    (hdCW : PySem.W.hasDictIn K CW = true)
    (poCW : PySem.W.plainOver K CW = true)
    (saCW : PySem.W.findIn K (.ref CW) "__setattr__" = some (some (.builtin "object.__setattr__")))
    (mkiCW : PySem.W.makesIn K CW = true)
    (kcCW : PySem.W.keepIn K (.ref CW) = true)
    (naCWallowed : PySem.W.findIn K (.ref CW) "allowed" = some none)
    (naCWcounted : PySem.W.findIn K (.ref CW) "counted" = some none)
    (naCWleast : PySem.W.findIn K (.ref CW) "least" = some none)
    (naCWgreatest : PySem.W.findIn K (.ref CW) "greatest" = some none)
    (naCWknown : PySem.W.findIn K (.ref CW) "known" = some none)
    (pgCD : PySem.W.plainGet K CD Str.empty = true)
    (hdCD : PySem.W.hasDictIn K CD = true)
    (poCD : PySem.W.plainOver K CD = true)
    (saCD : PySem.W.findIn K (.ref CD) "__setattr__" = some (some (.builtin "object.__setattr__")))
    (mkiCD : PySem.W.makesIn K CD = true)
    (kcCD : PySem.W.keepIn K (.ref CD) = true)
    (naCDallowed : PySem.W.findIn K (.ref CD) "allowed" = some none)
    (naCDleast : PySem.W.findIn K (.ref CD) "least" = some none)
    (naCDgreatest : PySem.W.findIn K (.ref CD) "greatest" = some none) :
    ∃ (fd : FuncData) (cs : List (Addr × Addr)), (∀ p ∈ cs, h.get? p.2 = some { cls := .none, data := .fields #[] } ∧ K.lookup p.2 = none ∧ PySem.W.CodeHd h p.1 p.2) ∧ (∀ (s : Shared) (u : Value), BindsTo s fd ⟨[u], []⟩ [("_law_script", u)]) ∧
      ∀ base : Heap, K.In base → base.Ns mainGlobals mg → (∃ mm, base.Ns sysModules mm) → (∀ p ∈ cs, TabB base mg p.1 p.2) → FnG P w K mg base L2.CX0 26 fa fd ["_law_script"] (fun vs H Q E => (∀ p ∈ cs, H p.2 = some (.tbl #[])) ∧ spLaw K vs H Q E) := by
  have e := hfa.symm.trans (PySem.W.mg_of X G aL)
  cases e
  have FB := fun_mk (st := sWell) lB cB kB
  have FD := fun_mk (st := sNext) lD cD kD
  have FAl := fun_mk (st := sAlp) lAl cAl kAl
  have FMd := fun_mk (st := sMed) lMd cMd kMd
  have FSg := fun_mk (st := sSg) lSg cSg kSg
  have FTe := fun_mk (st := sText) lTe cTe kTe
  have FNe := fun_mk (st := sNear) lNe cNe kNe
  have FTr := fun_mk (st := sTrue) lTr cTr kTr
  have FW := fun_mk (st := sWithin) lW cW kW
  have FA := fun_mk (st := sAlpha) lA cA kA
  have FCn := fun_mk (st := sCount) lCn cCn kCn
  have FOv := fun_mk (st := sOver) lOv cOv kOv
  have FIw := fun_mk (st := sIsW) lIw cIw kIw
  have FAm := fun_mk (st := sAreM) lAm cAm kAm
  have FIr := fun_mk (st := sIsRow) lIr cIr kIr
  have FCw := fun_mk (st := sChkW) lCw cCw kCw
  have FCm := fun_mk (st := sChkM) lCm cCm kCm
  have FCb := fun_mk (st := sChkB) lCb cCb kCb
  have FCr := fun_mk (st := sChkR) lCr cCr kCr
  have FCh := fun_mk (st := sChkH) lCh cCh kCh
  have FMo := fun_mk (st := sMarksOf) lMo cMo kMo
  have FLh := fun_mk (st := sHist) lLh cLh kLh
  have FWc := fun_mk (st := sComm) lWc cWc kWc
  have FWn := fun_mk (st := sCnt) lWn cWn kWn
  have FWg := fun_mk (st := sGiven) lWg cWg kWg
  have FOd := fun_mk (st := sOrd) lOd cOd kOd
  have FHw := fun_mk (st := sHas) lHw cHw kHw
  have FCt := fun_mk (st := sCount2) lCt cCt kCt
  have FNw := fun_mk (st := sNthW) lNw cNw kNw
  have FQp := fun_mk (st := sPlcL) lQp cQp kQp
  have FQn := fun_mk (st := sNumC) lQn cQn kQn
  have FQo := fun_mk (st := sOcc) lQo cQo kQo
  have FQl := fun_mk (st := sLtA) lQl cQl kQl
  have FQt := fun_mk (st := sTable) lQt cQt kQt
  have FKl := fun_mk (st := sIsL) lKl cKl kKl
  have FKt := fun_mk (st := sIsF) lKt cKt kKt
  have FKf := fun_mk (st := sChkF) lKf cKf kKf
  have FKw := fun_mk (st := sCntW) lKw cKw kKw
  have FQi := fun_mk (st := sInTab) lQi cQi kQi
  have FR := fun_mk (st := sRight58) lR cR kR
  have FL := fun_mk (st := sLaw) lL cL kL
  have FI := fun_mk (st := sInit) lI cI kI
  have FHi := fun_mk (st := sHInit) lHi cHi kHi
  have FTh := fun_mk (st := sThen) lTh cTh kTh
  have FFi := fun_mk (st := sFits) lFi cFi kFi
  have FXt := fun_mk (st := sNth) lXt cXt kXt
  have FXl := fun_mk (st := sLetAt) lXl cXl kXl
  have FYf := fun_mk (st := sTakeF) lYf cYf kYf
  have FYo := fun_mk (st := sOfL) lYo cYo kYo
  have FXi := fun_mk (st := sWInit) lXi cXi kXi
  have FXn := fun_mk (st := sNone) lXn cXn kXn
  have FXu := fun_mk (st := sUsed) lXu cXu kXu
  have FXw := fun_mk (st := sManyW) lXw cXw kXw
  have FXf := fun_mk (st := sManyF) lXf cXf kXf
  have FXa := fun_mk (st := sAddW) lXa cXa kXa
  have FXm := fun_mk (st := sMany) lXm cXm kXm
  have FYi := fun_mk (st := sBInit) lYi cYi kYi
  have FYr := fun_mk (st := sTakeR) lYr cYr kYr
  have FYk := fun_mk (st := sKeep) lYk cYk kYk
  have FYl := fun_mk (st := sLeave) lYl cYl kYl
  have FYa := fun_mk (st := sAskL) lYa cYa kYa
  have FYm := fun_mk (st := sAskM) lYm cYm kYm
  have bB := FB.binds (ps := ["_law_script", "_law_k"]) fun _ _ _ _ _ _ us hl => match us, hl with | [_, _], _ => rfl
  have bD := FD.binds (ps := ["_law_well_here", "_law_many"]) fun _ _ _ _ _ _ us hl => match us, hl with | [_, _], _ => rfl
  have bAl := FAl.binds (ps := ["_law_well_here", "_law_many"]) fun _ _ _ _ _ _ us hl => match us, hl with | [_, _], _ => rfl
  have bMd := FMd.binds (ps := ["_law_well_here"]) fun _ _ _ _ _ _ us hl => match us, hl with | [_], _ => rfl
  have bSg := FSg.binds (ps := ["_law_one", "_law_hidden"]) fun _ _ _ _ _ _ us hl => match us, hl with | [_, _], _ => rfl
  have bTe := FTe.binds (ps := ["_law_well_here", "_law_alpha", "_law_wide"]) fun _ _ _ _ _ _ us hl => match us, hl with | [_, _, _], _ => rfl
  have bNe := FNe.binds (ps := ["_law_well_here", "_law_alpha", "_law_wide", "_law_hidden"]) fun _ _ _ _ _ _ us hl => match us, hl with | [_, _, _, _], _ => rfl
  have bTr := FTr.binds (ps := ["_law_well_here", "_law_alpha", "_law_wide", "_law_hidden", "_law_many"]) fun _ _ _ _ _ _ us hl => match us, hl with | [_, _, _, _, _], _ => rfl
  have bW := FW.binds (ps := ["value", "least", "most"]) fun _ _ _ _ _ _ us hl => match us, hl with | [_, _, _], _ => rfl
  have bA := FA.binds (ps := ["letters"]) fun _ _ _ _ _ _ us hl => match us, hl with | [_], _ => rfl
  have bCn := FCn.binds (ps := ["many", "length"]) fun _ _ _ _ _ _ us hl => match us, hl with | [_, _], _ => rfl
  have bOv := FOv.binds (ps := ["value", "characters", "length"]) fun _ _ _ _ _ _ us hl => match us, hl with | [_, _, _], _ => rfl
  have bIw := FIw.binds (ps := ["board", "value"]) fun _ _ _ _ _ _ us hl => match us, hl with | [_, _], _ => rfl
  have bAm := FAm.binds (ps := ["board", "value"]) fun _ _ _ _ _ _ us hl => match us, hl with | [_, _], _ => rfl
  have bIr := FIr.binds (ps := ["board", "value"]) fun _ _ _ _ _ _ us hl => match us, hl with | [_, _], _ => rfl
  have bCw := FCw.binds (ps := ["board", "word"]) fun _ _ _ _ _ _ us hl => match us, hl with | [_, _], _ => rfl
  have bCm := FCm.binds (ps := ["board", "told"]) fun _ _ _ _ _ _ us hl => match us, hl with | [_, _], _ => rfl
  have bCb := FCb.binds (ps := ["board"]) fun _ _ _ _ _ _ us hl => match us, hl with | [_], _ => rfl
  have bCr := FCr.binds (ps := ["board", "rows"]) fun _ _ _ _ _ _ us hl => match us, hl with | [_, _], _ => rfl
  have bCh := FCh.binds (ps := ["history"]) fun _ _ _ _ _ _ us hl => match us, hl with | [_], _ => rfl
  have bMo := FMo.binds (ps := ["guess", "word"]) fun _ _ _ _ _ _ us hl => match us, hl with | [_, _], _ => rfl
  have bLh := FLh.binds (ps := ["_law_alpha", "_law_wide", "_law_entries"]) fun _ _ _ _ _ _ us hl => match us, hl with | [_, _, _], _ => rfl
  have bWc := FWc.binds (ps := ["letters", "others"]) fun _ _ _ _ _ _ us hl => match us, hl with | [_, _], _ => rfl
  have bWn := FWn.binds (ps := ["board", "bounds"]) fun _ _ _ _ _ _ us hl => match us, hl with | [_, _], _ => rfl
  have bWg := FWg.binds (ps := ["guess", "told", "letter"]) fun _ _ _ _ _ _ us hl => match us, hl with | [_, _, _], _ => rfl
  have bOd := FOd.binds (ps := ["guess", "told"]) fun _ _ _ _ _ _ us hl => match us, hl with | [_, _], _ => rfl
  have bHw := FHw.binds (ps := ["board", "rows", "facts"]) fun _ _ _ _ _ _ us hl => match us, hl with | [_, _, _], _ => rfl
  have bCt := FCt.binds (ps := ["history"]) fun _ _ _ _ _ _ us hl => match us, hl with | [_], _ => rfl
  have bNw := FNw.binds (ps := ["history", "number"]) fun _ _ _ _ _ _ us hl => match us, hl with | [_, _], _ => rfl
  have bQp := FQp.binds (ps := ["history", "letter"]) fun _ _ _ _ _ _ us hl => match us, hl with | [_, _], _ => rfl
  have bQn := FQn.binds (ps := ["history", "letter"]) fun _ _ _ _ _ _ us hl => match us, hl with | [_, _], _ => rfl
  have bQo := FQo.binds (ps := ["history"]) fun _ _ _ _ _ _ us hl => match us, hl with | [_], _ => rfl
  have bQl := FQl.binds (ps := ["found", "place"]) fun _ _ _ _ _ _ us hl => match us, hl with | [_, _], _ => rfl
  have bQt := FQt.binds (ps := ["history"]) fun _ _ _ _ _ _ us hl => match us, hl with | [_], _ => rfl
  have bKl := FKl.binds (ps := ["board", "value"]) fun _ _ _ _ _ _ us hl => match us, hl with | [_, _], _ => rfl
  have bKt := FKt.binds (ps := ["board", "value"]) fun _ _ _ _ _ _ us hl => match us, hl with | [_, _], _ => rfl
  have bKf := FKf.binds (ps := ["board", "facts"]) fun _ _ _ _ _ _ us hl => match us, hl with | [_, _], _ => rfl
  have bQi := FQi.binds (ps := ["_law_alpha", "_law_wide", "_law_said", "_law_text_here"]) fun _ _ _ _ _ _ us hl => match us, hl with | [_, _, _, _], _ => rfl
  have bR := FR.binds (ps := ["_law_well_here"]) fun _ _ _ _ _ _ us hl => match us, hl with | [_], _ => rfl
  have bI := FI.binds (ps := ["self", "letters", "length"]) fun _ _ _ _ _ _ us hl => match us, hl with | [_, _, _], _ => rfl
  have bTh := FTh.binds (ps := ["self", "guess", "told"]) fun _ _ _ _ _ _ us hl => match us, hl with | [_, _, _], _ => rfl
  have bFi := FFi.binds (ps := ["self", "word"]) fun _ _ _ _ _ _ us hl => match us, hl with | [_, _], _ => rfl
  have bXt := FXt.binds (ps := ["self", "number"]) fun _ _ _ _ _ _ us hl => match us, hl with | [_, _], _ => rfl
  have bXl := FXl.binds (ps := ["self", "place", "used", "number"]) fun _ _ _ _ _ _ us hl => match us, hl with | [_, _, _, _], _ => rfl
  have bYf := FYf.binds (ps := ["self", "fact"]) fun _ _ _ _ _ _ us hl => match us, hl with | [_, _], _ => rfl
  have bYo := FYo.binds (ps := ["self", "letter"]) fun _ _ _ _ _ _ us hl => match us, hl with | [_, _], _ => rfl
  have bXi := FXi.binds (ps := ["self", "board", "rows", "facts"]) fun _ _ _ _ _ _ us hl => match us, hl with | [_, _, _, _], _ => rfl
  have bXn := FXn.binds (ps := ["self"]) fun _ _ _ _ _ _ us hl => match us, hl with | [_], _ => rfl
  have bXu := FXu.binds (ps := ["self", "used", "letter"]) fun _ _ _ _ _ _ us hl => match us, hl with | [_, _, _], _ => rfl
  have bXw := FXw.binds (ps := ["self", "place", "used", "letter"]) fun _ _ _ _ _ _ us hl => match us, hl with | [_, _, _, _], _ => rfl
  have bXf := FXf.binds (ps := ["self", "place", "used"]) fun _ _ _ _ _ _ us hl => match us, hl with | [_, _, _], _ => rfl
  have bXa := FXa.binds (ps := ["self", "place", "used"]) fun _ _ _ _ _ _ us hl => match us, hl with | [_, _, _], _ => rfl
  have bXm := FXm.binds (ps := ["self"]) fun _ _ _ _ _ _ us hl => match us, hl with | [_], _ => rfl
  have bYi := FYi.binds (ps := ["self", "board", "rows", "facts"]) fun _ _ _ _ _ _ us hl => match us, hl with | [_, _, _, _], _ => rfl
  have bYr := FYr.binds (ps := ["self", "guess", "told"]) fun _ _ _ _ _ _ us hl => match us, hl with | [_, _, _], _ => rfl
  have bYk := FYk.binds (ps := ["self", "place", "letter"]) fun _ _ _ _ _ _ us hl => match us, hl with | [_, _, _], _ => rfl
  have bYa := FYa.binds (ps := ["self", "letter", "many"]) fun _ _ _ _ _ _ us hl => match us, hl with | [_, _, _], _ => rfl
  have bYm := FYm.binds (ps := ["self", "letter", "many"]) fun _ _ _ _ _ _ us hl => match us, hl with | [_, _, _], _ => rfl
  have DB : Df K mg "_law_well" _ _ _ := ⟨PySem.W.mg_of X G aB, kB, bB⟩
  have DD : Df K mg "_law_next" _ _ _ := ⟨PySem.W.mg_of X G aD, kD, bD⟩
  have DAl : Df K mg "_law_alphabet" _ _ _ := ⟨PySem.W.mg_of X G aAl, kAl, bAl⟩
  have DMd : Df K mg "_law_medium" _ _ _ := ⟨PySem.W.mg_of X G aMd, kMd, bMd⟩
  have DSg : Df K mg "_law_signs" _ _ _ := ⟨PySem.W.mg_of X G aSg, kSg, bSg⟩
  have DTe : Df K mg "_law_text" _ _ _ := ⟨PySem.W.mg_of X G aTe, kTe, bTe⟩
  have DNe : Df K mg "_law_near" _ _ _ := ⟨PySem.W.mg_of X G aNe, kNe, bNe⟩
  have DTr : Df K mg "_law_true_entries" _ _ _ := ⟨PySem.W.mg_of X G aTr, kTr, bTr⟩
  have DW : Df K mg "is_integer_within" _ _ _ := ⟨PySem.W.mg_of X G aW, kW, bW⟩
  have DA : Df K mg "is_alphabet" _ _ _ := ⟨PySem.W.mg_of X G aA, kA, bA⟩
  have DCn : Df K mg "count_words" _ _ _ := ⟨PySem.W.mg_of X G aCn, kCn, bCn⟩
  have DOv : Df K mg "is_text_over" _ _ _ := ⟨PySem.W.mg_of X G aOv, kOv, bOv⟩
  have DIw : Df K mg "is_word" _ _ _ := ⟨PySem.W.mg_of X G aIw, kIw, bIw⟩
  have DAm : Df K mg "are_marks" _ _ _ := ⟨PySem.W.mg_of X G aAm, kAm, bAm⟩
  have DIr : Df K mg "is_row" _ _ _ := ⟨PySem.W.mg_of X G aIr, kIr, bIr⟩
  have DCw : Df K mg "check_word" _ _ _ := ⟨PySem.W.mg_of X G aCw, kCw, bCw⟩
  have DCm : Df K mg "check_marks" _ _ _ := ⟨PySem.W.mg_of X G aCm, kCm, bCm⟩
  have DCb : Df K mg "check_board" _ _ _ := ⟨PySem.W.mg_of X G aCb, kCb, bCb⟩
  have DCr : Df K mg "check_rows" _ _ _ := ⟨PySem.W.mg_of X G aCr, kCr, bCr⟩
  have DCh : Df K mg "check_history" _ _ _ := ⟨PySem.W.mg_of X G aCh, kCh, bCh⟩
  have DMo : Df K mg "marks_of" _ _ _ := ⟨PySem.W.mg_of X G aMo, kMo, bMo⟩
  have DLh : Df K mg "_law_history" _ _ _ := ⟨PySem.W.mg_of X G aLh, kLh, bLh⟩
  have DWc : Df K mg "common_letters" _ _ _ := ⟨PySem.W.mg_of X G aWc, kWc, bWc⟩
  have DWn : Df K mg "counted_letters" _ _ _ := ⟨PySem.W.mg_of X G aWn, kWn, bWn⟩
  have DWg : Df K mg "marks_given" _ _ _ := ⟨PySem.W.mg_of X G aWg, kWg, bWg⟩
  have DOd : Df K mg "is_in_order" _ _ _ := ⟨PySem.W.mg_of X G aOd, kOd, bOd⟩
  have DHw : Df K mg "has_word" _ _ _ := ⟨PySem.W.mg_of X G aHw, kHw, bHw⟩
  have DCt : Df K mg "count" _ _ _ := ⟨PySem.W.mg_of X G aCt, kCt, bCt⟩
  have DNw : Df K mg "nth_word" _ _ _ := ⟨PySem.W.mg_of X G aNw, kNw, bNw⟩
  have DQp : Df K mg "places_of_letter" _ _ _ := ⟨PySem.W.mg_of X G aQp, kQp, bQp⟩
  have DQn : Df K mg "numbers_of_copies" _ _ _ := ⟨PySem.W.mg_of X G aQn, kQn, bQn⟩
  have DQo : Df K mg "occurrences" _ _ _ := ⟨PySem.W.mg_of X G aQo, kQo, bQo⟩
  have DQl : Df K mg "letters_at" _ _ _ := ⟨PySem.W.mg_of X G aQl, kQl, bQl⟩
  have DQt : Df K mg "table" _ _ _ := ⟨PySem.W.mg_of X G aQt, kQt, bQt⟩
  have DKl : Df K mg "is_letter" _ _ _ := ⟨PySem.W.mg_of X G aKl, kKl, bKl⟩
  have DKt : Df K mg "is_fact" _ _ _ := ⟨PySem.W.mg_of X G aKt, kKt, bKt⟩
  have DKf : Df K mg "check_facts" _ _ _ := ⟨PySem.W.mg_of X G aKf, kKf, bKf⟩
  have DQi : Df K mg "_law_within" _ _ _ := ⟨PySem.W.mg_of X G aQi, kQi, bQi⟩
  have DR : Df K mg "_law_right" _ _ _ := ⟨PySem.W.mg_of X G aR, kR, bR⟩
  have TB' : TxB mg := ⟨(PySem.W.mg_none_of X G zlen), (PySem.W.mg_none_of X G zint), (PySem.W.mg_none_of X G zabs), (PySem.W.mg_none_of X G zdivmod)⟩
  have TW : TxW mg := ⟨(PySem.W.mg_none_of X G zisinstance), (PySem.W.mg_none_of X G zbool), (PySem.W.mg_none_of X G zint), (PySem.W.mg_none_of X G zstr), (PySem.W.mg_none_of X G zlen), (PySem.W.mg_none_of X G zrange), ⟨_, PySem.W.mg_of X G nMM⟩, ⟨_, PySem.W.mg_of X G nML⟩, ⟨_, PySem.W.mg_of X G nLO⟩⟩
  have TC : TxC K mg CB := ⟨⟨pg, hd, po, sa⟩, PySem.W.mg_of X G gCB, naL, naN, naS, ac, gtc, tkc, ob, kitO⟩
  have THx : TxH K mg CH := ⟨⟨pgH, hdH, poH, saH⟩, PySem.W.mg_of X G gCH, nbB, nbR⟩
  have THi : TxHi K mg CH := ⟨(PySem.W.mg_none_of X G zisinstance), acH, gtc, tkc, obH, kitH⟩
  have mMR : ∃ t, mg "MOST_ROWS" = some (.int 20 t) := ⟨_, PySem.W.mg_of X G nMR⟩
  have TL : TxL mg := ⟨(PySem.W.mg_none_of X G zrange)⟩
  have TS : TxS mg := ⟨(PySem.W.mg_none_of X G zlen), (PySem.W.mg_none_of X G zrange), (PySem.W.mg_none_of X G zlist)⟩
  have eM : (Str.ofString "012") = tx [48, 49, 50] := by decide +kernel
  have mMA : ∃ t, mg "MARKS" = some (.str (tx [48, 49, 50]) t) := ⟨_, eM ▸ PySem.W.mg_of X G nMA⟩

  refine ⟨PySem.W.fnOf "law" "law" (defArgs sLaw) (defBody sLaw) (defScope sLaw) .none kVL dcL pmL anL cdL ctL, [], nofun, fun s v => .of_eq rfl, fun base _ _ hM _ => ?_⟩
  have GD : FnOk P w K mg base L2.CX0 1 fD _ _ spDip := ok_dip FD TB'
  have GAl : FnOk P w K mg base L2.CX0 2 fAl _ _ spAlp := ok_alp FAl TS GD DD
  have GMd : FnOk P w K mg base L2.CX0 3 fMd _ _ spMed := ok_med FMd GD DD GAl DAl
  have GSg : FnOk P w K mg base L2.CX0 1 fSg _ _ spMarksOf := ok_sg FSg (PySem.W.mg_none_of X G zzip)
  have GTe : FnOk P w K mg base L2.CX0 2 fTe _ _ spText := ok_text FTe TS GD DD
  have GNe : FnOk P w K mg base L2.CX0 3 fNe _ _ spNear := ok_near FNe TS GD DD GTe DTe
  have GTr : FnOk P w K mg base L2.CX0 4 fTr _ _ spTrue := ok_true FTr TS GNe DNe GSg DSg
  have GWi : FnOk P w K mg base L2.CX0 1 fW _ _ (spWithin K) := ok_within FW TW
  have GI : FnOk P w K mg base L2.CX0 2 fI _ _ (spInit CB) := ok_init FI TW TC (ok_alpha FA TW) DA GWi DW (ok_count FCn TW) DCn
  have GOv : FnOk P w K mg base L2.CX0 1 fOv _ _ (spOver K) := ok_over FOv TW (PySem.W.mg_none_of X G zall)
  have GIw : FnOk P w K mg base L2.CX0 2 fIw _ _ (spIsW K CB none) := ok_isW FIw TC GOv DOv
  have GAm : FnOk P w K mg base L2.CX0 2 fAm _ _ (spIsW K CB (some [48, 49, 50])) := ok_areM FAm TC mMA GOv DOv
  have GIr : FnOk P w K mg base L2.CX0 3 fIr _ _ (spIsRow CB) := ok_isRow FIr TW (PySem.W.mg_none_of X G ztuple) GIw DIw GAm DAm
  have GCw : FnOk P w K mg base L2.CX0 3 fCw _ _ (spChkW CB) := ok_chkW FCw GIw DIw
  have GCm : FnOk P w K mg base L2.CX0 3 fCm _ _ (spChkM CB) := ok_chkM FCm GAm DAm
  have GCb : FnOk P w K mg base L2.CX0 1 fCb _ _ (spChkB CB) := ok_chkB FCb TW TC
  have GCr : FnOk P w K mg base L2.CX0 4 fCr _ _ (spChkR CB) := ok_chkR FCr (PySem.W.mg_none_of X G zlen) (PySem.W.mg_none_of X G zenumerate) mMR GIr DIr
  have GHi : FnR P w K mg base L2.CX0 5 fHi (spHInitR CB CH) := ok_hinit FHi THx GCb DCb GCr DCr
  have MH : Mk K CH fHi := ⟨mkH, aHi, iHi, kcH⟩
  have GTh : FnOk P w K mg base L2.CX0 7 fTh _ _ (spThen CB CH) := ok_then FTh THx (PySem.W.mg_none_of X G zlen) mMR GCw DCw GCm DCm GHi MH
  have GCh : FnOk P w K mg base L2.CX0 1 fCh _ _ (spChkH CB CH) := ok_chkH FCh THx THi
  have GMo : FnOk P w K mg base L2.CX0 1 fMo _ _ spMarksOf := ok_marksOf FMo (PySem.W.mg_none_of X G zzip)
  have GFi : FnOk P w K mg base L2.CX0 4 fFi _ _ (spFits CB CH) := ok_fits FFi THx (PySem.W.mg_none_of X G zall) GCw DCw GMo DMo
  have GLh : FnOk P w K mg base L2.CX0 8 fLh _ _ (spHist CB CH) := ok_hist FLh TC THx GTh ⟨aTh, iTh, kTh⟩ bTh GHi MH GI ⟨mk, aI, iI, kc⟩ bI
  have TN : TxN K mg CW := ⟨⟨pgCW, hdCW, poCW, saCW⟩, naCWallowed, naCWcounted, naCWleast, naCWgreatest, naCWknown, PySem.W.mg_none_of X G zlen, PySem.W.mg_none_of X G zsum, PySem.W.mg_none_of X G zmax, PySem.W.mg_none_of X G zzip, PySem.W.mg_none_of X G ztuple⟩
  have TBd : TxBd K mg CD := ⟨⟨pgCD, hdCD, poCD, saCD⟩, naCDallowed, naCDleast, naCDgreatest, PySem.W.mg_none_of X G zmax, PySem.W.mg_none_of X G zmin⟩
  have MXn : Meth K CW "none_used" fXn := ⟨aXn, iXn, kXn⟩
  have MXu : Meth K CW "used_with" fXu := ⟨aXu, iXu, kXu⟩
  have MXw : Meth K CW "many_with" fXw := ⟨aXw, iXw, kXw⟩
  have MXf : Meth K CW "many_from" fXf := ⟨aXf, iXf, kXf⟩
  have MXa : Meth K CW "add_ways" fXa := ⟨aXa, iXa, kXa⟩
  have MXm : Meth K CW "many" fXm := ⟨aXm, iXm, kXm⟩
  have MYr : Meth K CD "take_row" fYr := ⟨aYr, iYr, kYr⟩
  have MYk : Meth K CD "keep_only" fYk := ⟨aYk, iYk, kYk⟩
  have MYl : Meth K CD "leave_out" fYl := ⟨aYl, iYl, kYl⟩
  have MYa : Meth K CD "ask_least" fYa := ⟨aYa, iYa, kYa⟩
  have MYm : Meth K CD "ask_most" fYm := ⟨aYm, iYm, kYm⟩
  have GWc : FnOk P w K mg base L2.CX0 1 fWc _ _ spComm := ok_comm FWc
  have GWg : FnOk P w K mg base L2.CX0 1 fWg _ _ spGiven := ok_given FWg (PySem.W.mg_none_of X G zzip)
  have GOd : FnOk P w K mg base L2.CX0 2 fOd _ _ spOrd := ok_ord FOd (PySem.W.mg_none_of X G zall) GWg DWg
  have GWn : FnOk P w K mg base L2.CX0 1 fWn _ _ (spCnt CB CD) := ok_cnt FWn TBd TC
  have GYk : FnOk P w K mg base L2.CX0 1 fYk _ _ (spKeep CD) := ok_keep FYk TBd
  have GYa : FnOk P w K mg base L2.CX0 1 fYa _ _ (spAskL CD) := ok_askL FYa TBd
  have GYm : FnOk P w K mg base L2.CX0 1 fYm _ _ (spAskM CD) := ok_askM FYm TBd
  have GYl : LeaveRun P w K mg base CD 1 fYl := leave_run FYl TBd
  have GYr : FnOk P w K mg base L2.CX0 2 fYr _ _ (spTakeR CD) := ok_takeR FYr TBd (PySem.W.mg_none_of X G zlen) (PySem.W.mg_none_of X G zenumerate) MYk GYk bYk MYl GYl GWg DWg MYa GYa bYa MYm GYm bYm
  have GYi : FnOk P w K mg base L2.CX0 3 fYi _ _ (spBInit CB CD) := ok_binit FYi TBd TC (PySem.W.mg_none_of X G zrange) MYr GYr bYr
  have GXi : FnOk P w K mg base L2.CX0 5 fXi _ _ (spWInit P w CB CD CW) := ok_winit FXi TN TBd TC (PySem.W.mg_none_of X G zall) (PySem.W.mg_of X G gCD) ⟨mkiCD, aYi, iYi, kcCD⟩ GYi bYi GOd DOd GWc DWc GWn DWn
  have GXn : FnOk P w K mg base L2.CX0 1 fXn _ _ (spNone CW) := ok_none FXn TN
  have GXu : FnOk P w K mg base L2.CX0 1 fXu _ _ (spUsed CW) := ok_used FXu TN
  have GXf : ∀ r, r ≤ 6 → FnOk P w K mg base L2.CX0 19 fXf _ _ (spManyF P w CW r) := fun r hr => (ok_words TN FXf FXa FXw MXf bXf MXa bXa MXw bXw MXu GXu bXu GWc DWc r).mono (by omega)
  have GXm : FnOk P w K mg base L2.CX0 20 fXm _ _ (spMany P w CW) := ok_many (n0 := 18) FXm TN MXn GXn bXn MXf GXf bXf
  have GXw : FnOk P w K mg base L2.CX0 20 fXw _ _ (spManyA P w CW) := FnOk_any fun r hr => ok_manyW (n0 := 18) FXw TN MXu GXu bXu MXf (GXf r (by omega)) bXf
  have GHw : FnOk P w K mg base L2.CX0 21 fHw _ _ (spHas CB) := ok_has (n0 := 14) FHw TN (PySem.W.mg_of X G gCW) ⟨mkiCW, aXi, iXi, kcCW⟩ GXi bXi MXm GXm bXm
  have GCt : FnOk P w K mg base L2.CX0 21 fCt _ _ (spCnt2 CB CH) := ok_count2 FCt THx TN (PySem.W.mg_of X G gCW) GCh DCh ⟨mkiCW, aXi, iXi, kcCW⟩ GXi bXi MXm GXm bXm
  have GXl : FnOk P w K mg base L2.CX0 21 fXl _ _ (spLetAt P w CW) := ok_letAt FXl TN MXw GXw bXw
  have GXt : FnOk P w K mg base L2.CX0 22 fXt _ _ (spNth P w CW) := ok_nth FXt TN MXn GXn bXn ⟨aXl, iXl, kXl⟩ GXl bXl MXu GXu bXu
  have GNw : FnOk P w K mg base L2.CX0 23 fNw _ _ (spNthW CB CH) := ok_nthW FNw THx TN (PySem.W.mg_of X G gCW) GCh DCh GWi DW ⟨mkiCW, aXi, iXi, kcCW⟩ GXi bXi MXm GXm bXm ⟨aXt, iXt, kXt⟩ GXt bXt
  have MYf : Meth K CD "take_fact" fYf := ⟨aYf, iYf, kYf⟩
  have GYf : FnOk P w K mg base L2.CX0 2 fYf _ _ (spTakeF CD) := ok_takeF FYf TBd MYk GYk bYk MYa GYa bYa MYm GYm bYm
  have GYiF : FnOk P w K mg base L2.CX0 3 fYi _ _ (spBInitF CB CD) := ok_binitF FYi TBd TC (PySem.W.mg_none_of X G zrange) MYr GYr bYr MYf GYf bYf
  have GXiF : FnOk P w K mg base L2.CX0 5 fXi _ _ (spWInitF P w CB CD CW) := ok_winitF FXi TN TBd TC (PySem.W.mg_none_of X G zall) (PySem.W.mg_of X G gCD) ⟨mkiCD, aYi, iYi, kcCD⟩ GYiF bYi GOd DOd GWc DWc GWn DWn
  have GHwG : FnOk P w K mg base L2.CX0 21 fHw _ _ (spHasG CB) := ok_hasG (n0 := 14) FHw TN (PySem.W.mg_of X G gCW) ⟨mkiCW, aXi, iXi, kcCW⟩ GXiF bXi MXm GXm bXm
  have GYo : FnOk P w K mg base L2.CX0 1 fYo _ _ (spOfL CD) := ok_ofL FYo TBd (PySem.W.mg_none_of X G ztuple)
  have GQp : FnOk P w K mg base L2.CX0 22 fQp _ _ (spPlcL CB CH) := ok_plcL FQp TC THx (PySem.W.mg_none_of X G zrange) GHwG DHw
  have GQn : FnOk P w K mg base L2.CX0 22 fQn _ _ (spNumC CB CH) := ok_numC FQn TC THx (PySem.W.mg_none_of X G zrange) GHwG DHw
  have GQo : FnOk P w K mg base L2.CX0 23 fQo _ _ (spOcc CB CH) := ok_occ FQo TC THx TBd (PySem.W.mg_of X G gCD) ⟨mkiCD, aYi, iYi, kcCD⟩ GYi bYi ⟨aYo, iYo, kYo⟩ GYo bYo GQp DQp GQn DQn
  have GQl : FnOk P w K mg base L2.CX0 1 fQl _ _ spLtA := ok_ltA FQl
  have GQt : FnOk P w K mg base L2.CX0 24 fQt _ _ (spTable CB CH) := ok_table FQt TC THx (PySem.W.mg_none_of X G zrange) (PySem.W.mg_none_of X G ztuple) GCh DCh GHwG DHw GQo DQo GQl DQl
  have GKl : FnOk P w K mg base L2.CX0 2 fKl _ _ (spIsL CB) := ok_isL FKl TC GOv DOv
  have GKt : FnOk P w K mg base L2.CX0 3 fKt _ _ (spIsF CB) := ok_isF FKt TW (PySem.W.mg_none_of X G ztuple) TC GKl DKl GWi DW
  have mMF : ∃ t, mg "MOST_FACTS" = some (.int 4 t) := ⟨_, PySem.W.mg_of X G nMF⟩
  have GKf : FnOk P w K mg base L2.CX0 4 fKf _ _ (spChkF CB) := ok_chkF FKf (PySem.W.mg_none_of X G zlen) (PySem.W.mg_none_of X G zenumerate) mMF GKt DKt
  have GKw : FnR P w K mg base L2.CX0 21 fKw (spCntWR CB CH) := ok_cntW FKw THx TN (PySem.W.mg_of X G gCW) GCh DCh GKf DKf ⟨mkiCW, aXi, iXi, kcCW⟩ GXiF bXi MXm GXm bXm
  have GQi : FnOk P w K mg base L2.CX0 1 fQi _ _ spInTab := ok_inTab FQi (PySem.W.mg_none_of X G zrange) (PySem.W.mg_none_of X G zall) (PySem.W.mg_none_of X G zzip)
  have GR : FnOk P w K mg base L2.CX0 25 fR _ _ spRight58 := ok_right FR TS (PySem.W.mg_none_of X G zisinstance) (PySem.W.mg_none_of X G ztuple) (PySem.W.mg_none_of X G zlist) (PySem.W.mg_none_of X G zall) GKw (PySem.W.mg_of X G aKw) kKw GD DD GMd DMd GTe DTe GTr DTr GLh DLh GQt DQt GCt DCt GNw DNw GQi DQi
  exact FnG.imp (FnOk.toG (ok_law FL TL (ok_bowl FB TB') DB GR DR)) (fun h => h.2)

/-! the head -/
theorem of_says {P : Program} {w : World} {K : PySem.W.Frag} {h : Heap} {mg : Str → Option Value} {fa : Addr} (X : K.In h) (G : h.Ns mainGlobals mg) (hfa : mg "law" = some (.ref fa)) (c : HX.SaysA fnH tfH exH exI h K) :
    ∃ (fd : FuncData) (cs : List (Addr × Addr)), (∀ p ∈ cs, h.get? p.2 = some { cls := .none, data := .fields #[] } ∧ K.lookup p.2 = none ∧ PySem.W.CodeHd h p.1 p.2) ∧ (∀ (s : Shared) (u : Value), BindsTo s fd ⟨[u], []⟩ [("_law_script", u)]) ∧
      ∀ base : Heap, K.In base → base.Ns mainGlobals mg → (∃ mm, base.Ns sysModules mm) → (∀ p ∈ cs, TabB base mg p.1 p.2) → FnG P w K mg base L2.CX0 26 fa fd ["_law_script"] (fun vs H Q E => (∀ p ∈ cs, H p.2 = some (.tbl #[])) ∧ spLaw K vs H Q E) := by
  have mm := c.more
  have mm : exH K = true := mm
  unfold exH at mm
  have m3 := HX.and_r mm
  replace mm := HX.and_l mm
  have m2 := HX.and_r mm
  replace mm := HX.and_l mm
  have m1 := HX.and_r mm
  replace mm := HX.and_l mm
  have m0 := mm
  have mm := c.more2
  have mm : exI K = true := mm
  unfold exI at mm
  have m6 := HX.and_r mm
  replace mm := HX.and_l mm
  have m5 := HX.and_r mm
  replace mm := HX.and_l mm
  have m4 := mm
  obtain ⟨ocB, odB, kVB, dcB, pmB, anB, cdB, ctB, slB, lB, cB, kB⟩ := c.def_ 0 (d := dHB) rfl rfl
  obtain ⟨ocD, odD, kVD, dcD, pmD, anD, cdD, ctD, slD, lD, cD, kD⟩ := c.def_ 1 (d := dHD) rfl rfl
  obtain ⟨ocAl, odAl, kVAl, dcAl, pmAl, anAl, cdAl, ctAl, slAl, lAl, cAl, kAl⟩ := c.def_ 2 (d := dHAl) rfl rfl
  obtain ⟨ocMd, odMd, kVMd, dcMd, pmMd, anMd, cdMd, ctMd, slMd, lMd, cMd, kMd⟩ := c.def_ 3 (d := dHMd) rfl rfl
  obtain ⟨ocSg, odSg, kVSg, dcSg, pmSg, anSg, cdSg, ctSg, slSg, lSg, cSg, kSg⟩ := c.def_ 4 (d := dHSg) rfl rfl
  obtain ⟨ocTe, odTe, kVTe, dcTe, pmTe, anTe, cdTe, ctTe, slTe, lTe, cTe, kTe⟩ := c.def_ 5 (d := dHTe) rfl rfl
  obtain ⟨ocNe, odNe, kVNe, dcNe, pmNe, anNe, cdNe, ctNe, slNe, lNe, cNe, kNe⟩ := c.def_ 6 (d := dHNe) rfl rfl
  obtain ⟨ocTr, odTr, kVTr, dcTr, pmTr, anTr, cdTr, ctTr, slTr, lTr, cTr, kTr⟩ := c.def_ 7 (d := dHTr) rfl rfl
  obtain ⟨ocW, odW, kVW, dcW, pmW, anW, cdW, ctW, slW, lW, cW, kW⟩ := c.def_ 8 (d := dHW) rfl rfl
  obtain ⟨ocA, odA, kVA, dcA, pmA, anA, cdA, ctA, slA, lA, cA, kA⟩ := c.def_ 9 (d := dHA) rfl rfl
  obtain ⟨ocCn, odCn, kVCn, dcCn, pmCn, anCn, cdCn, ctCn, slCn, lCn, cCn, kCn⟩ := c.def_ 10 (d := dHCn) rfl rfl
  obtain ⟨ocOv, odOv, kVOv, dcOv, pmOv, anOv, cdOv, ctOv, slOv, lOv, cOv, kOv⟩ := c.def_ 11 (d := dHOv) rfl rfl
  obtain ⟨ocIw, odIw, kVIw, dcIw, pmIw, anIw, cdIw, ctIw, slIw, lIw, cIw, kIw⟩ := c.def_ 12 (d := dHIw) rfl rfl
  obtain ⟨ocAm, odAm, kVAm, dcAm, pmAm, anAm, cdAm, ctAm, slAm, lAm, cAm, kAm⟩ := c.def_ 13 (d := dHAm) rfl rfl
  obtain ⟨ocIr, odIr, kVIr, dcIr, pmIr, anIr, cdIr, ctIr, slIr, lIr, cIr, kIr⟩ := c.def_ 14 (d := dHIr) rfl rfl
  obtain ⟨ocCw, odCw, kVCw, dcCw, pmCw, anCw, cdCw, ctCw, slCw, lCw, cCw, kCw⟩ := c.def_ 15 (d := dHCw) rfl rfl
  obtain ⟨ocCm, odCm, kVCm, dcCm, pmCm, anCm, cdCm, ctCm, slCm, lCm, cCm, kCm⟩ := c.def_ 16 (d := dHCm) rfl rfl
  obtain ⟨ocCb, odCb, kVCb, dcCb, pmCb, anCb, cdCb, ctCb, slCb, lCb, cCb, kCb⟩ := c.def_ 17 (d := dHCb) rfl rfl
  obtain ⟨ocCr, odCr, kVCr, dcCr, pmCr, anCr, cdCr, ctCr, slCr, lCr, cCr, kCr⟩ := c.def_ 18 (d := dHCr) rfl rfl
  obtain ⟨ocCh, odCh, kVCh, dcCh, pmCh, anCh, cdCh, ctCh, slCh, lCh, cCh, kCh⟩ := c.def_ 19 (d := dHCh) rfl rfl
  obtain ⟨ocMo, odMo, kVMo, dcMo, pmMo, anMo, cdMo, ctMo, slMo, lMo, cMo, kMo⟩ := c.def_ 20 (d := dHMo) rfl rfl
  obtain ⟨ocLh, odLh, kVLh, dcLh, pmLh, anLh, cdLh, ctLh, slLh, lLh, cLh, kLh⟩ := c.def_ 21 (d := dHLh) rfl rfl
  obtain ⟨ocWc, odWc, kVWc, dcWc, pmWc, anWc, cdWc, ctWc, slWc, lWc, cWc, kWc⟩ := c.def_ 22 (d := dHWc) rfl rfl
  obtain ⟨ocWn, odWn, kVWn, dcWn, pmWn, anWn, cdWn, ctWn, slWn, lWn, cWn, kWn⟩ := c.def_ 23 (d := dHWn) rfl rfl
  obtain ⟨ocWg, odWg, kVWg, dcWg, pmWg, anWg, cdWg, ctWg, slWg, lWg, cWg, kWg⟩ := c.def_ 24 (d := dHWg) rfl rfl
  obtain ⟨ocOd, odOd, kVOd, dcOd, pmOd, anOd, cdOd, ctOd, slOd, lOd, cOd, kOd⟩ := c.def_ 25 (d := dHOd) rfl rfl
  obtain ⟨ocHw, odHw, kVHw, dcHw, pmHw, anHw, cdHw, ctHw, slHw, lHw, cHw, kHw⟩ := c.def_ 26 (d := dHHw) rfl rfl
  obtain ⟨ocCt, odCt, kVCt, dcCt, pmCt, anCt, cdCt, ctCt, slCt, lCt, cCt, kCt⟩ := c.def_ 27 (d := dHCt) rfl rfl
  obtain ⟨ocNw, odNw, kVNw, dcNw, pmNw, anNw, cdNw, ctNw, slNw, lNw, cNw, kNw⟩ := c.def_ 28 (d := dHNw) rfl rfl
  obtain ⟨ocQp, odQp, kVQp, dcQp, pmQp, anQp, cdQp, ctQp, slQp, lQp, cQp, kQp⟩ := c.def_ 29 (d := dHQp) rfl rfl
  obtain ⟨ocQn, odQn, kVQn, dcQn, pmQn, anQn, cdQn, ctQn, slQn, lQn, cQn, kQn⟩ := c.def_ 30 (d := dHQn) rfl rfl
  obtain ⟨ocQo, odQo, kVQo, dcQo, pmQo, anQo, cdQo, ctQo, slQo, lQo, cQo, kQo⟩ := c.def_ 31 (d := dHQo) rfl rfl
  obtain ⟨ocQl, odQl, kVQl, dcQl, pmQl, anQl, cdQl, ctQl, slQl, lQl, cQl, kQl⟩ := c.def_ 32 (d := dHQl) rfl rfl
  obtain ⟨ocQt, odQt, kVQt, dcQt, pmQt, anQt, cdQt, ctQt, slQt, lQt, cQt, kQt⟩ := c.def_ 33 (d := dHQt) rfl rfl
  obtain ⟨ocKl, odKl, kVKl, dcKl, pmKl, anKl, cdKl, ctKl, slKl, lKl, cKl, kKl⟩ := c.def_ 34 (d := dHKl) rfl rfl
  obtain ⟨ocKt, odKt, kVKt, dcKt, pmKt, anKt, cdKt, ctKt, slKt, lKt, cKt, kKt⟩ := c.def_ 35 (d := dHKt) rfl rfl
  obtain ⟨ocKf, odKf, kVKf, dcKf, pmKf, anKf, cdKf, ctKf, slKf, lKf, cKf, kKf⟩ := c.def_ 36 (d := dHKf) rfl rfl
  obtain ⟨ocKw, odKw, kVKw, dcKw, pmKw, anKw, cdKw, ctKw, slKw, lKw, cKw, kKw⟩ := c.def_ 37 (d := dHKw) rfl rfl
  obtain ⟨ocQi, odQi, kVQi, dcQi, pmQi, anQi, cdQi, ctQi, slQi, lQi, cQi, kQi⟩ := c.def_ 38 (d := dHQi) rfl rfl
  obtain ⟨ocR, odR, kVR, dcR, pmR, anR, cdR, ctR, slR, lR, cR, kR⟩ := c.def_ 39 (d := dHR) rfl rfl
  obtain ⟨ocL, odL, kVL, dcL, pmL, anL, cdL, ctL, slL, lL, cL, kL⟩ := c.def_ 40 (d := dHL) rfl rfl
  obtain ⟨ocI, odI, kVI, dcI, pmI, anI, cdI, ctI, slI, lI, cI, kI⟩ := c.def_ 41 (d := dHI) rfl rfl
  obtain ⟨ocHi, odHi, kVHi, dcHi, pmHi, anHi, cdHi, ctHi, slHi, lHi, cHi, kHi⟩ := c.def_ 42 (d := dHHi) rfl rfl
  obtain ⟨ocTh, odTh, kVTh, dcTh, pmTh, anTh, cdTh, ctTh, slTh, lTh, cTh, kTh⟩ := c.def_ 43 (d := dHTh) rfl rfl
  obtain ⟨ocFi, odFi, kVFi, dcFi, pmFi, anFi, cdFi, ctFi, slFi, lFi, cFi, kFi⟩ := c.def_ 44 (d := dHFi) rfl rfl
  obtain ⟨ocXt, odXt, kVXt, dcXt, pmXt, anXt, cdXt, ctXt, slXt, lXt, cXt, kXt⟩ := c.def_ 45 (d := dHXt) rfl rfl
  obtain ⟨ocXl, odXl, kVXl, dcXl, pmXl, anXl, cdXl, ctXl, slXl, lXl, cXl, kXl⟩ := c.def_ 46 (d := dHXl) rfl rfl
  obtain ⟨ocYf, odYf, kVYf, dcYf, pmYf, anYf, cdYf, ctYf, slYf, lYf, cYf, kYf⟩ := c.def_ 47 (d := dHYf) rfl rfl
  obtain ⟨ocYo, odYo, kVYo, dcYo, pmYo, anYo, cdYo, ctYo, slYo, lYo, cYo, kYo⟩ := c.def_ 48 (d := dHYo) rfl rfl
  obtain ⟨ocXi, odXi, kVXi, dcXi, pmXi, anXi, cdXi, ctXi, slXi, lXi, cXi, kXi⟩ := c.def_ 49 (d := dHXi) rfl rfl
  obtain ⟨ocXn, odXn, kVXn, dcXn, pmXn, anXn, cdXn, ctXn, slXn, lXn, cXn, kXn⟩ := c.def_ 50 (d := dHXn) rfl rfl
  obtain ⟨ocXu, odXu, kVXu, dcXu, pmXu, anXu, cdXu, ctXu, slXu, lXu, cXu, kXu⟩ := c.def_ 51 (d := dHXu) rfl rfl
  obtain ⟨ocXw, odXw, kVXw, dcXw, pmXw, anXw, cdXw, ctXw, slXw, lXw, cXw, kXw⟩ := c.def_ 52 (d := dHXw) rfl rfl
  obtain ⟨ocXf, odXf, kVXf, dcXf, pmXf, anXf, cdXf, ctXf, slXf, lXf, cXf, kXf⟩ := c.def_ 53 (d := dHXf) rfl rfl
  obtain ⟨ocXa, odXa, kVXa, dcXa, pmXa, anXa, cdXa, ctXa, slXa, lXa, cXa, kXa⟩ := c.def_ 54 (d := dHXa) rfl rfl
  obtain ⟨ocXm, odXm, kVXm, dcXm, pmXm, anXm, cdXm, ctXm, slXm, lXm, cXm, kXm⟩ := c.def_ 55 (d := dHXm) rfl rfl
  obtain ⟨ocYi, odYi, kVYi, dcYi, pmYi, anYi, cdYi, ctYi, slYi, lYi, cYi, kYi⟩ := c.def_ 56 (d := dHYi) rfl rfl
  obtain ⟨ocYr, odYr, kVYr, dcYr, pmYr, anYr, cdYr, ctYr, slYr, lYr, cYr, kYr⟩ := c.def_ 57 (d := dHYr) rfl rfl
  obtain ⟨ocYk, odYk, kVYk, dcYk, pmYk, anYk, cdYk, ctYk, slYk, lYk, cYk, kYk⟩ := c.def_ 58 (d := dHYk) rfl rfl
  obtain ⟨ocYl, odYl, kVYl, dcYl, pmYl, anYl, cdYl, ctYl, slYl, lYl, cYl, kYl⟩ := c.def_ 59 (d := dHYl) rfl rfl
  obtain ⟨ocYa, odYa, kVYa, dcYa, pmYa, anYa, cdYa, ctYa, slYa, lYa, cYa, kYa⟩ := c.def_ 60 (d := dHYa) rfl rfl
  obtain ⟨ocYm, odYm, kVYm, dcYm, pmYm, anYm, cdYm, ctYm, slYm, lYm, cYm, kYm⟩ := c.def_ 61 (d := dHYm) rfl rfl
  have gCB : PySem.W.nsIn K mainGlobals "Board" = some (some (.ref (A_CB K))) := HX.allT_of m0 0 rfl
  have gCH : PySem.W.nsIn K mainGlobals "History" = some (some (.ref (A_CH K))) := HX.allT_of m0 1 rfl
  have gCW : PySem.W.nsIn K mainGlobals "Words" = some (some (.ref (A_CW K))) := HX.allT_of m0 2 rfl
  have gCD : PySem.W.nsIn K mainGlobals "Bounds" = some (some (.ref (A_CD K))) := HX.allT_of m0 3 rfl
  have aB : PySem.W.nsIn K mainGlobals "_law_well" = some (some (.ref (A_fB K))) := HX.allT_of m0 4 rfl
  have aD : PySem.W.nsIn K mainGlobals "_law_next" = some (some (.ref (A_fD K))) := HX.allT_of m0 5 rfl
  have aAl : PySem.W.nsIn K mainGlobals "_law_alphabet" = some (some (.ref (A_fAl K))) := HX.allT_of m0 6 rfl
  have aMd : PySem.W.nsIn K mainGlobals "_law_medium" = some (some (.ref (A_fMd K))) := HX.allT_of m0 7 rfl
  have aSg : PySem.W.nsIn K mainGlobals "_law_signs" = some (some (.ref (A_fSg K))) := HX.allT_of m0 8 rfl
  have aTe : PySem.W.nsIn K mainGlobals "_law_text" = some (some (.ref (A_fTe K))) := HX.allT_of m0 9 rfl
  have aNe : PySem.W.nsIn K mainGlobals "_law_near" = some (some (.ref (A_fNe K))) := HX.allT_of m0 10 rfl
  have aTr : PySem.W.nsIn K mainGlobals "_law_true_entries" = some (some (.ref (A_fTr K))) := HX.allT_of m0 11 rfl
  have aW : PySem.W.nsIn K mainGlobals "is_integer_within" = some (some (.ref (A_fW K))) := HX.allT_of m0 12 rfl
  have aA : PySem.W.nsIn K mainGlobals "is_alphabet" = some (some (.ref (A_fA K))) := HX.allT_of m0 13 rfl
  have aCn : PySem.W.nsIn K mainGlobals "count_words" = some (some (.ref (A_fCn K))) := HX.allT_of m0 14 rfl
  have aOv : PySem.W.nsIn K mainGlobals "is_text_over" = some (some (.ref (A_fOv K))) := HX.allT_of m0 15 rfl
  have aIw : PySem.W.nsIn K mainGlobals "is_word" = some (some (.ref (A_fIw K))) := HX.allT_of m0 16 rfl
  have aAm : PySem.W.nsIn K mainGlobals "are_marks" = some (some (.ref (A_fAm K))) := HX.allT_of m0 17 rfl
  have aIr : PySem.W.nsIn K mainGlobals "is_row" = some (some (.ref (A_fIr K))) := HX.allT_of m0 18 rfl
  have aCw : PySem.W.nsIn K mainGlobals "check_word" = some (some (.ref (A_fCw K))) := HX.allT_of m0 19 rfl
  have aCm : PySem.W.nsIn K mainGlobals "check_marks" = some (some (.ref (A_fCm K))) := HX.allT_of m0 20 rfl
  have aCb : PySem.W.nsIn K mainGlobals "check_board" = some (some (.ref (A_fCb K))) := HX.allT_of m0 21 rfl
  have aCr : PySem.W.nsIn K mainGlobals "check_rows" = some (some (.ref (A_fCr K))) := HX.allT_of m0 22 rfl
  have aCh : PySem.W.nsIn K mainGlobals "check_history" = some (some (.ref (A_fCh K))) := HX.allT_of m0 23 rfl
  have aMo : PySem.W.nsIn K mainGlobals "marks_of" = some (some (.ref (A_fMo K))) := HX.allT_of m0 24 rfl
  have aLh : PySem.W.nsIn K mainGlobals "_law_history" = some (some (.ref (A_fLh K))) := HX.allT_of m1 0 rfl
  have aWc : PySem.W.nsIn K mainGlobals "common_letters" = some (some (.ref (A_fWc K))) := HX.allT_of m1 1 rfl
  have aWn : PySem.W.nsIn K mainGlobals "counted_letters" = some (some (.ref (A_fWn K))) := HX.allT_of m1 2 rfl
  have aWg : PySem.W.nsIn K mainGlobals "marks_given" = some (some (.ref (A_fWg K))) := HX.allT_of m1 3 rfl
  have aOd : PySem.W.nsIn K mainGlobals "is_in_order" = some (some (.ref (A_fOd K))) := HX.allT_of m1 4 rfl
  have aHw : PySem.W.nsIn K mainGlobals "has_word" = some (some (.ref (A_fHw K))) := HX.allT_of m1 5 rfl
  have aCt : PySem.W.nsIn K mainGlobals "count" = some (some (.ref (A_fCt K))) := HX.allT_of m1 6 rfl
  have aNw : PySem.W.nsIn K mainGlobals "nth_word" = some (some (.ref (A_fNw K))) := HX.allT_of m1 7 rfl
  have aQp : PySem.W.nsIn K mainGlobals "places_of_letter" = some (some (.ref (A_fQp K))) := HX.allT_of m1 8 rfl
  have aQn : PySem.W.nsIn K mainGlobals "numbers_of_copies" = some (some (.ref (A_fQn K))) := HX.allT_of m1 9 rfl
  have aQo : PySem.W.nsIn K mainGlobals "occurrences" = some (some (.ref (A_fQo K))) := HX.allT_of m1 10 rfl
  have aQl : PySem.W.nsIn K mainGlobals "letters_at" = some (some (.ref (A_fQl K))) := HX.allT_of m1 11 rfl
  have aQt : PySem.W.nsIn K mainGlobals "table" = some (some (.ref (A_fQt K))) := HX.allT_of m1 12 rfl
  have aKl : PySem.W.nsIn K mainGlobals "is_letter" = some (some (.ref (A_fKl K))) := HX.allT_of m1 13 rfl
  have aKt : PySem.W.nsIn K mainGlobals "is_fact" = some (some (.ref (A_fKt K))) := HX.allT_of m1 14 rfl
  have aKf : PySem.W.nsIn K mainGlobals "check_facts" = some (some (.ref (A_fKf K))) := HX.allT_of m1 15 rfl
  have aKw : PySem.W.nsIn K mainGlobals "count_with" = some (some (.ref (A_fKw K))) := HX.allT_of m1 16 rfl
  have aQi : PySem.W.nsIn K mainGlobals "_law_within" = some (some (.ref (A_fQi K))) := HX.allT_of m1 17 rfl
  have aR : PySem.W.nsIn K mainGlobals "_law_right" = some (some (.ref (A_fR K))) := HX.allT_of m1 18 rfl
  have aL : PySem.W.nsIn K mainGlobals "law" = some (some (.ref (A_fL K))) := HX.allT_of m1 19 rfl
  have aI : PySem.W.findIn K (.ref (A_CB K)) "__init__" = some (some (.ref (A_fI K))) := HX.allT_of m1 20 rfl
  have iI : PySem.W.isFn K (.ref (A_fI K)) = true := HX.allT_of m1 21 rfl
  have aHi : PySem.W.findIn K (.ref (A_CH K)) "__init__" = some (some (.ref (A_fHi K))) := HX.allT_of m1 22 rfl
  have iHi : PySem.W.isFn K (.ref (A_fHi K)) = true := HX.allT_of m1 23 rfl
  have aTh : PySem.W.findIn K (.ref (A_CH K)) "then" = some (some (.ref (A_fTh K))) := HX.allT_of m1 24 rfl
  have iTh : PySem.W.isFn K (.ref (A_fTh K)) = true := HX.allT_of m2 0 rfl
  have aFi : PySem.W.findIn K (.ref (A_CH K)) "fits" = some (some (.ref (A_fFi K))) := HX.allT_of m2 1 rfl
  have iFi : PySem.W.isFn K (.ref (A_fFi K)) = true := HX.allT_of m2 2 rfl
  have aXt : PySem.W.findIn K (.ref (A_CW K)) "nth" = some (some (.ref (A_fXt K))) := HX.allT_of m2 3 rfl
  have iXt : PySem.W.isFn K (.ref (A_fXt K)) = true := HX.allT_of m2 4 rfl
  have aXl : PySem.W.findIn K (.ref (A_CW K)) "letter_at" = some (some (.ref (A_fXl K))) := HX.allT_of m2 5 rfl
  have iXl : PySem.W.isFn K (.ref (A_fXl K)) = true := HX.allT_of m2 6 rfl
  have aYf : PySem.W.findIn K (.ref (A_CD K)) "take_fact" = some (some (.ref (A_fYf K))) := HX.allT_of m2 7 rfl
  have iYf : PySem.W.isFn K (.ref (A_fYf K)) = true := HX.allT_of m2 8 rfl
  have aYo : PySem.W.findIn K (.ref (A_CD K)) "of_letter" = some (some (.ref (A_fYo K))) := HX.allT_of m2 9 rfl
  have iYo : PySem.W.isFn K (.ref (A_fYo K)) = true := HX.allT_of m2 10 rfl
  have aXi : PySem.W.findIn K (.ref (A_CW K)) "__init__" = some (some (.ref (A_fXi K))) := HX.allT_of m2 11 rfl
  have iXi : PySem.W.isFn K (.ref (A_fXi K)) = true := HX.allT_of m2 12 rfl
  have aXn : PySem.W.findIn K (.ref (A_CW K)) "none_used" = some (some (.ref (A_fXn K))) := HX.allT_of m2 13 rfl
  have iXn : PySem.W.isFn K (.ref (A_fXn K)) = true := HX.allT_of m2 14 rfl
  have aXu : PySem.W.findIn K (.ref (A_CW K)) "used_with" = some (some (.ref (A_fXu K))) := HX.allT_of m2 15 rfl
  have iXu : PySem.W.isFn K (.ref (A_fXu K)) = true := HX.allT_of m2 16 rfl
  have aXw : PySem.W.findIn K (.ref (A_CW K)) "many_with" = some (some (.ref (A_fXw K))) := HX.allT_of m2 17 rfl
  have iXw : PySem.W.isFn K (.ref (A_fXw K)) = true := HX.allT_of m2 18 rfl
  have aXf : PySem.W.findIn K (.ref (A_CW K)) "many_from" = some (some (.ref (A_fXf K))) := HX.allT_of m2 19 rfl
  have iXf : PySem.W.isFn K (.ref (A_fXf K)) = true := HX.allT_of m2 20 rfl
  have aXa : PySem.W.findIn K (.ref (A_CW K)) "add_ways" = some (some (.ref (A_fXa K))) := HX.allT_of m2 21 rfl
  have iXa : PySem.W.isFn K (.ref (A_fXa K)) = true := HX.allT_of m2 22 rfl
  have aXm : PySem.W.findIn K (.ref (A_CW K)) "many" = some (some (.ref (A_fXm K))) := HX.allT_of m2 23 rfl
  have iXm : PySem.W.isFn K (.ref (A_fXm K)) = true := HX.allT_of m2 24 rfl
  have aYi : PySem.W.findIn K (.ref (A_CD K)) "__init__" = some (some (.ref (A_fYi K))) := HX.allT_of m3 0 rfl
  have iYi : PySem.W.isFn K (.ref (A_fYi K)) = true := HX.allT_of m3 1 rfl
  have aYr : PySem.W.findIn K (.ref (A_CD K)) "take_row" = some (some (.ref (A_fYr K))) := HX.allT_of m3 2 rfl
  have iYr : PySem.W.isFn K (.ref (A_fYr K)) = true := HX.allT_of m3 3 rfl
  have aYk : PySem.W.findIn K (.ref (A_CD K)) "keep_only" = some (some (.ref (A_fYk K))) := HX.allT_of m3 4 rfl
  have iYk : PySem.W.isFn K (.ref (A_fYk K)) = true := HX.allT_of m3 5 rfl
  have aYl : PySem.W.findIn K (.ref (A_CD K)) "leave_out" = some (some (.ref (A_fYl K))) := HX.allT_of m3 6 rfl
  have iYl : PySem.W.isFn K (.ref (A_fYl K)) = true := HX.allT_of m3 7 rfl
  have aYa : PySem.W.findIn K (.ref (A_CD K)) "ask_least" = some (some (.ref (A_fYa K))) := HX.allT_of m3 8 rfl
  have iYa : PySem.W.isFn K (.ref (A_fYa K)) = true := HX.allT_of m3 9 rfl
  have aYm : PySem.W.findIn K (.ref (A_CD K)) "ask_most" = some (some (.ref (A_fYm K))) := HX.allT_of m3 10 rfl
  have iYm : PySem.W.isFn K (.ref (A_fYm K)) = true := HX.allT_of m3 11 rfl
  obtain ⟨_, nML⟩ := HX.intB_of (HX.allT_at m3 (i := 12) rfl)
  obtain ⟨_, nMM⟩ := HX.intB_of (HX.allT_at m3 (i := 13) rfl)
  obtain ⟨_, nMR⟩ := HX.intB_of (HX.allT_at m3 (i := 14) rfl)
  obtain ⟨_, nLO⟩ := HX.strB_of (HX.allT_at m3 (i := 15) rfl)
  obtain ⟨_, nMA⟩ := HX.strB_of (HX.allT_at m3 (i := 16) rfl)
  obtain ⟨_, nMF⟩ := HX.intB_of (HX.allT_at m3 (i := 17) rfl)
  have zlen : PySem.W.nsIn K mainGlobals "len" = some none := HX.allT_of m3 18 rfl
  have zint : PySem.W.nsIn K mainGlobals "int" = some none := HX.allT_of m3 19 rfl
  have zabs : PySem.W.nsIn K mainGlobals "abs" = some none := HX.allT_of m3 20 rfl
  have zdivmod : PySem.W.nsIn K mainGlobals "divmod" = some none := HX.allT_of m3 21 rfl
  have zisinstance : PySem.W.nsIn K mainGlobals "isinstance" = some none := HX.allT_of m3 22 rfl
  have zbool : PySem.W.nsIn K mainGlobals "bool" = some none := HX.allT_of m3 23 rfl
  have zstr : PySem.W.nsIn K mainGlobals "str" = some none := HX.allT_of m3 24 rfl
  have zrange : PySem.W.nsIn K mainGlobals "range" = some none := HX.allT_of m4 0 rfl
  have zlist : PySem.W.nsIn K mainGlobals "list" = some none := HX.allT_of m4 1 rfl
  have zall : PySem.W.nsIn K mainGlobals "all" = some none := HX.allT_of m4 2 rfl
  have zmax : PySem.W.nsIn K mainGlobals "max" = some none := HX.allT_of m4 3 rfl
  have zmin : PySem.W.nsIn K mainGlobals "min" = some none := HX.allT_of m4 4 rfl
  have zzip : PySem.W.nsIn K mainGlobals "zip" = some none := HX.allT_of m4 5 rfl
  have ztuple : PySem.W.nsIn K mainGlobals "tuple" = some none := HX.allT_of m4 6 rfl
  have zenumerate : PySem.W.nsIn K mainGlobals "enumerate" = some none := HX.allT_of m4 7 rfl
  have zsum : PySem.W.nsIn K mainGlobals "sum" = some none := HX.allT_of m4 8 rfl
  have gtc : PySem.W.specialIn K (.builtin "object.__class__") "__get__" = some (some (.builtin "getset_descriptor.__get__")) := HX.allT_of m4 9 rfl
  have tkc : PySem.W.takesIn K (.builtin "object.__class__") = some true := HX.allT_of m4 10 rfl
  have pg : PySem.W.plainGet K (A_CB K) Str.empty = true := HX.allT_of m4 11 rfl
  have hd : PySem.W.hasDictIn K (A_CB K) = true := HX.allT_of m4 12 rfl
  have po : PySem.W.plainOver K (A_CB K) = true := HX.allT_of m4 13 rfl
  have sa : PySem.W.findIn K (.ref (A_CB K)) "__setattr__" = some (some (.builtin "object.__setattr__")) := HX.allT_of m4 14 rfl
  have mk : PySem.W.makesIn K (A_CB K) = true := HX.allT_of m4 15 rfl
  have kc : PySem.W.keepIn K (.ref (A_CB K)) = true := HX.allT_of m4 16 rfl
  have pgH : PySem.W.plainGet K (A_CH K) Str.empty = true := HX.allT_of m4 17 rfl
  have hdH : PySem.W.hasDictIn K (A_CH K) = true := HX.allT_of m4 18 rfl
  have poH : PySem.W.plainOver K (A_CH K) = true := HX.allT_of m4 19 rfl
  have saH : PySem.W.findIn K (.ref (A_CH K)) "__setattr__" = some (some (.builtin "object.__setattr__")) := HX.allT_of m4 20 rfl
  have mkH : PySem.W.makesIn K (A_CH K) = true := HX.allT_of m4 21 rfl
  have kcH : PySem.W.keepIn K (.ref (A_CH K)) = true := HX.allT_of m4 22 rfl
  have naL : PySem.W.findIn K (.ref (A_CB K)) "letters" = some none := HX.allT_of m4 23 rfl
  have naN : PySem.W.findIn K (.ref (A_CB K)) "length" = some none := HX.allT_of m4 24 rfl
  have naS : PySem.W.findIn K (.ref (A_CB K)) "size" = some none := HX.allT_of m5 0 rfl
  have ac : PySem.W.findIn K (.ref (A_CB K)) "__class__" = some (some (.builtin "object.__class__")) := HX.allT_of m5 1 rfl
  have ob : PySem.W.mroIn K (A_CB K) (.type "object") = some true := HX.allT_of m5 2 rfl
  have kitO : PySem.W.kitOne K (.ref (A_CB K)) (.ref (A_CB K)) = some true := HX.allT_of m5 3 rfl
  have nbB : PySem.W.findIn K (.ref (A_CH K)) "board" = some none := HX.allT_of m5 4 rfl
  have nbR : PySem.W.findIn K (.ref (A_CH K)) "rows" = some none := HX.allT_of m5 5 rfl
  have kitH : PySem.W.kitOne K (.ref (A_CH K)) (.ref (A_CH K)) = some true := HX.allT_of m5 6 rfl
  have acH : PySem.W.findIn K (.ref (A_CH K)) "__class__" = some (some (.builtin "object.__class__")) := HX.allT_of m5 7 rfl
  have obH : PySem.W.mroIn K (A_CH K) (.type "object") = some true := HX.allT_of m5 8 rfl
  have pgCW : PySem.W.plainGet K (A_CW K) Str.empty = true := HX.allT_of m5 9 rfl
  have hdCW : PySem.W.hasDictIn K (A_CW K) = true := HX.allT_of m5 10 rfl
  have poCW : PySem.W.plainOver K (A_CW K) = true := HX.allT_of m5 11 rfl
  have saCW : PySem.W.findIn K (.ref (A_CW K)) "__setattr__" = some (some (.builtin "object.__setattr__")) := HX.allT_of m5 12 rfl
  have mkiCW : PySem.W.makesIn K (A_CW K) = true := HX.allT_of m5 13 rfl
  have kcCW : PySem.W.keepIn K (.ref (A_CW K)) = true := HX.allT_of m5 14 rfl
  have naCWallowed : PySem.W.findIn K (.ref (A_CW K)) "allowed" = some none := HX.allT_of m5 15 rfl
  have naCWcounted : PySem.W.findIn K (.ref (A_CW K)) "counted" = some none := HX.allT_of m5 16 rfl
  have naCWleast : PySem.W.findIn K (.ref (A_CW K)) "least" = some none := HX.allT_of m5 17 rfl
  have naCWgreatest : PySem.W.findIn K (.ref (A_CW K)) "greatest" = some none := HX.allT_of m5 18 rfl
  have naCWknown : PySem.W.findIn K (.ref (A_CW K)) "known" = some none := HX.allT_of m5 19 rfl
  have pgCD : PySem.W.plainGet K (A_CD K) Str.empty = true := HX.allT_of m5 20 rfl
  have hdCD : PySem.W.hasDictIn K (A_CD K) = true := HX.allT_of m5 21 rfl
  have poCD : PySem.W.plainOver K (A_CD K) = true := HX.allT_of m5 22 rfl
  have saCD : PySem.W.findIn K (.ref (A_CD K)) "__setattr__" = some (some (.builtin "object.__setattr__")) := HX.allT_of m5 23 rfl
  have mkiCD : PySem.W.makesIn K (A_CD K) = true := HX.allT_of m5 24 rfl
  have kcCD : PySem.W.keepIn K (.ref (A_CD K)) = true := HX.allT_of m6 0 rfl
  have naCDallowed : PySem.W.findIn K (.ref (A_CD K)) "allowed" = some none := HX.allT_of m6 1 rfl
  have naCDleast : PySem.W.findIn K (.ref (A_CD K)) "least" = some none := HX.allT_of m6 2 rfl
  have naCDgreatest : PySem.W.findIn K (.ref (A_CD K)) "greatest" = some none := HX.allT_of m6 3 rfl
  exact all_mk X G hfa gCB gCH gCW gCD aB lB cB kB aD lD cD kD aAl lAl cAl kAl aMd lMd cMd kMd aSg lSg cSg kSg aTe lTe cTe kTe aNe lNe cNe kNe aTr lTr cTr kTr aW lW cW kW aA lA cA kA aCn lCn cCn kCn aOv lOv cOv kOv aIw lIw cIw kIw aAm lAm cAm kAm aIr lIr cIr kIr aCw lCw cCw kCw aCm lCm cCm kCm aCb lCb cCb kCb aCr lCr cCr kCr aCh lCh cCh kCh aMo lMo cMo kMo aLh lLh cLh kLh aWc lWc cWc kWc aWn lWn cWn kWn aWg lWg cWg kWg aOd lOd cOd kOd aHw lHw cHw kHw aCt lCt cCt kCt aNw lNw cNw kNw aQp lQp cQp kQp aQn lQn cQn kQn aQo lQo cQo kQo aQl lQl cQl kQl aQt lQt cQt kQt aKl lKl cKl kKl aKt lKt cKt kKt aKf lKf cKf kKf aKw lKw cKw kKw aQi lQi cQi kQi aR lR cR kR aL lL cL kL aI iI lI cI kI aHi iHi lHi cHi kHi aTh iTh lTh cTh kTh aFi iFi lFi cFi kFi aXt iXt lXt cXt kXt aXl iXl lXl cXl kXl aYf iYf lYf cYf kYf aYo iYo lYo cYo kYo aXi iXi lXi cXi kXi aXn iXn lXn cXn kXn aXu iXu lXu cXu kXu aXw iXw lXw cXw kXw aXf iXf lXf cXf kXf aXa iXa lXa cXa kXa aXm iXm lXm cXm kXm aYi iYi lYi cYi kYi aYr iYr lYr cYr kYr aYk iYk lYk cYk kYk aYl iYl lYl cYl kYl aYa iYa lYa cYa kYa aYm iYm lYm cYm kYm nML nMM nMR nLO nMA nMF zlen zint zabs zdivmod zisinstance zbool zstr zrange zlist zall zmax zmin zzip ztuple zenumerate zsum gtc tkc pg hd po sa mk kc pgH hdH poH saH mkH kcH naL naN naS ac ob kitO nbB nbR kitH acH obH pgCW hdCW poCW saCW mkiCW kcCW naCWallowed naCWcounted naCWleast naCWgreatest naCWknown pgCD hdCD poCD saCD mkiCD kcCD naCDallowed naCDleast naCDgreatest
end Gm
open PySem PySem.W PySem.Calls PyProof.Rows
theorem PySem.Challenge.cw_guessmarks_k58_whole_tables_by_counts_holds : PySem.Challenge.rw_guessmarks_k58_whole_tables_by_counts.Holds := by
  w_on; o_law
  refine HandSHeadRun.head_any (r := OpenLaw.row PySem.Challenge.rw_guessmarks_k58_whole_tables_by_counts) (q := view (OpenLaw.row PySem.Challenge.rw_guessmarks_k58_whole_tables_by_counts).prog [74]) (H := Gm.hkH) (ob := Gm.obH) (M := 12000) (loose := Gm.namesH) (d := HandSHeadRun.topDef (OpenLaw.row PySem.Challenge.rw_guessmarks_k58_whole_tables_by_counts).prog 74) (kwd := []) Gm.obH_eq
    (by kernel_rfl) (fun s => by kernel_rfl) Gm.runH (by kernel_rfl) (by kernel_rfl) (by kernel_rfl) (by rfl) (by first | assumption | decide +kernel) (by decide +kernel) ⟨rfl, rfl, rfl, rfl, rfl, by decide +kernel⟩ ?hw ?hc
  case hw => w_witness2
  case hc =>
    refine L2.walkGE (l := PySem.Challenge.rw_guessmarks_k58_whole_tables_by_counts) (n := 63) (k := 26) (x := "_law_script") rfl (by decide) (by kernel_rfl) ⟨rfl, by decide, by decide⟩ (by first | kernel_rfl | decide +kernel) ?F
    intro w mg fa h Y G hmg0
    obtain ⟨K, KX, c⟩ := Y
    have hmg : mg ("law" : PySem.Str) = some (.ref fa) := by
      have e : (HandSHeadRun.topDef (OpenLaw.row PySem.Challenge.rw_guessmarks_k58_whole_tables_by_counts).prog 74).name = ("law" : PySem.Str) := by kernel_rfl
      rw [← e]
      exact hmg0
    obtain ⟨fd, cs, hC, hb, hF⟩ := Gm.of_says (P := (PySem.Challenge.rw_guessmarks_k58_whole_tables_by_counts).prog) (w := w) KX G hmg c
    exact ⟨K, fd, cs, _, KX, hC, hb, fun H a ns hl hT hS => ⟨hT, a, ns, rfl, hS, hl, fun _ => rfl⟩, hF⟩

