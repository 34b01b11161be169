import PyProof.Rows.All
import Wide.All
import OpenK.AllK
import Wide.FinOn
import KE.KCallOwn
import PyProof.InstEq
import HandS.ForMost
import HandS.OwnEq
import HandS.IsInst
import HandS.Walk
import HandS.Codes
import HandS.FStr
import HandS.Style
import KE.GoesMore
import KE.GoesZip
import HandS.Zip
import HandS.SetFor
import KE.GoesEnum
import HandS.Star
import HandS.Defaults
import PyProof.Rows.StrFirst
import PyProof.Rows.StrCountLaw
import HandS.SortKw
import KE.DataMinMax
import PyProof.Rows.SetFrom
import HandS.Strs
import HandS.DictTup
import HandS.ListItems
import HandS.Conv
import KE.SortData
import KE.KDictZip
import HandS.Dict
import PyProof.ReprRoads
import HandS.Lambda
import HandS.EndTab
import HandS.Exc
import KE.KExcIs
import HandS.ExcInit
import HandS.ExcField
import HandS.WordsExc
import PyProof.StrLawsRepr
import HandS.Head2
import HandS.HeadHook4
import PySem.Challenge.RW_guessmarks_k19_whole_letters_tried
set_option Elab.async false
set_option linter.all false
set_option maxRecDepth 100000
set_option maxHeartbeats 8000000
/-! defs that are called where nothing is being shown, so that they may ask for the repr of lists -/
namespace L2
open PySem PySem.Spec PyProof.Rows
/-- FnOk for calls where no repr is under way -/
structure FnG (P : Program) (w : World) (K : PySem.W.Frag) (mg : Str → Option Value) (base : Heap) (CX : CXT) (k : Nat) (f : Addr) (fd : FuncData) (ps : List Str) (sp : Sp) : Prop where
  many : ∀ {vs H Q E}, sp vs H Q E → vs.length = ps.length
  goes : ∀ {A : Around} {outer : List Env} {s : Shared} {H : Hp} {args : Args} {us : List Value} {vs : List V} {Q : VK} {E : XK}, A.guards = some [] → Room k A → Env0 P w K mg base A outer s H →
    BindsTo s fd args (ps.zip us) → Vals vs us → sp vs H Q E → codeAny (model P w) A (.call (.ref f) args) (CR CX outer P w H s Q E) s
theorem FnOk.toG {P : Program} {w : World} {K : PySem.W.Frag} {mg : Str → Option Value} {base : Heap} {CX : CXT} {k : Nat} {f : Addr} {fd : FuncData} {ps : List Str} {sp : Sp} (F : FnOk P w K mg base CX k f fd ps sp) : FnG P w K mg base CX k f fd ps sp :=
  ⟨fun h => F.len _ _ _ _ h, fun _ hr e b r h => F.run _ _ _ _ _ _ _ _ _ hr e b r h⟩
theorem Fun.okG {P : Program} {w : World} {K : PySem.W.Frag} {mg : Str → Option Value} {base : Heap} {x qual : Str} {st : Stmt} {f : Addr} {fd : FuncData} {N ps : List Str} {k : Nat} {sp : Sp} (F : Fun K x qual st f fd) (S : FnScope N ps (defScope st))
    (many : ∀ vs H Q E, sp vs H Q E → vs.length = ps.length)
    (body : ∀ (cdv : Value) (A : Around) (outer : List Env) (s : Shared) (H : Hp) (vs : List V) (Q : VK) (E : XK), A.guards = some [] → Room k (A.deeper (envOfC qual (defScope st) s.heap.objs.size f cdv)) → sp vs H Q E →
      ∃ t, PSs (cxOf CX0 P w K mg base N qual (defScope st) f cdv A outer s H E).nox (defBody st) t ∧ t { nx := fun _ H' => Q .non H', rt := Q } (start N vs) H) : FnG P w K mg base CX0 (k + 1) f fd ps sp := by
  obtain ⟨oc, od, kV, doc, pm, an, cdv, ct, osl, rfl, lk, hcd⟩ := F.ex
  refine ⟨fun h => many _ _ _ _ h, fun {A outer s H args us vs Q E} g hr e b r h => ?_⟩
  refine LamX.run_ofS lk hcd S hr e b r (many _ _ _ _ h) fun hr' => ?_
  obtain ⟨t, ht, q⟩ := body cdv A outer s H vs Q E g hr' h
  exact ⟨t, ht.nox, q⟩
section
variable {X : Cx} {CX : CXT} {k : Nat} {f : Addr} {fd : FuncData} {ps : List Str} {sp : Sp} {E : XK} {x : Str} {p pos : Pos} {e : Expr} {es : List Expr} {t : TA}
theorem pe_callG (F : FnG X.prog X.w X.K X.mg X.base CX k f fd ps sp) (g : X.A.guards = some []) (hr : Room k X.A) (hg : Gl X x) (hm : X.mg x = some (.ref f)) (hk : PySem.W.keepIn X.K (.ref f) = true) (hb : Binds X.K fd ps []) (hx : Passes CX X E) (ha : PA X (e :: es) t)
    (hdb : (x == ("__debug__" : Str)) = false := by decide) (he : starEach (e :: es) X.env = (false, eval e X.env) :: starEach es X.env := by rfl) (hpl : (backTo pos (starEach es X.env)).any (·.1) = false := by rfl) :
    PE X (.Call (.Name x p) (e :: es) [] pos) (tCall sp [] E t) := by
  constructor
  intro pins s σ H Q I h
  apply wpAny_Call_Name_kw
  apply ld_glob I hg hm _ hdb
  refine PySem.W.callWith_K (h₀ := X.base) I.ok.mod.kin hk (thn (ha.run pos pins s σ H _ I h) fun us s1 hh => ?_) he hpl
  obtain ⟨vs, H1, I1, r, q⟩ := hh
  refine ⟨I1.kIn, wpAny_call (codeAny_mono (F.goes g hr I1.env0 (us := us) ?_ r (by simpa using q)) fun r s' hq => ?_)⟩
  · have hl : (us ++ []).length = ps.length := by
      rw [List.append_nil, ← r.length]
      exact F.many (by simpa using q)
    simpa using hb s1 us I1.kIn hl
  · match r, hq with
    | .error e, hq => exact hx pins σ H1 s1 e s' I1 hq
    | .ok (.ret u), hq => exact I1.after hq
end
/-! ### repr of data -/
mutual
/-- as Dp, with the empty dict besides -/
inductive Dq (K : PySem.W.Frag) (H : Hp) : V → PyData → Prop
  | non : Dq K H .non .none
  | bl (b : Bool) : Dq K H (.bl b) (.bool b)
  | int (i : Int) : Dq K H (.int i) (.int i)
  | str (x : Str) : Dq K H (.str x) (.str x)
  | lst {a : Addr} {xs : List V} {ds : List PyData} : SqL K H a xs → DqAll K H xs ds → Dq K H (.ref a) (.list ds)
  | tup {a : Addr} {xs : List V} {ds : List PyData} : SqT K H a xs → DqAll K H xs ds → Dq K H (.ref a) (.tuple ds)
  | dic {a : Addr} : H a = some (.dK []) → Dq K H (.ref a) (.dict [])
inductive DqAll (K : PySem.W.Frag) (H : Hp) : List V → List PyData → Prop
  | nil : DqAll K H [] []
  | cons {v : V} {vs : List V} {d : PyData} {ds : List PyData} : Dq K H v d → DqAll K H vs ds → DqAll K H (v :: vs) (d :: ds)
end
section
variable {X : Cx} {pins : List (Addr × Obj)} {σ : St} {H : Hp} {s : Shared}
theorem no_mods {a : Addr} {o : Obj} {vs : Array Value} {n : Nat} {h : Heap} {mm : Str → Option Value} (hm : h.Ns sysModules mm) (ho : h.get? a = some o) (hd : o.data = .seq vs n) : sysModules ≠ a := fun z => by
  obtain ⟨o', es, ep, e, d, _⟩ := hm
  rw [z, ho] at e
  cases e
  rw [hd] at d
  cases d
mutual
theorem Dq.reads {mm : Str → Option Value} (hm : s.heap.Ns sysModules mm) (I : Inv X pins σ H s) : ∀ (d : PyData) (v : V) (u : Value), Dq X.K H v d → RelV v u → ∃ as, Reads s.heap u d as ∧ sysModules ∉ as
  | .none, _, _, h, r => by
    cases h; cases r
    exact ⟨_, .none, List.not_mem_nil⟩
  | .bool b, _, _, h, r => by
    cases h; cases r
    exact ⟨_, .bool b, List.not_mem_nil⟩
  | .int i, _, _, h, r => by
    cases h; obtain ⟨t, rfl⟩ := r
    exact ⟨_, .int i t, List.not_mem_nil⟩
  | .str x, _, _, h, r => by
    cases h; obtain ⟨t, rfl⟩ := r
    exact ⟨_, .str x t, List.not_mem_nil⟩
  | .list ds, _, _, h, r => by
    cases h with
    | lst hs ha =>
      cases r
      obtain ⟨its, rv, ⟨o, n, ho, hc, _, hd⟩, _⟩ := I.list hs
      obtain ⟨as, hr, nm⟩ := Dq.readsAll hm I ds _ its ha rv
      refine ⟨_, .list ho hc hd hr, fun z => ?_⟩
      rcases List.mem_cons.mp z with z | z
      · exact no_mods hm ho hd z
      · exact nm z
  | .tuple ds, _, _, h, r => by
    cases h with
    | tup hs ha =>
      cases r
      obtain ⟨its, rv, ⟨o, ho, hc, n, hd⟩, _⟩ := I.tuple hs
      obtain ⟨as, hr, nm⟩ := Dq.readsAll hm I ds _ its ha rv
      exact ⟨_, .tuple ho hc hd hr, nm⟩
  | .dict ks, _, _, h, r => by
    cases h with
    | dic e =>
      cases r
      obtain ⟨_, nd, vs, kv, dd⟩ := dk_of I.hok e
      cases kv
      obtain ⟨o, es, ep, ho, hx, hd, _, he, _⟩ := dd
      have e0 : es.toList = [] := by cases hl : es.toList with | nil => rfl | cons a b => (rw [hl] at he; cases he)
      refine ⟨_, .dict (as := []) (bs := []) ho hx.1 hd (by rw [e0]; exact .nil) (by rw [e0]; exact .nil), fun z => ?_⟩
      rcases List.mem_cons.mp z with z | z
      · rw [← z] at nd
        simp at nd
      · simp at z
theorem Dq.readsAll {mm : Str → Option Value} (hm : s.heap.Ns sysModules mm) (I : Inv X pins σ H s) : ∀ (ds : List PyData) (vs : List V) (us : List Value), DqAll X.K H vs ds → Vals vs us → ∃ as, ReadsAll s.heap us ds as ∧ sysModules ∉ as
  | [], _, _, h, r => by
    cases h; cases r
    exact ⟨_, .nil, List.not_mem_nil⟩
  | d :: ds, _, _, h, r => by
    cases h with
    | cons h1 h2 =>
      cases r with
      | cons r1 r2 =>
        obtain ⟨as, q1, n1⟩ := Dq.reads hm I d _ _ h1 r1
        obtain ⟨bs, q2, n2⟩ := Dq.readsAll hm I ds _ _ h2 r2
        exact ⟨_, .cons q1 q2, fun z => (List.mem_append.mp z).elim n1 n2⟩
end
/-- what repr wants of data: it can be shown, in so much room -/
structure Sh (d : PyData) (n m : Nat) : Prop where
  ok : d.showable = true
  long : d.shown.length ≤ n
  deep : d.depth ≤ m
theorem call_reprD (g : X.A.guards = some []) (hu : X.A.units + 64 < cLine) (hm : ∃ mm, X.base.Ns sysModules mm) :
    CallR X (.builtin "repr") (fun xs H Q => ∃ (a : Addr) (d : PyData), xs = [.ref a] ∧ Dq X.K H (.ref a) d ∧ Sh d 16777216 60 ∧ Q (.str d.shown) H) := by
  intro pins s σ H xs us Q I r h
  obtain ⟨a, d, rfl, hd, hs, q⟩ := h
  obtain ⟨mm, hm⟩ := hm
  cases r with
  | cons r1 r2 =>
    cases r2
    cases r1
    obtain ⟨as, rd, nm⟩ := Dq.reads (hm.keeps I.bk) I d _ _ hd rfl
    refine repr_of_reads' rd hs.ok (fun _ => nm) g ?_ (fun _ _ e => e) (fun h' u tk k => ?_) ?_
    · have := hs.deep
      omega
    · exact ⟨.str d.shown, H, I.kept (t' := tk) k, ⟨_, rfl⟩, q⟩
    · rw [sizeLine_eq]
      exact hs.long
end
end L2

/-! the end of a law whose defs are FnG -/
namespace L2
open PySem PySem.Spec PyProof.Rows LamX
/-- what stands behind the top; cs: code objects with their tables -/
structure Ready (K : PySem.W.Frag) (mg mb : Str → Option Value) (z : Shared) (cs : List (Addr × Addr)) : Prop where
  kin : K.In z.heap
  glob : z.heap.Ns mainGlobals mg
  blt : z.heap.Ns builtinsNs mb
  boot : ∀ x : Str, x ≠ "__name__" → mb x = bootBuiltins x
  lim : z.heap.NoLimit
  mods : ∃ mm, z.heap.Ns sysModules mm
  gens : z.gens = #[]
  tabs : ∀ p ∈ cs, z.heap.get? p.2 = some { cls := .none, data := .fields #[] }
  tabK : ∀ p ∈ cs, K.lookup p.2 = none
  code : ∀ p ∈ cs, PySem.W.CodeHd z.heap p.1 p.2
  main : ∃ (bm : Addr) (ob : Obj), mg "__builtins__" = some (.ref bm) ∧ bm ≠ builtinsNs ∧ z.heap.get? bm = some ob ∧ ob.cls = .type "module" ∧ ob.dict = some builtinsNs ∧ ob.data = .plain
/-- the abstract heap at the law's entry: the tables, and the script if it is no object of the module -/
def hp0 (K : PySem.W.Frag) (cs : List (Addr × Addr)) (a : Addr) (o : Obj) (ns : List Int) : Hp := fun b =>
  if b ∈ cs.map (·.2) then some (.tbl #[]) else if b = a ∧ K.lookup a = none then some (.frz o (.lst (ns.map V.int))) else none
section
variable {P : Program} {w : World} {K : PySem.W.Frag} {mg mb : Str → Option Value} {z : Shared} {cs : List (Addr × Addr)} {a : Addr} {vs : List Value} {ns : List Int}
abbrev scr (vs : List Value) : Obj := { cls := .type "list", data := .seq vs.toArray }
theorem hp0_tab {o : Obj} {p : Addr × Addr} (m : p ∈ cs) : hp0 K cs a o ns p.2 = some (.tbl #[]) := if_pos (List.mem_map.mpr ⟨p, m, rfl⟩)
theorem hp0_of {o : Obj} {b : Addr} {u : HO} (e : hp0 K cs a o ns b = some u) : (∃ p ∈ cs, p.2 = b ∧ u = .tbl #[]) ∨ (b = a ∧ K.lookup a = none ∧ u = .frz o (.lst (ns.map V.int))) := by
  unfold hp0 at e
  split at e
  · rename_i m
    obtain ⟨p, hp, q⟩ := List.mem_map.mp m
    exact .inl ⟨p, hp, q, (Option.some.inj e).symm⟩
  · split at e
    · rename_i m
      exact .inr ⟨m.1, m.2, (Option.some.inj e).symm⟩
    · cases e
theorem Ready.quiet (R : Ready K mg mb z cs) (ha : z.heap.get? a = some (scr vs)) {b : Addr} {o : Obj} (e : z.heap.get? b = some o) (n1 : ∀ us n, o.data ≠ .seq us n) (n2 : o.data ≠ .fields #[]) : hp0 K cs a (scr vs) ns b = none := by
  cases q : hp0 K cs a (scr vs) ns b with
  | none => rfl
  | some u =>
    rcases hp0_of q with ⟨p, hp, rfl, _⟩ | ⟨rfl, _, _⟩
    · rw [R.tabs p hp] at e
      cases e
      exact absurd rfl n2
    · rw [ha] at e
      cases e
      exact absurd rfl (n1 _ _)
theorem Ready.hok (R : Ready K mg mb z cs) (ha : z.heap.get? a = some (scr vs)) (hi : IntsAre vs ns) (hl : ns.length ≤ sizeLine) : HOk P w (hp0 K cs a (scr vs) ns) z.heap := fun b u q => by
  rcases hp0_of q with ⟨p, hp, rfl, rfl⟩ | ⟨rfl, _, rfl⟩
  · exact R.tabs p hp
  · exact ⟨ha, by rw [List.length_map]; exact hl, vs, _, vals_ints hi, ha⟩
theorem Ready.seq (R : Ready K mg mb z cs) (ha : z.heap.get? a = some (scr vs)) (hi : IntsAre vs ns) (hl : ns.length ≤ sizeLine) : SqL K (hp0 K cs a (scr vs) ns) a (ns.map V.int) := by
  cases hk : K.lookup a with
  | some o =>
    have e := R.kin a o hk
    rw [ha] at e
    cases e
    have rv := vals_ints hi
    exact .inr ⟨_, vs.toArray, _, hk, rfl, rfl, rfl, by rw [List.size_toArray, hi.length]; exact hl, by simpa using rv⟩
  | none =>
    have nt : a ∉ cs.map (·.2) := fun m => by
      obtain ⟨p, hp, e⟩ := List.mem_map.mp m
      have q := R.tabs p hp
      rw [e, ha] at q
      have q' : Data.seq vs.toArray _ = Data.fields #[] := congrArg Obj.data (Option.some.inj q)
      cases q'
    exact .inl (.inr ⟨scr vs, (if_neg nt).trans (if_pos ⟨rfl, hk⟩)⟩)
theorem Ready.space (R : Ready K mg mb z cs) (ha : z.heap.get? a = some (scr vs)) {b : Addr} {m : Str → Option Value} (x : z.heap.Ns b m) : (hidT z.heap (hp0 K cs a (scr vs) ns)).Ns b m := by
  obtain ⟨o, es, ep, e, d, r⟩ := x
  refine ⟨o, es, ep, hidT_get e (R.quiet ha e (fun us n q => ?_) fun q => ?_), d, r⟩ <;> (rw [d] at q; cases q)
theorem Ready.mod (R : Ready K mg mb z cs) (ha : z.heap.get? a = some (scr vs)) : L2.Mod K mg (hidT z.heap (hp0 K cs a (scr vs) ns)) := by
  refine ⟨fun b o e => hidT_get (R.kin b o e) ?_, R.space ha R.glob, ⟨mb, R.space ha R.blt, R.boot⟩, ?_⟩
  · cases q : hp0 K cs a (scr vs) ns b with
    | none => rfl
    | some u =>
      rcases hp0_of q with ⟨p, hp, rfl, _⟩ | ⟨rfl, n, _⟩
      · have t := R.tabK p hp
        rw [e] at t
        cases t
      · rw [e] at n
        cases n
  · obtain ⟨mc, h1, h2⟩ := R.lim
    exact ⟨mc, R.space ha h1, h2⟩
theorem Ready.tabB (R : Ready K mg mb z cs) (ha : z.heap.get? a = some (scr vs)) {p : Addr × Addr} (hp : p ∈ cs) : TabB (hidT z.heap (hp0 K cs a (scr vs) ns)) mg p.1 p.2 := by
  have tp := R.tabs p hp
  obtain ⟨og, eg, epg, gg, gd, _⟩ := R.glob
  refine ⟨?_, ?_, fun q => ?_⟩
  · obtain ⟨o, us, file, tf, flags, tg, inF, text, tt, e1, r1, r2, r3, r⟩ := R.code p hp
    refine ⟨o, us, file, tf, flags, tg, inF, text, tt, hidT_get e1 (R.quiet ha e1 (fun us n q => ?_) fun q => ?_), r1, r2, r3, r⟩
    · rw [r2] at q
      cases q
    · rw [r2] at q
      cases q
      simp at r3
  · obtain ⟨bm, ob, b1, b2, b3, b4, b5, b6⟩ := R.main
    refine ⟨bm, ob, b1, b2, fun q => ?_, fun q => ?_, hidT_get b3 (R.quiet ha b3 (fun us n q => ?_) fun q => ?_), b4, b5, b6⟩
    · rw [q, gg] at b3
      cases b3
      rw [gd] at b6
      cases b6
    · rw [q, tp] at b3
      cases b3
      cases b6
    · rw [b6] at q
      cases q
    · rw [b6] at q
      cases q
  · rw [q, tp] at gg
    cases gg
    cases gd
theorem callG {k : Nat} {fa : Addr} {fd : FuncData} {x : Str} {sp : Sp} (R : Ready K mg mb z cs) (ha : z.heap.get? a = some (scr vs)) (hi : IntsAre vs ns) (hl : ns.length ≤ sizeLine) (hr : Room k callerA)
    (F : ∀ base : Heap, K.In base → base.Ns mainGlobals mg → (∃ mm, base.Ns sysModules mm) → (∀ p ∈ cs, TabB base mg p.1 p.2) → FnG P w K mg base CX0 k fa fd [x] sp) (hb : ∀ (s : Shared) (u : Value), BindsTo s fd ⟨[u], []⟩ [(x, u)])
    (hsp : ∀ H : Hp, (∀ p ∈ cs, H p.2 = some (.tbl #[])) → SqL K H a (ns.map V.int) → sp [.ref a] H (fun v _ => v = .bl true) fun _ _ _ => False) :
    codeAny (model P w) callerA (.call (.ref fa) ⟨[.ref a], []⟩) (fun r s' => r = .ok (.ret (.bool true)) ∧ OldK z.heap s'.heap ∧ s'.os = z.os ∧ AllBare s'.gens) z := by
  obtain ⟨H, eH⟩ : ∃ H, H = hp0 K cs a (scr vs) ns := ⟨_, rfl⟩
  have M := R.mod (ns := ns) ha
  have hok : HOk P w H z.heap := eH ▸ R.hok ha hi hl
  have tabH : ∀ p ∈ cs, H p.2 = some (.tbl #[]) := fun p hp => eH ▸ hp0_tab hp
  have G := F _ M.kin M.glob (R.mods.imp fun mm h => R.space (ns := ns) ha h) (fun p hp => R.tabB (ns := ns) ha hp)
  have e0 : Env0 P w K mg (hidT z.heap (hp0 K cs a (scr vs) ns)) callerA [] z H := ⟨rfl, M, fun b o e => eH ▸ of_hidT e, Nat.le_of_eq (hidT_size _ _), trivial, nofun, hok, .of_eq R.gens⟩
  refine codeAny_mono (G.goes (us := [.ref a]) (vs := [.ref a]) rfl hr e0 (hb z (.ref a)) (.cons rfl .nil) (hsp H tabH (eH ▸ R.seq ha hi hl))) fun r s' h => ?_
  match r, h with
  | .ok (.ret u), h =>
    obtain ⟨v, H', os, bare, un, hok', rv, q⟩ := h
    have q' : v = .bl true := q
    subst q'
    obtain rfl : u = Value.bool true := rv
    have kept : ∀ {b : Addr} {o : Obj}, (∀ p ∈ cs, p.2 ≠ b) → z.heap.get? b = some o → s'.heap.get? b = some o := fun {b o} nb e => by
      cases q : H b with
      | none => exact un.keep b o e q nofun (by simp)
      | some u =>
        rw [eH] at q
        rcases hp0_of q with ⟨p, hp, e2, _⟩ | ⟨_, _, rfl⟩
        · exact absurd e2 (nb p hp)
        · have z2 := un.frzs b _ _ (eH ▸ q)
          obtain ⟨e1, _⟩ := hok b _ (eH ▸ q)
          obtain ⟨e3, _⟩ := hok' b _ z2
          rw [e] at e1
          cases e1
          exact e3
    have grown : ∀ p ∈ cs, ∃ more : Array Value, s'.heap.get? p.2 = some { cls := .none, data := .fields more } := fun p hp => by
      obtain ⟨more, zz⟩ := un.tbls p.2 #[] (tabH p hp)
      exact ⟨_, hok' p.2 _ zz⟩
    refine ⟨rfl, ⟨fun b o e => ?_, fun b o e => ?_⟩, os, bare⟩
    · by_cases hm : ∃ p ∈ cs, p.2 = b
      · obtain ⟨p, hp, rfl⟩ := hm
        obtain ⟨more, hm⟩ := grown p hp
        have tp := R.tabs p hp
        rw [tp] at e
        cases e
        exact .inr (.inl ⟨((R.code p hp).tab tp).isCodeTable, rfl, #[], more, rfl, by rw [Array.empty_append]; exact hm⟩)
      · exact .inl (kept (fun p hp q => hm ⟨p, hp, q⟩) e)
    · by_cases hm : ∃ p ∈ cs, p.2 = b
      · obtain ⟨p, hp, rfl⟩ := hm
        obtain ⟨more, hm⟩ := grown p hp
        exact ⟨_, hm⟩
      · exact ⟨o, kept (fun p hp q => hm ⟨p, hp, q⟩) e⟩
/-- the goal that k_head leaves -/
theorem walkG {l : PySem.W.OpenLaw} {n k : Nat} {q : Program} {loose : List Str} {XP : (Str → Option Value) → Heap → Prop} {YP : World → Heap → Prop} {d : DefRec} {K : Params → PySem.W.Frag} {x : Str} {sp : PySem.W.Frag → Sp}
    (hn : l.most = some n) (hn2 : n ≤ sizeLine) (hdf : d.params.defaults = []) (hr : Room k callerA) (him : importsNone q = true) (hY : ∀ (w : World) (h : Heap), YP w h → (K w.params).In h)
    (F : ∀ (w : World) (mg : Str → Option Value) (fa : Addr) (h : Heap), (K w.params).In h → h.Ns mainGlobals mg → mg d.name = some (.ref fa) →
      (∀ d ∈ recsOf q, ∃ a o fd c P, mg d.name = some (.ref a) ∧ h.get? a = some o ∧ o.data = .func fd ∧ fd.code = .ref c ∧ h.IsCode c P #[] ∧ h.TableAt c P #[]) →
      ∃ (fd : FuncData) (cs : List (Addr × Addr)), (∀ p ∈ cs, h.get? p.2 = some { cls := .none, data := .fields #[] } ∧ (K w.params).lookup p.2 = none ∧ PySem.W.CodeHd h p.1 p.2) ∧ (∀ (s : Shared) (u : Value), BindsTo s fd ⟨[u], []⟩ [(x, u)]) ∧
        ∀ base : Heap, (K w.params).In base → base.Ns mainGlobals mg → (∃ mm, base.Ns sysModules mm) → (∀ p ∈ cs, TabB base mg p.1 p.2) → FnG l.prog w (K w.params) mg base CX0 k fa fd [x] (fun vs H Q E => (∀ p ∈ cs, H p.2 = some (.tbl #[])) ∧ sp (K w.params) vs H Q E))
    (hsp : ∀ (K : PySem.W.Frag) (H : Hp) (a : Addr) (ns : List Int), ns.length ≤ n → SqL K H a (ns.map V.int) → sp K [.ref a] H (fun v _ => v = .bl true) fun _ _ _ => False) :
    PySem.W.WalkO q loose XP YP l.row.toRowW d [] (fun f vs => PySem.call f vs) := by
  refine Att.attach_call hn hdf fun w s₀ s₁ mg mb fa o pm cd doc a vs ns G Y ho hd hcd hmg hobj hints hlen hg => ?_
  have KX := hY w _ Y
  obtain ⟨fd, cs, C, hb, hF⟩ := F w mg fa _ KX G.T.g hmg G.T.tab
  obtain ⟨mm, hm, _⟩ := (G.T.seer him).mods
  exact callG (cs := cs) ⟨KX, G.T.g, G.T.b, G.T.builtins, G.T.nolimit, ⟨mm, hm⟩, hg, fun p hp => (C p hp).1, fun p hp => (C p hp).2.1, fun p hp => (C p hp).2.2, G.T.bmain⟩ hobj hints (Nat.le_trans hlen hn2) hr hF hb fun H hT hS => ⟨hT, hsp _ H a ns hlen hS⟩
end
end L2

/-! a law's end whose head is one kernel run: what is known of the heap behind the top is asked by one Bool over a part of it -/
namespace HX
open PySem PySem.Spec PyProof.Rows L2
def allT (l : List Bool) : Bool := l.all _root_.id
theorem allT_at {l : List Bool} (h : allT l = true) {i : Nat} {b : Bool} (e : l[i]? = some b) : b = true := List.all_eq_true.mp h b (List.mem_of_getElem? e)
theorem allT_of {p : Prop} [Decidable p] {l : List Bool} (h : allT l = true) (i : Nat) (e : l[i]? = some (decide p)) : p := of_decide_eq_true (allT_at h e)
theorem and_l {a b : Bool} (h : (a && b) = true) : a = true := (Bool.and_eq_true_iff.mp h).1
theorem and_r {a b : Bool} (h : (a && b) = true) : b = true := (Bool.and_eq_true_iff.mp h).2
theorem dfl_nil {K : PySem.W.Frag} {dV : Value} (h : DflV K dV []) : dV = .none := by
  rcases h with ⟨_, h⟩ | ⟨h, _⟩
  · exact h
  · exact absurd rfl h
/-- constants of the module -/
def intB (K : PySem.W.Frag) (x : Str) (i : Int) : Bool := match PySem.W.nsIn K mainGlobals x with
  | some (some (.int j _)) => decide (j = i)
  | _ => false
theorem intB_of {K : PySem.W.Frag} {x : Str} {i : Int} (h : intB K x i = true) : ∃ t, PySem.W.nsIn K mainGlobals x = some (some (.int i t)) := by
  unfold intB at h
  split at h
  · rename_i j t e
    rw [e, of_decide_eq_true h]
    exact ⟨t, rfl⟩
  · cases h
def strB (K : PySem.W.Frag) (x z : Str) : Bool := match PySem.W.nsIn K mainGlobals x with
  | some (some (.str y _)) => decide (y = z)
  | _ => false
theorem strB_of {K : PySem.W.Frag} {x z : Str} (h : strB K x z = true) : ∃ t, PySem.W.nsIn K mainGlobals x = some (some (.str z t)) := by
  unfold strB at h
  split at h
  · rename_i j t e
    rw [e, of_decide_eq_true h]
    exact ⟨t, rfl⟩
  · cases h
/-- an error class with these bases behind it -/
def excB (K : PySem.W.Frag) (C : Addr) (bm : List Value) (newId : String) : Bool := match K.lookup C with
  | some ⟨.type "type", _, .cls cd, sl⟩ => (match cd.mro, sl.toList with
    | .ref C' :: bm', [_, _, _, _, some (.builtin n), _] => decide (C' = C) && (decide (n = newId) && (!cd.hasDel && (cd.hasDict && decide (bm' = bm))))
    | _, _ => false)
  | _ => false
theorem excB_of {K : PySem.W.Frag} {C : Addr} {bm : List Value} {newId : String} (q : excB K C bm newId = true) : ∃ nm qn N bs sn sub ab col dd k0 k1 k2 k3 k5, K.lookup C = some (excClassObj nm qn C N bs bm true sn sub ab col dd k0 k1 k2 k3 k5 newId) := by
  unfold excB at q
  split at q
  · rename_i dd cd sl ho
    split at q
    · rename_i C' bm' k0 k1 k2 k3 n k5 hm hs
      have e1 := of_decide_eq_true (and_l q)
      have e2 := of_decide_eq_true (and_l (and_r q))
      have e3 := and_l (and_r (and_r q))
      have e4 := and_l (and_r (and_r (and_r q)))
      have e5 := of_decide_eq_true (and_r (and_r (and_r (and_r q))))
      subst e1 e2 e5
      obtain ⟨nm, bs, mro, ns, qn, hd, sn, sub, ab, col, del⟩ := cd
      dsimp only at hm e3 e4
      have e3 : del = false := by simpa using e3
      subst hm e3 e4
      have hsl : sl = #[k0, k1, k2, k3, some (.builtin n), k5] := by
        obtain ⟨l⟩ := sl
        simp only at hs
        rw [hs]
      subst hsl
      exact ⟨nm, qn, ns, bs, sn, sub, ab, col, dd, k0, k1, k2, k3, k5, ho⟩
    · cases q
  · cases q
/-! ### what is looked at behind the top -/
structure SaysA (fn : List He.DefD) (tf : List He.Defn) (ex ex2 : PySem.W.Frag → Bool) (h : Heap) (K : PySem.W.Frag) : Prop where
  vals : (fn.map fun d => He.fnW K d.at_) = fn.map He.DefD.val
  ok : ∀ d ∈ fn, d.ok K = true
  more : ex K = true
  more2 : ex2 K = true
  hd : ∀ p ∈ tf, PySem.W.codeHdIn K (He.cT K p).1 (He.cT K p).2 = true
  out : ∀ p ∈ tf, K.lookup (He.cT K p).2 = none
  empty : ∀ p ∈ tf, h.get? (He.cT K p).2 = some { cls := .none, data := .fields #[] }
abbrev AlA : Type := Bool × Bool × Bool × List He.FnW
def obsK (fn : List He.DefD) (tf : List He.Defn) (ex ex2 : PySem.W.Frag → Bool) (g : Addr → Option Obj) (K : PySem.W.Frag) : AlA := (ex K, ex2 K, (fn.all fun d => d.ok K) && He.tabsB g tf K, fn.map fun d => He.fnW K d.at_)
def valA (fn : List He.DefD) : AlA := (true, true, true, fn.map He.DefD.val)
def obsA (as : List Addr) (fn : List He.DefD) (tf : List He.Defn) (ex ex2 : PySem.W.Frag → Bool) (g : Addr → Option Obj) : AlA := obsK fn tf ex ex2 g (He.frT g as)
theorem saysA_of {as : List Addr} {fn : List He.DefD} {tf : List He.Defn} {ex ex2 : PySem.W.Frag → Bool} {h : Heap} (e : obsA as fn tf ex ex2 h.get? = valA fn) : SaysA fn tf ex ex2 h (He.frT h.get? as) := by
  obtain ⟨K, eK⟩ : ∃ K, K = He.frT h.get? as := ⟨_, rfl⟩
  have e0 : obsK fn tf ex ex2 h.get? K = valA fn := by rw [eK]; exact e
  have e1 : ((fn.all fun d => d.ok K) && He.tabsB h.get? tf K) = true := congrArg (fun z : AlA => z.2.2.1) e0
  have e2 : (fn.map fun d => He.fnW K d.at_) = fn.map He.DefD.val := congrArg (fun z : AlA => z.2.2.2) e0
  have t := and_r e1
  have key : ∀ p ∈ tf, PySem.W.codeHdIn K (He.cT K p).1 (He.cT K p).2 = true ∧ ∃ o, h.get? (He.cT K p).2 = some o ∧ He.emptyTab o = true := fun p hp => by
    have h1 := List.all_eq_true.mp t p hp
    have h3 := and_l h1
    have h4 := and_r h1
    refine ⟨h3, ?_⟩
    cases q : h.get? (He.cT K p).2 with
    | none =>
      rw [q] at h4
      cases h4
    | some o =>
      rw [q] at h4
      exact ⟨o, rfl, h4⟩
  rw [← eK]
  refine ⟨e2, fun d hd => List.all_eq_true.mp (and_l e1) d hd, congrArg (fun z : AlA => z.1) e0, congrArg (fun z : AlA => z.2.1) e0, fun p hp => (key p hp).1, fun p hp => ?_, fun p hp => ?_⟩
  · obtain ⟨_, o, q, z⟩ := key p hp
    have := He.frT_none (as := as) q z
    rw [← eK] at this
    exact this
  · obtain ⟨_, o, q, z⟩ := key p hp
    rw [q, He.emptyTab_eq z]
def hookA (as : List Addr) (fn : List He.DefD) (tf : List He.Defn) (ex ex2 : PySem.W.Frag → Bool) : PySem.W.Hook where
  α := AlA
  obs := fun s => obsA as fn tf ex ex2 s.heap.get?
  val := fun _ => valA fn
  says := fun _ h => ∃ K : PySem.W.Frag, K.In h ∧ SaysA fn tf ex ex2 h K
  of := fun _ _ e => ⟨_, He.frT_in, saysA_of e⟩
  keeps := fun _ _ _ ⟨K, hK, c⟩ k => ⟨K, PySem.W.Frag.In.keeps hK k, ⟨c.vals, c.ok, c.more, c.more2, c.hd, c.out, fun p hp => k _ _ (c.empty p hp)⟩⟩
theorem obsA_eq {as : List Addr} {fn : List He.DefD} {tf : List He.Defn} {ex ex2 : PySem.W.Frag → Bool} {g : Addr → Option Obj} {s : Shared} (h : ∀ a, g a = s.heap.get? a) : obsA as fn tf ex ex2 g = (hookA as fn tf ex ex2).obs s := by
  have e : g = s.heap.get? := funext h
  rw [e] <;> rfl
/-- one run, looked at piece by piece: a kernel run each, so that none holds too much -/
theorem run_all {S T a1 a2 a3 a4 a5 a6 : Type} {x : Option S} {f1 : S → a1} {f2 : S → a2} {f3 : S → a3} {f4 : S → a4} {f5 : S → a5} {f6 : S → a6} {v1 : a1} {v2 : a2} {v3 : a3} {v4 : a4} {v5 : a5} {v6 : a6} {F : S → T} {A : T} (u : (a1 × a2 × a3 × a4 × a5 × a6) → T)
    (h1 : x.map f1 = some v1) (h2 : x.map f2 = some v2) (h3 : x.map f3 = some v3) (h4 : x.map f4 = some v4) (h5 : x.map f5 = some v5) (h6 : x.map f6 = some v6) (hF : ∀ s, F s = u (f1 s, f2 s, f3 s, f4 s, f5 s, f6 s)) (hA : A = u (v1, v2, v3, v4, v5, v6)) : x.map F = some A := by
  cases x with
  | none => cases h1
  | some s =>
    have h1 : some (f1 s) = some v1 := h1
    have h2 : some (f2 s) = some v2 := h2
    have h3 : some (f3 s) = some v3 := h3
    have h4 : some (f4 s) = some v4 := h4
    have h5 : some (f5 s) = some v5 := h5
    have h6 : some (f6 s) = some v6 := h6
    show some (F s) = some A
    rw [hF, hA, Option.some.inj h1, Option.some.inj h2, Option.some.inj h3, Option.some.inj h4, Option.some.inj h5, Option.some.inj h6]
noncomputable abbrev endW (r : PySem.W.OpenRow) (M : Nat) (w : World) (os : OsState) : Option PySem.W.SharedT := HandSHeadRun.endF (HandSHeadRun.stepQ (HandSHeadRun.denQ HandSHeadRun.tabQ) r.prog w) M r.prog w os
noncomputable abbrev seenW (r : PySem.W.OpenRow) (q : Program) (loose : List PySem.Str) (s : PySem.W.SharedT) := HandSHeadRun.seenQ q loose (importedModules r.prog.main.body) (fun s => PySem.W.xlAt q [] s && PySem.W.recOk r.toRowW.records s) s.abs
section
variable {fn : List He.DefD} {tf : List He.Defn} {ex ex2 : PySem.W.Frag → Bool} {h : Heap} {K : PySem.W.Frag}
theorem SaysA.def_ (c : SaysA fn tf ex ex2 h K) (i : Nat) {d : He.DefD} (e : fn[i]? = some d) (dn : d.dfl = []) : ∃ (oc : Value) (od : Option Addr) (kV doc pm : Value) (an : Option Addr) (cdv ct : Value) (osl : Array (Option Value)),
    K.lookup (He.fAd K d.at_) = some ⟨oc, od, .func (PySem.W.fnOf d.name d.qual d.params d.body d.scope .none kV doc pm an cdv ct), osl⟩ ∧ PySem.W.codeIn K cdv d.qual = true ∧ PySem.W.keepIn K (.ref (He.fAd K d.at_)) = true := by
  have ev : He.fnW K d.at_ = d.val := by
    have z := congrArg (fun l => l[i]?) c.vals
    simp only [List.getElem?_map, e, Option.map_some] at z
    exact Option.some.inj z
  obtain ⟨fd, ⟨oc, od, dV, kV, doc, pm, an, cdv, ct, osl, rfl, lk, cd, dv, _⟩, kp⟩ := He.DefD.funD ev (c.ok d (List.mem_of_getElem? e))
  have dv' : DflV K dV [] := by
    have : d.dvs K = [] := by
      unfold He.DefD.dvs
      rw [dn]
      rfl
    rw [← this]
    exact dv
  have := dfl_nil dv'
  subst this
  exact ⟨oc, od, kV, doc, pm, an, cdv, ct, osl, lk, cd, kp⟩
end
end HX
namespace L2
open PySem PySem.Spec PyProof.Rows LamX
/-- the goal that the head leaves -/
theorem walkGE {l : PySem.W.OpenLaw} {n k : Nat} {q : Program} {loose : List Str} {XP : (Str → Option Value) → Heap → Prop} {YP : World → Heap → Prop} {d : DefRec} {x : Str}
    (hn : l.most = some n) (hn2 : n ≤ sizeLine) (hdf : d.params.defaults = []) (hr : Room k callerA) (him : importsNone q = true)
    (F : ∀ (w : World) (mg : Str → Option Value) (fa : Addr) (h : Heap), YP w h → h.Ns mainGlobals mg → mg d.name = some (.ref fa) →
      ∃ (K : PySem.W.Frag) (fd : FuncData) (cs : List (Addr × Addr)) (sp : Sp), K.In h ∧ (∀ p ∈ cs, h.get? p.2 = some { cls := .none, data := .fields #[] } ∧ K.lookup p.2 = none ∧ PySem.W.CodeHd h p.1 p.2) ∧ (∀ (s : Shared) (u : Value), BindsTo s fd ⟨[u], []⟩ [(x, u)]) ∧
        (∀ (H : Hp) (a : Addr) (ns : List Int), ns.length ≤ n → (∀ p ∈ cs, H p.2 = some (.tbl #[])) → SqL K H a (ns.map V.int) → sp [.ref a] H (fun v _ => v = .bl true) fun _ _ _ => False) ∧
        ∀ base : Heap, K.In base → base.Ns mainGlobals mg → (∃ mm, base.Ns sysModules mm) → (∀ p ∈ cs, TabB base mg p.1 p.2) → FnG l.prog w K mg base CX0 k fa fd [x] sp) :
    PySem.W.WalkO q loose XP YP l.row.toRowW d [] (fun f vs => PySem.call f vs) := by
  refine Att.attach_call hn hdf fun w s₀ s₁ mg mb fa o pm cd doc a vs ns G Y ho hd hcd hmg hobj hints hlen hg => ?_
  obtain ⟨K, fd, cs, sp, KX, C, hb, hsp, hF⟩ := F w mg fa _ Y G.T.g hmg
  obtain ⟨mm, hm, _⟩ := (G.T.seer him).mods
  exact callG (cs := cs) ⟨KX, G.T.g, G.T.b, G.T.builtins, G.T.nolimit, ⟨mm, hm⟩, hg, fun p hp => (C p hp).1, fun p hp => (C p hp).2.1, fun p hp => (C p hp).2.2, G.T.bmain⟩ hobj hints (Nat.le_trans hlen hn2) hr hF hb fun H hT hS => hsp H a ns hlen hT hS
end L2

namespace Gm
open PySem PySem.Spec PyProof.Rows L2 LamX
set_option maxHeartbeats 0
def top (i : Nat) : Stmt := PySem.Challenge.pw_guessmarks_k19_whole_letters_tried.main.body.getD i (.Pass ⟨0, 0, 0, 0⟩)
abbrev sBowl : Stmt := top 29
abbrev sDip : Stmt := top 30

abbrev sSigns : Stmt := top 32
abbrev sOf : Stmt := top 31
abbrev sWord : Stmt := top 33
abbrev sGss : Stmt := top 34
abbrev sRight : Stmt := top 35
abbrev sLaw : Stmt := top 36
abbrev sWithin : Stmt := top 12
abbrev sAlpha : Stmt := top 20
abbrev sCount : Stmt := top 21

abbrev sOver : Stmt := top 13
abbrev sIsW : Stmt := top 14
abbrev sChkB : Stmt := top 22
abbrev sChkG : Stmt := top 16
abbrev sLatT : Stmt := top 26
abbrev sMost : Stmt := top 27
abbrev sTrBy : Stmt := top 25
abbrev sTried : Stmt := top 24
abbrev sInit : Stmt := inClass (top 19) 0
def lowTxt : Str := "abcdefghijklmnopqrstuvwxyz"

def A_CB (K : PySem.W.Frag) : Addr := He.ga K "Board"
def A_fB (K : PySem.W.Frag) : Addr := He.fAd K ("_law_bowl", none)
def A_fD (K : PySem.W.Frag) : Addr := He.fAd K ("_law_dip", none)
def A_fSg (K : PySem.W.Frag) : Addr := He.fAd K ("_law_signs", none)
def A_fOf (K : PySem.W.Frag) : Addr := He.fAd K ("_law_of", none)
def A_fLw (K : PySem.W.Frag) : Addr := He.fAd K ("_law_word", none)
def A_fGs (K : PySem.W.Frag) : Addr := He.fAd K ("_law_guesses", none)
def A_fR (K : PySem.W.Frag) : Addr := He.fAd K ("_law_right", none)
def A_fL (K : PySem.W.Frag) : Addr := He.fAd K ("law", none)
def A_fW (K : PySem.W.Frag) : Addr := He.fAd K ("is_integer_within", none)
def A_fA (K : PySem.W.Frag) : Addr := He.fAd K ("is_alphabet", none)
def A_fCn (K : PySem.W.Frag) : Addr := He.fAd K ("count_words", none)
def A_fOv (K : PySem.W.Frag) : Addr := He.fAd K ("is_text_over", none)
def A_fIw (K : PySem.W.Frag) : Addr := He.fAd K ("is_word", none)
def A_fCb (K : PySem.W.Frag) : Addr := He.fAd K ("check_board", none)
def A_fCg (K : PySem.W.Frag) : Addr := He.fAd K ("check_guesses", none)
def A_fLa (K : PySem.W.Frag) : Addr := He.fAd K ("letters_at", none)
def A_fMc (K : PySem.W.Frag) : Addr := He.fAd K ("most_copies", none)
def A_fTb (K : PySem.W.Frag) : Addr := He.fAd K ("tried_by", none)
def A_fTr (K : PySem.W.Frag) : Addr := He.fAd K ("tried", none)
def A_fI (K : PySem.W.Frag) : Addr := He.fAd K ("Board", some "__init__")
def dHB : He.DefD := ⟨("_law_bowl", none), "_law_bowl", "_law_bowl", defArgs sBowl, defBody sBowl, defScope sBowl, [], []⟩
def dHD : He.DefD := ⟨("_law_dip", none), "_law_dip", "_law_dip", defArgs sDip, defBody sDip, defScope sDip, [], []⟩
def dHSg : He.DefD := ⟨("_law_signs", none), "_law_signs", "_law_signs", defArgs sSigns, defBody sSigns, defScope sSigns, [], []⟩
def dHOf : He.DefD := ⟨("_law_of", none), "_law_of", "_law_of", defArgs sOf, defBody sOf, defScope sOf, [], []⟩
def dHLw : He.DefD := ⟨("_law_word", none), "_law_word", "_law_word", defArgs sWord, defBody sWord, defScope sWord, [], []⟩
def dHGs : He.DefD := ⟨("_law_guesses", none), "_law_guesses", "_law_guesses", defArgs sGss, defBody sGss, defScope sGss, [], []⟩
def dHR : He.DefD := ⟨("_law_right", none), "_law_right", "_law_right", defArgs sRight, defBody sRight, defScope sRight, [], []⟩
def dHL : He.DefD := ⟨("law", none), "law", "law", defArgs sLaw, defBody sLaw, defScope sLaw, [], []⟩
def dHW : He.DefD := ⟨("is_integer_within", none), "is_integer_within", "is_integer_within", defArgs sWithin, defBody sWithin, defScope sWithin, [], []⟩
def dHA : He.DefD := ⟨("is_alphabet", none), "is_alphabet", "is_alphabet", defArgs sAlpha, defBody sAlpha, defScope sAlpha, [], []⟩
def dHCn : He.DefD := ⟨("count_words", none), "count_words", "count_words", defArgs sCount, defBody sCount, defScope sCount, [], []⟩
def dHOv : He.DefD := ⟨("is_text_over", none), "is_text_over", "is_text_over", defArgs sOver, defBody sOver, defScope sOver, [], []⟩
def dHIw : He.DefD := ⟨("is_word", none), "is_word", "is_word", defArgs sIsW, defBody sIsW, defScope sIsW, [], []⟩
def dHCb : He.DefD := ⟨("check_board", none), "check_board", "check_board", defArgs sChkB, defBody sChkB, defScope sChkB, [], []⟩
def dHCg : He.DefD := ⟨("check_guesses", none), "check_guesses", "check_guesses", defArgs sChkG, defBody sChkG, defScope sChkG, [], []⟩
def dHLa : He.DefD := ⟨("letters_at", none), "letters_at", "letters_at", defArgs sLatT, defBody sLatT, defScope sLatT, [], []⟩
def dHMc : He.DefD := ⟨("most_copies", none), "most_copies", "most_copies", defArgs sMost, defBody sMost, defScope sMost, [], []⟩
def dHTb : He.DefD := ⟨("tried_by", none), "tried_by", "tried_by", defArgs sTrBy, defBody sTrBy, defScope sTrBy, [], []⟩
def dHTr : He.DefD := ⟨("tried", none), "tried", "tried", defArgs sTried, defBody sTried, defScope sTried, [], []⟩
def dHI : He.DefD := ⟨("Board", some "__init__"), "__init__", "Board.__init__", defArgs sInit, defBody sInit, defScope sInit, [], []⟩
def fnH0 : List He.DefD := [dHB, dHD, dHSg, dHOf, dHLw, dHGs, dHR, dHL, dHW, dHA, dHCn, dHOv, dHIw, dHCb, dHCg, dHLa, dHMc, dHTb, dHTr, dHI]
def fnHa : List He.DefD := fnH0
def fnHb : List He.DefD := []
def fnH : List He.DefD := fnHa ++ fnHb
theorem comb2 {α : Type} {x : Option α} {f g h : α → Bool} (a : x.map f = some true) (b : x.map g = some true) (e : ∀ s, h s = (f s && g s)) : x.map h = some true := by
  cases x with
  | none => cases a
  | some s =>
    have a' : f s = true := Option.some.inj a
    have b' : g s = true := Option.some.inj b
    show some (h s) = some true
    rw [e, a', b']
    rfl
theorem comb3 {α β : Type} {x : Option α} {f g h : α → List β} {u v w : List β} (a : x.map f = some u) (b : x.map g = some v) (e : ∀ s, h s = f s ++ g s) (k : w = u ++ v) : x.map h = some w := by
  cases x with
  | none => cases a
  | some s =>
    have a' : f s = u := Option.some.inj a
    have b' : g s = v := Option.some.inj b
    show some (h s) = some w
    rw [e, a', b', k]
def tfH : List He.Defn := []
def exH0 (K : PySem.W.Frag) : List Bool := [decide (PySem.W.nsIn K mainGlobals "Board" = some (some (.ref (A_CB K)))), decide (PySem.W.nsIn K mainGlobals "_law_bowl" = some (some (.ref (A_fB K)))), decide (PySem.W.nsIn K mainGlobals "_law_dip" = some (some (.ref (A_fD K)))), decide (PySem.W.nsIn K mainGlobals "_law_signs" = some (some (.ref (A_fSg K)))), decide (PySem.W.nsIn K mainGlobals "_law_of" = some (some (.ref (A_fOf K)))), decide (PySem.W.nsIn K mainGlobals "_law_word" = some (some (.ref (A_fLw K)))), decide (PySem.W.nsIn K mainGlobals "_law_guesses" = some (some (.ref (A_fGs K)))), decide (PySem.W.nsIn K mainGlobals "_law_right" = some (some (.ref (A_fR K)))), decide (PySem.W.nsIn K mainGlobals "law" = some (some (.ref (A_fL K)))), decide (PySem.W.nsIn K mainGlobals "is_integer_within" = some (some (.ref (A_fW K)))), decide (PySem.W.nsIn K mainGlobals "is_alphabet" = some (some (.ref (A_fA K)))), decide (PySem.W.nsIn K mainGlobals "count_words" = some (some (.ref (A_fCn K)))), decide (PySem.W.nsIn K mainGlobals "is_text_over" = some (some (.ref (A_fOv K)))), decide (PySem.W.nsIn K mainGlobals "is_word" = some (some (.ref (A_fIw K)))), decide (PySem.W.nsIn K mainGlobals "check_board" = some (some (.ref (A_fCb K)))), decide (PySem.W.nsIn K mainGlobals "check_guesses" = some (some (.ref (A_fCg K)))), decide (PySem.W.nsIn K mainGlobals "letters_at" = some (some (.ref (A_fLa K)))), decide (PySem.W.nsIn K mainGlobals "most_copies" = some (some (.ref (A_fMc K)))), decide (PySem.W.nsIn K mainGlobals "tried_by" = some (some (.ref (A_fTb K)))), decide (PySem.W.nsIn K mainGlobals "tried" = some (some (.ref (A_fTr K)))), decide (PySem.W.findIn K (.ref (A_CB K)) "__init__" = some (some (.ref (A_fI K)))), decide (PySem.W.isFn K (.ref (A_fI K)) = true), HX.intB K "MOST_LENGTH" 6, HX.intB K "MOST_LETTERS" 26, HX.strB K "LOWERCASE" lowTxt]
def exH1 (K : PySem.W.Frag) : List Bool := [HX.intB K "MOST_GUESSES" 20, decide (PySem.W.nsIn K mainGlobals "len" = some none), decide (PySem.W.nsIn K mainGlobals "int" = some none), decide (PySem.W.nsIn K mainGlobals "abs" = some none), decide (PySem.W.nsIn K mainGlobals "divmod" = some none), decide (PySem.W.nsIn K mainGlobals "isinstance" = some none), decide (PySem.W.nsIn K mainGlobals "bool" = some none), decide (PySem.W.nsIn K mainGlobals "str" = some none), decide (PySem.W.nsIn K mainGlobals "range" = some none), decide (PySem.W.nsIn K mainGlobals "sorted" = some none), decide (PySem.W.nsIn K mainGlobals "repr" = some none), decide (PySem.W.nsIn K mainGlobals "all" = some none), decide (PySem.W.nsIn K mainGlobals "max" = some none), decide (PySem.W.nsIn K mainGlobals "min" = some none), decide (PySem.W.nsIn K mainGlobals "tuple" = some none), decide (PySem.W.nsIn K mainGlobals "enumerate" = some none), decide (PySem.W.nsIn K mainGlobals "set" = some none), decide (PySem.W.plainGet K (A_CB K) Str.empty = true), decide (PySem.W.hasDictIn K (A_CB K) = true), decide (PySem.W.plainOver K (A_CB K) = true), decide (PySem.W.findIn K (.ref (A_CB K)) "__setattr__" = some (some (.builtin "object.__setattr__"))), decide (PySem.W.makesIn K (A_CB K) = true), decide (PySem.W.keepIn K (.ref (A_CB K)) = true), decide (PySem.W.findIn K (.ref (A_CB K)) "letters" = some none), decide (PySem.W.findIn K (.ref (A_CB K)) "length" = some none)]
def exH2 (K : PySem.W.Frag) : List Bool := [decide (PySem.W.findIn K (.ref (A_CB K)) "size" = some none), decide (PySem.W.findIn K (.ref (A_CB K)) "__class__" = some (some (.builtin "object.__class__"))), decide (PySem.W.specialIn K (.builtin "object.__class__") "__get__" = some (some (.builtin "getset_descriptor.__get__"))), decide (PySem.W.takesIn K (.builtin "object.__class__") = some true), decide (PySem.W.mroIn K (A_CB K) (.type "object") = some true), decide (PySem.W.kitOne K (.ref (A_CB K)) (.ref (A_CB K)) = some true)]
def exH (K : PySem.W.Frag) : Bool := HX.allT (exH0 K) && HX.allT (exH1 K)
def exI (K : PySem.W.Frag) : Bool := HX.allT (exH2 K)
def namesH0 : List PySem.Str := ["__name__", "InputError", "NotABoard", "InvalidLetters", "InvalidLength", "InvalidWord", "InvalidNumber", "InvalidGuesses", "MOST_LENGTH", "MOST_LETTERS", "MOST_GUESSES", "is_integer_within", "is_text_over", "is_word", "check_word", "check_guesses", "LOWERCASE", "Board", "is_alphabet", "count_words", "check_board", "tried", "tried_by", "letters_at", "most_copies", "_law_bowl", "_law_dip", "_law_of", "_law_signs", "_law_word"]
def namesH1 : List PySem.Str := ["_law_guesses", "_law_right"]
def namesH : List PySem.Str := namesH0 ++ namesH1
abbrev RH : PySem.W.OpenRow := PySem.W.OpenLaw.row PySem.Challenge.rw_guessmarks_k19_whole_letters_tried
def asH : List Addr := mainGlobals :: List.range 1100
abbrev hkH : PySem.W.Hook := HX.hookA asH fnH tfH exH exI
def obH (s : PySem.W.SharedT) : HX.AlA := HX.obsA asH fnH tfH exH exI (HandSHeadRun.getT s)
theorem obH_eq (s : PySem.W.SharedT) : obH s = hkH.obs s.abs := HX.obsA_eq (HandSHeadRun.getT_eq s)
noncomputable abbrev endH (w : World) (os : OsState) := HX.endW RH 12000 w os
abbrev viewH : Program := PySem.W.view RH.prog [36]
abbrev KH (s : PySem.W.SharedT) : PySem.W.Frag := He.frT (HandSHeadRun.getT s) asH
theorem run1 (w : World) (os : OsState) : (endH w os).map (fun s => HandSHeadRun.looksF RH.prog (PySem.W.boot_heap w.params) s.abs) = some true := by kernel_rfl
theorem run2 (w : World) (os : OsState) : (endH w os).map (fun s => HX.seenW RH viewH namesH s) = some (PySem.W.openGood viewH namesH) := by kernel_rfl
theorem run3 (w : World) (os : OsState) : (endH w os).map (fun s => exH (KH s)) = some true := by kernel_rfl
theorem run4 (w : World) (os : OsState) : (endH w os).map (fun s => exI (KH s)) = some true := by kernel_rfl
theorem run5a (w : World) (os : OsState) : (endH w os).map (fun s => fnHa.all fun d => d.ok (KH s)) = some true := by kernel_rfl
theorem run5b (w : World) (os : OsState) : (endH w os).map (fun s => (fnHb.all fun d => d.ok (KH s)) && He.tabsB (HandSHeadRun.getT s) tfH (KH s)) = some true := by kernel_rfl
theorem e5H (s : PySem.W.SharedT) : ((fnH.all fun d => d.ok (KH s)) && He.tabsB (HandSHeadRun.getT s) tfH (KH s)) = ((fnHa.all fun d => d.ok (KH s)) && ((fnHb.all fun d => d.ok (KH s)) && He.tabsB (HandSHeadRun.getT s) tfH (KH s))) := by
  generalize KH s = k
  generalize He.tabsB (HandSHeadRun.getT s) tfH k = t
  unfold fnH
  rw [List.all_append, Bool.and_assoc]
theorem e6H (s : PySem.W.SharedT) : (fnH.map fun d => He.fnW (KH s) d.at_) = (fnHa.map fun d => He.fnW (KH s) d.at_) ++ (fnHb.map fun d => He.fnW (KH s) d.at_) := by
  generalize KH s = k
  unfold fnH
  rw [List.map_append]
theorem run5 (w : World) (os : OsState) : (endH w os).map (fun s => (fnH.all fun d => d.ok (KH s)) && He.tabsB (HandSHeadRun.getT s) tfH (KH s)) = some true := by
  have a := run5a w os
  have b := run5b w os
  generalize endH w os = x at a b ⊢
  refine comb2 a b ?_
  intro s
  exact e5H s
theorem run6a (w : World) (os : OsState) : (endH w os).map (fun s => fnHa.map fun d => He.fnW (KH s) d.at_) = some (fnHa.map He.DefD.val) := by kernel_rfl
theorem run6b (w : World) (os : OsState) : (endH w os).map (fun s => fnHb.map fun d => He.fnW (KH s) d.at_) = some (fnHb.map He.DefD.val) := by kernel_rfl
theorem run6 (w : World) (os : OsState) : (endH w os).map (fun s => fnH.map fun d => He.fnW (KH s) d.at_) = some (fnH.map He.DefD.val) := by
  have a := run6a w os
  have b := run6b w os
  generalize endH w os = x at a b ⊢
  refine comb3 a b ?_ ?_
  · intro s
    exact e6H s
  · unfold fnH
    rw [List.map_append]
theorem runH (w : World) : HandSHeadRun.RunEq RH (PySem.W.view RH.prog [36]) hkH obH 12000 namesH w := by
  unfold HandSHeadRun.RunEq
  intro os
  exact HX.run_all (x := endH w os) (fun t => (t.1, t.2.1, t.2.2.1, t.2.2.2.1, t.2.2.2.2.1, t.2.2.2.2.2)) (run1 w os) (run2 w os) (run3 w os) (run4 w os) (run5 w os) (run6 w os) (fun _ => rfl) rfl
end Gm
set_option maxHeartbeats 8000000
namespace PySem.W
open PySem PySem.Spec PySem.Calls PyProof.Rows Builtin
section
variable {prog : Program} {w : World} {M : Model} {A : Around} {E : Value → Shared → Prop} {s : Shared} {K : Frag} {x C f L : Addr} {ox : Obj} {od : Option Obj} {h₀ : Heap} {m : Str → Option Value} {b tb : Value}
theorem gm_ifBound {name : Str} {id : String} {args : List Value} {Q : Option Value → Shared → Prop} (X : K.In s.heap) (I : InstAt s.heap x ox C od) (hs : findIn K (.ref C) name = some (some (.builtin id)))
    (hb : ∀ self, bindSpecial (.builtin id) self = pure (.builtin id, [self])) (h : wpAny M A (call (.builtin id) (.ref x :: args)) (fun v => Q (some v)) E s) : wpAny M A (callSpecialIfBound? (.ref x) name args) Q E s := by
  simp only [callSpecialIfBound?, bindSpecialIfBound?]
  refine wpAny_holding <| wpAny_bind <| wpAny_bind <| wpAny_bind <| I.type.here <| (looks_findIn X hs).here ?_
  refine wpAny_bind <| wpAny_askSetting <| wpAny_ite ?_
  have z : wpAny M A (call (.builtin id) ([.ref x] ++ args) >>= fun v => pure (some v)) Q E s := wpAny_bind <| wpAny_mono h (fun v s' h' => wpAny_pure h') fun _ _ h' => h'
  split
  · exact wpAny_bind <| (Looks.of_pure (hb _)).here <| wpAny_pure z
  · exact wpAny_tryCatch <| wpAny_bind <| (Looks.of_pure (hb _)).here <| wpAny_pure z
def NeBack (Q : Value → Shared → Prop) (v : Value) (s' : Shared) : Prop := ∃ r, v = .bool r ∧ Q (.bool (!r)) s'
theorem gm_objNe {Q : Value → Shared → Prop} (hu : A.in1.units < cLine) (X : K.In s.heap) (I : InstAt s.heap x ox C od) (hm : mroIn K C (.type "object") = some true) (hs : findIn K (.ref C) "__eq__" = some (some (.ref f))) (hf : isFn K (.ref f) = true)
    (h : wpAny (model prog w) A.in1 (call (.ref f) [.ref x, b]) (NeBack Q) E s) : wpAny (model prog w) A (call (.builtin "object.__ne__") [.ref x, b]) Q E s := by
  refine wpAny_call <| codeAny_call_builtin PySem.F.cmp_object.ne.plain PySem.F.cmpEntry_ne <| check_slot (owner := "object") (n := "__ne__") PySem.F.cmpKind_ne PySem.F.cmpSplit_ne (I.type.andThen (looks_mroIn X hm)) (PySem.F.cmpArgs_ne _ _) ?_
  unfold Builtin.«object.__ne__»
  refine wpAny_bind (m := slotArgs "__ne__" 1 _) <| wpAny_pure ?_
  refine wpAny_bind (m := cRoomFor _ _) <| wpAny_cRoomFor hu ?_
  refine wpAny_bind (m := callSpecialIfBound? (.ref x) (Str.ofString "__eq__") _) <| ifBound_K X I hs hf <| wpAny_mono h (fun r s' hq => ?_) fun _ _ y => y
  obtain ⟨r, rfl, hq⟩ := hq
  refine wpAny_bind <| wpAny_truthy_bool ?_
  exact wpAny_pure hq
theorem gm_ne {Q : Value → Shared → Prop} (hu : A.units < cLine) (hu1 : A.in1.units < cLine) (X : K.In s.heap) (I : InstAt s.heap x ox C od) (hb : Looks (model prog w) s.heap (typeOf b) tb) (hn : notFirst K C tb = true)
    (hN : findIn K (.ref C) "__ne__" = some (some (.builtin "object.__ne__"))) (hm : mroIn K C (.type "object") = some true)
    (hs : findIn K (.ref C) "__eq__" = some (some (.ref f))) (hf : isFn K (.ref f) = true)
    (h : wpAny (model prog w) A.in1 (call (.ref f) [.ref x, b]) (NeBack Q) E s) : wpAny (model prog w) A (richCompare .NotEq (.ref x) b) Q E s := by
  have one : wpAny (model prog w) A (tryCompare (.ref x) (cmpInfo .NotEq).2.1 b) (fun r s' => ∃ v, r = some v ∧ Q v s') E s := by
    unfold tryCompare
    refine wpAny_bind <| gm_ifBound X I hN PySem.F.cmp_object.ne.bind ?_
    refine wpAny_mono (gm_objNe (Q := fun v s' => (∃ r, v = .bool r) ∧ Q v s') hu1 X I hm hs hf (wpAny_mono h (fun v s' hv => ?_) fun _ _ e => e)) (fun v s' hv => ?_) fun _ _ e => e
    · obtain ⟨r, e, hv⟩ := hv
      exact ⟨r, e, ⟨_, rfl⟩, hv⟩
    · obtain ⟨⟨r, rfl⟩, hv⟩ := hv
      exact wpAny_pure ⟨_, rfl, hv⟩
  unfold richCompare
  simp only [oneThing_ref]
  refine wpAny_holding <| wpAny_bind <| wpAny_cRoomFor hu ?_
  refine wpAny_bind <| I.type.here <| wpAny_bind <| hb.here ?_
  split
  · rename_i q
    have e : subIn K tb (.ref C) = some false := by
      rcases Bool.or_eq_true_iff.mp hn with e | e
      · rw [beq_iff_eq.mp e] at q
        simp at q
      · exact beq_iff_eq.mp e
    refine wpAny_bind <| (looks_subIn X e).here ?_
    simp only [Bool.false_eq_true, if_false]
    refine wpAny_bind <| wpAny_mono one (fun r s' z => ?_) fun _ _ e => e
    obtain ⟨v, rfl, hq⟩ := z
    exact wpAny_pure hq
  · refine wpAny_bind (wpAny_pure ?_)
    simp only [Bool.false_eq_true, if_false]
    refine wpAny_bind <| wpAny_mono one (fun r s' z => ?_) fun _ _ e => e
    obtain ⟨v, rfl, hq⟩ := z
    exact wpAny_pure hq
end
end PySem.W

namespace L2
open PySem PySem.Spec PyProof.Rows
section
variable {X : Cx} {n : Nat} {pins : List (Addr × Obj)} {σ : St} {H : Hp} {s : Shared}
theorem gm_call {A : Around} {CX : CXT} {f : Addr} {fd : FuncData} {ps : List Str} {sp : Sp} {E : XK} {vs : List V} {us : List Value} {Q : VK} (sb : Sub X n A) (I : Inv X pins σ H s) (F : FnOk X.prog X.w X.K X.mg X.base CX n f fd ps sp)
    (hb : Binds X.K fd ps []) (hx : Passes CX X E) (r2 : Vals vs us) (hsp : sp vs H Q E) : wpAny (model X.prog X.w) A (call (.ref f) us) (EP X pins σ Q) X.xe s := by
  have e0 : Env0 X.prog X.w X.K X.mg X.base A X.stack s H := by
    have e := I.env0
    exact ⟨by rw [sb.fr]; exact e.frames, e.mod, e.bs, e.bsz, e.funs, e.frf, e.hok, e.bare⟩
  have hl := F.len _ _ _ _ hsp
  have hl2 : us.length = ps.length := by rw [← r2.length]; exact hl
  refine wpAny_call <| codeAny_mono (F.run A X.stack s H ⟨us, []⟩ us vs Q E sb.room e0 (by
    have := hb s us I.kIn (by simpa using hl2)
    simpa using this) r2 hsp) fun r s' hq => ?_
  cases r with
  | error e => exact hx pins σ H s e s' I hq
  | ok fl =>
    cases fl with
    | ret w => exact I.after hq
    | next => exact hq.elim
    | brk => exact hq.elim
    | cont => exact hq.elim
/-- x == y, x != y by the class's own == -/
def rOwn (K : PySem.W.Frag) (C : Addr) (sp : Sp) (E : XK) (g : Bool → Bool) : R2 := fun x y H Q => ∃ a dx fs t, x = .ref a ∧ H a = some (.ins C dx fs) ∧ TyX K H y t ∧ PySem.W.notFirst K C t = true ∧ sp [.ref a, y] H (fun v H' => ∃ r, v = .bl r ∧ Q (.bl (g r)) H') E
theorem op_eqOwn {CX : CXT} {C f : Addr} {fd : FuncData} {ps : List Str} {sp : Sp} {E : XK} (hr : Room n X.A) (F : FnOk X.prog X.w X.K X.mg X.base CX n f fd ps sp) (hs : PySem.W.findIn X.K (.ref C) "__eq__" = some (some (.ref f))) (hf : PySem.W.isFn X.K (.ref f) = true)
    (hb : Binds X.K fd ps []) (hx : Passes CX X E) : OpR X (compareOp .Eq) (rOwn X.K C sp E id) := by
  intro pins s σ H x y u v Q I rx ry d
  obtain ⟨a, dx, fs, t, rfl, ha, ty, hn, hsp⟩ := d
  cases rx
  obtain ⟨mA, J, _⟩ := ins_get I.hok ha
  obtain ⟨od, J, _⟩ := J.look
  obtain ⟨m, hF⟩ := I.fr
  obtain ⟨Pv, Z, pv, _⟩ := kit_of I ry ty
  refine PySem.W.cmp_K (op := .Eq) hr.units0 hF I.ok.mod.kin J (Z.ty _ _ I.kIn pv) hn hs hf ?_
  refine wpAny_mono (gm_call ⟨hr, rfl⟩ I F hb hx (vs := [.ref a, y]) (us := [.ref a, v]) (.cons rfl (.cons ry .nil)) hsp) (fun z s' hz => ?_) fun _ _ e => e
  obtain ⟨z', H', I', rz, r, rfl, q⟩ := hz
  cases rz
  exact ⟨.bl r, H', I', rfl, q⟩
theorem op_neOwn {CX : CXT} {C f : Addr} {fd : FuncData} {ps : List Str} {sp : Sp} {E : XK} (hr : Room (n + 1) X.A) (F : FnOk X.prog X.w X.K X.mg X.base CX n f fd ps sp) (hs : PySem.W.findIn X.K (.ref C) "__eq__" = some (some (.ref f))) (hf : PySem.W.isFn X.K (.ref f) = true)
    (hN : PySem.W.findIn X.K (.ref C) "__ne__" = some (some (.builtin "object.__ne__"))) (hm : PySem.W.mroIn X.K C (.type "object") = some true)
    (hb : Binds X.K fd ps []) (hx : Passes CX X E) : OpR X (compareOp .NotEq) (rOwn X.K C sp E not) := by
  intro pins s σ H x y u v Q I rx ry d
  obtain ⟨a, dx, fs, t, rfl, ha, ty, hn, hsp⟩ := d
  cases rx
  obtain ⟨mA, J, _⟩ := ins_get I.hok ha
  obtain ⟨od, J, _⟩ := J.look
  obtain ⟨Pv, Z, pv, _⟩ := kit_of I ry ty
  refine PySem.W.gm_ne hr.units0 hr.in1.units0 I.kIn J (Z.ty _ _ I.kIn pv) hn hN hm hs hf ?_
  refine wpAny_mono (gm_call ⟨hr.in1, rfl⟩ I F hb hx (vs := [.ref a, y]) (us := [.ref a, v]) (.cons rfl (.cons ry .nil)) hsp) (fun z s' hz => ?_) fun _ _ e => e
  obtain ⟨z', H', I', rz, r, rfl, q⟩ := hz
  cases rz
  exact ⟨_, rfl, .bl (!r), H', I', rfl, q⟩
/-- str(x), repr(x) by the class's own -/
def rTxt (C : Addr) (sp : Sp) (E : XK) : List V → Hp → VK → Prop := fun xs H Q => ∃ a dx fs, xs = [.ref a] ∧ H a = some (.ins C dx fs) ∧ sp [.ref a] H (fun v H' => ∃ r, v = .str r ∧ Q (.str r) H') E
theorem call_reprOwn {CX : CXT} {C f : Addr} {fd : FuncData} {ps : List Str} {sp : Sp} {E : XK} (hr : Room (n + 1) X.A) (F : FnOk X.prog X.w X.K X.mg X.base CX n f fd ps sp) (hs : PySem.W.findIn X.K (.ref C) "__repr__" = some (some (.ref f))) (hf : PySem.W.isFn X.K (.ref f) = true)
    (hb : Binds X.K fd ps []) (hx : Passes CX X E) : CallR X (.builtin "repr") (rTxt C sp E) := by
  intro pins s σ H xs us Q I r h
  obtain ⟨a, dx, fs, rfl, ha, hsp⟩ := h
  obtain ⟨mA, J, _⟩ := ins_get I.hok ha
  obtain ⟨od, J, _⟩ := J.look
  obtain ⟨m, hF⟩ := I.fr
  cases r with
  | cons r1 r2 =>
    cases r2
    cases r1
    refine PySem.W.repr_K hr.in1.units0 hF I.ok.mod.kin J hs hf ?_
    refine wpAny_mono (gm_call ⟨hr.in1, rfl⟩ I F hb hx (vs := [.ref a]) (us := [.ref a]) (.cons rfl .nil) hsp) (fun z s' hz => ?_) fun _ _ e => e
    obtain ⟨z', H', I', rz, r, rfl, q⟩ := hz
    obtain ⟨t, rfl⟩ := rz
    exact ⟨.str r, H', I', ⟨_, rfl⟩, q⟩
theorem call_strOwn {CX : CXT} {C f : Addr} {fd : FuncData} {ps : List Str} {sp : Sp} {E : XK} (hr : Room (n + 2) X.A) (F : FnOk X.prog X.w X.K X.mg X.base CX n f fd ps sp) (hs : PySem.W.findIn X.K (.ref C) "__str__" = some (some (.ref f))) (hf : PySem.W.isFn X.K (.ref f) = true)
    (hb : Binds X.K fd ps []) (hx : Passes CX X E) : CallR X (.type "str") (rTxt C sp E) := by
  intro pins s σ H xs us Q I r h
  obtain ⟨a, dx, fs, rfl, ha, hsp⟩ := h
  obtain ⟨mA, J, _⟩ := ins_get I.hok ha
  obtain ⟨od, J, _⟩ := J.look
  cases r with
  | cons r1 r2 =>
    cases r2
    cases r1
    refine PySem.W.kso_call hr.in1.in1.units0 I.kIn J hs hf ?_
    refine wpAny_mono (gm_call ⟨hr.in1.in1, rfl⟩ I F hb hx (vs := [.ref a]) (us := [.ref a]) (.cons rfl .nil) hsp) (fun z s' hz => ?_) fun _ _ e => e
    obtain ⟨z', H', I', rz, r, rfl, q⟩ := hz
    obtain ⟨t, rfl⟩ := rz
    exact ⟨.str r, H', I', ⟨_, rfl⟩, q⟩
/-- an instance without __bool__ and __len__ is true -/
def tTru (C : Addr) (ta : TE) : TT := fun σ H Q => ta σ H fun x H' => ∃ a dx fs, x = .ref a ∧ H' a = some (.ins C dx fs) ∧ Q true H'
theorem pt_inst {a : Expr} {ta : TE} {C : Addr} (hb : PySem.W.findIn X.K (.ref C) "__bool__" = some none) (hl : PySem.W.findIn X.K (.ref C) "__len__" = some none) (ha : PE X a ta) (he : ∀ whole, isTrue a X.env whole = (do let v ← whole; standAt a.pos; holding [v] (truthy v))) :
    PT X a (tTru C ta) := by
  refine ⟨fun pins s σ H Q I h => ?_⟩
  refine isTrue_plain (thn (ha.run pins s σ H _ I h) fun v s1 hh => ?_) (he _)
  obtain ⟨x, H1, I1, r1, p, dx, fs, rfl, hp, q⟩ := hh
  cases r1
  obtain ⟨mA, J, _⟩ := ins_get I1.hok hp
  obtain ⟨od, J, _⟩ := J.look
  obtain ⟨m, hF⟩ := I1.fr
  exact PySem.W.truthy_K0 hF I1.ok.mod.kin J hb hl ⟨H1, I1, q⟩
end
end L2

namespace Gm
open PySem L2



/-- three ints stand at p -/
def BowlAt (H : Hp) (p : Addr) : Prop := ∃ x y z : Int, H p = some (.lst [.int x, .int y, .int z])
/-- all but p stands as it stood, and p is a bowl -/
def Stir (p : Addr) (H H' : Hp) : Prop := (∀ b o, b ≠ p → H b = some o → H' b = some o) ∧ BowlAt H' p
theorem Stir.trans {p : Addr} {H H1 H2 : Hp} (a : Stir p H H1) (b : Stir p H1 H2) : Stir p H H2 := ⟨fun c o n h => b.1 c o n (a.1 c o n h), b.2⟩
theorem Stir.same {p : Addr} {H H1 H2 : Hp} (a : Stir p H H1) (b : Same H1 H2) : Stir p H H2 := ⟨fun c o n h => b _ _ (a.1 c o n h), let ⟨x, y, z, h⟩ := a.2; ⟨x, y, z, b _ _ h⟩⟩
theorem Stir.refl {p : Addr} {H : Hp} (h : BowlAt H p) : Stir p H H := ⟨fun _ _ _ h => h, h⟩
theorem same_upd {H : Hp} {p : Addr} {o : HO} (h : H p = none) : Same H (upd H p o) := fun b u e => by rw [upd_ne (ne_of_none e h)]; exact e

theorem stir_upd (H : Hp) (p : Addr) (x y z : Int) : Stir p H (upd H p (.lst [.int x, .int y, .int z])) := ⟨fun b o n e => by rw [upd_ne n]; exact e, _, _, _, upd_same⟩
def spBowl (K : PySem.W.Frag) : Sp := fun vs H Q _ => ∃ (a : Addr) (ns : List Int) (k : Int), vs = [.ref a, .int k] ∧ SqL K H a (ns.map V.int) ∧ ns.length ≤ 63 ∧ 0 ≤ k ∧
  ∀ H' p, Same H H' → H p = none → BowlAt H' p → Q (.ref p) H'
def spDip : Sp := fun vs H Q _ => ∃ (p : Addr) (m : Int), vs = [.ref p, .int m] ∧ BowlAt H p ∧ 0 < m ∧ m < 1073741824 ∧
  ∀ H' d, Stir p H H' → 0 ≤ d → d < m → Q (.int d) H'

structure TxB (mg : Str → Option Value) : Prop where
  len : mg "len" = none
  int : mg "int" = none
  abs : mg "abs" = none
  divmod : mg "divmod" = none

theorem int_at {ns : List Int} {k : Int} (h0 : 0 ≤ k) (h : k < ns.length) : ∃ u, atI (ns.map V.int) k = some (V.int u) := by
  obtain ⟨j, rfl⟩ := Int.eq_ofNat_of_zero_le h0
  have hj : j < ns.length := by omega
  exact ⟨ns[j], atI_nat (by rw [List.getElem?_map, List.getElem?_eq_getElem hj]; rfl)⟩

theorem cut_int {ns : List Int} {lo hi : Option Int} {i : Nat} {y : V} (h : (cutV (ns.map V.int) lo hi)[i]? = some y) : ∃ u, y = V.int u := by
  have hm := List.mem_of_getElem? h
  unfold cutV at hm
  have := List.mem_of_mem_drop (List.mem_of_mem_take hm)
  obtain ⟨u, _, rfl⟩ := List.mem_map.mp this
  exact ⟨u, rfl⟩
theorem pos1 : (0 : Int) < 1999999943 := by decide
theorem cutIfV {tA : TT} {ta tb : TE} {σ : St} {H : Hp} {Q : V → Hp → Prop} (C : V → Prop) (k : ∀ v, C v → Q v H) (h : (∀ v, C v → Q v H) → tIf tA ta tb σ H Q) : tIf tA ta tb σ H Q := h k
theorem cutIf {tA : TT} {ta tb : TE} {σ : St} {H : Hp} {Q : V → Hp → Prop} (C : V → Hp → Prop) (k : ∀ v H', C v H' → Q v H') (h : (∀ v H', C v H' → Q v H') → tIf tA ta tb σ H Q) : tIf tA ta tb σ H Q := h k
section
variable {P : Program} {w : World} {K : PySem.W.Frag} {mg : Str → Option Value} {base : Heap}
abbrev nB : List Str := ["_law_script", "_law_k", "_law_own", "_law_mixed", "_law_entry"]
theorem scB : FnScope nB ["_law_script", "_law_k"] (defScope sBowl) := ⟨rfl, rfl, rfl, by decide +kernel, rfl, by decide +kernel, by decide +kernel⟩
theorem ok_bowl {f : Addr} {fd : FuncData} (F : Fun K "_law_bowl" "_law_bowl" sBowl f fd) (T : TxB mg) : FnOk P w K mg base CX0 1 f fd ["_law_script", "_law_k"] (spBowl K) := by
  refine F.ok scB (fun vs H Q E h => ?_) (fun cdv A outer s H vs Q E hr h => ?_)
  · obtain ⟨a, ns, k, rfl, _⟩ := h
    rfl
  · obtain ⟨a, ns, k, rfl, hS, hlen, h0, q⟩ := h
    refine ⟨_, pss_cons (ps_set (i := 2) scB.nd rfl (Or.inl rfl)
        (pe_ifExp (pt_cmpR op_lt (pv 1) (pe_callB call_len_seq (by rfl) T.len PySem.boot_len (pa_cons (pv 0) pa_nil)) (nomark _))
          (pe_callTy call_int1 (by rfl) T.int (by decide +kernel) (pa_cons (pe_ix ix_list (pv 0) (pv 1) (fun _ _ => rfl)) pa_nil))
          (pe_op op_add (pe_op op_mul pe_int (pv 1)) pe_int)))
      (pss_cons (ps_set (i := 3) scB.nd rfl (Or.inl rfl) (pe_op op_add pe_int (pe_op op_mul pe_int (pv 1))))
      (pss_cons (ps_for PassesOwn.never rfl (pi_list (pe_slice sl_list (pv 0) po_none (po_some pe_int))) (pg_name (i := 4) scB.nd rfl (Or.inl rfl))
          (pss_one (ps_set (i := 3) scB.nd rfl (Or.inl rfl)
            (pe_op op_mod (pe_callTy call_int1 (by rfl) T.int (by decide +kernel) (pa_cons (pe_op op_add (pe_op op_mul (pv 3) pe_int)
              (pe_op op_mod (pe_callTy call_int1 (by rfl) T.int (by decide +kernel) (pa_cons (pv 4) pa_nil)) pe_int)) pa_nil)) pe_int))))
      (pss_one (ps_ret (pe_lst (pa_cons (pe_op op_mod (pe_callTy call_int1 (by rfl) T.int (by decide +kernel) (pa_cons (pe_op op_add (pv 3) (pe_op op_mod (pv 2) pe_int)) pa_nil)) pe_int)
        (pa_cons (pe_ifExp (PW.pt (pw_or (pt_cmpR op_lt (pv 2) pe_int (nomark _)) (pw_or1 (pt_cmpR op_ge (pv 2) (pe_op op_pow pe_int pe_int) (nomark _)))))
            (pe_callB call_abs (by rfl) T.abs (by decide +kernel) (pa_cons (pv 2) pa_nil)) pe_int)
        (pa_cons pe_int pa_nil)))))))), ?_⟩
    refine cutIfV (fun v => ∃ u, v = .int u) ?_ (fun c => ?_)
    · rintro _ ⟨u, rfl⟩
      refine ⟨_, rfl, _, _, rfl, rfl, .inl ⟨by decide, by decide⟩, _, _, rfl, rfl, ?_⟩
      refine ⟨_, rfl, 12, rfl, a, _, rfl, hS, fun pl hpl => ?_⟩
      have s1 := same_upd (o := .lst (cutV (ns.map V.int) none (some 12))) hpl
      refine ⟨pl, rfl, ⟨_, SqL.of upd_same⟩, for_list (K := K) (a := pl) (xs := cutV (ns.map V.int) none (some 12))
        (fun i σ H' => H' = upd _ pl (.lst (cutV (ns.map V.int) none (some 12))) ∧ ∃ (z : Int) (v : Option V), σ = [some (.ref a), some (.int k), some (.int u), some (.int z), v]) ⟨rfl, _, _, rfl⟩ ?_ ?_ ?_⟩
      · rintro i σ H' _ ⟨rfl, _⟩
        exact SqL.of upd_same
      · rintro i y σ H' hi ⟨rfl, z, v, rfl⟩
        obtain ⟨e, rfl⟩ := cut_int hi
        refine ⟨_, rfl, _, _, rfl, rfl, .inr ⟨by decide, by decide⟩, ?_⟩
        refine ⟨_, rfl, .inl ⟨_, rfl, _, _, rfl, rfl, pos1, _, _, rfl, rfl, .inl ⟨_, rfl, _, _, rfl, rfl, pos1, rfl, _, _, rfl⟩⟩⟩
      · rintro σ H' ⟨rfl, z, v, rfl⟩
        refine ⟨_, rfl, _, rfl, _, _, rfl, rfl, pos1, _, _, rfl, rfl, .inl ⟨_, rfl, _, _, rfl, rfl, pos1, ?_⟩⟩
        refine cutIfV (fun v => ∃ u, v = .int u) ?_ (fun c => ?_)
        · rintro _ ⟨y, rfl⟩
          refine ⟨by show 3 ≤ sizeLine; decide, fun p hp => ?_⟩
          refine q _ p (s1.trans (same_upd hp)) (s1.free hp) ⟨_, _, _, upd_same⟩
        · refine ⟨_, rfl, _, _, rfl, rfl, _, rfl, ?_⟩
          refine ite2 (fun h => ?_) (fun h => ?_)
          · refine iteT ⟨_, rfl, _, rfl, c _ ⟨_, rfl⟩⟩
          · refine ⟨_, rfl, _, _, rfl, rfl, ⟨by decide, by decide, by decide⟩, _, _, rfl, rfl, _, rfl, ?_⟩
            refine ite2 (fun h => ?_) (fun h => ?_)
            · exact ⟨_, rfl, _, rfl, c _ ⟨_, rfl⟩⟩
            · exact c _ ⟨_, rfl⟩
    · refine ⟨_, rfl, _, rfl, a, _, rfl, .inl hS, _, _, rfl, rfl, _, rfl, ?_⟩
      refine ite2 (fun h => ?_) (fun h => ?_)
      · have h' : k < ns.length := by
          have := of_decide_eq_true h
          rw [List.length_map] at this
          exact this
        obtain ⟨e, he⟩ := int_at h0 h'
        exact ⟨_, rfl, _, rfl, a, _, _, _, rfl, rfl, hS, he, .inl ⟨_, rfl, c _ ⟨_, rfl⟩⟩⟩
      · exact ⟨_, rfl, _, _, rfl, rfl, .inl ⟨by decide, by decide⟩, _, _, rfl, rfl, c _ ⟨_, rfl⟩⟩
abbrev nD : List Str := ["_law_bowl_here", "_law_many", "_law_digit"]
theorem scD : FnScope nD ["_law_bowl_here", "_law_many"] (defScope sDip) := ⟨rfl, rfl, rfl, by decide +kernel, rfl, by decide +kernel, by decide +kernel⟩
theorem ok_dip {f : Addr} {fd : FuncData} (F : Fun K "_law_dip" "_law_dip" sDip f fd) (T : TxB mg) : FnOk P w K mg base CX0 1 f fd ["_law_bowl_here", "_law_many"] spDip := by
  refine F.ok scD (fun vs H Q E h => ?_) (fun cdv A outer s H vs Q E hr h => ?_)
  · obtain ⟨p, m, rfl, _⟩ := h
    rfl
  · obtain ⟨p, m, rfl, ⟨x, y, z, hp⟩, hm0, hm1, q⟩ := h
    refine ⟨_, pss_cons (ps_asg (pe_op op_add (pe_ix ix_list (pv 0) pe_int (fun _ _ => rfl)) pe_int) (pg_sub (pv 0) pe_int set_list))
      (pss_cons (ps_if (pt_cmpR op_gt (pe_ix ix_list (pv 0) pe_int (fun _ _ => rfl)) pe_int (nomark _))
        (pss_cons (ps_asg (pe_callB call_divmod (by rfl) T.divmod (by decide +kernel) (pa_cons (pe_callTy call_int1 (by rfl) T.int (by decide +kernel) (pa_cons (pe_ix ix_list (pv 0) pe_int (fun _ _ => rfl)) pa_nil)) (pa_cons (pv 1) pa_nil)))
            (pg_tup (by rfl) (pgs_cons (pg_sub (pv 0) pe_int set_list) (pgs_cons (pg_name (i := 2) scD.nd rfl (Or.inl rfl)) pgs_nil))))
          (pss_one (ps_ret (pv 2)))) pss_nil)
      (pss_cons (ps_asg (pe_op op_mod (pe_callTy call_int1 (by rfl) T.int (by decide +kernel) (pa_cons (pe_op op_add (pe_op op_add (pe_op op_mul (pe_ix ix_list (pv 0) pe_int (fun _ _ => rfl)) pe_int)
            (pe_op op_mul (pe_ix ix_list (pv 0) pe_int (fun _ _ => rfl)) pe_int))
            (pe_op op_mul (pe_op op_fdiv (pe_ix ix_list (pv 0) pe_int (fun _ _ => rfl)) pe_int) pe_int)) pa_nil)) pe_int) (pg_sub (pv 0) pe_int set_list))
      (pss_one (ps_ret (pe_op op_mod (pe_callTy call_int1 (by rfl) T.int (by decide +kernel) (pa_cons (pe_op op_fdiv (pe_ix ix_list (pv 0) pe_int (fun _ _ => rfl)) pe_int) pa_nil)) (pv 1)))))), ?_⟩
    refine ⟨_, rfl, p, _, 2, _, rfl, rfl, SqL.of hp, rfl, _, _, rfl, rfl, _, rfl, p, _, 2, 2, rfl, rfl, hp, rfl, ?_⟩
    have h1 : upd H p (.lst [.int x, .int y, .int (z + 1)]) p = some (.lst [.int x, .int y, .int (z + 1)]) := upd_same
    refine ⟨_, rfl, p, _, 1, _, rfl, rfl, SqL.of h1, rfl, _, _, rfl, rfl, _, rfl, ?_⟩
    refine ite2 (fun h => ?_) (fun h => ?_)
    · refine ⟨_, rfl, p, _, 1, _, rfl, rfl, SqL.of h1, rfl, .inl ⟨_, rfl, _, rfl, _, _, rfl, ⟨hm0, hm1⟩, fun t ht => ?_⟩⟩
      have ntp : t ≠ p := fun e => by rw [e] at ht; exact absurd (h1.symm.trans ht) (by simp)
      refine ⟨t, _, rfl, SqT.of upd_same, rfl, _, _, rfl, _, rfl, p, _, 1, 1, rfl, rfl, ((upd_ne ntp.symm).trans h1), rfl, ?_⟩
      refine ⟨_, _, rfl, rfl, _, rfl, ?_⟩
      exact q _ _ (((stir_upd H p _ _ _).same (same_upd ht)).trans (stir_upd _ p _ _ _)) (Int.emod_nonneg _ (by omega)) (Int.emod_lt_of_pos _ hm0)
    · refine ⟨_, rfl, p, _, 0, _, rfl, rfl, SqL.of h1, rfl, _, _, rfl, rfl, .inr ⟨by decide, by decide⟩, _, rfl, p, _, 2, _, rfl, rfl, SqL.of h1, rfl, _, _, rfl, rfl, .inr ⟨by decide, by decide⟩, _, _, rfl, rfl, _, rfl, p, _, 0, _, rfl, rfl, SqL.of h1, rfl, _, _, rfl, rfl, ⟨by decide, by decide⟩, _, _, rfl, rfl, .inr ⟨by decide, by decide⟩, _, _, rfl, rfl, .inl ⟨_, rfl, _, _, rfl, rfl, pos1, _, rfl, p, _, 0, 0, rfl, rfl, h1, rfl, _, rfl, p, _, 0, _, rfl, rfl, SqL.of upd_same, rfl, _, _, rfl, rfl, ⟨by decide, by decide⟩, .inl ⟨_, rfl, _, rfl, _, _, rfl, rfl, hm0, ?_⟩⟩⟩
      exact q _ _ ((stir_upd H p _ _ _).trans (stir_upd _ p _ _ _)) (Int.emod_nonneg _ (by omega)) (Int.emod_lt_of_pos _ hm0)
end
end Gm

namespace Gm
open PySem L2


abbrev sEq : Stmt := inClass (top 19) 3
abbrev sStr : Stmt := inClass (top 19) 4
abbrev sRepr : Stmt := inClass (top 19) 5


/-! ### mathematics -/

def low : List Nat := lowTxt.cps.toList
def pick (s : Str) : List Nat := low.filter fun c => decide (c ∈ s.cps.toList)
def Alph (s : Str) : Prop := 2 ≤ s.length ∧ s.length ≤ 26 ∧ s.cps.toList = pick s
instance (s : Str) : Decidable (Alph s) := by unfold Alph; infer_instance
theorem join_one (cs : List Nat) : Txt.join (Str.ofString "") (cs.map fun c => (⟨#[c]⟩ : Str)) = ⟨cs.toArray⟩ := by
  have h : (cs.map fun c => (⟨#[c]⟩ : Str)) = (cs.map fun c => [c]).map SX.S := by rw [List.map_map]; rfl
  have e : (Str.ofString "" : Str) = SX.S [] := rfl
  rw [h, e, SX.join_S]
  have j : ∀ l : List Nat, TL.joinL [] (l.map fun c => [c]) = l := by
    intro l
    induction l with
    | nil => rfl
    | cons a l ih =>
      cases l with
      | nil => rfl
      | cons b l =>
        show [a] ++ ([] ++ TL.joinL [] ((b :: l).map fun c => [c])) = a :: b :: l
        rw [ih]
        rfl
  rw [j]
theorem str_len (s : Str) : s.cps.toList.length = s.length := by simp [Str.length]
theorem take_filter {p : Nat → Bool} (l : List Nat) (i : Nat) (h : i < l.length) : (l.take (i + 1)).filter p = (l.take i).filter p ++ (if p l[i] = true then [l[i]] else []) := by
  rw [List.take_succ_eq_append_getElem h, List.filter_append]
  congr 1
  by_cases c : p l[i] = true
  · rw [if_pos c]; simp [c]
  · rw [if_neg c]; simp [c]

theorem low_len : low.length = 26 := by decide +kernel
theorem sum_one (cs : List Nat) : ((cs.map fun c => (⟨#[c]⟩ : Str)).map (·.length)).sum = cs.length := by
  induction cs with
  | nil => rfl
  | cons c cs ih =>
    rw [List.map_cons, List.map_cons, List.sum_cons, ih, List.length_cons]
    show 1 + cs.length = cs.length + 1
    omega
/-! ### promises -/
def NoInt (K : PySem.W.Frag) (t : Value) : Prop := PySem.W.kitOne K t (.type "bool") = some true ∨ (PySem.W.kitOne K t (.type "bool") = some false ∧ PySem.W.kitOne K t (.type "int") = some false)
def spWithin (K : PySem.W.Frag) : Sp := fun vs H Q _ => ∃ (v : V) (lo hi : Int), vs = [v, .int lo, .int hi] ∧
  ((∃ n, v = .int n ∧ Q (.bl (decide (lo ≤ n ∧ n ≤ hi))) H) ∨ (∃ t, TyX K H v t ∧ NoInt K t ∧ Q (.bl false) H))
def spAlpha (K : PySem.W.Frag) : Sp := fun vs H Q _ => ∃ (v : V), vs = [v] ∧
  ((∃ s, v = .str s ∧ s.length ≤ 1000 ∧ ∀ H', Same H H' → Q (.bl (decide (Alph s))) H') ∨ (∃ t, TyX K H v t ∧ PySem.W.kitOne K t (.type "str") = some false ∧ Q (.bl false) H))
def spCount : Sp := fun vs H Q _ => ∃ (m n : Int), vs = [.int m, .int n] ∧ 0 ≤ m ∧ m ≤ 26 ∧ 0 ≤ n ∧ n ≤ 6 ∧ Q (.int (m ^ n.toNat)) H
def boardF (s : Str) (n : Int) : List (Str × V) := putF "size" (.int ((s.length : Int) ^ n.toNat)) (putF "length" (.int n) (putF "letters" (.str s) []))
def BoardAt (C : Addr) (H : Hp) (p : Addr) (s : Str) (n : Int) : Prop := ∃ dx, H p = some (.ins C dx (boardF s n))
/-- all but p as it stood -/
def But (p : Addr) (H H' : Hp) : Prop := ∀ b o, b ≠ p → H b = some o → H' b = some o
def spInit (C : Addr) : Sp := fun vs H Q _ => ∃ (p dx : Addr) (s : Str) (n : Int), vs = [.ref p, .str s, .int n] ∧ Alph s ∧ 1 ≤ n ∧ n ≤ 6 ∧ H p = some (.ins C dx []) ∧
  ∀ H', But p H H' → BoardAt C H' p s n → Q .non H'
/-- what another object is, beside a board -/
def spEqB (K : PySem.W.Frag) (C : Addr) : Sp := fun vs H Q _ => ∃ (p : Addr) (s : Str) (n : Int) (y : V), vs = [.ref p, y] ∧ BoardAt C H p s n ∧ s.length ≤ 1000 ∧
  ((∃ q s' n', y = .ref q ∧ BoardAt C H q s' n' ∧ s'.length ≤ 1000 ∧ Q (.bl (decide (s = s' ∧ n = n'))) H) ∨ (∃ t, TyX K H y t ∧ PySem.W.kitOne K t (.ref C) = some false ∧ Q (.bl false) H))
def digit (n : Int) : Str := (toString n : String)
def spStr (C : Addr) : Sp := fun vs H Q _ => ∃ (p : Addr) (s : Str) (n : Int), vs = [.ref p] ∧ BoardAt C H p s n ∧ s.length ≤ 26 ∧ 1 ≤ n ∧ n ≤ 6 ∧ Q (.str (s ++ " " ++ digit n)) H
def spRepr (C : Addr) : Sp := fun vs H Q _ => ∃ (p : Addr) (s : Str) (n : Int), vs = [.ref p] ∧ BoardAt C H p s n ∧ s.length ≤ 26 ∧ 1 ≤ n ∧ n ≤ 6 ∧ Q (.str ("Board(" ++ s ++ " " ++ digit n ++ ")")) H

structure TxW (mg : Str → Option Value) : Prop where
  isi : mg "isinstance" = none
  bool : mg "bool" = none
  int : mg "int" = none
  str : mg "str" = none
  len : mg "len" = none
  range : mg "range" = none
  most : ∃ t, mg "MOST_LETTERS" = some (.int 26 t)
  mlen : ∃ t, mg "MOST_LENGTH" = some (.int 6 t)
  low : ∃ t, mg "LOWERCASE" = some (.str lowTxt t)

section
variable {P : Program} {w : World} {K : PySem.W.Frag} {mg : Str → Option Value} {base : Heap}
theorem scW : FnScope ["value", "least", "most"] ["value", "least", "most"] (defScope sWithin) := ⟨rfl, rfl, rfl, by decide +kernel, rfl, by decide +kernel, by decide +kernel⟩
theorem ok_within {f : Addr} {fd : FuncData} (F : Fun K "is_integer_within" "is_integer_within" sWithin f fd) (T : TxW mg) : FnOk P w K mg base CX0 1 f fd ["value", "least", "most"] (spWithin K) := by
  refine F.ok scW (fun vs H Q E h => ?_) (fun cdv A outer s H vs Q E hr h => ?_)
  · obtain ⟨v, lo, hi, rfl, _⟩ := h
    rfl
  · obtain ⟨v, lo, hi, rfl, h⟩ := h
    refine ⟨_, pss_cons (ps_if (PW.pt (pw_or (pt_val (pe_callB call_isi (by rfl) T.isi (by decide +kernel) (pa_cons (pv 0) (pa_cons (pe_bltn (v := .ty "bool") (by rfl) T.bool (by decide +kernel) rfl) pa_nil))))
        (pw_or1 (pt_not (pt_val (pe_callB call_isi (by rfl) T.isi (by decide +kernel) (pa_cons (pv 0) (pa_cons (pe_bltn (v := .ty "int") (by rfl) T.int (by decide +kernel) rfl) pa_nil))))))))
        (pss_one (ps_ret pe_bl)) pss_nil)
      (pss_one (ps_ret (pe_chain op_le op_le (pv 1) (pv 0) (pv 2)))), ?_⟩
    rcases h with ⟨n, rfl, q⟩ | ⟨t, ty, no, q⟩
    · refine ⟨_, rfl, _, _, _, _, _, rfl, .ty "bool", .base (.int n), kit_ty (r := false) (by decide +kernel), _, rfl, iteF ?_⟩
      refine ⟨_, rfl, _, _, _, _, _, rfl, .ty "int", .base (.int n), kit_ty (r := true) (by decide +kernel), _, rfl, ?_⟩
      refine ⟨_, rfl, _, rfl, _, _, rfl, rfl, _, rfl, ?_⟩
      refine ite2 (fun h => ?_) (fun h => ?_)
      · refine ⟨_, rfl, _, _, rfl, rfl, ?_⟩
        have e : decide (lo ≤ n ∧ n ≤ hi) = decide (n ≤ hi) := by
          have := of_decide_eq_true h
          simp [this]
        rw [e] at q
        exact q
      · have e : decide (lo ≤ n ∧ n ≤ hi) = false := by
          simp only [decide_eq_true_eq] at h
          simp [h]
        rw [e] at q
        exact q
    · rcases no with no | ⟨no, no2⟩
      · exact ⟨_, rfl, _, _, _, _, _, rfl, .ty "bool", ty, no, _, rfl, iteT q⟩
      · refine ⟨_, rfl, _, _, _, _, _, rfl, .ty "bool", ty, no, _, rfl, iteF ?_⟩
        exact ⟨_, rfl, _, _, _, _, _, rfl, .ty "int", ty, no2, _, rfl, q⟩
abbrev nA : List Str := ["letters", "letter"]
theorem scAl : FnScope nA ["letters"] (defScope sAlpha) := ⟨rfl, rfl, rfl, by decide +kernel, rfl, by decide +kernel, by decide +kernel⟩
theorem ok_alpha {f : Addr} {fd : FuncData} (F : Fun K "is_alphabet" "is_alphabet" sAlpha f fd) (T : TxW mg) : FnOk P w K mg base CX0 1 f fd ["letters"] (spAlpha K) := by
  refine F.ok scAl (fun vs H Q E h => ?_) (fun cdv A outer s H vs Q E hr h => ?_)
  · obtain ⟨v, rfl, _⟩ := h
    rfl
  · obtain ⟨v, rfl, h⟩ := h
    obtain ⟨t1, mg1⟩ := T.most
    obtain ⟨t2, mg2⟩ := T.low
    refine ⟨_, pss_cons (ps_if (PW.pt (pw_or (pt_not (pt_val (pe_callB call_isi (by rfl) T.isi (by decide +kernel) (pa_cons (pv 0) (pa_cons (pe_bltn (v := .ty "str") (by rfl) T.str (by decide +kernel) rfl) pa_nil)))))
        (pw_or1 (pt_not (pt_chain op_le op_le pe_int (pe_callB call_len_str (by rfl) T.len PySem.boot_len (pa_cons (pv 0) pa_nil)) (pe_glob (v := .int 26) (by rfl) mg1 ⟨_, rfl⟩))))))
        (pss_one (ps_ret pe_bl)) pss_nil)
      (pss_one (ps_ret (pe_cmpR op_eq (pv 0) (pe_join pe_str
        (pe_lc (own := [("letter", 1)]) (g := gName 1) (by rfl) scAl.nd (pi_str (pe_glob (v := .str lowTxt) (by rfl) mg2 ⟨_, rfl⟩)) (blkOk_by (own := [("letter", 1)]) (N := nA) (sc := defScope sAlpha) (by decide +kernel))
          (fun _ _ _ _ _ => pg_name (i := 1) scAl.nd rfl (Or.inl rfl)) (fun _ _ _ _ _ => pts_one (pt_cmpR op_in_sign (pv 1) (pv 0) rfl)) (fun _ _ _ _ _ => pv 1))) (nomark _)))), ?_⟩
    rcases h with ⟨z, rfl, hz, q⟩ | ⟨t, ty, no, q⟩
    · refine ⟨_, rfl, _, _, _, _, _, rfl, .ty "str", .base (.str z), kit_ty (r := true) (by decide +kernel), _, rfl, ?_⟩
      refine ⟨_, rfl, _, rfl, by have : sizeLine = 16777216 := sizeLine_eq; omega, _, _, rfl, rfl, _, rfl, ?_⟩
      have hf : ¬ Alph z → decide (Alph z) = false := decide_eq_false
      refine ite2 (fun h2 => ?_) (fun h2 => ?_)
      · refine ⟨_, _, rfl, rfl, _, rfl, ?_⟩
        have h2 := of_decide_eq_true h2
        refine ite2 (fun h3 => ?_) (fun h3 => ?_)
        · have n : ¬ Alph z := fun a => by
            have := a.2.1
            simp at h3
            omega
          rw [hf n] at q
          exact q _ (Same.refl H)
        · have h3 : (z.length : Int) ≤ 26 := by simpa using h3
          refine ⟨_, rfl, ⟨_, rfl⟩, lowTxt, rfl, fun D hD => ?_⟩
          refine lc_it (walk_str (z := lowTxt)) (fun i H' => Same H H' ∧ H' D = some (.lst (((low.take i).filter fun c => decide (c ∈ z.cps.toList)).map fun c => V.str ⟨#[c]⟩))) ⟨same_upd hD, upd_same⟩ (fun _ _ _ _ => trivial) ?_ ?_
          · rintro i x H1 H2 hi ⟨sm, hD1⟩ ⟨rfl, c, hc, rfl⟩
            have hi' : i < low.length := hi
            have ec : low[i] = c := by
              have : lowTxt.cps[i] = c := (Array.getElem?_eq_some_iff.mp hc).2
              exact this
            have st := take_filter (p := fun c => decide (c ∈ z.cps.toList)) low i hi'
            rw [ec] at st
            refine ⟨rfl, _, rfl, _, rfl, c, z, rfl, rfl, _, rfl, ?_⟩
            refine ite2 (fun hm => ?_) (fun hm => ?_)
            · rw [if_pos hm] at st
              refine ⟨_, rfl, _, hD1, ?_, fun b o e => ?_, ?_⟩
              · have h1 := List.length_filter_le (fun c => decide (c ∈ z.cps.toList)) (low.take i)
                have h2 : (low.take i).length ≤ i := by rw [List.length_take]; omega
                have h3 : sizeLine = 16777216 := sizeLine_eq
                rw [low_len] at hi'
                rw [List.length_map]
                omega
              · rw [upd_ne (ne_of_none e hD)]
                exact sm b o e
              · rw [upd_same, st, List.map_append]
                rfl
            · rw [if_neg hm, List.append_nil] at st
              exact ⟨sm, by rw [st]; exact hD1⟩
          · rintro H1 ⟨sm, hD1⟩
            have el : low.take lowTxt.cps.size = low := List.take_of_length_le (Nat.le_of_eq (by simp [low]))
            rw [el] at hD1
            refine ⟨_, D, (pick z).map (fun c => (⟨#[c]⟩ : Str)), rfl, rfl, .inl (SqL.of ?_), ?_, rfl, ?_⟩
            · rw [List.map_map]
              exact hD1
            · have h1 := List.length_filter_le (fun c => decide (c ∈ z.cps.toList)) low
              have h2 : (pick z).length ≤ 26 := h1
              rw [sum_one, List.length_map]
              show (pick z).length + (pick z).length * 0 ≤ 16777216
              omega
            · have e : decide (V.str z = V.str (Txt.join (Str.ofString "") ((pick z).map fun c => (⟨#[c]⟩ : Str)))) = decide (Alph z) := by
                rw [join_one]
                refine decide_eq_decide.mpr ⟨fun e => ⟨by omega, by omega, ?_⟩, fun a => ?_⟩
                · have e := V.str.inj e
                  have := congrArg (fun s : Str => s.cps.toList) e
                  simpa using this
                · have := a.2.2
                  rw [← this]
              rw [← e] at q
              exact q _ sm
      · have n : ¬ Alph z := fun a => by
          have := a.1
          simp at h2
          omega
        rw [hf n] at q
        exact ⟨_, rfl, q _ (Same.refl H)⟩
    · exact ⟨_, rfl, _, _, _, _, _, rfl, .ty "str", ty, no, _, rfl, iteT q⟩

theorem scC : FnScope ["many", "length", "total", "place"] ["many", "length"] (defScope sCount) := ⟨rfl, rfl, rfl, by decide +kernel, rfl, by decide +kernel, by decide +kernel⟩
theorem ok_count {f : Addr} {fd : FuncData} (F : Fun K "count_words" "count_words" sCount f fd) (T : TxW mg) : FnOk P w K mg base CX0 1 f fd ["many", "length"] spCount := by
  refine F.ok scC (fun vs H Q E h => ?_) (fun cdv A outer s H vs Q E hr h => ?_)
  · obtain ⟨m, n, rfl, _⟩ := h
    rfl
  · obtain ⟨m, n, rfl, m0, m1, n0, n1, q⟩ := h
    refine ⟨_, pss_cons (ps_set (i := 2) scC.nd rfl (Or.inl rfl) pe_int)
      (pss_cons (ps_for PassesOwn.never rfl (pi_range1 (by rfl) T.range (pa_cons (pv 1) pa_nil)) (pg_name (i := 3) scC.nd rfl (Or.inl rfl)) (pss_one (ps_aug (i := 2) scC.nd rfl (Or.inl rfl) (pv 0) iop_mul)))
      (pss_one (ps_ret (pv 2)))), ?_⟩
    refine ⟨_, rfl, n, rfl, by omega, by omega, for_range (n := n.toNat) (fun i σ H' => H' = H ∧ ∃ v, σ = [some (.int m), some (.int n), some (.int (m ^ i)), v]) ⟨rfl, none, by rw [Int.pow_zero]; rfl⟩ ?_ ?_⟩
    · rintro i σ H' hi ⟨rfl, v, rfl⟩
      exact ⟨_, rfl, _, rfl, _, _, rfl, rfl, .inr ⟨by omega, by omega⟩, rfl, _, by rw [Int.pow_succ]; rfl⟩
    · rintro σ H' ⟨rfl, v, rfl⟩
      exact ⟨_, rfl, q⟩
/-- a def of the top, as it is called -/
structure Df (K : PySem.W.Frag) (mg : Str → Option Value) (x : Str) (f : Addr) (fd : FuncData) (ps : List Str) : Prop where
  mg : mg x = some (.ref f)
  kp : PySem.W.keepIn K (.ref f) = true
  b : Binds K fd ps []
/-- the class Board -/
structure TxC (K : PySem.W.Frag) (mg : Str → Option Value) (C : Addr) : Prop where
  cl : Cls K C
  mgC : mg "Board" = some (.ref C)
  nL : NoAttr K C "letters"
  nN : NoAttr K C "length"
  nS : NoAttr K C "size"
  ac : PySem.W.findIn K (.ref C) "__class__" = some (some (.builtin "object.__class__"))
  gt : PySem.W.specialIn K (.builtin "object.__class__") "__get__" = some (some (.builtin "getset_descriptor.__get__"))
  tk : PySem.W.takesIn K (.builtin "object.__class__") = some true
  ob : PySem.W.mroIn K C (.type "object") = some true
  own : PySem.W.kitOne K (.ref C) (.ref C) = some true
theorem bf_eq (s : Str) (n : Int) : boardF s n = ([("letters", V.str s), ("length", V.int n), ("size", V.int ((s.length : Int) ^ n.toNat))] : List (Str × V)) := by
  have h1 : ¬ (("letters" : Str) = "length") := by decide +kernel
  have h2 : ¬ (("letters" : Str) = "size") := by decide +kernel
  have h3 : ¬ (("length" : Str) = "size") := by decide +kernel
  show putF "size" _ (if ("letters" : Str) = "length" then _ else (("letters" : Str), V.str s) :: putF "length" (V.int n) []) = _
  rw [if_neg h1]
  show (if ("letters" : Str) = "size" then _ else (("letters" : Str), V.str s) :: (if ("length" : Str) = "size" then _ else (("length" : Str), V.int n) :: putF "size" _ [])) = _
  rw [if_neg h2, if_neg h3]
  rfl
theorem pf2_eq (s : Str) (n : Int) : putF "length" (.int n) (putF "letters" (.str s) []) = ([("letters", V.str s), ("length", V.int n)] : List (Str × V)) := by
  have h1 : ¬ (("letters" : Str) = "length") := by decide +kernel
  show (if ("letters" : Str) = "length" then _ else (("letters" : Str), V.str s) :: putF "length" (V.int n) []) = _
  rw [if_neg h1]
  rfl
theorem bf_letters (s : Str) (n : Int) : (boardF s n).lookup ("letters" : Str) = some (.str s) := by rw [bf_eq]; rfl
theorem bf_length (s : Str) (n : Int) : (boardF s n).lookup ("length" : Str) = some (.int n) := by
  have h1 : (("length" : Str) == "letters") = false := by decide +kernel
  rw [bf_eq, List.lookup_cons, h1]
  rfl
theorem bf_size (s : Str) (n : Int) : (boardF s n).lookup ("size" : Str) = some (.int ((s.length : Int) ^ n.toNat)) := by
  have h1 : (("size" : Str) == "letters") = false := by decide +kernel
  have h2 : (("size" : Str) == "length") = false := by decide +kernel
  rw [bf_eq, List.lookup_cons, h1, List.lookup_cons, h2]
  rfl
theorem But.upd {p : Addr} {H : Hp} {o : HO} : But p H (L2.upd H p o) := fun b u n e => by rw [upd_ne n]; exact e
theorem But.trans {p : Addr} {H H1 H2 : Hp} (a : But p H H1) (b : But p H1 H2) : But p H H2 := fun c o n h => b c o n (a c o n h)
theorem But.of {p : Addr} {H H1 : Hp} (a : Same H H1) : But p H H1 := fun c o n h => a c o h
theorem scI : FnScope ["self", "letters", "length"] ["self", "letters", "length"] (defScope sInit) := ⟨rfl, rfl, rfl, by decide +kernel, rfl, by decide +kernel, by decide +kernel⟩
theorem ok_init {f C fA fW fC : Addr} {fd fdA fdW fdC : FuncData} (F : Fun K "__init__" "Board.__init__" sInit f fd) (T : TxW mg) (TC : TxC K mg C)
    (GA : FnOk P w K mg base CX0 1 fA fdA ["letters"] (spAlpha K)) (DA : Df K mg "is_alphabet" fA fdA ["letters"]) (GW : FnOk P w K mg base CX0 1 fW fdW ["value", "least", "most"] (spWithin K)) (DW : Df K mg "is_integer_within" fW fdW ["value", "least", "most"])
    (GC : FnOk P w K mg base CX0 1 fC fdC ["many", "length"] spCount) (DC : Df K mg "count_words" fC fdC ["many", "length"]) : FnOk P w K mg base CX0 2 f fd ["self", "letters", "length"] (spInit C) := by
  refine F.ok scI (fun vs H Q E h => ?_) (fun cdv A outer s H vs Q E hr h => ?_)
  · obtain ⟨p, dx, s, n, rfl, _⟩ := h
    rfl
  · obtain ⟨p, dx, z, n, rfl, hz, n0, n1, hp, q⟩ := h
    obtain ⟨t1, mg1⟩ := T.mlen
    refine ⟨_, pss_cons (ps_if (pt_not (pt_val (pe_call GA hr (by rfl) DA.mg DA.kp DA.b .nil pass0 (pa_cons (pv 1) pa_nil)))) (pss_one ps_never) pss_nil)
      (pss_cons (ps_if (pt_not (pt_val (pe_call GW hr (by rfl) DW.mg DW.kp DW.b .nil pass0 (pa_cons (pv 2) (pa_cons pe_int (pa_cons (pe_glob (v := .int 6) (by rfl) mg1 ⟨_, rfl⟩) pa_nil)))))) (pss_one ps_never) pss_nil)
      (pss_cons (ps_fld (pv 0) (pv 1) rfl) (pss_cons (ps_fld (pv 0) (pv 2) rfl)
      (pss_one (ps_fld (pv 0) (pe_call GC hr (by rfl) DC.mg DC.kp DC.b .nil pass0 (pa_cons (pe_callB call_len_str (by rfl) T.len PySem.boot_len (pa_cons (pv 1) pa_nil)) (pa_cons (pv 2) pa_nil))) rfl))))), ?_⟩
    have hl : z.length ≤ 26 := hz.2.1
    have hline : sizeLine = 16777216 := sizeLine_eq
    refine ⟨_, rfl, _, rfl, .inl ⟨z, rfl, by omega, fun H1 s1 => ⟨_, rfl, ?_⟩⟩⟩
    rw [decide_eq_true hz]
    refine iteF ?_
    refine ⟨_, rfl, _, _, _, rfl, .inl ⟨n, rfl, _, rfl, ?_⟩⟩
    rw [decide_eq_true (show 1 ≤ n ∧ n ≤ 6 from ⟨n0, n1⟩)]
    refine iteF ?_
    have hp1 := s1 _ _ hp
    refine ⟨_, rfl, _, rfl, p, C, dx, _, rfl, hp1, TC.cl, TC.nL, by show 0 < 1000; decide, ?_⟩
    refine ⟨_, rfl, _, rfl, p, C, dx, _, rfl, upd_same, TC.cl, TC.nN, by show 1 < 1000; decide, ?_⟩
    refine ⟨_, rfl, _, rfl, by omega, _, rfl, _, _, rfl, by omega, by omega, by omega, n1, ?_⟩
    refine ⟨_, rfl, p, C, dx, _, rfl, upd_same, TC.cl, TC.nS, (by rw [pf2_eq]; show 2 < 1000; decide), ?_⟩
    refine q _ ?_ ⟨dx, upd_same⟩
    exact (But.of s1).trans (But.upd.trans (But.upd.trans But.upd))
theorem digit_len {n : Int} (h0 : 1 ≤ n) (h1 : n ≤ 6) : (digit n).length = 1 := by
  have : n = 1 ∨ n = 2 ∨ n = 3 ∨ n = 4 ∨ n = 5 ∨ n = 6 := by omega
  rcases this with rfl | rfl | rfl | rfl | rfl | rfl <;> decide +kernel
theorem digit_log {n : Int} (h0 : 1 ≤ n) (h1 : n ≤ 6) : n.natAbs.log2 < 1920 := by
  have : n = 1 ∨ n = 2 ∨ n = 3 ∨ n = 4 ∨ n = 5 ∨ n = 6 := by omega
  rcases this with rfl | rfl | rfl | rfl | rfl | rfl <;> decide +kernel
theorem app_len (a b : Str) : (a ++ b).length = a.length + b.length := by
  rw [← str_len, ← str_len, ← str_len, ← List.length_append]
  exact congrArg List.length (TL.tl_append a b)
theorem empty_app (a : Str) : Str.empty ++ a = a := TL.ext_tl (by rw [TL.tl_append]; rfl)
theorem ty_board {C p dx : Addr} {H : Hp} {fs : List (Str × V)} (T : TxC K mg C) (h : H p = some (.ins C dx fs)) : TyX K H (.ref p) (.ref C) := .base (.ins h T.cl T.ac T.gt T.tk T.ob)
theorem scE : FnScope ["self", "other"] ["self", "other"] (defScope sEq) := ⟨rfl, rfl, rfl, by decide +kernel, rfl, by decide +kernel, by decide +kernel⟩
theorem ok_eq {f C : Addr} {fd : FuncData} (F : Fun K "__eq__" "Board.__eq__" sEq f fd) (T : TxW mg) (TC : TxC K mg C) : FnOk P w K mg base CX0 1 f fd ["self", "other"] (spEqB K C) := by
  refine F.ok scE (fun vs H Q E h => ?_) (fun cdv A outer s H vs Q E hr h => ?_)
  · obtain ⟨p, s, n, y, rfl, _⟩ := h
    rfl
  · obtain ⟨p, z, n, y, rfl, ⟨dx, hp⟩, hz, h⟩ := h
    refine ⟨_, pss_one (ps_ret (pe_and (pe_callB call_isi (by rfl) T.isi (by decide +kernel) (pa_cons (pv 1) (pa_cons (pe_glob (v := .ref C) (by rfl) TC.mgC rfl) pa_nil)))
      (pe_and (pe_cmpR op_eq (pe_fld (pv 0) rfl) (pe_fld (pv 1) rfl) (nomark _)) (pe_one (pe_cmpR op_eq (pe_fld (pv 0) rfl) (pe_fld (pv 1) rfl) (nomark _)))))), ?_⟩
    rcases h with ⟨q, z', n', rfl, ⟨dy, hq⟩, hz', k⟩ | ⟨t, ty, no, k⟩
    · refine ⟨_, rfl, _, _, _, _, _, rfl, .own C, ty_board TC hq, TC.own, _, rfl, ?_⟩
      refine iteT ⟨_, rfl, p, C, dx, _, _, rfl, hp, TC.cl, TC.nL, bf_letters z n, _, rfl, q, C, dy, _, _, rfl, hq, TC.cl, TC.nL, bf_letters z' n', rfl, _, rfl, ?_⟩
      refine ite2 (fun e => ?_) (fun e => ?_)
      · refine ⟨_, rfl, p, C, dx, _, _, rfl, hp, TC.cl, TC.nN, bf_length z n, _, rfl, q, C, dy, _, _, rfl, hq, TC.cl, TC.nN, bf_length z' n', rfl, ?_⟩
        have e := V.str.inj (of_decide_eq_true e)
        have e2 : decide (z = z' ∧ n = n') = decide (V.int n = V.int n') := decide_eq_decide.mpr ⟨fun x => by rw [x.2], fun x => ⟨e, V.int.inj x⟩⟩
        rw [e2] at k
        exact k
      · have e2 : decide (z = z' ∧ n = n') = false := decide_eq_false fun x => e (decide_eq_true (by rw [x.1]))
        rw [e2] at k
        exact k
    · exact ⟨_, rfl, _, _, _, _, _, rfl, .own C, ty, no, _, rfl, iteF k⟩
theorem scS : FnScope ["self"] ["self"] (defScope sStr) := ⟨rfl, rfl, rfl, by decide +kernel, rfl, by decide +kernel, by decide +kernel⟩
theorem ok_str {f C : Addr} {fd : FuncData} (F : Fun K "__str__" "Board.__str__" sStr f fd) (TC : TxC K mg C) : FnOk P w K mg base CX0 1 f fd ["self"] (spStr C) := by
  refine F.ok scS (fun vs H Q E h => ?_) (fun cdv A outer s H vs Q E hr h => ?_)
  · obtain ⟨p, s, n, rfl, _⟩ := h
    rfl
  · obtain ⟨p, z, n, rfl, ⟨dx, hp⟩, hz, n0, n1, q⟩ := h
    refine ⟨_, pss_one (ps_ret (pe_joined (.cons (pe_fmt (pe_fld (pv 0) rfl)) (.cons pe_str (.cons (pe_fmt (pe_fld (pv 0) rfl)) .nil))))), ?_⟩
    have hline : sizeLine = 16777216 := sizeLine_eq
    have d := digit_len n0 n1
    refine ⟨_, rfl, p, C, dx, _, _, rfl, hp, TC.cl, TC.nL, bf_letters z n, .inl ⟨z, rfl, by omega, z, rfl, by rw [empty_app]; omega, ?_⟩⟩
    refine ⟨_, rfl, by rw [empty_app, app_len]; have : (Str.ofString " ").length = 1 := rfl; omega, ?_⟩
    refine ⟨_, rfl, p, C, dx, _, _, rfl, hp, TC.cl, TC.nN, bf_length z n, .inr ⟨n, rfl, digit_log n0 n1, digit n, rfl, ?_, ?_⟩⟩
    · rw [empty_app, app_len, app_len]; have : (Str.ofString " ").length = 1 := rfl; omega
    · show Q (.str (Str.empty ++ z ++ Str.ofString " " ++ digit n)) H
      rw [empty_app]
      exact q
theorem scR : FnScope ["self"] ["self"] (defScope sRepr) := ⟨rfl, rfl, rfl, by decide +kernel, rfl, by decide +kernel, by decide +kernel⟩
theorem ok_repr {f C : Addr} {fd : FuncData} (F : Fun K "__repr__" "Board.__repr__" sRepr f fd) (TC : TxC K mg C) : FnOk P w K mg base CX0 1 f fd ["self"] (spRepr C) := by
  refine F.ok scR (fun vs H Q E h => ?_) (fun cdv A outer s H vs Q E hr h => ?_)
  · obtain ⟨p, s, n, rfl, _⟩ := h
    rfl
  · obtain ⟨p, z, n, rfl, ⟨dx, hp⟩, hz, n0, n1, q⟩ := h
    refine ⟨_, pss_one (ps_ret (pe_joined (.cons pe_str (.cons (pe_fmt (pe_fld (pv 0) rfl)) (.cons pe_str (.cons (pe_fmt (pe_fld (pv 0) rfl)) (.cons pe_str .nil))))))), ?_⟩
    have hline : sizeLine = 16777216 := sizeLine_eq
    have d := digit_len n0 n1
    have l1 : (Str.ofString " ").length = 1 := rfl
    have l2 : (Str.ofString "Board(").length = 6 := rfl
    have l3 : (Str.ofString ")").length = 1 := rfl
    refine ⟨_, rfl, by rw [empty_app, l2]; omega, ?_⟩
    refine ⟨_, rfl, p, C, dx, _, _, rfl, hp, TC.cl, TC.nL, bf_letters z n, .inl ⟨z, rfl, by omega, z, rfl, by rw [empty_app, app_len, l2]; omega, ?_⟩⟩
    refine ⟨_, rfl, by rw [empty_app, app_len, app_len, l1, l2]; omega, ?_⟩
    refine ⟨_, rfl, p, C, dx, _, _, rfl, hp, TC.cl, TC.nN, bf_length z n, .inr ⟨n, rfl, digit_log n0 n1, digit n, rfl, by rw [empty_app, app_len, app_len, app_len, l1, l2]; omega, ?_⟩⟩
    refine ⟨_, rfl, by rw [empty_app, app_len, app_len, app_len, app_len, l1, l2, l3]; omega, ?_⟩
    show Q (.str (Str.empty ++ Str.ofString "Board(" ++ z ++ Str.ofString " " ++ digit n ++ Str.ofString ")")) H
    rw [empty_app]
    exact q
end
end Gm

namespace Gm
open PySem L2
/-- the text of these codes -/
abbrev tx (l : List Nat) : Str := ⟨l.toArray⟩
theorem tx_len (l : List Nat) : (tx l).length = l.length := by simp [Str.length]
theorem cut_pre (z : Str) (i : Nat) (h : i ≤ z.length) : cutS z none (some (i : Int)) = tx (z.cps.toList.take i) := by
  unfold cutS
  rw [HT.sIx_none, HT.sIx_nat, Nat.min_eq_left h]
  rfl
theorem cut_suf (z : Str) (i : Nat) (h : i ≤ z.length) : cutS z (some (i : Int)) none = tx (z.cps.toList.drop i) := by
  unfold cutS
  rw [HT.sIx_none, HT.sIx_nat, Nat.min_eq_left h]
  have e : (z.cps.toList.drop i).length = z.length - i := by rw [List.length_drop, str_len]
  rw [← e, List.take_length]
theorem alph_take : ∀ m : Fin 27, 2 ≤ m.val → Alph (tx (low.take m.val)) := by decide +kernel
theorem low_sorted : low.Pairwise (· < ·) := by decide +kernel
theorem sorted_eq : ∀ (l1 l2 : List Nat), l1.Pairwise (· < ·) → l2.Pairwise (· < ·) → (∀ x, x ∈ l1 ↔ x ∈ l2) → l1 = l2
  | [], [], _, _, _ => rfl
  | [], b :: l2, _, _, h => by have := (h b).mpr List.mem_cons_self; cases this
  | a :: l1, [], _, _, h => by have := (h a).mp List.mem_cons_self; cases this
  | a :: l1, b :: l2, h1, h2, h => by
    have p1 := List.pairwise_cons.mp h1
    have p2 := List.pairwise_cons.mp h2
    have e : a = b := by
      have ha := (h a).mp List.mem_cons_self
      have hb := (h b).mpr List.mem_cons_self
      rcases List.mem_cons.mp ha with e | ha
      · exact e
      · rcases List.mem_cons.mp hb with e | hb
        · exact e.symm
        · have := p1.1 b hb
          have := p2.1 a ha
          omega
    subst e
    rw [sorted_eq l1 l2 p1.2 p2.2 fun x => ⟨fun m => ?_, fun m => ?_⟩]
    · rcases List.mem_cons.mp ((h x).mp (List.mem_cons_of_mem _ m)) with e | q
      · have := p1.1 x m
        omega
      · exact q
    · rcases List.mem_cons.mp ((h x).mpr (List.mem_cons_of_mem _ m)) with e | q
      · have := p2.1 x m
        omega
      · exact q
/-- letters that ascend are an alphabet -/
theorem alph_of {zs : List Nat} (hs : zs.Pairwise (· < ·)) (hl : ∀ c ∈ zs, c ∈ low) (h0 : 2 ≤ zs.length) (h1 : zs.length ≤ 26) : Alph (tx zs) := by
  refine ⟨by rw [tx_len]; exact h0, by rw [tx_len]; exact h1, ?_⟩
  show zs = low.filter fun c => decide (c ∈ (tx zs).cps.toList)
  refine sorted_eq _ _ hs (low_sorted.sublist List.filter_sublist) fun x => ?_
  rw [List.mem_filter]
  show x ∈ zs ↔ x ∈ low ∧ decide (x ∈ zs) = true
  exact ⟨fun h => ⟨hl x h, decide_eq_true h⟩, fun h => of_decide_eq_true h.2⟩
abbrev one (c : Nat) : Str := ⟨#[c]⟩
def codeOf (s : Str) : Nat := s.cps.toList.headD 0
/-- what sorted leaves of signs -/
theorem sorted_one {fs : List Nat} {ys : List Str} (hp : ys.Perm (fs.map one)) : ∃ zs : List Nat, zs.Perm fs ∧ ys = zs.map one := by
  refine ⟨ys.map codeOf, ?_, ?_⟩
  · have := hp.map codeOf
    rw [List.map_map] at this
    have e : fs.map (codeOf ∘ one) = fs := by
      have : (codeOf ∘ one) = id := by funext c; rfl
      rw [this, List.map_id]
    rw [e] at this
    exact this
  · rw [List.map_map]
    have : ∀ y ∈ ys, (one ∘ codeOf) y = y := fun y hy => by
      obtain ⟨c, _, rfl⟩ := List.mem_map.mp (hp.mem_iff.mp hy)
      rfl
    exact (List.map_congr_left this |>.trans (List.map_id' ys)).symm
open PyProof.Rows in
theorem rising_le : ∀ (zs : List Nat) (a : Nat), risingS (one a) (zs.map one) = true → (a :: zs).Pairwise (· ≤ ·)
  | [], a, _ => List.pairwise_singleton _ _
  | b :: zs, a, h => by
    have h' : (!Spec.ltCps [b] [a] && risingS (one b) (zs.map one)) = true := h
    rw [Bool.and_eq_true] at h'
    have ih := rising_le zs b h'.2
    have e : a ≤ b := by
      refine Nat.le_of_not_lt fun q => ?_
      have : Spec.ltCps [b] [a] = true := by simp [Spec.ltCps, q]
      rw [this] at h'
      exact absurd h'.1 (by decide)
    refine List.pairwise_cons.mpr ⟨fun c hc => ?_, ih⟩
    rcases List.mem_cons.mp hc with rfl | hc
    · exact e
    · exact Nat.le_trans e ((List.pairwise_cons.mp ih).1 c hc)
open PyProof.Rows in
theorem sorted_le {zs : List Nat} (h : sortedS (zs.map one) = true) : zs.Pairwise (· ≤ ·) := by
  cases zs with
  | nil => exact List.Pairwise.nil
  | cons a zs => exact rising_le zs a h
theorem strict {zs : List Nat} (h : zs.Pairwise (· ≤ ·)) (n : zs.Nodup) : zs.Pairwise (· < ·) := by
  refine (h.and n).imp fun ⟨a, b⟩ => ?_
  omega
theorem low_nodup : low.Nodup := by decide +kernel
theorem drawn_perm {fs l : List Nat} {i : Nat} {c : Nat} (h : (fs ++ l).Perm low) (hc : l[i]? = some c) : (fs ++ [c] ++ (l.take i ++ l.drop (i + 1))).Perm low := by
  refine List.Perm.trans ?_ h
  rw [List.append_assoc]
  refine List.Perm.append_left fs ?_
  have hi := (List.getElem?_eq_some_iff.mp hc).1
  have e : l = l.take i ++ c :: l.drop (i + 1) := by
    have := (List.getElem?_eq_some_iff.mp hc).2
    rw [← this, List.getElem_cons_drop, List.take_append_drop]
  have q : (c :: (l.take i ++ l.drop (i + 1))).Perm (l.take i ++ c :: l.drop (i + 1)) := List.perm_middle.symm
  rw [← e] at q
  exact q
theorem drawn_alph {fs lf : List Nat} {ys : List Str} (h : (fs ++ lf).Perm low) (h0 : 2 ≤ fs.length) (hp : ys.Perm (fs.map one)) (hs : PyProof.Rows.sortedS ys = true) : ∃ zs : List Nat, ys = zs.map one ∧ Alph (tx zs) ∧ zs.length = fs.length := by
  obtain ⟨zs, q, rfl⟩ := sorted_one hp
  have nd : fs.Nodup := (List.nodup_append.mp (h.nodup_iff.mpr low_nodup)).1
  have hl := h.length_eq
  rw [List.length_append, low_len] at hl
  refine ⟨zs, rfl, alph_of (strict (sorted_le hs) (q.nodup_iff.mpr nd)) (fun c hc => h.mem_iff.mp (List.mem_append_left _ (q.mem_iff.mp hc))) (by rw [q.length_eq]; exact h0) (by rw [q.length_eq]; omega), q.length_eq⟩
end Gm

namespace Gm
open PySem L2

def spSigns : Sp := fun vs H Q _ => ∃ (p : Addr) (lo hi : Int), vs = [.ref p, .int lo, .int hi] ∧ BowlAt H p ∧ 2 ≤ lo ∧ lo ≤ hi ∧ hi ≤ 26 ∧
  ∀ H' s, Stir p H H' → Alph s → lo ≤ s.length → s.length ≤ hi → Q (.str s) H'
structure TxS (mg : Str → Option Value) : Prop where
  len : mg "len" = none
  range : mg "range" = none
  sorted : mg "sorted" = none
section
variable {P : Program} {w : World} {K : PySem.W.Frag} {mg : Str → Option Value} {base : Heap}
abbrev nS : List Str := ["_law_bowl_here", "_law_least", "_law_most", "_law_many", "_law_left", "_law_found", "_law_turn", "_law_at"]
theorem scSg : FnScope nS ["_law_bowl_here", "_law_least", "_law_most"] (defScope sSigns) := ⟨rfl, rfl, rfl, by decide +kernel, rfl, by decide +kernel, by decide +kernel⟩
theorem ok_signs {f fD : Addr} {fd fdD : FuncData} (F : Fun K "_law_signs" "_law_signs" sSigns f fd) (T : TxS mg) (GD : FnOk P w K mg base CX0 1 fD fdD ["_law_bowl_here", "_law_many"] spDip) (DD : Df K mg "_law_dip" fD fdD ["_law_bowl_here", "_law_many"]) :
    FnOk P w K mg base CX0 2 f fd ["_law_bowl_here", "_law_least", "_law_most"] spSigns := by
  refine F.ok scSg (fun vs H Q E h => ?_) (fun cdv A outer s H vs Q E hr h => ?_)
  · obtain ⟨p, lo, hi, rfl, _⟩ := h
    rfl
  · obtain ⟨p, lo, hi, rfl, hp, h2, hlh, h26, q⟩ := h
    have nd := scSg.nd
    refine ⟨_, pss_cons (ps_par3 (i := 3) (j := 4) (l := 5) (by rfl) nd rfl rfl rfl (by decide) (by decide) (by decide) rfl rfl rfl
        (pa_cons (pe_op op_add (pv 1) (pe_call GD hr (by rfl) DD.mg DD.kp DD.b .nil pass0 (pa_cons (pv 0) (pa_cons (pe_op op_add (pe_op op_sub (pv 2) (pv 1)) pe_int) pa_nil)))) (pa_cons pe_str (pa_cons (pe_lst pa_nil) pa_nil))) (by rfl))
      (pss_cons (ps_if (pt_cmpR op_gt (pe_call GD hr (by rfl) DD.mg DD.kp DD.b .nil pass0 (pa_cons (pv 0) (pa_cons pe_int pa_nil))) pe_int (nomark _))
        (pss_one (ps_ret (pe_slice sl_str (pv 4) po_none (po_some (pv 3))))) pss_nil)
      (pss_cons (ps_for PassesOwn.never rfl (pi_range1 (by rfl) T.range (pa_cons (pv 3) pa_nil)) (pg_name (i := 6) nd rfl (Or.inl rfl))
        (pss_cons (ps_set (i := 7) nd rfl (Or.inl rfl) (pe_call GD hr (by rfl) DD.mg DD.kp DD.b .nil pass0 (pa_cons (pv 0) (pa_cons (pe_callB call_len_str (by rfl) T.len PySem.boot_len (pa_cons (pv 4) pa_nil)) pa_nil))))
        (pss_cons (ps_expr (pe_bm PySem.F.plainAttrs_list PySem.F.slot_list_append PySem.F.type_list_append mt_append (pv 5) (pa_cons (pe_ix ix_str (pv 4) (pv 7) (fun _ _ => rfl)) pa_nil)))
        (pss_one (ps_set (i := 4) nd rfl (Or.inl rfl) (pe_op op_add_str (pe_slice sl_str (pv 4) po_none (po_some (pv 7))) (pe_slice sl_str (pv 4) (po_some (pe_op op_add (pv 7) pe_int)) po_none)))))))
      (pss_one (ps_ret (pe_join pe_str (pe_callB cr_sortedS (by rfl) T.sorted (by decide +kernel) (pa_cons (pv 5) pa_nil))))))), ?_⟩
    refine ⟨_, rfl, _, rfl, _, rfl, _, rfl, _, _, rfl, rfl, _, _, rfl, rfl, p, _, rfl, hp, by omega, by omega, fun H1 d R1 d0 d1 => ?_⟩
    refine ⟨_, _, rfl, rfl, Nat.zero_le _, fun l hl => ⟨_, _, _, rfl, ?_⟩⟩
    have hline : sizeLine = 16777216 := sizeLine_eq
    have npl : ∀ {H : Hp}, BowlAt H p → H l = none → l ≠ p := fun ⟨_, _, _, h⟩ h0 e => by rw [e, h] at h0; cases h0
    have nlp : l ≠ p := npl R1.2 hl
    have R2 : Stir p H (upd H1 l (.lst [])) := R1.same (same_upd hl)
    have hl0 : H l = none := by
      cases e : H l with
      | none => rfl
      | some o => exact absurd ((R1.1 l o nlp e).symm.trans hl) (by simp)
    obtain ⟨m, hm⟩ : ∃ m : Nat, lo + d = (m : Int) := ⟨(lo + d).toNat, by omega⟩
    refine ⟨_, rfl, p, _, rfl, R2.2, by decide, by decide, fun H3 e R3 e0 e1 => ⟨_, _, rfl, rfl, _, rfl, ite2 (fun h => ?_) (fun h => ?_)⟩⟩
    · refine ⟨_, rfl, _, rfl, _, rfl, lowTxt, rfl, by have : lowTxt.length = 26 := rfl; omega, ?_⟩
      have hz : lowTxt.length = 26 := rfl
      have ec : cutS lowTxt none (some (lo + d)) = tx (low.take m) := by
        rw [hm]
        exact cut_pre lowTxt m (by omega)
      show Q (.str (cutS lowTxt none (some (lo + d)))) H3
      rw [ec]
      have ln : (tx (low.take m)).length = m := by rw [tx_len, List.length_take, low_len]; omega
      exact q _ _ (R2.trans R3) (alph_take ⟨m, by omega⟩ (by show 2 ≤ m; omega)) (by rw [ln]; omega) (by rw [ln]; omega)
    · have hl3 : H3 l = some (.lst []) := R3.1 l _ nlp upd_same
      refine ⟨_, rfl, _, rfl, by omega, by omega, for_range (n := (lo + d).toNat) (fun i σ H' => ∃ (fs lf : List Nat) (v6 v7 : Option V), σ = [some (.ref p), some (.int lo), some (.int hi), some (.int (lo + d)), some (.str (tx lf)), some (.ref l), v6, v7] ∧ Stir p H H' ∧
        H' l = some (.lst (fs.map fun c => V.str (one c))) ∧ (fs ++ lf).Perm low ∧ fs.length = i) ⟨[], low, none, none, rfl, R2.trans R3, hl3, .refl _, rfl⟩ ?_ ?_⟩
      · rintro i σ H' hi' ⟨fs, lf, v6, v7, rfl, R, hF, hP, hi''⟩
        have hlen := hP.length_eq
        rw [List.length_append, low_len] at hlen
        have tl : (tx lf).length = lf.length := tx_len lf
        refine ⟨_, rfl, _, rfl, _, rfl, by omega, p, _, rfl, R.2, by omega, by omega, fun H4 a R4 a0 a1 => ?_⟩
        obtain ⟨j, rfl⟩ := Int.eq_ofNat_of_zero_le a0
        have hj : j < lf.length := by omega
        have hc : lf[j]? = some lf[j] := List.getElem?_eq_getElem hj
        have hF4 := R4.1 l _ nlp hF
        refine ⟨_, rfl, .inl ⟨rfl, _, SqL.of hF4⟩, _, rfl, _, rfl, tx lf, _, lf[j], rfl, rfl, by omega, atI_nat hc, l, _, _, rfl, rfl, hF4, by rw [List.length_map]; omega, ?_⟩
        refine ⟨_, rfl, _, rfl, _, rfl, tx lf, rfl, by omega, _, rfl, _, rfl, _, _, rfl, rfl, _, rfl, tx lf, rfl, by omega, _, _, rfl, rfl, ?_⟩
        have e1 : cutS (tx lf) none (some ((j : Nat) : Int)) = tx (lf.take j) := cut_pre _ _ (by omega)
        have e2 : cutS (tx lf) (some (((j : Nat) : Int) + 1)) none = tx (lf.drop (j + 1)) := cut_suf _ (j + 1) (by omega)
        have e3 : tx (lf.take j) ++ tx (lf.drop (j + 1)) = tx (lf.take j ++ lf.drop (j + 1)) := TL.ext_tl (TL.tl_append _ _)
        show (cutS (tx lf) none (some ((j : Nat) : Int))).length + (cutS (tx lf) (some (((j : Nat) : Int) + 1)) none).length ≤ sizeLine ∧ _
        rw [e1, e2]
        refine ⟨by rw [tx_len, tx_len, List.length_take, List.length_drop]; omega, fs ++ [lf[j]], lf.take j ++ lf.drop (j + 1), some (.int (0 + (i : Nat))), some (.int (j : Nat)), by rw [← e3]; rfl, ?_, ?_, drawn_perm hP hc, by rw [List.length_append, hi'']; rfl⟩
        · have S4 := R.trans R4
          refine ⟨fun b o n e => ?_, ?_⟩
          · rw [upd_ne (ne_of_none e hl0)]
            exact S4.1 b o n e
          · obtain ⟨x, y, z, h⟩ := S4.2
            exact ⟨x, y, z, by rw [upd_ne nlp.symm]; exact h⟩
        · rw [upd_same, List.map_append]
          rfl
      · rintro σ H' ⟨fs, lf, v6, v7, rfl, R, hF, hP, hi⟩
        refine ⟨⟨_, rfl⟩, _, rfl, l, fs.map one, rfl, SqL.of (by rw [List.map_map]; exact hF), ?_, fun ys p' hp' hs hn => ?_⟩
        · have hlen := hP.length_eq
          rw [List.length_append, low_len] at hlen
          rw [List.length_map]
          omega
        · obtain ⟨zs, rfl, hA, hz⟩ := drawn_alph hP (by omega) hp' hs
          have h26 := hA.2.1
          rw [tx_len] at h26
          refine ⟨_, p', zs.map one, rfl, rfl, .inl (SqL.of upd_same), ?_, ?_⟩
          · rw [sum_one, List.length_map]
            show zs.length + zs.length * 0 ≤ 16777216
            omega
          · show Q (.str (Txt.join (Str.ofString "") (zs.map one))) _
            rw [join_one]
            have ln : (tx zs).length = (lo + d).toNat := by rw [tx_len, hz, hi]
            exact q _ _ (R.same (same_upd hn)) hA (by rw [ln]; omega) (by rw [ln]; omega)
end
end Gm

namespace Gm
open PySem L2


def spOfT : Sp := fun vs H Q _ => ∃ (p : Addr) (l : List Nat), vs = [.ref p, .str (tx l)] ∧ BowlAt H p ∧ 0 < l.length ∧ l.length ≤ 1000 ∧ ∀ H' c, Stir p H H' → c ∈ l → Q (.str (one c)) H'
def spWord : Sp := fun vs H Q _ => ∃ (p : Addr) (l : List Nat) (n : Int), vs = [.ref p, .str (tx l), .int n] ∧ BowlAt H p ∧ 0 < l.length ∧ l.length ≤ 1000 ∧ 0 ≤ n ∧ n ≤ 6 ∧
  ∀ H' ws, Stir p H H' → ws.length = n.toNat → (∀ c ∈ ws, c ∈ l) → Q (.str (tx ws)) H'
section
variable {P : Program} {w : World} {K : PySem.W.Frag} {mg : Str → Option Value} {base : Heap}
theorem scOf : FnScope ["_law_bowl_here", "_law_things"] ["_law_bowl_here", "_law_things"] (defScope sOf) := ⟨rfl, rfl, rfl, by decide +kernel, rfl, by decide +kernel, by decide +kernel⟩
theorem ok_ofT {f fD : Addr} {fd fdD : FuncData} (F : Fun K "_law_of" "_law_of" sOf f fd) (T : TxS mg) (GD : FnOk P w K mg base CX0 1 fD fdD ["_law_bowl_here", "_law_many"] spDip) (DD : Df K mg "_law_dip" fD fdD ["_law_bowl_here", "_law_many"]) :
    FnOk P w K mg base CX0 2 f fd ["_law_bowl_here", "_law_things"] spOfT := by
  refine F.ok scOf (fun vs H Q E h => ?_) (fun cdv A outer s H vs Q E hr h => ?_)
  · obtain ⟨p, l, rfl, _⟩ := h
    rfl
  · obtain ⟨p, l, rfl, hp, l0, l1, q⟩ := h
    have hline : sizeLine = 16777216 := sizeLine_eq
    have tl : (tx l).length = l.length := tx_len l
    refine ⟨_, pss_one (ps_ret (pe_ix ix_str (pv 1) (pe_call GD hr (by rfl) DD.mg DD.kp DD.b .nil pass0 (pa_cons (pv 0) (pa_cons (pe_callB call_len_str (by rfl) T.len PySem.boot_len (pa_cons (pv 1) pa_nil)) pa_nil))) (fun _ _ => rfl))), ?_⟩
    refine ⟨_, rfl, _, rfl, _, rfl, _, rfl, by omega, p, _, rfl, hp, by omega, by omega, fun H1 d R d0 d1 => ?_⟩
    obtain ⟨j, rfl⟩ := Int.eq_ofNat_of_zero_le d0
    have hj : j < l.length := by omega
    exact ⟨tx l, _, l[j], rfl, rfl, by omega, atI_nat (List.getElem?_eq_getElem hj), q H1 _ R (List.getElem_mem hj)⟩
abbrev nW : List Str := ["_law_bowl_here", "_law_signs_here", "_law_size", "_law_some", "_law_k"]
theorem scWd : FnScope nW ["_law_bowl_here", "_law_signs_here", "_law_size"] (defScope sWord) := ⟨rfl, rfl, rfl, by decide +kernel, rfl, by decide +kernel, by decide +kernel⟩
theorem ok_word {f fD fO : Addr} {fd fdD fdO : FuncData} (F : Fun K "_law_word" "_law_word" sWord f fd) (T : TxS mg) (GD : FnOk P w K mg base CX0 1 fD fdD ["_law_bowl_here", "_law_many"] spDip) (DD : Df K mg "_law_dip" fD fdD ["_law_bowl_here", "_law_many"])
    (GO : FnOk P w K mg base CX0 2 fO fdO ["_law_bowl_here", "_law_things"] spOfT) (DO : Df K mg "_law_of" fO fdO ["_law_bowl_here", "_law_things"]) :
    FnOk P w K mg base CX0 3 f fd ["_law_bowl_here", "_law_signs_here", "_law_size"] spWord := by
  refine F.ok scWd (fun vs H Q E h => ?_) (fun cdv A outer s H vs Q E hr h => ?_)
  · obtain ⟨p, l, n, rfl, _⟩ := h
    rfl
  · obtain ⟨p, l, n, rfl, hp, l0, l1, n0, n6, q⟩ := h
    have nd := scWd.nd
    have hr1 : Room 1 _ := hr.mono (by decide)
    have hline : sizeLine = 16777216 := sizeLine_eq
    refine ⟨_, pss_cons (ps_set (i := 3) nd rfl (Or.inr rfl) (pv 1))
      (C8.pss_cut (ps_if (pt_cmpR op_eq (pe_call GD hr1 (by rfl) DD.mg DD.kp DD.b .nil pass0 (pa_cons (pv 0) (pa_cons pe_int pa_nil))) pe_int (nomark _))
        (pss_one (ps_set (i := 3) nd rfl (Or.inr rfl) (pe_op op_add_str (pe_call GO hr (by rfl) DO.mg DO.kp DO.b .nil pass0 (pa_cons (pv 0) (pa_cons (pv 1) pa_nil))) (pe_call GO hr (by rfl) DO.mg DO.kp DO.b .nil pass0 (pa_cons (pv 0) (pa_cons (pv 1) pa_nil)))))) pss_nil)
      (pss_one (ps_ret (pe_join pe_str (pe_lc (own := [("_law_k", 4)]) (g := gName 4) (by rfl) nd (pi_range1 (by rfl) T.range (pa_cons (pv 2) pa_nil)) (blkOk_by (own := [("_law_k", 4)]) (N := nW) (sc := defScope sWord) (by decide +kernel))
        (fun _ _ _ _ _ => pg_name (i := 4) nd rfl (Or.inl rfl)) (fun _ _ _ _ _ => pts_nil)
        (fun _ _ _ _ _ => pe_call GO hr (by rfl) DO.mg DO.kp DO.b .nil pass0 (pa_cons (pv 0) (pa_cons (pv 3) pa_nil)))))))), ?_⟩
    refine ⟨_, rfl, fun σ' H' => ∃ zs : List Nat, σ' = [some (.ref p), some (.str (tx l)), some (.int n), some (.str (tx zs)), none] ∧ Stir p H H' ∧ 0 < zs.length ∧ zs.length ≤ 1000 ∧ ∀ c ∈ zs, c ∈ l, ?_, ?_⟩
    · refine ⟨_, rfl, p, _, rfl, hp, by decide, by decide, fun H1 d R d0 d1 => ⟨rfl, _, rfl, ?_⟩⟩
      refine ite2 (fun h => ?_) (fun h => ?_)
      · refine ⟨_, rfl, _, rfl, p, l, rfl, R.2, l0, l1, fun H2 a R2 ha => ?_⟩
        refine ⟨_, rfl, _, rfl, p, l, rfl, R2.2, l0, l1, fun H3 b R3 hb => ?_⟩
        refine ⟨_, _, rfl, rfl, by show 1 + 1 ≤ sizeLine; omega, [a, b], ?_, (R.trans R2).trans R3, by show 0 < 2; omega, by show 2 ≤ 1000; omega, fun c hc => ?_⟩
        · have e : one a ++ one b = tx [a, b] := TL.ext_tl (TL.tl_append _ _)
          rw [← e]
          rfl
        · simp only [List.mem_cons, List.not_mem_nil, or_false] at hc
          rcases hc with rfl | rfl
          · exact ha
          · exact hb
      · exact ⟨l, rfl, R, l0, l1, fun c hc => hc⟩
    · rintro σ' H' ⟨zs, rfl, R, z0, z1, hz⟩
      refine ⟨⟨_, rfl⟩, _, rfl, n, rfl, by omega, by omega, fun D hD => ?_⟩
      refine lc_range (lo := 0) (n := n.toNat) (fun i H2 => ∃ ws : List Nat, Stir p H H2 ∧ (∀ b o, b ≠ p → b ≠ D → H' b = some o → H2 b = some o) ∧ H2 D = some (.lst (ws.map fun c => V.str (one c))) ∧ ws.length = i ∧ ∀ c ∈ ws, c ∈ l)
        ⟨[], R.same (same_upd hD), fun b o _ n2 e => by rw [upd_ne n2]; exact e, upd_same, rfl, fun c hc => by cases hc⟩ ?_ ?_
      · rintro i H2 hi ⟨ws, R2, k2, h2, hw, hl⟩
        have nDp : D ≠ p := by
          obtain ⟨x, y, z, e⟩ := R.2
          exact fun q => by rw [q, e] at hD; cases hD
        refine ⟨rfl, ⟨_, rfl, _, rfl, p, zs, rfl, R2.2, z0, z1, fun H3 c R3 hc => ⟨_, R3.1 D _ nDp h2, by rw [List.length_map]; omega, ws ++ [c], ?_, fun b o n1 n2 e => ?_, ?_, by rw [List.length_append, hw]; rfl, fun a ha => ?_⟩⟩⟩
        · refine ⟨fun b o n e => ?_, ?_⟩
          · rw [upd_ne]
            · exact R3.1 b o n (R2.1 b o n e)
            · intro q
              have := R.1 b o n e
              rw [q, hD] at this
              cases this
          · obtain ⟨x, y, z, e⟩ := R3.2
            exact ⟨x, y, z, by rw [upd_ne nDp.symm]; exact e⟩
        · rw [upd_ne n2]
          exact R3.1 b o n1 (k2 b o n1 n2 e)
        · rw [upd_same, List.map_append]
          rfl
        · rcases List.mem_append.mp ha with ha | ha
          · exact hl a ha
          · rw [List.mem_singleton.mp ha]
            exact hz c hc
      · rintro H2 ⟨ws, R2, k2, h2, hw, hl⟩
        refine ⟨_, D, ws.map one, rfl, rfl, .inl (SqL.of (by rw [List.map_map]; exact h2)), ?_, ?_⟩
        · rw [sum_one, List.length_map]
          show ws.length + ws.length * 0 ≤ 16777216
          omega
        · show Q (.str (Txt.join (Str.ofString "") (ws.map one))) H2
          rw [join_one]
          exact q H2 ws R2 hw hl
end
end Gm

/-! marks as lists of codes: the mirror of marks_of -/
namespace Gm
def un (g w : List Nat) : List Nat := ((g.zip w).filter fun p => !decide (p.1 = p.2)).map (·.2)
def go : List (Nat × Nat) → List Nat → List Nat
  | [], _ => []
  | (a, b) :: r, u => if a = b then 50 :: go r u else if a ∈ u then 49 :: go r (u.erase a) else 48 :: go r u
def mk (g w : List Nat) : List Nat := go (g.zip w) (un g w)
theorem drop_at {α : Type} {l : List α} {i : Nat} {x : α} (h : l[i]? = some x) : l.drop i = x :: l.drop (i + 1) := by
  have hi := (List.getElem?_eq_some_iff.mp h).1
  have e := (List.getElem?_eq_some_iff.mp h).2
  rw [← e, List.getElem_cons_drop]
theorem zip_at {g w : List Nat} {i c e : Nat} (h1 : g[i]? = some c) (h2 : w[i]? = some e) : (g.zip w)[i]? = some (c, e) := by
  rw [List.getElem?_zip_eq_some]
  exact ⟨h1, h2⟩
theorem take_map_filter {l : List (Nat × Nat)} {i : Nat} {x : Nat × Nat} (p : Nat × Nat → Bool) (f : Nat × Nat → Nat) (h : l[i]? = some x) :
    ((l.take (i + 1)).filter p).map f = ((l.take i).filter p).map f ++ (if p x = true then [f x] else []) := by
  have hi := (List.getElem?_eq_some_iff.mp h).1
  have e := (List.getElem?_eq_some_iff.mp h).2
  rw [List.take_succ_eq_append_getElem hi, e, List.filter_append, List.map_append]
  congr 1
  by_cases c : p x = true
  · rw [if_pos c]; simp [c]
  · rw [if_neg c]; simp [c]
theorem go_length : ∀ (l : List (Nat × Nat)) (u : List Nat), (go l u).length = l.length
  | [], _ => rfl
  | (a, b) :: r, u => by
    unfold go
    split
    · rw [List.length_cons, go_length r u, List.length_cons]
    · split <;> rw [List.length_cons, go_length r _, List.length_cons]
end Gm

namespace L2
open PySem PySem.Spec PyProof.Rows
/-- two texts, sign by sign, in new pairs -/
def Itzs (x y : Str) : It :=
  ⟨fun i _ => i < x.cps.size ∧ i < y.cps.size,
    fun i H v H' => ∃ (T : Addr) (c e : Nat), v = .ref T ∧ H T = none ∧ H' = upd H T (.tup [.str ⟨#[c]⟩, .str ⟨#[e]⟩]) ∧ x.cps[i]? = some c ∧ y.cps[i]? = some e,
    fun i _ => i = x.cps.size ∧ i = y.cps.size⟩
theorem zs_sep (n : Nat) : ZipSep2 (n + 4) (n + 2) (n + 3) n (n + 1) [n] [n + 1] := by
  constructor <;> first | (simp; done) | (refine PySem.W.neN ?_; omega) | (simp; omega)
theorem turn_zips {P : Program} {w : World} {K : PySem.W.Frag} {elts : List Expr} {kk : Nat} {tpos : Pos} {z TI TO i1 i2 : Addr} {x y : Str} {t1 t2 : Tok} (D : ZipSep2 z TI TO i1 i2 [i1] [i2]) :
    Turn P w K (.Tuple elts kk tpos) (Itzs x y) [z, TI, TO, i1, i2] z (fun i h => IsZip h z TI TO .none ∧ IsTupOf2 h TI (.ref i1) (.ref i2) ∧ (∃ a b, IsTupOf2 h TO a b) ∧ h.IsStrIter i1 (strIterType x) x t1 i ∧ h.IsStrIter i2 (strIterType y) y t2 i) where
  mem := by simp
  obj := fun i h st c hc => by
    obtain ⟨hz, hTI, ⟨a, b, hTO⟩, ⟨o1, e1, _, d1⟩, ⟨o2, e2, _, d2⟩⟩ := st
    have q : c = z ∨ c = TI ∨ c = TO ∨ c = i1 ∨ c = i2 := by simpa using hc
    rcases q with rfl | rfl | rfl | rfl | rfl
    · exact ⟨_, hz, fun v q => nomatch q⟩
    · exact ⟨_, hTI, fun v q => nomatch q⟩
    · exact ⟨_, hTO, fun v q => nomatch q⟩
    · exact ⟨o1, e1, fun v q => by rw [d1] at q; cases q⟩
    · exact ⟨o2, e2, fun v q => by rw [d2] at q; cases q⟩
  keep := fun i h h' st k => by
    obtain ⟨hz, hTI, ⟨a, b, hTO⟩, ⟨o1, e1, r1⟩, ⟨o2, e2, r2⟩⟩ := st
    exact ⟨k z (by simp) _ hz, k TI (by simp) _ hTI, ⟨a, b, k TO (by simp) _ hTO⟩, ⟨o1, k i1 (by simp) _ e1, r1⟩, ⟨o2, k i2 (by simp) _ e2, r2⟩⟩
  item := by
    intro X hP hw hK hc i pins s σ H E I hf st hg
    subst hP hw hK
    obtain ⟨hz, hTI, ⟨a0, b0, hTO⟩, h1, h2⟩ := st
    have lz : z < s.heap.objs.size := Heap.lt_size hz
    refine wpAny_pyNext_zipD2_item (St1 := fun i h => h.IsStrIter i1 (strIterType x) x t1 i) (St2 := fun i h => h.IsStrIter i2 (strIterType y) y t2 i) D (Draws.text (A := X.A.in1) (show X.A.in1.handled = none from I.ok.hd hc) i1 x t1) (Draws.text (A := X.A.in1) (show X.A.in1.handled = none from I.ok.hd hc) i2 y t2) hz hTI hTO h1 h2 hg.1 hg.2 fun u u2 h' tk p1 p2 z' TO' h1' h2' hT hsz hk => ?_
    obtain ⟨c, v1, hcx, rfl⟩ := p1
    obtain ⟨e, v2, hey, rfl⟩ := p2
    refine ⟨_, rfl, wpAny_letOwnedTupleGo_zip (s := { s with heap := h', toks := tk }) z' fun g z'' sb => ?_⟩
    have hT2 := (sb.2 _ (Nat.ne_of_gt lz)).trans hT
    have fresh : ObjOk X.prog X.w (upd H s.heap.objs.size (.tup [.str ⟨#[c]⟩, .str ⟨#[e]⟩])) g s.heap.objs.size (.tup [.str ⟨#[c]⟩, .str ⟨#[e]⟩]) :=
      ⟨by show 2 ≤ sizeLine; decide, _, .cons ⟨v1, rfl⟩ (.cons ⟨v2, rfl⟩ .nil), ⟨_, hT2, rfl, _, rfl⟩⟩
    have J : Inv X pins σ (upd H s.heap.objs.size (.tup [.str ⟨#[c]⟩, .str ⟨#[e]⟩])) { s with heap := g, toks := tk } := by
      refine I.turnedNew (ch := [z, TI, TO, i1, i2]) (fun b o hb q => ?_) hf (Nat.le_refl _) fresh
      have nb : b ≠ z ∧ b ≠ TI ∧ b ≠ TO ∧ b ≠ i1 ∧ b ≠ i2 := by simpa using hb
      exact (sb.2 b nb.1).trans (hk b o nb.1 nb.2.2.1 nb.2.2.2.1 nb.2.2.2.2 q)
    refine ⟨.ref s.heap.objs.size, _, J, rfl, ⟨_, c, e, rfl, I.hok.fresh (Nat.le_refl _), rfl, hcx, hey⟩, ⟨z'', ?_, ⟨_, _, (sb.2 _ D.TOz).trans TO'⟩, ?_, ?_⟩, fun b hb => ?_⟩
    · exact (sb.2 _ D.TIz).trans (hk _ _ D.TIz D.TITO D.TIi1 D.TIi2 hTI)
    · obtain ⟨o1, e1, r1⟩ := h1'
      exact ⟨o1, (sb.2 _ D.zi1.symm).trans e1, r1⟩
    · obtain ⟨o2, e2, r2⟩ := h2'
      exact ⟨o2, (sb.2 _ D.zi2.symm).trans e2, r2⟩
    · have hlt : b < s.heap.objs.size := by
        have q : b = z ∨ b = TI ∨ b = TO ∨ b = i1 ∨ b = i2 := by simpa using hb
        obtain ⟨o1, e1, _⟩ := h1
        obtain ⟨o2, e2, _⟩ := h2
        rcases q with rfl | rfl | rfl | rfl | rfl
        · exact lz
        · exact Heap.lt_size hTI
        · exact Heap.lt_size hTO
        · exact Heap.lt_size e1
        · exact Heap.lt_size e2
      rw [upd_ne (Nat.ne_of_lt hlt)]
      exact (hf b hb).1
  done := by
    intro X hP hw hK hc i pins s σ H E I hf st hg
    subst hP hw hK
    obtain ⟨hz, hTI, ⟨a0, b0, hTO⟩, h1, h2⟩ := st
    refine wpAny_pyNext_zipD2_end (St1 := fun i h => h.IsStrIter i1 (strIterType x) x t1 i) (St2 := fun i h => h.IsStrIter i2 (strIterType y) y t2 i) D (Draws.text (A := X.A.in1) (show X.A.in1.handled = none from I.ok.hd hc) i1 x t1) (Draws.text (A := X.A.in1) (show X.A.in1.handled = none from I.ok.hd hc) i2 y t2) hz hTI hTO h1 h2 (Nat.le_of_eq hg.1) (Nat.le_of_eq hg.2) (.inl hg.1) fun h' tk hk => ⟨rfl, I.turnedL (ch := [z, TI, TO, i1, i2]) (fun b o hb q => ?_) hf⟩
    have nb : b ≠ z ∧ b ≠ TI ∧ b ≠ TO ∧ b ≠ i1 ∧ b ≠ i2 := by simpa using hb
    exact hk b o nb.1 nb.2.2.1 nb.2.2.2.1 nb.2.2.2.2 q
  self := fun A i s Q E st h => wpAny_pyIter_zip st.1 h
def iZips (ta : TA) : TI := fun σ H R => ta σ H fun vs H1 => ∃ x y, vs = [.str x, .str y] ∧ x.cps.size = y.cps.size ∧ R (Itzs x y) H1
theorem pi_zips {X : Cx} {e e2 : Expr} {ta : TA} {p pos tpos : Pos} {elts : List Expr} {kk : Nat} (hg : Gl X "zip") (hm : X.mg "zip" = none) (ha : PA X [e, e2] ta)
    (hs : starEach [e, e2] X.env = (false, eval e X.env) :: starEach [e2] X.env := by rfl) (hpl : (backTo pos (starEach [e2] X.env)).any (·.1) = false := by rfl) :
    PI X (.Tuple elts kk tpos) (.Call (.Name "zip" p) [e, e2] [] pos) (iZips ta) := by
  refine ⟨fun pins s σ H R I h => ?_⟩
  refine Call_ (ld_blt I hg hm PyProof.Rows.boot_zip (PyProof.Rows.callWith_type1 (thn (ha.run pos pins s σ H _ I h) fun us s1 hh => ?_) hs hpl))
  obtain ⟨vs, H1, I1, r1, x, y, rfl, hxy, q⟩ := hh
  cases r1 with
  | cons r rr =>
    cases rr with
    | cons r' rr =>
      cases rr
      obtain ⟨t1, rfl⟩ := r
      obtain ⟨t2, rfl⟩ := r'
      refine zip_begins2 (begins_text x t1) (begins_text y t2) trivial trivial fun h' hz hTI hTO h1 h2 hsz hk => wpAny_pyIter_zip hz ?_
      have J : Inv X pins σ H1 { s1 with heap := h' } := I1.kept (t' := s1.toks) hk
      refine ⟨s1.heap.objs.size + 4, [s1.heap.objs.size + 4, s1.heap.objs.size + 2, s1.heap.objs.size + 3, s1.heap.objs.size, s1.heap.objs.size + 1], _, _, H1, rfl, J, turn_zips (t1 := t1) (t2 := t2) (zs_sep s1.heap.objs.size), ⟨hz, hTI, ⟨_, _, hTO⟩, ⟨_, h1, rfl, rfl⟩, ⟨_, h2, rfl, rfl⟩⟩, fun b hb => ?_, q⟩
      have hle : s1.heap.objs.size ≤ b := by
        have q : b = s1.heap.objs.size + 4 ∨ b = s1.heap.objs.size + 2 ∨ b = s1.heap.objs.size + 3 ∨ b = s1.heap.objs.size ∨ b = s1.heap.objs.size + 1 := by simpa using hb
        rcases q with rfl | rfl | rfl | rfl | rfl
        · exact Nat.le_add_right _ _
        · exact Nat.le_add_right _ _
        · exact Nat.le_add_right _ _
        · exact Nat.le_refl _
        · exact Nat.le_add_right _ _
      exact I1.fpOk hle (I1.hok.fresh hle)
theorem walk_zips {x y : Str} (hxy : x.cps.size = y.cps.size) : Walk (Itzs x y) x.cps.size (fun _ => True) (fun i H v H' => ∃ (T : Addr) (c e : Nat), v = .ref T ∧ H T = none ∧ H' = upd H T (.tup [.str ⟨#[c]⟩, .str ⟨#[e]⟩]) ∧ x.cps[i]? = some c ∧ y.cps[i]? = some e) :=
  ⟨fun i _ hi _ => ⟨hi, hxy ▸ hi⟩, fun _ _ => ⟨rfl, hxy⟩, fun _ _ _ _ _ _ y => y⟩
end L2

namespace L2
open PySem PySem.Spec PyProof.Rows
section
variable {X : Cx} {CX : CXT} {k : Nat} {f : Addr} {fd : FuncData} {ps ks : List Str} {sp : Sp} {E : XK} {x : Str} {p pos : Pos} {kws : List Keyword} {tk : TA} {g : List Value → List Value → List Value} {gV : List V → List V → List V}
/-- f(k = v, ..), keywords alone -/
theorem pe_callK0 (F : FnOk X.prog X.w X.K X.mg X.base CX k f fd ps sp) (hr : Room k X.A) (hg : Gl X x) (hm : X.mg x = some (.ref f)) (hk : PySem.W.keepIn X.K (.ref f) = true) (hb : KBinds X.K fd ps ks g gV) (hx : Passes CX X E) (hkw : PK X kws tk)
    (hall : (backToKw pos (keywordEach kws X.env)).all (·.1.isSome) = true := by rfl) (hks : (backToKw pos (keywordEach kws X.env)).filterMap (·.1) = ks := by rfl) (hdb : (x == ("__debug__" : Str)) = false := by decide)
    (hpl : ((backTo pos (starEach [] X.env)).any (·.1) || (backToKw pos (keywordEach kws X.env)).any (·.1.isNone)) = false := by rfl) : PE X (.Call (.Name x p) [] kws pos) (tCallK sp gV E tNil tk) := by
  refine ⟨fun pins s σ H Q I h => wpAny_Call_Name_kw (ld_glob I hg hm ?_ hdb)⟩
  refine PySem.W.callWith_KW0 (h₀ := X.base) I.ok.mod.kin hk hall (thn (hkw.run pos pins s σ H _ I h) fun ws s2 hh => ?_) hpl
  obtain ⟨zs, H2, I2, rz, q2⟩ := hh
  refine ⟨I2.kIn, ?_⟩
  rw [hks]
  exact run_fnk (us := []) (vs := []) F hr hb hx I2 .nil rz q2
end
/-- list.remove of a text that is there -/
def rRemS : V → List V → Hp → VK → Prop := fun x xs H Q => ∃ (l : Addr) (ss : List Str) (k : Str) (j : Nat), x = .ref l ∧ xs = [.str k] ∧ H l = some (.lst (ss.map V.str)) ∧ ss[j]? = some k ∧ (∀ m : Nat, m < j → ss[m]? ≠ some k) ∧ Q .non (upd H l (.lst ((ss.eraseIdx j).map V.str)))
def eqs (k : Str) (v : Value) : Bool := match v with
  | .str n _ => n.cps.toList == k.cps.toList
  | _ => false
theorem erase_mapS : ∀ (l : List Str) (j : Nat), (l.map V.str).eraseIdx j = (l.eraseIdx j).map V.str
  | [], j => by simp
  | a :: r, 0 => by simp
  | a :: r, j + 1 => by simp [erase_mapS r j]
theorem eqs_gives {k : Str} {t : Tok} : ∀ {us : List Value} {ss : List Str}, Vals (ss.map V.str) us → ∀ y ∈ us, MeetsSeq.EqGives y (.str k t) (eqs k y)
  | _, [], .nil => fun y hy => by cases hy
  | _, n :: ss, .cons ⟨t', e⟩ h => fun y hy => by
    rcases List.mem_cons.mp hy with q | q
    · rw [q, e]
      exact SeqRoads2.EqGives.str n k t' t
    · exact eqs_gives h y q
theorem mt_removeS {X : Cx} : MtM X "list.remove" rRemS := by
  intro pins s σ H x xs v us Q I rx rxs h
  obtain ⟨l, ss, k, j, rfl, rfl, hH, hj, hno, q⟩ := h
  cases rx
  obtain ⟨u, rfl, t, rfl⟩ := rxs.one
  obtain ⟨z, its, n, r, hl, e⟩ := I.lstM hH
  have len := r.length
  rw [List.length_map] at hl z len
  have hjn : j < ss.length := (List.getElem?_eq_some_iff.mp hj).1
  have item : ∀ m (hm : m < ss.length) (hm' : m < its.toArray.size), ∃ tm, its.toArray[m] = .str ss[m] tm := fun m hm hm' => by
    obtain ⟨u, hu, ru⟩ := r.get (i := m) (x := V.str ss[m]) (by rw [List.getElem?_map, List.getElem?_eq_getElem hm]; rfl)
    obtain ⟨tm, rfl⟩ := ru
    exact ⟨tm, by simpa using (List.getElem?_eq_some_iff.mp hu).2⟩
  have sz : its.toArray.size = its.length := by simp
  have hjl : j < its.toArray.size := by omega
  refine call_meets PySem.F.slot_list_remove ⟨_, e, rfl⟩ PySem.F.entry_list_remove (PySem.F.args_list_remove_2 _ _)
    (MeetsSeq.list_remove l its.toArray n (.str k t) (eqs k) (fun y hy => eqs_gives r y (by simpa using hy)) j hjl ?_ ?_ (by omega)) ⟨e, ?_⟩
  · obtain ⟨tj, e1⟩ := item j hjn hjl
    have e2 : ss[j] = k := (List.getElem?_eq_some_iff.mp hj).2
    rw [e1, e2]
    exact beq_self_eq_true _
  · intro m hm hmj
    have hmn : m < ss.length := by omega
    obtain ⟨tm, e1⟩ := item m hmn hm
    rw [e1]
    refine beq_eq_false_iff_ne.mpr fun e2 => hno m hmj ?_
    rw [List.getElem?_eq_getElem hmn]
    exact congrArg some (TL.ext_tl e2)
  · have rr := r.eraseIdx j
    rw [erase_mapS] at rr
    refine ⟨.non, _, I.lset (its' := its.eraseIdx j) (t' := s.toks) hH e ?_ rr ?_, rfl, q⟩
    · show its.toArray.eraseIdxIfInBounds j = (its.eraseIdx j).toArray
      rw [List.eraseIdxIfInBounds_toArray]
    · have := List.length_eraseIdx_le ss j
      rw [List.length_map]
      omega
end L2

namespace Gm
open PySem L2
def spMarksOf : Sp := fun vs H Q _ => ∃ (g w : List Nat), vs = [.str (tx g), .str (tx w)] ∧ g.length = w.length ∧ g.length ≤ 6 ∧ ∀ H', Same H H' → Q (.str (tx (mk g w))) H'
theorem tx_app (a b : List Nat) : tx a ++ tx b = tx (a ++ b) := TL.ext_tl (TL.tl_append _ _)
theorem tx_at {g : List Nat} {i c : Nat} (h : (tx g).cps[i]? = some c) : g[i]? = some c := by simpa using h
theorem tx_size (g : List Nat) : (tx g).cps.size = g.length := by simp
theorem in_ones (a : Nat) (u : List Nat) : inV (.str (one a)) (u.map fun c => V.str (one c)) = decide (a ∈ u) := by
  induction u with
  | nil => rfl
  | cons b u ih =>
    have e : eqV (.str (one b)) (.str (one a)) = decide (a = b) := by
      show (one b == one a) = _
      by_cases h : a = b
      · subst h; simp
      · rw [decide_eq_false h]
        refine beq_eq_false_iff_ne.mpr fun q => h ?_
        have := congrArg (fun s : Str => s.cps.toList) q
        simpa using this.symm
    show (eqV (.str (one b)) (.str (one a)) || inV (.str (one a)) (u.map fun c => V.str (one c))) = _
    rw [ih, e]
    by_cases h : a = b <;> simp [h]
theorem flat_ones (u : List Nat) : (u.map fun c => V.str (one c)).all flatV = true := by
  rw [List.all_map, List.all_eq_true]
  exact fun c _ => rfl
theorem ones_inj {a b : Nat} (h : one a = one b) : a = b := by
  have := congrArg (fun s : Str => s.cps.toList) h
  simpa using this
/-- the first place of a in u -/
theorem first_at {u : List Nat} {a : Nat} (h : a ∈ u) : ∃ j, u[j]? = some a ∧ (∀ m : Nat, m < j → u[m]? ≠ some a) ∧ u.eraseIdx j = u.erase a := by
  induction u with
  | nil => cases h
  | cons b u ih =>
    by_cases hb : b = a
    · subst hb
      exact ⟨0, rfl, fun m hm => by omega, by simp⟩
    · have h' : a ∈ u := by
        rcases List.mem_cons.mp h with q | q
        · exact absurd q.symm hb
        · exact q
      obtain ⟨j, h1, h2, h3⟩ := ih h'
      refine ⟨j + 1, by simpa using h1, fun m hm => ?_, ?_⟩
      · cases m with
        | zero => simpa using hb
        | succ m => simpa using h2 m (by omega)
      · rw [List.erase_cons_tail (by simpa using hb)]
        simp [h3]
end Gm

/-! enumerate of a tuple, of a text -/
namespace PySem
open Builtin
set_option maxHeartbeats 1000000 in
theorem enum1_new {v : Value} {o : Obj} {H : Heap → Prop} (B : Begins v o H) :
    Meets (Builtin.«enumerate.__new__» ⟨[.type "enumerate", v], []⟩) (fun _ R s => H s.heap ∧
      R (.ok (.ret (.ref (s.heap.push o).objs.size))) { s with heap := (s.heap.push o).push { cls := .type "enumerate", data := .fields #[.none, .bool false, .ref s.heap.objs.size, rawInt 0, .none, .none] } }) :=
  .of_wp fun prog w A R s h => by
    obtain ⟨hp, g, d, tk, os⟩ := s
    obtain ⟨h1, hR⟩ := h
    have isS := sub_enumerate
    have go : ∀ {A' : Around} {E : Value → Shared → Prop} {Q : Value → Shared → Prop}, Q (.ref hp.objs.size) ⟨hp.push o, g, d, tk, os⟩ → wpAny (model prog w) A' (pyIter v) Q E ⟨hp, g, d, tk, os⟩ := fun q => B.iter prog w _ _ ⟨hp, g, d, tk, os⟩ _ h1 q
    wp_walk using go
    refine wpAny_stack_any fun st => wpAny_pure ?_
    split
    · rename_i c _ _ _ _ _
      cases (c == Value.type "enumerate") <;> (wp_walk using go; exact ⟨_, rfl, hR⟩)
    · wp_walk using go; exact ⟨_, rfl, hR⟩
theorem enum1_begins {prog : Program} {w : World} {A : Around} {E : Value → Shared → Prop} {s : Shared} {v : Value} {o : Obj} {H : Heap → Prop} {Q : Value → Shared → Prop} (B : Begins v o H) (h1 : H s.heap)
    (h : ∀ h', IsEnum h' (s.heap.objs.size + 1) s.heap.objs.size 0 .none → h'.get? s.heap.objs.size = some o → (∀ b o, s.heap.get? b = some o → h'.get? b = some o) → Q (.ref (s.heap.objs.size + 1)) { s with heap := h' }) :
    wpAny (model prog w) A (call (.type "enumerate") [v]) Q E s := by
  refine callType_new F.called_enumerate (by decide) (F.typeCall_enumerate_1 _) (F.newCall_enumerate_1 _) (fun obj => F.args_object_init_2 obj _) F.entry_enumerate_new (enum1_new B) ⟨h1, ?_⟩
  have sz : (s.heap.push o).objs.size = s.heap.objs.size + 1 := Heap.size_push ..
  show _ ∧ _
  rw [sz]
  have e : IsEnum ((s.heap.push o).push { cls := .type "enumerate", data := .fields #[.none, .bool false, .ref s.heap.objs.size, rawInt 0, .none, .none] }) (s.heap.objs.size + 1) s.heap.objs.size 0 .none := by
    rw [← sz]
    exact Heap.get?_push_size _ rfl
  exact ⟨⟨_, e, rfl⟩, h _ e (Heap.get?_push_of_some _ (Heap.get?_push_size _ B.free)) fun b u x => Heap.get?_push_of_some _ (Heap.get?_push_of_some _ x)⟩
end PySem
namespace L2
open PySem PySem.Spec PyProof.Rows
/-- pairs of a number and what Y tells of it; G stands, n turns -/
def Iten (n : Nat) (G : Hp → Prop) (Y : Nat → V → Prop) : It :=
  ⟨fun i H => i < n ∧ G H, fun i H v H' => ∃ T x, v = .ref T ∧ H T = none ∧ H' = upd H T (.tup [.int (i : Nat), x]) ∧ Y i x, fun i H => i = n ∧ G H⟩
theorem turn_enumD {P : Program} {w : World} {K : PySem.W.Frag} {elts : List Expr} {kk : Nat} {tpos : Pos} {n : Nat} {G : Hp → Prop} {Y : Nat → V → Prop} {e it : Addr} (ne : e ≠ it) (S : Nat → Heap → Prop) (sat : ∀ i h, S i h → ∃ o, h.get? it = some o ∧ ∀ v, o.data ≠ .cell v)
    (sk : ∀ i h h', S i h → (∀ o, h.get? it = some o → h'.get? it = some o) → S i h')
    (draws : ∀ (X : Cx) (pins : List (Addr × Obj)) (σ : St) (H : Hp) (s : Shared), X.prog = P → X.w = w → X.K = K → X.A.handled = none → Inv X pins σ H s → G H →
      ∃ (fp : List Addr) (V : Nat → Value → Prop) (St : Nat → Heap → Prop), Draws X.prog X.w X.A.in1 it fp n V St ∧ e ∉ fp ∧ (∀ i, S i s.heap → St i s.heap) ∧ (∀ i h', St i h' → S i h') ∧ ∀ i u, V i u → ∃ x, RelV x u ∧ Y i x) :
    Turn P w K (.Tuple elts kk tpos) (Iten n G Y) [e, it] e (fun i h => (∃ old, IsEnum h e it ((i : Nat) : Int) old) ∧ S i h) where
  mem := by simp
  obj := fun i h st b hb => by
    obtain ⟨⟨old, he⟩, hs⟩ := st
    have q : b = e ∨ b = it := by simpa using hb
    rcases q with rfl | rfl
    · exact ⟨_, he, fun v q => nomatch q⟩
    · exact sat i h hs
  keep := fun i h h' st k => by
    obtain ⟨⟨old, he⟩, hs⟩ := st
    exact ⟨⟨old, k e (by simp) _ he⟩, sk i h h' hs fun o q => k it (by simp) o q⟩
  item := by
    intro X hP hw hK hc i pins s σ H E I hf st hg
    obtain ⟨⟨old, he⟩, hs⟩ := st
    obtain ⟨hi, gg⟩ := hg
    obtain ⟨fp, Vp, St, D, nf, to, back, rel⟩ := draws X pins σ H s hP hw hK (I.ok.hd hc) I gg
    subst hP hw hK
    have hel : e < s.heap.objs.size := Heap.lt_size he
    have hil : it < s.heap.objs.size := let ⟨_, q, _⟩ := sat i _ hs; Heap.lt_size q
    refine wpAny_pyNext_enum_itemD D he (to i hs) hi ne nf fun u h' tk pu ho hs' hT hsz hk => ?_
    obtain ⟨x, rx, yx⟩ := rel i u pu
    refine ⟨_, rfl, wpAny_letOwnedTupleGo_enum (s := { s with heap := h', toks := tk + 1 }) ho fun g he' sb => ?_⟩
    have hT2 := (sb.2 _ (Nat.ne_of_gt hel)).trans hT
    have fresh : ObjOk X.prog X.w (upd H s.heap.objs.size (.tup [.int (i : Nat), x])) g s.heap.objs.size (.tup [.int (i : Nat), x]) :=
      ⟨by show 2 ≤ sizeLine; decide, _, .cons ⟨tk, rfl⟩ (.cons rx .nil), ⟨_, hT2, rfl, _, rfl⟩⟩
    have J : Inv X pins σ (upd H s.heap.objs.size (.tup [.int (i : Nat), x])) { s with heap := g, toks := tk + 1 } := by
      refine I.turnedNew (ch := [e, it]) (fun b o hb q => ?_) hf (Nat.le_refl _) fresh
      have nb : b ≠ e ∧ b ≠ it := by simpa using hb
      exact (sb.2 b nb.1).trans (hk b o nb.1 nb.2 q)
    refine ⟨.ref s.heap.objs.size, _, J, rfl, ⟨_, x, rfl, I.hok.fresh (Nat.le_refl _), rfl, yx⟩, ⟨⟨u, ?_⟩, sk _ _ _ (back _ _ hs') fun o q => (sb.2 it ne.symm).trans q⟩, fun b hb => ?_⟩
    · have c : ((i + 1 : Nat) : Int) = (i : Int) + 1 := by omega
      rw [c]
      exact he'
    · have q : b = e ∨ b = it := by simpa using hb
      have hlt : b < s.heap.objs.size := by
        rcases q with rfl | rfl
        · exact hel
        · exact hil
      rw [upd_ne (Nat.ne_of_lt hlt)]
      exact (hf b hb).1
  done := by
    intro X hP hw hK hc i pins s σ H E I hf st hg
    obtain ⟨⟨old, he⟩, hs⟩ := st
    obtain ⟨rfl, gg⟩ := hg
    obtain ⟨fp, Vp, St, D, nf, to, back, rel⟩ := draws X pins σ H s hP hw hK (I.ok.hd hc) I gg
    subst hP hw hK
    obtain ⟨f0, f1, f2, f3, f4, f5⟩ := hf it (by simp)
    exact wpAny_pyNext_enum_endD D he (to _ hs) fun h' eb => ⟨rfl, I.turned (t' := s.toks) (fun b o hb q => eb b o hb q) f0 f1 f3 f4 f5⟩
  self := fun A i s Q E st h => let ⟨⟨_, he⟩, _⟩ := st; wpAny_pyIter_enum he h
/-- enumerate(t), t a tuple -/
def iEnumT (K : PySem.W.Frag) (ta : TA) : TI := fun σ H R => ta σ H fun vs H1 => ∃ a xs, vs = [.ref a] ∧ SqT K H1 a xs ∧ R (Iten xs.length (fun H => SqT K H a xs) fun i x => xs[i]? = some x) H1
/-- enumerate(z), z a text -/
def iEnumS (ta : TA) : TI := fun σ H R => ta σ H fun vs H1 => ∃ z : Str, vs = [.str z] ∧ R (Iten z.cps.size (fun _ => True) fun i x => ∃ c, z.cps[i]? = some c ∧ x = .str ⟨#[c]⟩) H1
section
variable {X : Cx} {e : Expr} {ta : TA} {p pos tpos : Pos} {elts : List Expr} {kk : Nat}
theorem pi_enumT (hg : Gl X "enumerate") (hm : X.mg "enumerate" = none) (ha : PA X [e] ta) (hs : starEach [e] X.env = [(false, eval e X.env)] := by rfl) : PI X (.Tuple elts kk tpos) (.Call (.Name "enumerate" p) [e] [] pos) (iEnumT X.K ta) := by
  refine ⟨fun pins s σ H R I h => ?_⟩
  refine Call_ (ld_blt I hg hm boot_enumerate (PyProof.Rows.callWith_type1 (thn (ha.run pos pins s σ H _ I h) fun us s1 hh => ?_) hs rfl))
  obtain ⟨vs, H1, I1, r1, a, xs, rfl, hq, q⟩ := hh
  cases r1 with
  | cons r rr =>
    cases rr
    cases r
    obtain ⟨its, rv, pt, _⟩ := I1.tuple hq
    refine enum1_begins (begins_tuple a its.toArray) pt fun h' he hit hk => wpAny_pyIter_enum he ?_
    have J : Inv X pins σ H1 { s1 with heap := h' } := I1.kept (t' := s1.toks) hk
    have la : a < s1.heap.objs.size := let ⟨o, ho, _⟩ := pt; Heap.lt_size ho
    have na : s1.heap.objs.size + 1 ≠ a := Nat.ne_of_gt (Nat.lt_succ_of_lt la)
    have ni : a ≠ s1.heap.objs.size := Nat.ne_of_lt la
    have lx : xs.length = its.toArray.size := by rw [rv.length]; simp
    refine ⟨s1.heap.objs.size + 1, [s1.heap.objs.size + 1, s1.heap.objs.size], _, _, H1, rfl, J, turn_enumD (Nat.succ_ne_self _) (fun i h => h.IsTupleIter s1.heap.objs.size a i) (fun i h ⟨o, ho, _, hd⟩ => ⟨o, ho, fun v z => by rw [hd] at z; cases z⟩) (fun i h h' st k => st.at k) ?_, ⟨⟨.none, he⟩, ⟨_, hit, rfl, rfl⟩⟩, fun b hb => ?_, q⟩
    · intro X' pins' σ' H' s' hP hw hK hh I' g
      rw [← hK] at g
      obtain ⟨its', rv', pt', _⟩ := I'.tuple g
      have D := Draws.tuple (prog := X'.prog) (w := X'.w) (A := X'.A.in1) (show X'.A.in1.handled = none from hh) s1.heap.objs.size a ni its'.toArray
      have e' : its'.toArray.size = xs.length := by rw [rv'.length]; simp
      refine ⟨[s1.heap.objs.size, a], _, _, e' ▸ D, by simp [na], fun i st => ⟨st, pt'⟩, fun i h' st => st.1, fun i u hu => ?_⟩
      have hu' : its'[i]? = some u := by simpa using hu
      have hi : i < xs.length := by
        rw [rv'.length]
        exact (List.getElem?_eq_some_iff.mp hu').1
      obtain ⟨u2, h2, r2⟩ := rv'.get (List.getElem?_eq_getElem hi)
      rw [hu'] at h2
      cases h2
      exact ⟨_, r2, List.getElem?_eq_getElem hi⟩
    · have e' : b = s1.heap.objs.size + 1 ∨ b = s1.heap.objs.size := by simpa using hb
      have hle : s1.heap.objs.size ≤ b := e'.elim (fun z => z ▸ Nat.le_succ _) fun z => z ▸ Nat.le_refl _
      exact I1.fpOk hle (I1.hok.fresh hle)
theorem pi_enumS (hg : Gl X "enumerate") (hm : X.mg "enumerate" = none) (ha : PA X [e] ta) (hs : starEach [e] X.env = [(false, eval e X.env)] := by rfl) : PI X (.Tuple elts kk tpos) (.Call (.Name "enumerate" p) [e] [] pos) (iEnumS ta) := by
  refine ⟨fun pins s σ H R I h => ?_⟩
  refine Call_ (ld_blt I hg hm boot_enumerate (PyProof.Rows.callWith_type1 (thn (ha.run pos pins s σ H _ I h) fun us s1 hh => ?_) hs rfl))
  obtain ⟨vs, H1, I1, r1, z, rfl, q⟩ := hh
  cases r1 with
  | cons r rr =>
    cases rr
    obtain ⟨t, rfl⟩ := r
    refine enum1_begins (begins_text z t) trivial fun h' he hit hk => wpAny_pyIter_enum he ?_
    have J : Inv X pins σ H1 { s1 with heap := h' } := I1.kept (t' := s1.toks) hk
    refine ⟨s1.heap.objs.size + 1, [s1.heap.objs.size + 1, s1.heap.objs.size], _, _, H1, rfl, J, turn_enumD (Nat.succ_ne_self _) (fun i h => h.IsStrIter s1.heap.objs.size (strIterType z) z t i) (fun i h ⟨o, ho, _, hd⟩ => ⟨o, ho, fun v z => by rw [hd] at z; cases z⟩) (fun i h h' ⟨o, ho, st⟩ k => ⟨o, k o ho, st⟩) ?_, ⟨⟨.none, he⟩, ⟨_, hit, rfl, rfl⟩⟩, fun b hb => ?_, q⟩
    · intro X' pins' σ' H' s' hP hw hK hh I' g
      refine ⟨[s1.heap.objs.size], _, _, Draws.text (show X'.A.in1.handled = none from hh) s1.heap.objs.size z t, by simp, fun i st => st, fun i h' st => st, fun i u hu => ?_⟩
      obtain ⟨c, k, hc, rfl⟩ := hu
      exact ⟨.str ⟨#[c]⟩, ⟨k, rfl⟩, c, hc, rfl⟩
    · have e' : b = s1.heap.objs.size + 1 ∨ b = s1.heap.objs.size := by simpa using hb
      have hle : s1.heap.objs.size ≤ b := e'.elim (fun z => z ▸ Nat.le_succ _) fun z => z ▸ Nat.le_refl _
      exact I1.fpOk hle (I1.hok.fresh hle)
theorem walk_iten {n : Nat} {G : Hp → Prop} {Y : Nat → V → Prop} : Walk (Iten n G Y) n G (fun i H v H' => ∃ T x, v = .ref T ∧ H T = none ∧ H' = upd H T (.tup [.int (i : Nat), x]) ∧ Y i x) :=
  ⟨fun i _ hi g => ⟨hi, g⟩, fun _ g => ⟨rfl, g⟩, fun _ _ _ _ _ _ y => y⟩
end
end L2

/-! o.m(k = v, ..); C(e, .., *y) -/
namespace L2
open PySem PySem.Spec PyProof.Rows
section
variable {X : Cx} {CX : CXT} {k : Nat} {f C : Addr} {fd : FuncData} {ps ks : List Str} {sp : Sp} {E : XK} {x m : Str} {o e : Expr} {es : List Expr} {kws : List Keyword} {ta : TE} {t tk : TA} {p pos apos : Pos} {g : List Value → List Value → List Value} {gV : List V → List V → List V}
def tMethK (C : Addr) (m : Str) (n : Nat) (sp : Sp) (gV : List V → List V → List V) (E : XK) (ta : TE) (tk : TA) : TE := fun σ H Q => ta σ H fun x H1 => ∃ a dx fs, x = .ref a ∧ H1 a = some (.ins C dx fs) ∧ fs.lookup m = none ∧
  tk σ H1 fun zs H2 => zs.length = n ∧ sp (gV [x] zs) H2 Q E
/-- o.m(k = v, ..), keywords alone -/
theorem pe_methK0 {pl : Sem Bool} (he : PE X o ta) (c : Cls X.K C) (hm : Meth X.K C m f) (F : FnOk X.prog X.w X.K X.mg X.base CX k f fd ps sp) (hr : Room k X.A) (hb : KBn X.K fd ps 1 ks g gV) (hx : Passes CX X E) (hkw : PK X kws tk)
    (hall : (backToKw pos (keywordEach kws X.env)).all (·.1.isSome) = true := by rfl) (hks : (backToKw pos (keywordEach kws X.env)).filterMap (·.1) = ks := by rfl)
    (hpl : ((backTo pos (starEach [] X.env)).any (·.1) || (backToKw pos (keywordEach kws X.env)).any (·.1.isNone)) = false := by rfl)
    (ht : eval (.Call (.Attribute o m apos) [] kws pos) X.env = (do
      let ov ← eval o X.env
      standAt apos.atName
      let (f, first) ← holding [ov] (getMethod ov m pl)
      callWith pos f first (backTo pos (starEach [] X.env)) (backToKw pos (keywordEach kws X.env))) := by rfl) :
    PE X (.Call (.Attribute o m apos) [] kws pos) (tMethK C m ks.length sp gV E ta tk) := by
  constructor
  intro pins s σ H Q I h
  refine PySem.W.methodCall_KW (pl := pl) (thn (he.run pins s σ H _ I h) fun u s1 hh => ?_) ht
  obtain ⟨y, H1, I1, ry, a, dx, fs, rfl, ea, l, q⟩ := hh
  obtain rfl : u = Value.ref a := ry
  refine getmeth_ok I1 ea c hm l ?_
  refine PySem.W.callWith_KW0 (first := [.ref a]) (h₀ := X.base) I.ok.mod.kin hm.kp hall (thn (hkw.run pos pins s1 σ H1 _ I1 q) fun ws s2 h2 => ?_) hpl
  obtain ⟨zs, H2, I2, rz, lz, q2⟩ := h2
  refine ⟨I2.kIn, ?_⟩
  rw [hks]
  exact run_fnN (us := [.ref a]) (vs := [.ref a]) F hr hb hx I2 (.cons rfl .nil) rz rfl lz q2
/-- C(e, .., *y, ..) -/
theorem pe_makeS2 (M : Mk X.K C f) (F : FnR X.prog X.w X.K X.mg X.base CX k f sp) (hr : Room (k + 1) X.A) (hg : Gl X x) (hm : X.mg x = some (.ref C)) (hx : Passes CX X E) (ha : PA X (e :: es) t) (hdb : (x == ("__debug__" : Str)) = false := by decide)
    (he : starEach (e :: es) X.env = (false, eval e X.env) :: starEach es X.env := by rfl) (hst : (backTo pos (starEach es X.env)).any (·.1) = true := by rfl) : PE X (.Call (.Name x p) (e :: es) [] pos) (StX.tMakeR C sp E t) := by
  constructor
  intro pins s σ H Q I h
  refine wpAny_Call_Name_kw (ld_glob I hg hm ?_ hdb)
  refine PySem.W.callWith_S2 (h₀ := X.base) I.ok.mod.kin M.kp (thn (ha.run pos pins s σ H _ I h) fun us s1 hh => ?_) he hst
  obtain ⟨vs, H1, I1, r, q⟩ := hh
  exact ⟨I1.kIn, StX.run_makeR M F hr hx I1 r q⟩
end
end L2

namespace Gm
open PySem L2


abbrev sChkW : Stmt := top 15

def spOver (K : PySem.W.Frag) : Sp := fun vs H Q _ => ∃ (v : V) (ch : List Nat) (n : Int), vs = [v, .str (tx ch), .int n] ∧
  ((∃ s : List Nat, v = .str (tx s) ∧ s.length ≤ 1000 ∧ ∀ H', Same H H' → Q (.bl (decide ((s.length : Int) = n ∧ ∀ c ∈ s, c ∈ ch))) H') ∨ (∃ t, TyX K H v t ∧ PySem.W.kitOne K t (.type "str") = some false ∧ Q (.bl false) H))
/-- words of the board of l and n -/
def Wd (l : List Nat) (n : Int) (s : List Nat) : Prop := (s.length : Int) = n ∧ ∀ c ∈ s, c ∈ l
def Bd (C : Addr) (H : Hp) (p : Addr) (l : List Nat) (n : Int) : Prop := BoardAt C H p (tx l) n ∧ l.length ≤ 26 ∧ 1 ≤ n ∧ n ≤ 6
theorem Bd.same {C p : Addr} {H H' : Hp} {l : List Nat} {n : Int} (h : Bd C H p l n) (e : Same H H') : Bd C H' p l n := ⟨let ⟨dx, h⟩ := h.1; ⟨dx, e _ _ h⟩, h.2⟩
def spChkW (C : Addr) : Sp := fun vs H Q _ => ∃ (p : Addr) (l s : List Nat) (n : Int), vs = [.ref p, .str (tx s)] ∧ Bd C H p l n ∧ Wd l n s ∧ ∀ H', Same H H' → Q .non H'
def spChkM (C : Addr) : Sp := fun vs H Q _ => ∃ (p : Addr) (l s : List Nat) (n : Int), vs = [.ref p, .str (tx s)] ∧ Bd C H p l n ∧ Wd [48, 49, 50] n s ∧ ∀ H', Same H H' → Q .non H'
def spChkB (C : Addr) : Sp := fun vs H Q _ => ∃ (p : Addr) (l : List Nat) (n : Int), vs = [.ref p] ∧ Bd C H p l n ∧ Q .non H
instance {l : List Nat} {n : Int} {s : List Nat} : Decidable (Wd l n s) := by unfold Wd; infer_instance
/-- is_word, are_marks: ch = none: the board's letters -/
def spIsW (K : PySem.W.Frag) (C : Addr) (ch : Option (List Nat)) : Sp := fun vs H Q _ => ∃ (p : Addr) (l : List Nat) (n : Int) (v : V), vs = [.ref p, v] ∧ Bd C H p l n ∧
  ((∃ s : List Nat, v = .str (tx s) ∧ s.length ≤ 1000 ∧ ∀ H', Same H H' → Q (.bl (decide (Wd (ch.getD l) n s))) H') ∨ (∃ t, TyX K H v t ∧ PySem.W.kitOne K t (.type "str") = some false ∧ Q (.bl false) H))
/-- a row stands at a -/
theorem in_tx {c : Nat} {l : List Nat} : decide (c ∈ (tx l).cps.toList) = decide (c ∈ l) := by simp
section
variable {P : Program} {w : World} {K : PySem.W.Frag} {mg : Str → Option Value} {base : Heap}
abbrev nO : List Str := ["value", "characters", "length", "character"]
theorem scOv : FnScope nO ["value", "characters", "length"] (defScope sOver) := ⟨rfl, rfl, rfl, by decide +kernel, rfl, by decide +kernel, by decide +kernel⟩
theorem ok_over {f : Addr} {fd : FuncData} (F : Fun K "is_text_over" "is_text_over" sOver f fd) (T : TxW mg) (mall : mg "all" = none) : FnOk P w K mg base CX0 1 f fd ["value", "characters", "length"] (spOver K) := by
  refine F.ok scOv (fun vs H Q E h => ?_) (fun cdv A outer s H vs Q E hr h => ?_)
  · obtain ⟨v, ch, n, rfl, _⟩ := h
    rfl
  · obtain ⟨v, ch, n, rfl, h⟩ := h
    have nd := scOv.nd
    have hline : sizeLine = 16777216 := sizeLine_eq
    refine ⟨_, pss_cons (ps_if (PW.pt (pw_or (pt_not (pt_val (pe_callB call_isi (by rfl) T.isi (by decide +kernel) (pa_cons (pv 0) (pa_cons (pe_bltn (v := .ty "str") (by rfl) T.str (by decide +kernel) rfl) pa_nil)))))
        (pw_or1 (pt_cmpR op_ne (pe_callB call_len_str (by rfl) T.len PySem.boot_len (pa_cons (pv 0) pa_nil)) (pv 2) (nomark _)))))
        (pss_one (ps_ret pe_bl)) pss_nil)
      (pss_one (ps_ret (pe_callB (cr_all rfl) (by rfl) mall (by decide +kernel) (pa_cons
        (pe_lc (own := [("character", 3)]) (g := gName 3) (by rfl) nd (pi_str (pv 0)) (blkOk_by (own := [("character", 3)]) (N := nO) (sc := defScope sOver) (by decide +kernel))
          (fun _ _ _ _ _ => pg_name (i := 3) nd rfl (Or.inl rfl)) (fun _ _ _ _ _ => pts_nil) (fun _ _ _ _ _ => pe_cmpR op_in_sign (pv 3) (pv 1) rfl)) pa_nil)))), ?_⟩
    rcases h with ⟨z, rfl, hz, q⟩ | ⟨t, ty, no, q⟩
    · have zl : (tx z).length = z.length := tx_len z
      refine ⟨_, rfl, _, _, _, _, _, rfl, .ty "str", .base (.str _), kit_ty (r := true) (by decide +kernel), _, rfl, iteF ?_⟩
      refine ⟨_, rfl, _, rfl, by omega, _, rfl, rfl, _, rfl, ?_⟩
      have ei : decide (V.int ((tx z).length : Nat) = V.int n) = decide ((z.length : Int) = n) := decide_eq_decide.mpr ⟨fun e => by rw [← zl]; exact V.int.inj e, fun e => by rw [zl, e]⟩
      rw [ei]
      refine ite2 (fun h => ?_) (fun h => ?_)
      · have e : decide ((z.length : Int) = n ∧ ∀ c ∈ z, c ∈ ch) = false := decide_eq_false fun a => by rw [decide_eq_true a.1] at h; cases h
        rw [e] at q
        exact q _ (Same.refl H)
      · have hn : (z.length : Int) = n := by
          refine Decidable.byContradiction fun c => h ?_
          rw [decide_eq_false c]
          rfl
        refine ⟨_, rfl, tx z, rfl, fun D hD => ?_⟩
        refine lc_it (walk_str (z := tx z)) (fun i H' => Same H H' ∧ H' D = some (.lst (((z.take i).map fun c => decide (c ∈ ch)).map V.bl))) ⟨same_upd hD, upd_same⟩ (fun _ _ _ _ => trivial) ?_ ?_
        · rintro i x H1 H2 hi ⟨sm, hDi⟩ ⟨rfl, c, hc, rfl⟩
          have hc' := tx_at hc
          have hi' : i < z.length := (List.getElem?_eq_some_iff.mp hc').1
          refine ⟨rfl, ⟨_, rfl, _, rfl, c, tx ch, rfl, rfl, _, hDi, ?_, fun b o q => ?_, ?_⟩⟩
          · rw [List.length_map, List.length_map, List.length_take]
            omega
          · rw [upd_ne (ne_of_none q hD)]
            exact sm b o q
          · have e2 : z.take (i + 1) = z.take i ++ [c] := by rw [List.take_succ_eq_append_getElem hi', (List.getElem?_eq_some_iff.mp hc').2]
            rw [upd_same, e2, List.map_append, List.map_append, in_tx]
            rfl
        · rintro H1 ⟨sm, hD1⟩
          refine ⟨D, _, rfl, SqL.of hD1, ?_⟩
          have e : decide ((z.length : Int) = n ∧ ∀ c ∈ z, c ∈ ch) = ((z.take (tx z).cps.size).map fun c => decide (c ∈ ch)).all id := by
            rw [tx_size, List.take_length, List.all_map]
            have : (List.all z (id ∘ fun c => decide (c ∈ ch))) = decide (∀ c ∈ z, c ∈ ch) := by
              rw [Bool.eq_iff_iff, List.all_eq_true, decide_eq_true_iff]
              exact ⟨fun h c hc => of_decide_eq_true (h c hc), fun h c hc => decide_eq_true (h c hc)⟩
            rw [this]
            exact decide_eq_decide.mpr ⟨fun a => a.2, fun a => ⟨hn, a⟩⟩
          rw [e] at q
          exact q _ sm
    · exact ⟨_, rfl, _, _, _, _, _, rfl, .ty "str", ty, no, _, rfl, iteT q⟩
theorem scIW : FnScope ["board", "value"] ["board", "value"] (defScope sIsW) := ⟨rfl, rfl, rfl, by decide +kernel, rfl, by decide +kernel, by decide +kernel⟩
theorem ok_isW {f C fO : Addr} {fd fdO : FuncData} (F : Fun K "is_word" "is_word" sIsW f fd) (TC : TxC K mg C) (GO : FnOk P w K mg base CX0 1 fO fdO ["value", "characters", "length"] (spOver K)) (DO : Df K mg "is_text_over" fO fdO ["value", "characters", "length"]) :
    FnOk P w K mg base CX0 2 f fd ["board", "value"] (spIsW K C none) := by
  refine F.ok scIW (fun vs H Q E h => ?_) (fun cdv A outer s H vs Q E hr h => ?_)
  · obtain ⟨p, l, n, v, rfl, _⟩ := h
    rfl
  · obtain ⟨p, l, n, v, rfl, ⟨⟨dx, hp⟩, l26, n1, n6⟩, h⟩ := h
    refine ⟨_, pss_one (ps_ret (pe_call GO hr (by rfl) DO.mg DO.kp DO.b .nil pass0 (pa_cons (pv 1) (pa_cons (pe_fld (pv 0) rfl) (pa_cons (pe_fld (pv 0) rfl) pa_nil))))), ?_⟩
    refine ⟨_, rfl, _, rfl, p, C, dx, _, _, rfl, hp, TC.cl, TC.nL, bf_letters _ _, _, rfl, p, C, dx, _, _, rfl, hp, TC.cl, TC.nN, bf_length _ _, _, _, _, rfl, ?_⟩
    exact h
theorem scCW : FnScope ["board", "word"] ["board", "word"] (defScope sChkW) := ⟨rfl, rfl, rfl, by decide +kernel, rfl, by decide +kernel, by decide +kernel⟩
theorem ok_chkW {f C fO : Addr} {fd fdO : FuncData} (F : Fun K "check_word" "check_word" sChkW f fd) (GO : FnOk P w K mg base CX0 2 fO fdO ["board", "value"] (spIsW K C none)) (DO : Df K mg "is_word" fO fdO ["board", "value"]) :
    FnOk P w K mg base CX0 3 f fd ["board", "word"] (spChkW C) := by
  refine F.ok scCW (fun vs H Q E h => ?_) (fun cdv A outer s H vs Q E hr h => ?_)
  · obtain ⟨p, l, s, n, rfl, _⟩ := h
    rfl
  · obtain ⟨p, l, z, n, rfl, hb, hw, q⟩ := h
    have n6 := hb.2.2.2
    refine ⟨_, pss_one (ps_if (pt_not (pt_val (pe_call GO hr (by rfl) DO.mg DO.kp DO.b .nil pass0 (pa_cons (pv 0) (pa_cons (pv 1) pa_nil))))) (pss_one ps_never) pss_nil), ?_⟩
    refine ⟨_, rfl, _, rfl, p, l, n, _, rfl, hb, .inl ⟨z, rfl, by have := hw.1; omega, fun H1 s1 => ⟨_, rfl, ?_⟩⟩⟩
    rw [decide_eq_true (show Wd ((none : Option (List Nat)).getD l) n z from hw)]
    exact iteF (q H1 s1)
theorem scCB : FnScope ["board"] ["board"] (defScope sChkB) := ⟨rfl, rfl, rfl, by decide +kernel, rfl, by decide +kernel, by decide +kernel⟩
theorem ok_chkB {f C : Addr} {fd : FuncData} (F : Fun K "check_board" "check_board" sChkB f fd) (T : TxW mg) (TC : TxC K mg C) : FnOk P w K mg base CX0 1 f fd ["board"] (spChkB C) := by
  refine F.ok scCB (fun vs H Q E h => ?_) (fun cdv A outer s H vs Q E hr h => ?_)
  · obtain ⟨p, l, n, rfl, _⟩ := h
    rfl
  · obtain ⟨p, l, n, rfl, ⟨⟨dx, hp⟩, l26, n1, n6⟩, q⟩ := h
    refine ⟨_, pss_one (ps_if (pt_not (pt_val (pe_callB call_isi (by rfl) T.isi (by decide +kernel) (pa_cons (pv 0) (pa_cons (pe_glob (v := .ref C) (by rfl) TC.mgC rfl) pa_nil))))) (pss_one ps_never) pss_nil), ?_⟩
    exact ⟨_, rfl, _, _, _, _, _, rfl, .own C, ty_board TC hp, TC.own, _, rfl, iteF q⟩
end
end Gm

/-! ways to go on, as a number -/
namespace Gm
open PySem
theorem idx_at {c : Nat} : ∀ {l : List Nat} {i : Nat}, l[i]? = some c → (∀ k, k < i → l[k]? ≠ some c) → l.idxOf c = i
  | [], i, h, _ => by simp at h
  | a :: l, 0, h, _ => by
    have : a = c := by simpa using h
    rw [this, List.idxOf_cons_self]
  | a :: l, i + 1, h, n => by
    have h0 : a ≠ c := fun e => n 0 (Nat.succ_pos _) (by simp [e])
    rw [List.idxOf_cons, cond_eq_if, if_neg (by simpa using h0), idx_at (l := l) (i := i) (by simpa using h) fun k hk e => n (k + 1) (Nat.succ_lt_succ hk) (by simpa using e)]
theorem find_one (l : List Nat) (c : Nat) : Txt.find (tx l) (one c) = if c ∈ l then ((l.idxOf c : Nat) : Int) else -1 := by
  have at_ : ∀ k, StrLaws.At (tx l) (one c) (tx l).length k ↔ l[k]? = some c := fun k => by
    have h := StrLaws.subAt_one (tx l) c k
    have e : (tx l).cps.toList = l := by simp
    rw [e] at h
    exact h
  rcases PyProof.Rows.find_whole (tx l) (one c) with ⟨e, n⟩ | ⟨i, e, a, n⟩
  · have : c ∉ l := fun h => by
      obtain ⟨j, hj, hx⟩ := List.getElem_of_mem h
      exact n j ((at_ j).mpr (List.getElem?_eq_some_iff.mpr ⟨hj, hx⟩))
    rw [e, if_neg this]
  · have hi := (at_ i).mp a
    rw [e, if_pos (List.mem_of_getElem? hi), idx_at hi fun k hk q => n k hk ((at_ k).mpr q)]
def owedI (le us : List Int) : Int := ((le.zip us).map fun p => if p.1 - p.2 > 0 then p.1 - p.2 else 0).sum
def bump (us : List Int) (i : Nat) : List Int := us.take i ++ [us.getD i 0 + 1] ++ us.drop (i + 1)
theorem bump_len {us : List Int} {i : Nat} (h : i < us.length) : (bump us i).length = us.length := by
  unfold bump
  simp only [List.length_append, List.length_take, List.length_drop, List.length_cons, List.length_nil]
  omega
/-- those of a that are among b -/
def cc (a b : List Nat) : List Nat := a.filter fun c => decide (c ∈ b)
def wayF (ct : List Nat) (le gr : List Int) : List (List Nat) → List Int → Int
  | [], us => if owedI le us > 0 then 0 else 1
  | a :: al, us => if owedI le us > ((al.length + 1 : Nat) : Int) then 0 else
      ((cc a ct).map fun c => if us.getD (ct.idxOf c) 0 = gr.getD (ct.idxOf c) 0 then 0 else wayF ct le gr al (bump us (ct.idxOf c))).sum +
      (if (a.length : Int) - ((cc a ct).length : Int) > 0 then ((a.length : Int) - ((cc a ct).length : Int)) * wayF ct le gr al us else 0)
/-- the numbers behind one more letter -/
def bumpC (ct : List Nat) (us : List Int) (c : Nat) : List Int := if c ∈ ct then bump us (ct.idxOf c) else us
theorem bumpC_len {ct : List Nat} {us : List Int} {c : Nat} (h : us.length = ct.length) : (bumpC ct us c).length = ct.length := by
  unfold bumpC
  split
  · rename_i m
    rw [bump_len (by rw [h]; exact List.idxOf_lt_length_of_mem m), h]
  · exact h
/-- the ways through a letter -/
def withF (ct : List Nat) (le gr : List Int) (al : List (List Nat)) (us : List Int) (c : Nat) : Int :=
  if c ∈ ct ∧ us.getD (ct.idxOf c) 0 = gr.getD (ct.idxOf c) 0 then 0 else wayF ct le gr al (bumpC ct us c)
theorem cc_mem {a b : List Nat} {c : Nat} : c ∈ cc a b ↔ c ∈ a ∧ c ∈ b := by
  unfold cc
  rw [List.mem_filter]
  exact and_congr_right fun _ => decide_eq_true_iff
theorem cc_le (a b : List Nat) : (cc a b).length ≤ a.length := List.length_filter_le _ _
theorem wayF_cons (ct : List Nat) (le gr : List Int) (a : List Nat) (al : List (List Nat)) (us : List Int) : wayF ct le gr (a :: al) us =
    if owedI le us > ((al.length + 1 : Nat) : Int) then 0 else ((cc a ct).map fun c => withF ct le gr al us c).sum + (if (a.length : Int) - ((cc a ct).length : Int) > 0 then ((a.length : Int) - ((cc a ct).length : Int)) * wayF ct le gr al us else 0) := by
  rw [wayF]
  have e : (cc a ct).map (fun c => if us.getD (ct.idxOf c) 0 = gr.getD (ct.idxOf c) 0 then 0 else wayF ct le gr al (bump us (ct.idxOf c))) = (cc a ct).map fun c => withF ct le gr al us c :=
    List.map_congr_left fun c hc => by
      have hm := (cc_mem.mp hc).2
      unfold withF bumpC
      rw [if_pos hm]
      simp only [hm, true_and]
  rw [e]
/-- how many entries the memory gains at most, if each place has at most b letters -/
def cap (b : Nat) : Nat → Nat
  | 0 => 0
  | r + 1 => (b + 1) * cap b r + 1
theorem cap_mono {b : Nat} {i j : Nat} (h : i ≤ j) : cap b i ≤ cap b j := by
  induction h with
  | refl => exact Nat.le_refl _
  | @step m _ ih =>
    refine Nat.le_trans ih ?_
    show _ ≤ (b + 1) * cap b m + 1
    rw [Nat.succ_mul]
    omega
theorem cap_wide {b c : Nat} (h : b ≤ c) : ∀ r, cap b r ≤ cap c r
  | 0 => Nat.le_refl _
  | r + 1 => Nat.succ_le_succ (Nat.mul_le_mul (Nat.succ_le_succ h) (cap_wide h r))
theorem cap_step (b r : Nat) : b * cap b r + cap b r ≤ cap b (r + 1) := by
  show _ ≤ (b + 1) * cap b r + 1
  rw [Nat.succ_mul]
  omega
/-- the most letters of a place -/
def wideOf (al : List (List Nat)) : Nat := al.foldr (fun a m => max a.length m) 0
theorem wide_le : ∀ {al : List (List Nat)} {a : List Nat}, a ∈ al → a.length ≤ wideOf al
  | b :: al, a, h => by
    show a.length ≤ max b.length (wideOf al)
    rcases List.mem_cons.mp h with rfl | h
    · exact Nat.le_max_left _ _
    · exact Nat.le_trans (wide_le h) (Nat.le_max_right _ _)
theorem wide_of {n : Nat} : ∀ {al : List (List Nat)}, (∀ a ∈ al, a.length ≤ n) → wideOf al ≤ n
  | [], _ => Nat.zero_le _
  | b :: al, h => Nat.max_le.mpr ⟨h b (List.mem_cons_self ..), wide_of fun a m => h a (List.mem_cons_of_mem _ m)⟩
end Gm

/-! max(ints, default=d) -/
namespace L2
open PySem PySem.Spec PyProof.Rows PySem.W
def mxDef (d : Int) : List Int → Int
  | [] => d
  | y :: ys => ys.foldl max y
def rMaxDef (K : PySem.W.Frag) : List V → List V → Hp → VK → Prop := fun vs zs H Q => ∃ (a : Addr) (ns : List Int) (d : Int), vs = [V.ref a] ∧ zs = [.int d] ∧ SqL K H a (ns.map V.int) ∧ Q (.int (mxDef d ns)) H
theorem dps_ints {K : PySem.W.Frag} {H : Hp} : ∀ c : List Int, DpAll K H (c.map V.int) (c.map PyData.int)
  | [] => .nil
  | x :: c => .cons (.int x) (dps_ints c)
theorem depth_ints : ∀ x : List Int, PyData.depthAll (x.map PyData.int) = 0 := fun x => by
  induction x with
  | nil => simp [PyData.depthAll]
  | cons k x ih =>
    show PyData.depthAll (.int k :: x.map PyData.int) = 0
    rw [PyData.depthAll, ih]
    simp [PyData.depth]
theorem cr_maxDef {X : Cx} (hc : X.calm = true) (hu : X.A.units + 8 < cLine) : CallRK X (.builtin "max") [Str.ofString "default"] (rMaxDef X.K) := by
  intro pins s σ H vs zs us ws Q I r rz h
  obtain ⟨a, ns, d, rfl, rfl, hs, q⟩ := h
  obtain ⟨its, rv, hl, _⟩ := I.list hs
  rw [Vals.ref1 r]
  obtain ⟨w1, rfl, td, e1⟩ := vals1 rz
  subst e1
  obtain ⟨as, hr⟩ := Dp.readsAll I _ _ _ (dps_ints ns) rv
  show wpAny _ _ (call (.builtin "max") [.ref a] [(Str.ofString "default", .int d td)]) _ _ s
  refine max_list_default (I.ok.hd hc) hl.isList (by simpa using hr) ?_ (by rw [depth_ints]; omega) (fun e h' tk hk => ?_) fun y ys i v h' tk bs e hi r hk => ?_
  · refine ⟨fun x hx y hy => ?_, fun x hx => ?_⟩
    · obtain ⟨i, _, rfl⟩ := List.mem_map.mp hx
      obtain ⟨j, _, rfl⟩ := List.mem_map.mp hy
      simp [alike]
    · obtain ⟨i, _, rfl⟩ := List.mem_map.mp hx
      exact fun z => nomatch z
  · obtain rfl : ns = [] := List.map_eq_nil_iff.mp e
    exact ⟨.int d, H, I.kept (t' := tk) hk, ⟨_, rfl⟩, q⟩
  · cases ns with
    | nil => cases e
    | cons n ns =>
      rw [List.map_cons] at e
      injection e with e1 e2
      subst e1 e2
      rw [maxD_ints] at r
      have hi' : its[i]? = some v := by simpa using hi
      have hlt := (List.getElem?_eq_some_iff.mp hi').1
      have hlen := rv.length
      obtain ⟨z, hz⟩ : ∃ z, ((n :: ns).map V.int)[i]? = some z := ⟨_, List.getElem?_eq_getElem (by omega)⟩
      obtain ⟨u, hu', ru⟩ := rv.get hz
      rw [hi'] at hu'
      cases hu'
      rw [List.getElem?_map] at hz
      cases hk2 : (n :: ns)[i]? with
      | none => rw [hk2] at hz; cases hz
      | some k =>
        rw [hk2] at hz
        obtain rfl := (Option.some.inj hz).symm
        obtain ⟨tk2, rfl⟩ := ru
        cases r
        exact ⟨.int (mxDef d (n :: ns)), H, I.kept (t' := tk) hk, ⟨_, rfl⟩, q⟩
end L2

/-! set(list of texts): how many there are -/
namespace GmS
open PySem PySem.Spec PyProof.Rows
def stepD (σ : List Str) (v : Str) : List Str := if σ.any (· == v) = true then σ else σ ++ [v]
def met (val : Nat → Str) (i : Nat) : List Str := ((List.range i).map val).foldl stepD []
theorem met_succ (val : Nat → Str) (i : Nat) : met val (i + 1) = stepD (met val i) (val i) := by
  unfold met; rw [List.range_succ, List.map_append, List.foldl_append]; rfl
theorem stepD_any (σ : List Str) (v k : Str) : (stepD σ v).any (· == k) = (σ.any (· == k) || decide (k = v)) := by
  unfold stepD
  by_cases h : σ.any (· == v) = true
  · rw [if_pos h]
    by_cases e : k = v
    · subst e; rw [h]; simp
    · simp [e]
  · rw [if_neg h, List.any_append]
    by_cases e : k = v
    · subst e; simp
    · have hb : (v == k) = false := by simpa [beq_iff_eq] using (fun h' : v = k => e h'.symm)
      simp [hb, e]
theorem stepD_len (σ : List Str) (v : Str) : (stepD σ v).length = if σ.any (· == v) then σ.length else σ.length + 1 := by
  unfold stepD; split <;> simp
theorem met_le (val : Nat → Str) : ∀ i, (met val i).length ≤ i
  | 0 => Nat.le_refl _
  | i + 1 => by
    rw [met_succ, stepD_len]
    have ih := met_le val i
    split <;> omega
theorem met_nd {xs : List Str} (nd : xs.Nodup) : ∀ i, i ≤ xs.length → met (fun i => xs.getD i ⟨#[]⟩) i = xs.take i
  | 0, _ => rfl
  | i + 1, hi => by
    have hi' : i < xs.length := hi
    rw [met_succ, met_nd nd i (by omega), List.take_succ_eq_append_getElem hi']
    have e : xs.getD i ⟨#[]⟩ = xs[i] := by rw [List.getD_eq_getElem?_getD, List.getElem?_eq_getElem hi']; rfl
    rw [e]
    unfold stepD
    rw [if_neg]
    intro h
    obtain ⟨y, hy, he⟩ := List.any_eq_true.mp h
    have he : y = xs[i] := by simpa using he
    obtain ⟨j, hj, hjy⟩ := List.getElem_of_mem hy
    rw [List.length_take] at hj
    rw [List.getElem_take] at hjy
    have := (List.getElem_inj nd).mp (hjy.trans he)
    omega
section
variable {prog : Program} {w : World} {A : Around} {R : Result → Shared → Prop} {I : Addr} {fp wr : List Addr} {G : Array GenState → Array GenState → Prop} {n : Nat} {P : Nat → Value → Prop} {St : Nat → Shared → Prop}
theorem loopS (W : WalksS prog w A.in1 I fp wr G n P St) (S : Addr) (hSf : S ∉ fp)
    (val : Nat → Str) (hval : ∀ i v, P i v → ∃ t, v = .str (val i) t) (hb : n + 1 < scanBound) :
    ∀ (k i : Nat) (s : Shared), n - i = k → i ≤ n → St i s →
      s.heap.SetOf (PySem.strKind prog w) S (fun k' => (met val i).any (· == k')) (met val i).length →
      (∀ s', Moved (S :: wr) G s s' → s'.heap.SetOf (PySem.strKind prog w) S (fun k' => (met val n).any (· == k')) (met val n).length → R (.ok (.ret .none)) s') →
      codeAny (model prog w) A (.builtin "set.update.loop" ⟨[.ref S, .ref I], []⟩) R s := by
  have hSw : S ∉ wr := fun h => hSf (W.sub _ h)
  have hsub : ∀ b ∈ wr, b ∈ S :: wr := fun b hb => List.mem_cons_of_mem _ hb
  intro k
  induction k with
  | zero =>
    intro i s hk hi hst hS hR
    have hin : i = n := by omega
    subst hin
    refine codeAny_builtin F.entry_set_update_loop ?_
    rw [Around.under_plainId F.plain_set_update_loop _]
    show wpAny _ A.in1 (pyNext (.ref I) >>= _) _ _ s
    refine wpAny_bind (W.done s _ _ hst fun s' hm => ?_)
    show wpAny _ A.in1 (ret Value.none) _ _ s'
    exact wpAny_pure (hR s' (hm.mono hsub) (by
      obtain ⟨o, es, ep, t, ho, rest⟩ := hS
      exact ⟨o, es, ep, t, hm.heap S _ hSw ho, rest⟩))
  | succ k ih =>
    intro i s hk hi hst hS hR
    have hlt : i < n := by omega
    refine codeAny_builtin F.entry_set_update_loop ?_
    rw [Around.under_plainId F.plain_set_update_loop _]
    show wpAny _ A.in1 (pyNext (.ref I) >>= _) _ _ s
    refine wpAny_bind (W.item i s _ _ hlt hst fun v s' hP hst' hm => ?_)
    obtain ⟨t, rfl⟩ := hval i v hP
    have hS' : s'.heap.SetOf (PySem.strKind prog w) S (fun k' => (met val i).any (· == k')) (met val i).length := by
      obtain ⟨o, es, ep, tb, ho, rest⟩ := hS
      exact ⟨o, es, ep, tb, hm.heap S _ hSw ho, rest⟩
    show wpAny _ A.in1 (holding [Value.str (val i) t] (setAdd S (.str (val i) t)) >>= _) _ _ s'
    refine wpAny_bind (wpAny_holding ?_)
    unfold setAdd
    refine wpAny_holding ?_
    have isK : (PySem.strKind prog w).is (val i) (.str (val i) t) = true := by
      show Value.isStrOf (val i) (.str (val i) t) = true
      simp [Value.isStrOf]
    refine wpAny_bind ((PySem.strKind prog w).pyHash (k := val i) isK ?_)
    have hroom : (met val i).length + 1 < scanBound := by have := met_le val i; omega
    refine wpAny_setAddHashed_of (knd := PySem.strKind prog w) (s := { s' with toks := s'.toks + 1 }) isK rfl hS' hroom fun h' hsb hS2 => ?_
    have hSi : h'.SetOf (PySem.strKind prog w) S (fun k' => (met val (i + 1)).any (· == k')) (met val (i + 1)).length :=
      SetOf_congr hS2 (fun k' => by rw [met_succ, stepD_any]) (by rw [met_succ, stepD_len])
    refine wpAny_pure ⟨plainId_quiet F.plain_set_update_loop _, ih (i + 1) _ (by omega) hlt (W.frame _ s' _ _ hst' (Nat.le_succ _) fun b hb o e => ?_) hSi fun s'' hm'' hS'' => ?_⟩
    · rw [hsb.2 b (fun h : b = S => hSf (by rw [← h]; exact hb))]; exact e
    · refine hR s'' (Moved.trans W.gtrans ((hm.mono hsub).then_heap (Nat.le_succ _) fun b o hb e => ?_) hm'') hS''
      rw [hsb.2 b (fun h : b = S => hb (by rw [h]; exact List.mem_cons_self))]; exact e
end
theorem strsAt : ∀ {vs : List Value} {ns : List Str}, StrsAre vs ns → ∀ (i : Nat) (v : Value), vs[i]? = some v → ∃ t, v = .str (ns.getD i ⟨#[]⟩) t
  | _, _, .nil, i, v, h => by simp at h
  | _, _, .cons n t hr, 0, v, h => by simp at h; exact ⟨t, by rw [← h]; rfl⟩
  | _, _, .cons n t hr, i + 1, v, h => by
    simp only [List.getElem?_cons_succ] at h
    obtain ⟨t', e⟩ := strsAt hr i v h
    exact ⟨t', by rw [e]; rfl⟩
section
variable {prog : Program} {w : World} {A : Around} {E : Value → Shared → Prop} {s : Shared}
theorem call_setS {l : Addr} {items : Array Value} {ns : List Str} {Q : Value → Shared → Prop}
    (hh : A.handled = none) (hl : s.heap.IsList l items) (hi : StrsAre items.toList ns) (hb : items.size + 1 < scanBound)
    (h : ∀ (h' : Heap) (tk : Nat), h'.SetOf (PySem.strKind prog w) s.heap.objs.size (fun k' => (met (fun i => ns.getD i ⟨#[]⟩) items.size).any (· == k')) (met (fun i => ns.getD i ⟨#[]⟩) items.size).length →
      (∀ b o, b < s.heap.objs.size → s.heap.get? b = some o → h'.get? b = some o) → Q (.ref s.heap.objs.size) { s with heap := h', toks := tk }) :
    wpAny (model prog w) A (call (.type "set") [.ref l]) Q E s := by
  obtain ⟨c, tl, hmro⟩ := F.called_set.mro
  have hmade := F.called_set.made
  have hsub := F.called_set.sub
  refine wpAny_call (codeAny_of_tree ?_)
  show wpAny _ _ (callAny (.type "set") _) _ _ _
  refine wpAny_pure ⟨Code.quiet_builtin _ (by decide +kernel), codeAny_builtin F.entry_type_call ?_⟩
  rw [Around.under_plain (weight_type_call_type "set" [.ref l] []) rfl]
  have h1 := F.called_set.notType
  have h2 := F.called_set.canCreate
  have hct := F.typeCall_set_1 (.ref l)
  repeat (any_goals (first | assumption | wp_step))

  refine codeAny_mono (code_set_new_1 (.ref l) (E := E) (Q₁ := fun obj s₁ => ∃ led : Bool, obj = .ref s.heap.objs.size ∧ s₁ = { s with heap := s.heap.push { cls := .type "set", dict := none, data := .set #[] 0 (.fresh 0 0 led) } }) fun led => ⟨led, rfl, rfl⟩) fun r s₁ hr => ?_
  cases r with
  | error e => exact hr
  | ok fl =>
    cases fl with
    | ret obj =>
      obtain ⟨led, rfl, rfl⟩ := hr
      have hS : (s.heap.push { cls := .type "set", dict := none, data := .set #[] 0 (.fresh 0 0 led) }).get? s.heap.objs.size = some { cls := .type "set", dict := none, data := .set #[] 0 (.fresh 0 0 led) } := Heap.get?_push_size _ rfl
      have hT : Shared.TypeIs { s with heap := s.heap.push { cls := .type "set", dict := none, data := .set #[] 0 (.fresh 0 0 led) } } (.ref s.heap.objs.size) "set" := ⟨_, hS, rfl⟩
      have hli := F.called_set.init.lookup
      have hbi := F.called_set.init.bind (.ref s.heap.objs.size)
      repeat (any_goals (first | assumption | wp_step))

      refine codeAny_mono (codeAny_call_builtin (R := wants (fun r s₂ => r = .none ∧ ∃ h' tk, s₂ = { s with heap := h', toks := tk } ∧
          h'.SetOf (PySem.strKind prog w) s.heap.objs.size (fun k' => (met (fun i => ns.getD i ⟨#[]⟩) items.size).any (· == k')) (met (fun i => ns.getD i ⟨#[]⟩) items.size).length ∧
          (∀ b o, b < s.heap.objs.size → s.heap.get? b = some o → h'.get? b = some o)) E) F.called_set.init.plain F.entry_set_init (check_set_init_1 hT ?_)) fun r₂ s₂ hr₂ => ?_
      · obtain ⟨ol, hol, hcl, nl, hdl⟩ := hl
        obtain ⟨ocls, odict, odata, oslots⟩ := ol
        simp only at hcl hdl
        subst hcl; subst hdl
        have hol' : (s.heap.push { cls := .type "set", dict := none, data := .set #[] 0 (.fresh 0 0 led) }).get? l = some { cls := .type "list", dict := odict, data := .seq items nl, slots := oslots } := Heap.get?_push_of_some _ hol
        have hsls := F.sub_list_set
        have hslf := F.sub_list_frozenset
        have hne : (Value.type "list" == Value.type "dict") = false := by decide
        have hl1 : (s.heap.push { cls := .type "set", dict := none, data := .set #[] 0 (.fresh 0 0 led) }).IsList l items := ⟨_, hol', rfl, nl, rfl⟩
        unfold Builtin.«set.__init__» noKeywords Builtin.Frozenset.updateFrom
        generalize hPI : pyIter = PI
        wp_walk
        subst hPI

        refine wpAny_pyIter_list hl1 ?_
        refine wpAny_bind (wpAny_runValue ?_)
        have hlS : l < s.heap.objs.size := Heap.lt_size hol
        have hh3 : A.in1.in1.in1.handled = none := by simp [hh]
        have hneI : l ≠ (s.heap.push { cls := .type "set", dict := none, data := .set #[] 0 (.fresh 0 0 led) }).objs.size := by
          rw [Heap.size_push]; exact Nat.ne_of_lt (Nat.lt_succ_of_lt hlS)
        have hSf : s.heap.objs.size ∉ [(s.heap.push { cls := .type "set", dict := none, data := .set #[] 0 (.fresh 0 0 led) }).objs.size, l] := by
          rw [Heap.size_push]; simp only [List.mem_cons, List.mem_singleton, List.not_mem_nil, or_false, not_or]
          exact ⟨Nat.ne_of_lt (Nat.lt_succ_self _), Nat.ne_of_gt hlS⟩
        have hval : ∀ (i : Nat) (v : Value), items[i]? = some v → ∃ t, v = .str ((fun i => ns.getD i ⟨#[]⟩) i) t := fun i v hv =>
          strsAt hi i v (by rw [Array.getElem?_toList]; exact hv)
        refine loopS ((Walks.list hh3 _ l hneI items).toS) s.heap.objs.size
          hSf (fun i => ns.getD i ⟨#[]⟩) hval hb (items.size - 0) 0 _ (by omega) (Nat.zero_le _)
          ⟨⟨_, Heap.get?_push_size _ rfl, rfl, rfl⟩, (hl1.push _)⟩ ?hS0 ?hR
        case hS0 =>
          have hget : ((s.heap.push { cls := .type "set", dict := none, data := .set #[] 0 (.fresh 0 0 led) }).push { cls := .type "list_iterator", data := .fields #[.ref l, .int 0 0] }).get? s.heap.objs.size
              = some { cls := .type "set", dict := none, data := .set #[] 0 (.fresh 0 0 led) } := Heap.get?_push_of_some _ hS
          exact PyProof.Rows.SetOf_congr ((PyProof.Rows.setObjOf_fresh (knd := PySem.strKind prog w) led).setOf hget (by unfold scanBound; omega)) (fun _ => rfl) rfl
        case hR =>
          intro s' hm hS'
          obtain ⟨h', g', d', tk', os'⟩ := s'
          have eg : g' = s.gens := hm.gens
          have ed : d' = s.drawn := hm.drawn
          have eo : os' = s.os := hm.os
          subst eg; subst ed; subst eo
          show wpAny _ _ _ _ _ _
          refine wpAny_pure ?_
          show wpAny _ _ (ret Value.none) _ _ _
          refine wpAny_pure ⟨rfl, h', tk', rfl, hS', fun b o hb e => ?_⟩
          have hb1 : b ≠ s.heap.objs.size := Nat.ne_of_lt hb
          have hb2 : b ≠ (s.heap.push { cls := .type "set", dict := none, data := .set #[] 0 (.fresh 0 0 led) }).objs.size := by
            rw [Heap.size_push]; exact Nat.ne_of_lt (Nat.lt_succ_of_lt hb)
          exact hm.heap b o (by simp only [List.mem_cons, List.mem_singleton, List.not_mem_nil, or_false, not_or]; exact ⟨hb1, hb2⟩) (Heap.get?_push_of_some _ (Heap.get?_push_of_some _ e))

      · cases r₂ with
        | error e => exact hr₂
        | ok fl₂ =>
          cases fl₂ with
          | ret r =>
            obtain ⟨rfl, h', tk, rfl, hS', hk'⟩ := hr₂
            repeat (any_goals (first | assumption | wp_step))
            exact h _ _ hS' hk'
          | _ => exact hr₂.elim
    | _ => exact hr.elim
end
/-- len(set(xs)), xs a list of different texts -/
def tLenSetN (K : PySem.W.Frag) (ta : L2.TE) : L2.TE := fun σ H Q => ta σ H fun x H1 => ∃ l, ∃ xs : List Str, x = .ref l ∧ L2.SqL K H1 l (xs.map L2.V.str) ∧ xs.Nodup ∧ xs.length + 1 < scanBound ∧ Q (.int xs.length) H1
open L2 in
theorem pe_lenSetN {X : Cx} {a : Expr} {ta : TE} {p p2 q pos : Pos} (hc : X.calm = true) (hg : Gl X "len") (hm : X.mg "len" = none) (hg2 : Gl X "set") (hm2 : X.mg "set" = none) (ha : PE X a ta)
    (na : starEach [a] X.env = (false, eval a X.env) :: starEach [] X.env := by rfl) : PE X (.Call (.Name "len" p) [.Call (.Name "set" p2) [a] [] q] [] pos) (tLenSetN X.K ta) := by
  refine ⟨fun pins s σ H Q I h => ?_⟩
  refine Call_ (ld_blt I hg hm boot_len ?_)
  refine PyProof.Rows.callWith_builtin1 (PyProof.Rows.args_cons ?_ rfl) rfl rfl
  refine Call_ (ld_blt I hg2 hm2 boot_set ?_)
  refine PyProof.Rows.callWith_type1 (PyProof.Rows.args_cons (thn (ha.run pins s σ H _ I h) fun v s1 ⟨x, H1, I1, r1, q1⟩ => PyProof.Rows.args_nil ?_) na) na rfl
  obtain ⟨l, xs, rfl, hq, hnd, hsb, q1⟩ := q1
  cases r1
  obtain ⟨its, r, pl, hz⟩ := I1.list hq
  have hl : its.toArray.size = xs.length := by rw [List.size_toArray, ← r.length, List.length_map]
  refine call_setS (ns := xs) (I1.ok.hd hc) pl.isList (by simpa using strsAre_of r) (by rw [hl]; exact hsb) fun h' tk hS hk => ?_
  refine PyProof.Rows.args_nil ?_
  rw [hl, met_nd hnd _ (Nat.le_refl _), List.take_length] at hS
  obtain ⟨o, es, ep, t, ho, hex, hd, _, _, _, hf, hn⟩ := hS
  have I2 : Inv X pins σ H1 { s1 with heap := h', toks := tk } := I1.kept fun b o e => hk b o (Heap.lt_size e) e
  have h4 : xs.length < 4096 := by unfold scanBound at hsb; omega
  refine call_len_set ho hex hd hf (by rw [hn] <;> omega) ⟨.int xs.length, H1, I2.tok _, ⟨_, by rw [hn]⟩, q1⟩
end GmS

/-! sets of texts that can be walked: set(list of texts) -/
namespace GmR
open PySem PySem.Spec PyProof.Rows L2
theorem strs_len : ∀ {vs : List Value} {ns : List Str}, StrsAre vs ns → vs.length = ns.length
  | _, _, .nil => rfl
  | _, _, .cons n t h => by rw [List.length_cons, List.length_cons, strs_len h]
def keyT (e : Int × Value) : Str := match e.2 with | .str k _ => k | _ => ⟨#[]⟩
def GoodT (w : World) (e : Int × Value) : Prop := ∃ k tk, e.2 = Value.str k tk ∧ e.1 = hashStr w k

/-- the set of ints at a: S its members, n their number; its table rises and can be walked -/
def SetT (w : World) (h : Heap) (a : Addr) (S : Str → Bool) (n : Nat) : Prop :=
  ∃ o es ep t, h.get? a = some o ∧ o.ExactSet ∧ o.data = .set es ep t ∧ (∀ e ∈ es.toList, GoodT w e) ∧ (es.toList.map keyT).Nodup ∧ (∀ k, S k = true ↔ k ∈ es.toList.map keyT) ∧
    es.size < scanBound ∧ t.fits es.size = true ∧ es.size = n ∧ Ris t.place.toList ∧ (w.params.followText "set-order" = true ∨ t.led = true)

section
variable {P : Program} {w : World} {h h' : Heap} {a : Addr} {S : Str → Bool} {n : Nat}

theorem SetT.at (R : SetT w h a S n) (k : ∀ o, h.get? a = some o → h'.get? a = some o) : SetT w h' a S n := by
  obtain ⟨o, es, ep, t, ho, r⟩ := R
  exact ⟨o, es, ep, t, k o ho, r⟩
theorem SetT.lt (R : SetT w h a S n) : a < h.objs.size := by
  obtain ⟨o, es, ep, t, ho, r⟩ := R
  exact Heap.lt_size ho
theorem SetT.congr {S' : Str → Bool} (R : SetT w h a S n) (e : ∀ k, S' k = S k) : SetT w h a S' n := by
  have q : S' = S := funext e
  rw [q]; exact R
theorem goodT_elems {l : List (Int × Value)} (g : ∀ e ∈ l, GoodT w e) : ElemsOf (strKind P w) l := fun e he => by
  obtain ⟨k, tk, h1, h2⟩ := g e he
  exact ⟨⟨k, by rw [h1]; exact strKind_is P w k tk, h2⟩, by rw [h1] <;> rfl⟩
theorem goodT_is {e : Int × Value} (g : GoodT w e) (k : Str) : (strKind P w).is k e.2 = true ↔ keyT e = k := by
  obtain ⟨k0, tk, h1, _⟩ := g
  unfold keyT
  rw [h1]
  show (Value.isStrOf k (.str k0 tk) = true) ↔ k0 = k
  simp [Value.isStrOf]
theorem goodT_mem {l : List (Int × Value)} (g : ∀ e ∈ l, GoodT w e) (k : Str) : k ∈ l.map keyT ↔ ∃ e ∈ l, (strKind P w).is k e.2 = true := by
  rw [List.mem_map]
  constructor
  · rintro ⟨e, he, q⟩
    exact ⟨e, he, (goodT_is (g e he) k).2 q⟩
  · rintro ⟨e, he, q⟩
    exact ⟨e, he, (goodT_is (g e he) k).1 q⟩
theorem SetT.setOf (R : SetT w h a S n) : h.SetOf (strKind P w) a S n := by
  obtain ⟨o, es, ep, t, ho, hx, hd, g, nd, hm, hb, hf, hn, _⟩ := R
  exact ⟨o, es, ep, t, ho, hx, hd, goodT_elems g, fun k => (hm k).trans (goodT_mem g k), hb, hf, hn⟩
end

section
variable {P : Program} {w : World} {A : Around} {E : Value → Shared → Prop} {s : Shared} {a : Addr} {S : Str → Bool} {n : Nat}

/-! ### add -/
theorem storeT_at {h : Heap} {a : Addr} {o : Obj} {es es' : Array (Int × Value)} {ep : Nat} {t t' : SetTable} (ho : h.get? a = some o) (hd : o.data = .set es ep t) :
    (h.update a (Obj.putSet es' t')).get? a = some { o with data := .set es' (ep + 1) t' } := by
  have q := Heap.get?_update_self (Obj.putSet es' t') ho (by rw [putSet_of es' t' hd]; rfl)
  rw [putSet_of es' t' hd] at q
  exact q

theorem setT_add_tail {g : Bool → Sem Unit} (hg : ∀ (b : Bool) (s₁ : Shared) (Q' : Unit → Shared → Prop), Q' () s₁ → wpAny (model P w) A (g b) Q' E s₁)
    {o : Obj} {es : Array (Int × Value)} {ep : Nat} {t : SetTable} (ho : s.heap.get? a = some o) (hex : o.ExactSet) (hd : o.data = .set es ep t)
    {es1 : Array (Int × Value)} {t2 : SetTable} {S' : Str → Bool} (g1 : ∀ e ∈ es1.toList, GoodT w e) (nd1 : (es1.toList.map keyT).Nodup) (m1 : ∀ k, S' k = true ↔ k ∈ es1.toList.map keyT)
    (hb1 : es1.size < scanBound) (hf2 : t2.fits es1.size = true) (hr : Ris t2.place.toList) (hl : w.params.followText "set-order" = true ∨ t2.led = true) {wasDummy : Bool} {R : Option Bool → Shared → Prop}
    (hR : ∀ h', Heap.SameBut a s.heap h' → SetT w h' a S' es1.size → R (some true) { s with heap := h' }) :
    wpAny (model P w) A (do
        storeSet a es1 t2
        if (!wasDummy && t2.tooFull) = true then do
            g (relayAll t2 es1 (SetTable.grown es1.size)).2.2
            storeSet a (relayAll t2 es1 (SetTable.grown es1.size)).1 (relayAll t2 es1 (SetTable.grown es1.size)).2.1
            pure (some true)
          else pure (some true)) R E s := by
  refine wpAny_bind (wpAny_storeSet_of ho hd ?_ (fits_of_scanBound hb1))
  have ho1 := storeT_at (es' := es1) (t' := t2) ho hd
  have sb1 := Heap.SameBut.update s.heap a (Obj.putSet es1 t2)
  split
  · have pm := relayAll_perm t2 es1 (SetTable.grown es1.size)
    have hf3 := relayAll_fits t2 es1 (SetTable.grown es1.size)
    have hr3 := relayAll_ris t2 es1 (SetTable.grown es1.size)
    have hl3 := relayAll_led t2 es1 (SetTable.grown es1.size)
    generalize relayAll t2 es1 (SetTable.grown es1.size) = Z at pm hf3 hr3 hl3 ⊢
    obtain ⟨es2, t3, gave⟩ := Z
    dsimp only at pm hf3 hr3 hl3 ⊢
    have hsz : es2.size = es1.size := by rw [← Array.length_toList, pm.length_eq, Array.length_toList]
    have hb2 : es2.size < scanBound := by rw [hsz]; exact hb1
    refine wpAny_bind (hg _ _ _ ?_)
    refine wpAny_bind (wpAny_storeSet_of ho1 rfl ?_ (fits_of_scanBound hb2))
    have ho2 := storeT_at (es' := es2) (t' := t3) ho1 rfl
    refine wpAny_pure (hR _ (sb1.trans (Heap.SameBut.update _ a _)) ?_)
    exact ⟨_, es2, _, t3, ho2, hex, rfl, fun e he => g1 e (pm.mem_iff.mp he), (pm.map keyT).nodup_iff.mpr nd1, fun k => (m1 k).trans (pm.map keyT).mem_iff.symm, hb2, hf3, hsz, hr3,
      hl.imp id fun z => by rw [hl3]; exact z⟩
  · exact wpAny_pure (hR _ sb1 ⟨_, es1, _, t2, ho1, hex, rfl, g1, nd1, m1, hb1, hf2, rfl, hr, hl⟩)

theorem setT_add_hashed {k : Str} {tk : Tok} {Q : Bool → Shared → Prop} (R : SetT w s.heap a S n) (room : n + 1 < scanBound)
    (hQ : ∀ h', Heap.SameBut a s.heap h' → SetT w h' a (fun j => S j || decide (j = k)) (if S k = true then n else n + 1) → Q (!S k) { s with heap := h' }) :
    wpAny (model P w) A (setAddHashed a (.str k tk) ((strKind P w).hash k)) Q E s := by
  obtain ⟨o, es, ep, t, ho, hex, hd, g, nd, hm, hb, hf, hn, hr, hl⟩ := R
  have hkey : (strKind P w).is k (.str k tk) = true := strKind_is P w k tk
  have hsc : (Value.str k tk).scannable = true := rfl
  have hel : ElemsOf (strKind P w) es.toList := goodT_elems g
  unfold setAddHashed setAddHashedIn
  refine wpAny_holding (wpAny_bind (wpAny_setState_of ho hd hf ?_))
  dsimp only
  rw [byScan_of hsc hb hel]
  simp only [↓reduceIte]
  unfold setAddByScan
  refine wpAny_bind ?_
  refine wpAny_bind (wpAny_rule ?_)
  refine wpAny_bind (wpAny_setScan_of hkey ho hd hf hel ?_)
  cases hfi : List.findIdx? (fun e => (strKind P w).is k e.2) es.toList with
  | some j =>
    dsimp only
    obtain ⟨hj, pj, _⟩ := List.findIdx?_eq_some_iff_getElem.mp hfi
    have hSk : S k = true := (hm k).2 ((goodT_mem (P := P) (w := w) g k).2 ⟨es.toList[j], List.getElem_mem hj, pj⟩)
    refine wpAny_pure (wpAny_pure ?_)
    have q := hQ s.heap (Heap.SameBut.refl a s.heap) ⟨o, es, ep, t, ho, hex, hd, g, nd, fun i => by
      rw [Bool.or_eq_true, decide_eq_true_eq, ← hm i]
      exact ⟨fun z => z.elim id (fun e => e ▸ hSk), .inl⟩, hb, hf, by rw [if_pos hSk]; exact hn, hr, hl⟩
    rw [hSk] at q
    exact q
  | none =>
    dsimp only
    have hnk : k ∉ es.toList.map keyT := fun z => by
      obtain ⟨e, he, q⟩ := (goodT_mem (P := P) (w := w) g k).1 z
      have c := List.findIdx?_eq_none_iff.mp hfi e he
      rw [q] at c
      cases c
    have hSk : S k = false := by
      cases q : S k with
      | false => rfl
      | true => exact absurd ((hm k).1 q) hnk
    have hgw : ∀ (b : Bool) {s₁ : Shared} {Q' : Unit → Shared → Prop}, Q' () s₁ → wpAny (model P w) A (match b with | true => rule "set.scan.the-table-gave-way" | false => pure ()) Q' E s₁ :=
      fun b s₁ Q' q => by cases b <;> first | exact wpAny_pure q | exact wpAny_rule q
    have pm := layNew_perm t es ((strKind P w).hash k) (.str k tk)
    have hf1 := layNew_fits t es ((strKind P w).hash k) (.str k tk)
    have hr1 := layNew_ris t es ((strKind P w).hash k) (.str k tk) hr
    have hl1 := layNew_led t es ((strKind P w).hash k) (.str k tk)
    generalize layNew t es ((strKind P w).hash k) (.str k tk) = Z at pm hf1 hr1 hl1 ⊢
    obtain ⟨es1, t1, wasDummy, gave⟩ := Z
    dsimp only at pm hf1 hr1 hl1 ⊢
    rw [Array.toList_push] at pm
    have pc : es1.toList.Perm (((strKind P w).hash k, Value.str k tk) :: es.toList) := pm.trans (List.perm_append_singleton _ _)
    have pk : (es1.toList.map keyT).Perm (k :: es.toList.map keyT) := pc.map keyT
    have g1 : ∀ e ∈ es1.toList, GoodT w e := fun e he => by
      rcases List.mem_cons.mp (pc.mem_iff.mp he) with z | z
      · rw [z]; exact ⟨k, tk, rfl, rfl⟩
      · exact g e z
    have nd1 : (es1.toList.map keyT).Nodup := pk.nodup_iff.mpr (List.nodup_cons.mpr ⟨hnk, nd⟩)
    have m1 : ∀ i, (S i || decide (i = k)) = true ↔ i ∈ es1.toList.map keyT := fun i => by
      rw [Bool.or_eq_true, decide_eq_true_eq, hm i, pk.mem_iff, List.mem_cons]
      exact Or.comm
    have hsz : es1.size = n + 1 := by rw [← Array.length_toList, pc.length_eq, List.length_cons, Array.length_toList, hn]
    have hb1 : es1.size < scanBound := by rw [hsz]; exact room
    have hled : w.params.followText "set-order" = true ∨ t1.led = true := hl.imp id fun z => by rw [hl1]; exact z
    have fin : ∀ h', Heap.SameBut a s.heap h' → SetT w h' a (fun j => S j || decide (j = k)) es1.size → Q true { s with heap := h' } := fun h' sb r => by
      have q := hQ h' sb
      rw [hSk] at q
      rw [hsz] at r
      exact q r
    refine wpAny_bind (hgw _ ?_)
    split
    · refine wpAny_bind ?_
      rw [hashByValue_scannable 8 hsc]
      refine wpAny_pure ?_
      refine setT_add_tail ?_ ho hex hd g1 nd1 m1 hb1 ?_ ?_ ?_ ?_
      · intro b s₁ Q' q; cases b <;> first | exact wpAny_pure q | exact wpAny_rule q
      · first | (split <;> first | exact hf1 | exact SetTable.fits_plain_off hf1) | exact hf1
      · first | (split <;> exact hr1) | exact hr1
      · first | (split <;> exact hled) | exact hled
      · intro h' sb r; dsimp only; exact wpAny_pure (fin h' sb r)
    · refine wpAny_bind (wpAny_pure ?_)
      simp only [↓reduceIte]
      refine setT_add_tail ?_ ho hex hd g1 nd1 m1 hb1 hf1 hr1 hled ?_
      · intro b s₁ Q' q; cases b <;> first | exact wpAny_pure q | exact wpAny_rule q
      · intro h' sb r; dsimp only; exact wpAny_pure (fin h' sb r)

end

theorem setT_new_at {w : World} {h : Heap} {a : Addr} {ns : List Str} (ho : h.get? a = some { cls := .type "set", dict := none, data := .set #[] 0 (.fresh 0 0 (!w.params.followText "set-order")) }) : SetT w h a (fun j => decide (j ∈ ns.take 0)) 0 :=
  ⟨_, #[], 0, _, ho, ⟨rfl, rfl, rfl⟩, rfl, (fun e he => by simp at he), (by simp), (fun k => by simp), (by decide), (by rfl), rfl, List.Pairwise.nil, by
    show _ ∨ (!w.params.followText "set-order") = true
    cases w.params.followText "set-order"
    · exact .inr rfl
    · exact .inl rfl⟩
section
variable {P : Program} {w : World} {A : Around} {E : Value → Shared → Prop} {s : Shared}
theorem set_update_strs {I : Addr} {fp wr : List Addr} {G : Array GenState → Array GenState → Prop} {n : Nat} {Pv : Nat → Value → Prop} {St : Nat → Shared → Prop} {R : Result → Shared → Prop}
    (W : WalksS P w A.in1 I fp wr G n Pv St) (S : Addr) (hSf : S ∉ fp) (ns : List Str) (hn : n = ns.length) (hb : ns.length + 1 < scanBound) (hval : ∀ i v, Pv i v → ∃ k t, ns[i]? = some k ∧ v = .str k t) :
    ∀ (k i : Nat) (s : Shared), n - i = k → i ≤ n → St i s → (∃ c, c ≤ i ∧ SetT w s.heap S (fun j => decide (j ∈ ns.take i)) c) →
      (∀ s' c, Moved (S :: wr) G s s' → c ≤ n → SetT w s'.heap S (fun j => decide (j ∈ ns)) c → R (.ok (.ret .none)) s') →
      codeAny (model P w) A (.builtin "set.update.loop" ⟨[.ref S, .ref I], []⟩) R s := by
  have hSw : S ∉ wr := fun h => hSf (W.sub _ h)
  have hsub : ∀ b ∈ wr, b ∈ S :: wr := fun b hb => List.mem_cons_of_mem _ hb
  intro k
  induction k with
  | zero =>
    intro i s hk' hi hst ⟨c, hc, hS⟩ hR
    have hin : i = n := by omega
    subst hin
    refine codeAny_builtin F.entry_set_update_loop ?_
    rw [Around.under_plainId F.plain_set_update_loop _]
    show wpAny _ A.in1 (pyNext (.ref I) >>= _) _ _ s
    refine wpAny_bind (W.done s _ _ hst fun s' hm => ?_)
    show wpAny _ A.in1 (ret Value.none) _ _ s'
    have e : ns.take i = ns := List.take_of_length_le (by omega)
    rw [e] at hS
    exact wpAny_pure (hR s' c (hm.mono hsub) hc (hS.at fun o e => hm.heap S o hSw e))
  | succ k ih =>
    intro i s hk' hi hst ⟨c, hc, hS⟩ hR
    have hlt : i < n := by omega
    refine codeAny_builtin F.entry_set_update_loop ?_
    rw [Around.under_plainId F.plain_set_update_loop _]
    show wpAny _ A.in1 (pyNext (.ref I) >>= _) _ _ s
    refine wpAny_bind (W.item i s _ _ hlt hst fun v s' hP hst' hm => ?_)
    obtain ⟨z, t, hz, rfl⟩ := hval i v hP
    have hS' : SetT w s'.heap S (fun j => decide (j ∈ ns.take i)) c := hS.at fun o e => hm.heap S o hSw e
    show wpAny _ A.in1 (holding [Value.str z t] (setAdd S (.str z t)) >>= _) _ _ s'
    refine wpAny_bind (wpAny_holding ?_)
    unfold setAdd
    refine wpAny_holding ?_
    refine wpAny_bind ((strKind P w).pyHash (k := z) (strKind_is _ _ _ _) ?_)
    refine setT_add_hashed (s := { s' with toks := s'.toks + 1 }) hS' (by omega) fun h' hsb hS2 => ?_
    have hS3 : SetT w h' S (fun j => decide (j ∈ ns.take (i + 1))) (if decide (z ∈ ns.take i) = true then c else c + 1) := hS2.congr fun j => by
      rw [List.take_add_one, hz]
      simp [List.mem_append]
    have hc3 : (if decide (z ∈ ns.take i) = true then c else c + 1) ≤ i + 1 := by
      split <;> omega
    refine wpAny_pure ⟨plainId_quiet F.plain_set_update_loop _, ih (i + 1) _ (by omega) hlt (W.frame _ s' _ _ hst' (Nat.le_succ _) fun b hb o e => ?_) ⟨_, hc3, hS3⟩ fun s'' c2 hm'' hc'' hS'' => ?_⟩
    · rw [hsb.2 b (fun h : b = S => hSf (by rw [← h]; exact hb))]; exact e
    · refine hR s'' c2 (Moved.trans W.gtrans ((hm.mono hsub).then_heap (Nat.le_succ _) fun b o hb e => ?_) hm'') hc'' hS''
      rw [hsb.2 b (fun h : b = S => hb (by rw [h]; exact List.mem_cons_self))]; exact e


set_option maxRecDepth 100000 in
set_option maxHeartbeats 3200000 in
theorem call_set_lstS {l : Addr} {items : Array Value} (ns : List Str) {Q : Value → Shared → Prop} (hh : A.handled = none) (hl : s.heap.IsList l items) (hit : StrsAre items.toList ns) (hb : ns.length + 1 < scanBound)
    (h : ∀ (h' : Heap) (tk c : Nat), SetT w h' s.heap.objs.size (fun j => decide (j ∈ ns)) c → c ≤ ns.length → (∀ b o, s.heap.get? b = some o → h'.get? b = some o) → Q (.ref s.heap.objs.size) { s with heap := h', toks := tk }) :
    wpAny (model P w) A (call (.type "set") [.ref l]) Q E s := by
  have hisz : items.size = ns.length := by
    have q := strs_len hit
    rw [Array.length_toList] at q
    exact q
  obtain ⟨c, tl, hmro⟩ := F.called_set.mro
  have hmade := F.called_set.made
  have hsub := F.called_set.sub
  refine wpAny_call (codeAny_of_tree ?_)
  show wpAny _ _ (callAny (.type "set") _) _ _ _
  refine wpAny_pure ⟨Code.quiet_builtin _ (by decide +kernel), codeAny_builtin F.entry_type_call ?_⟩
  rw [Around.under_plain (weight_type_call_type "set" [.ref l] []) rfl]
  have h1 := F.called_set.notType
  have h2 := F.called_set.canCreate
  have hct := F.typeCall_set_1 (.ref l)
  repeat (any_goals (first | assumption | wp_step))

  refine codeAny_mono (L2.code_set_led1 (.ref l) (E := E) (Q₁ := fun obj s₁ => obj = .ref s.heap.objs.size ∧ s₁ = { s with heap := s.heap.push { cls := .type "set", dict := none, data := .set #[] 0 (.fresh 0 0 (!w.params.followText "set-order")) } }) ⟨rfl, rfl⟩) fun r s₁ hr => ?_
  cases r with
  | error e => exact hr
  | ok fl =>
    cases fl with
    | ret obj =>
      obtain ⟨rfl, rfl⟩ := hr
      have hS : (s.heap.push { cls := .type "set", dict := none, data := .set #[] 0 (.fresh 0 0 (!w.params.followText "set-order")) }).get? s.heap.objs.size = some { cls := .type "set", dict := none, data := .set #[] 0 (.fresh 0 0 (!w.params.followText "set-order")) } := Heap.get?_push_size _ rfl
      have hT : Shared.TypeIs { s with heap := s.heap.push { cls := .type "set", dict := none, data := .set #[] 0 (.fresh 0 0 (!w.params.followText "set-order")) } } (.ref s.heap.objs.size) "set" := ⟨_, hS, rfl⟩
      have hli := F.called_set.init.lookup
      have hbi := F.called_set.init.bind (.ref s.heap.objs.size)
      repeat (any_goals (first | assumption | wp_step))

      refine codeAny_mono (codeAny_call_builtin (R := wants (fun r s₂ => r = .none ∧ ∃ h' tk c, s₂ = { s with heap := h', toks := tk } ∧ SetT w h' s.heap.objs.size (fun j => decide (j ∈ ns)) c ∧ c ≤ ns.length ∧
          (∀ b o, s.heap.get? b = some o → h'.get? b = some o)) E) F.called_set.init.plain F.entry_set_init (check_set_init_1 hT ?_)) fun r₂ s₂ hr₂ => ?_
      · obtain ⟨ol, hol, hcl, nl, hdl⟩ := hl
        obtain ⟨ocls, odict, odata, oslots⟩ := ol
        simp only at hcl hdl
        subst hcl; subst hdl
        have hol' : (s.heap.push { cls := .type "set", dict := none, data := .set #[] 0 (.fresh 0 0 (!w.params.followText "set-order")) }).get? l = some { cls := .type "list", dict := odict, data := .seq items nl, slots := oslots } := Heap.get?_push_of_some _ hol
        have hsls := F.sub_list_set
        have hslf := F.sub_list_frozenset
        have hne : (Value.type "list" == Value.type "dict") = false := by decide
        have hl1 : (s.heap.push { cls := .type "set", dict := none, data := .set #[] 0 (.fresh 0 0 (!w.params.followText "set-order")) }).IsList l items := ⟨_, hol', rfl, nl, rfl⟩
        unfold Builtin.«set.__init__» noKeywords Builtin.Frozenset.updateFrom
        generalize hPI : pyIter = PI
        wp_walk
        subst hPI

        refine wpAny_pyIter_list hl1 ?_
        refine wpAny_bind (wpAny_runValue ?_)
        have hlS : l < s.heap.objs.size := Heap.lt_size hol
        have hh3 : A.in1.in1.in1.handled = none := by simp [hh]
        have hz1 : (s.heap.push { cls := .type "set", dict := none, data := .set #[] 0 (.fresh 0 0 (!w.params.followText "set-order")) }).objs.size = s.heap.objs.size + 1 := Heap.size_push ..
        have hneI : l ≠ (s.heap.push { cls := .type "set", dict := none, data := .set #[] 0 (.fresh 0 0 (!w.params.followText "set-order")) }).objs.size := by
          rw [Heap.size_push]; exact Nat.ne_of_lt (Nat.lt_succ_of_lt hlS)
        have hSf : s.heap.objs.size ∉ [(s.heap.push { cls := .type "set", dict := none, data := .set #[] 0 (.fresh 0 0 (!w.params.followText "set-order")) }).objs.size, l] := by
          rw [Heap.size_push]; simp only [List.mem_cons, List.mem_singleton, List.not_mem_nil, or_false, not_or]
          exact ⟨Nat.ne_of_lt (Nat.lt_succ_self _), Nat.ne_of_gt hlS⟩
        have hval : ∀ (i : Nat) (v : Value), items[i]? = some v → ∃ k t, ns[i]? = some k ∧ v = .str k t := fun i v hv => by
          have hi : i < ns.length := by rw [← hisz]; exact (Array.getElem?_eq_some_iff.mp hv).1
          obtain ⟨t, e⟩ := GmS.strsAt hit i v (by rw [Array.getElem?_toList]; exact hv)
          refine ⟨ns[i], t, List.getElem?_eq_getElem hi, ?_⟩
          rw [e, List.getD_eq_getElem?_getD, List.getElem?_eq_getElem hi] <;> rfl
        refine set_update_strs ((Walks.list hh3 _ l hneI items).toS) s.heap.objs.size
          hSf ns hisz hb hval (items.size - 0) 0 _ (by omega) (Nat.zero_le _)
          ⟨⟨_, Heap.get?_push_size _ rfl, rfl, rfl⟩, (hl1.push _)⟩ ?hS0 ?hR
        case hS0 =>
          have hget : ((s.heap.push { cls := .type "set", dict := none, data := .set #[] 0 (.fresh 0 0 (!w.params.followText "set-order")) }).push { cls := .type "list_iterator", data := .fields #[.ref l, .int 0 0] }).get? s.heap.objs.size
              = some { cls := .type "set", dict := none, data := .set #[] 0 (.fresh 0 0 (!w.params.followText "set-order")) } := Heap.get?_push_of_some _ hS
          exact ⟨0, Nat.le_refl 0, setT_new_at hget⟩
        case hR =>
          intro s' c' hm hc' hS'
          obtain ⟨h', g2, d', tk', os'⟩ := s'
          have eg : g2 = s.gens := hm.gens
          have ed : d' = s.drawn := hm.drawn
          have eo : os' = s.os := hm.os
          subst eg; subst ed; subst eo
          show wpAny _ _ _ _ _ _
          refine wpAny_pure ?_
          show wpAny _ _ (ret Value.none) _ _ _
          rw [hisz] at hc'
          refine wpAny_pure ⟨rfl, h', tk', c', rfl, hS', hc', fun b o e => ?_⟩
          have hb0 : b < s.heap.objs.size := Heap.lt_size e
          have hb1 : b ≠ s.heap.objs.size := Nat.ne_of_lt hb0
          have hb2 : b ≠ (s.heap.push { cls := .type "set", dict := none, data := .set #[] 0 (.fresh 0 0 (!w.params.followText "set-order")) }).objs.size := by
            rw [Heap.size_push]; exact Nat.ne_of_lt (Nat.lt_succ_of_lt hb0)
          exact hm.heap b o (by simp only [List.mem_cons, List.mem_singleton, List.not_mem_nil, or_false, not_or]; exact ⟨hb1, hb2⟩) (Heap.get?_push_of_some _ (Heap.get?_push_of_some _ e))

      · cases r₂ with
        | error e => exact hr₂
        | ok fl₂ =>
          cases fl₂ with
          | ret r =>
            obtain ⟨rfl, h', tk, c', rfl, hS', hc', hk'⟩ := hr₂
            repeat (any_goals (first | assumption | wp_step))
            exact h _ _ _ hS' hc' hk'
          | _ => exact hr₂.elim
    | _ => exact hr.elim

end

end GmR

/-! sorted(list of texts) of any length; d.items() of a dict of texts or ints; sorted(d.items()) of texts and ints -/
namespace Gm
open PySem PySem.Spec PyProof.Rows L2 PySem.W
abbrev leS (a b : Str) : Bool := decide (a.cps.toList ≤ b.cps.toList)
theorem each_of_vals {xs : List V} {us : List Value} {β : Type} (f : β → V) : ∀ {bs : List β} {us : List Value}, Vals (bs.map f) us → EachIs (fun v b => RelV (f b) v) us bs
  | [], _, .nil => .nil
  | b :: bs, _, .cons h t => .cons h (each_of_vals (xs := xs) (us := us) f t)
theorem vals_of_each {β : Type} (f : β → V) : ∀ {us : List Value} {bs : List β}, EachIs (fun v b => RelV (f b) v) us bs → Vals (bs.map f) us
  | _, _, .nil => .nil
  | _, _, .cons h t => .cons h (vals_of_each f t)
section
variable {X : Cx}
def rSortedT (K : PySem.W.Frag) : List V → Hp → VK → Prop := fun vs H Q => ∃ (a : Addr) (xs : List Str), vs = [V.ref a] ∧ SqL K H a (xs.map V.str) ∧ xs.length ≤ sizeLine ∧
  ∀ p, H p = none → Q (.ref p) (upd H p (.lst ((xs.mergeSort leS).map V.str)))
theorem cr_sortedT (hu : X.A.units + 8 < cLine) : CallR X (.builtin "sorted") (rSortedT X.K) := by
  intro pins s σ H vs us Q I r h
  obtain ⟨a, xs, rfl, hs, hlen, q⟩ := h
  obtain ⟨its, rv, hl, _⟩ := I.list hs
  rw [Vals.ref1 r]
  have ev := each_of_vals (xs := []) (us := []) V.str rv
  refine sorted_data (vs := its) (bs := xs) (enc := PyData.str) (R := fun v b => RelV (V.str b) v) hl.isList ev (ev.mono fun v b ⟨t, e⟩ => ⟨[], by rw [e]; exact .str _ _⟩) (AllAlike.of fun b b' => by simp [alike]) (Sortable.others fun b => ⟨fun z => (nomatch z), fun _ z => (nomatch z)⟩) hlen
    (fun b _ => by simp only [PyData.depth]; omega) fun out ol oe => ?_
  have el : dataLe false PyData.str = leS := dataLe_str (fun b : Str => b)
  rw [el] at oe
  obtain ⟨ep, he'⟩ := PyProof.Rows.sortedAll_at s.heap its out.toArray
  have hlen2 : ((xs.mergeSort leS).map V.str).length ≤ sizeLine := by rw [List.length_map, List.length_mergeSort]; exact hlen
  exact ⟨.ref _, upd H (s.heap.objs.size + 1) (.lst ((xs.mergeSort leS).map V.str)), I.laid (t' := s.toks) (fun _ _ => PyProof.Rows.sortedAll_old) (Nat.le_succ _) ⟨hlen2, out, ep, vals_of_each V.str oe, he'⟩, rfl, q _ (I.hok.fresh (Nat.le_succ _))⟩
/-- d.items(), the view -/
def rItemsK : V → List V → Hp → VK → Prop := fun x xs H Q => ∃ (a : Addr) (kvs : List (L2.Key × V)), x = .ref a ∧ xs = [] ∧ H a = some (.dK kvs) ∧ ∀ p, H p = none → Q (.ref p) (upd H p (DX.itemsO p a))
theorem mt_itemsK : MtR X "dict.items" rItemsK := by
  intro pins s σ H x xs v us Q I rx rxs h
  obtain ⟨a, kvs, rfl, rfl, ha, q⟩ := h
  cases rx
  cases rxs
  obtain ⟨z, hd, xs', rel, o, es, ep, ho, hx, hdat, _⟩ := dk_of I.hok ha
  refine DT.callItems (es := es) (ep := ep) hd ⟨o, ho, hx, hdat⟩ ?_
  have hf : H s.heap.objs.size = none := I.hok.fresh (Nat.le_refl _)
  exact ⟨.ref s.heap.objs.size, upd H s.heap.objs.size (DX.itemsO s.heap.objs.size a), I.laid (t' := s.toks) (fun b u e => Heap.get?_push_of_some _ e) (Nat.le_refl _) (DX.itemsO_ok (Heap.get?_push_size _ rfl)), rfl, q _ hf⟩
abbrev encI (e : Str × Int) : PyData := .tuple [.str e.1, .int e.2]
abbrev entI (e : Str × Int) : L2.Key × V := (Sum.inr e.1, V.int e.2)
def rSortItK : List V → Hp → VK → Prop := fun vs H Q => ∃ (p a : Addr) (L : List (Str × Int)), vs = [.ref p] ∧ H p = some (DX.itemsO p a) ∧ H a = some (.dK (L.map entI)) ∧
  ∀ (H' : Hp) (l : Addr) (ps : List (Addr × Str × Int)), (∀ b o, H b = some o → H' b = some o) → ps.map (·.2) = L.mergeSort (dataLe false encI) → H' l = some (.lst (ps.map fun z => V.ref z.1)) →
    (∀ z ∈ ps, H' z.1 = some (.tup [.str z.2.1, .int z.2.2])) → Q (.ref l) H'
theorem pairs_get {P : Program} {w : World} : ∀ {es : List DictEntry} {vs : List (L2.Key × Value)}, Pairs (mixKind P w) es vs → ∀ {j : Nat} {kv : L2.Key × Value}, vs[j]? = some kv → ∃ en, es[j]? = some en ∧ keyIs kv.1 en.key = true ∧ en.val = kv.2
  | _, _, .nil, j, kv, h => by simp at h
  | _, _, .cons (e := en) h1 h2 t, 0, kv, h => by
    have : _ = kv := Option.some.inj h
    subst this
    exact ⟨_, rfl, h1, h2⟩
  | _, _, .cons h1 h2 t, j + 1, kv, h => by
    obtain ⟨en, e1, e2⟩ := pairs_get t (j := j) (by simpa using h)
    exact ⟨en, by simpa using e1, e2⟩
theorem each_get {α β : Type} {R : α → β → Prop} : ∀ {as : List α} {bs : List β}, as.length = bs.length → (∀ (j : Nat) (a : α) (b : β), as[j]? = some a → bs[j]? = some b → R a b) → EachIs R as bs
  | [], [], _, _ => .nil
  | [], _ :: _, h, _ => by simp at h
  | _ :: _, [], h, _ => by simp at h
  | a :: as, b :: bs, h, f => .cons (f 0 a b rfl rfl) (each_get (by simpa using h) fun j x y h1 h2 => f (j + 1) x y (by simpa using h1) (by simpa using h2))
theorem each_addr {T : Addr → Str × Int → Prop} : ∀ {out : List Value} {bs : List (Str × Int)}, EachIs (fun v b => ∃ a, v = Value.ref a ∧ T a b) out bs → ∃ ps : List (Addr × Str × Int), out = ps.map (fun z => Value.ref z.1) ∧ ps.map (·.2) = bs ∧ ∀ z ∈ ps, T z.1 z.2
  | _, _, .nil => ⟨[], rfl, rfl, fun _ h => nomatch h⟩
  | _, _, .cons (b := b) ⟨a, e, h⟩ t => by
    obtain ⟨ps, e1, e2, e3⟩ := each_addr t
    refine ⟨(a, b) :: ps, by rw [List.map_cons, ← e1, e], by rw [List.map_cons, e2], fun z hz => ?_⟩
    rcases List.mem_cons.mp hz with rfl | hz
    · exact h
    · exact e3 z hz
theorem cr_sortedItK (hc : X.calm = true) (hu : X.A.units + 8 < cLine) : CallR X (.builtin "sorted") rSortItK := by
  intro pins s σ H xs us Q I r h
  obtain ⟨p, a, L, rfl, hp, ha, q⟩ := h
  obtain rfl := Vals.ref1 r
  have view : s.heap.IsItemsView p a := (show ObjOk X.prog X.w H s.heap p (DX.itemsO p a) from I.hok p _ hp).1
  obtain ⟨z, hd, vs, rel, o, es, ep, ho, hx, hdat, _, hes, hn⟩ := dk_of I.hok ha
  have l1 : (L.map entI).length = vs.length := Paired.length rel
  rw [List.length_map] at l1 z
  have l2 : es.size = vs.length := by rw [← Array.length_toList]; exact hes.length
  have hh : X.A.handled = none := I.ok.hd hc
  refine DT.sortedI (es := es) (ep := ep) hh view ⟨o, ho, hx, hdat⟩ (by omega) fun h' tk as hk hlt hl hG => ?_
  have lak : as.length = L.length := by omega
  have nd : as.Nodup := List.Pairwise.imp (fun h => Nat.ne_of_lt h) hG.rise
  have pr : ∀ (j : Nat) (b : Addr) (e : Str × Int), as[j]? = some b → L[j]? = some e → ∃ t t', h'.get? b = some { cls := .type "tuple", data := .seq #[Value.str e.1 t, Value.int e.2 t'] } := by
    intro j b e hj he
    obtain ⟨en, hen, hg⟩ := hG.pairs j b hj
    have he' : (L.map entI)[j]? = some (entI e) := by rw [List.getElem?_map, he]; rfl
    obtain ⟨kv, hkv, r1, r2⟩ := LiI.paired_get rel he'
    obtain ⟨en', e1, e2, e3⟩ := pairs_get hes hkv
    have ee : en' = en := Option.some.inj (e1.symm.trans (by rw [Array.getElem?_toList]; exact hen))
    subst ee
    rw [← r1] at e2
    obtain ⟨t, ek⟩ := (show ∃ t, en'.key = Value.str e.1 t from keyIs_rel e2)
    obtain ⟨t', ev⟩ := (show ∃ t', kv.2 = Value.int e.2 t' from r2)
    rw [ek, e3, ev] at hg
    exact ⟨t, t', hg⟩
  have hob : (h'.push { cls := .type "list", data := .seq (as.map Value.ref).toArray }).get? h'.objs.size = some (seqObj "list" (as.map Value.ref).toArray 0) := Heap.get?_push_size _ rfl
  have ne0 : ∀ b o, h'.get? b = some o → b ≠ h'.objs.size := fun b o e => Nat.ne_of_lt (Heap.lt_size e)
  generalize hh2 : h'.push { cls := .type "list", data := .seq (as.map Value.ref).toArray } = h2 at hob ⊢
  have ka : ∀ b o, h'.get? b = some o → h2.get? b = some o := fun b o e => by rw [← hh2]; exact Heap.get?_push_of_some _ e
  have kb : ∀ b o, s.heap.get? b = some o → h2.get? b = some o := fun b o e => ka b o (hk b o e)
  have E0 : EachIs (fun v (e : Str × Int) => ∃ b, v = Value.ref b ∧ (b ∈ as ∧ ∃ t t', h'.get? b = some { cls := .type "tuple", data := .seq #[Value.str e.1 t, Value.int e.2 t'] })) (as.map Value.ref) L := by
    refine each_get (by rw [List.length_map]; exact lak) fun j v e h1 h2' => ?_
    rw [List.getElem?_map] at h1
    cases hj : as[j]? with
    | none => rw [hj] at h1; cases h1
    | some b =>
      rw [hj] at h1
      exact ⟨b, (Option.some.inj h1).symm, List.mem_of_getElem? hj, pr j b e hj h2'⟩
  refine list_sort_data (s := { s with heap := h2, toks := tk }) (vs := as.map Value.ref) (bs := L) (enc := encI) (n := 0) hob E0 (E0.mono fun v e ⟨b, ev, _, t, t', hg⟩ => ⟨[], by rw [ev]; exact .tuple (as := []) (ka _ _ hg) rfl rfl (.cons (as := []) (bs := []) (.str _ _) (.cons (as := []) (bs := []) (.int _ _) .nil)), List.not_mem_nil⟩)
    (AllAlike.of fun b b' => by simp [alike, alikeAll]) (Sortable.tuples fun b => ⟨_, _, rfl⟩) (by omega) (fun b _ => ?_) fun out ol oe => ?_
  · show X.A.units + 1 + 1 + (PyData.tuple [.str b.1, .int b.2]).depth < cLine
    simp only [PyData.depth, PyData.depthAll]
    omega
  · show EP X pins σ Q (.ref h'.objs.size) { s with heap := sortedHeap h2 h'.objs.size (as.map Value.ref) out.toArray, toks := tk }
    obtain ⟨ps, ep1, ep2, ep3⟩ := each_addr oe
    have kF : ∀ b o, b ≠ h'.objs.size → h2.get? b = some o → (sortedHeap h2 h'.objs.size (as.map Value.ref) out.toArray).get? b = some o := fun b o hb e => (PyProof.Rows.sortedHeap_old hb (Heap.lt_size e)).trans e
    have kS : ∀ b o, s.heap.get? b = some o → (sortedHeap h2 h'.objs.size (as.map Value.ref) out.toArray).get? b = some o := fun b o e => kF b o (ne0 _ _ (hk b o e)) (kb b o e)
    obtain ⟨eF, heF⟩ := PyProof.Rows.sortedHeap_at (vs := as.map Value.ref) (out := out.toArray) hob
    have I1 : Inv X pins σ H { s with heap := sortedHeap h2 h'.objs.size (as.map Value.ref) out.toArray, toks := tk } := I.kept (t' := tk) kS
    have hn0 : H h'.objs.size = none := I.hok.fresh (Nat.le_of_lt hlt)
    have hlen : (ps.map fun z => V.ref z.1).length ≤ sizeLine := by
      have e := congrArg List.length ep2
      rw [List.length_map, List.length_mergeSort] at e
      rw [List.length_map]
      omega
    have rv : Vals (ps.map fun z => V.ref z.1) out := by
      rw [ep1]
      exact vals_maps (fun z : Addr × Str × Int => V.ref z.1) (fun z => Value.ref z.1) ps fun _ _ => rfl
    have I2 : Inv X pins σ (upd H h'.objs.size (.lst (ps.map fun z => V.ref z.1))) { s with heap := sortedHeap h2 h'.objs.size (as.map Value.ref) out.toArray, toks := tk } :=
      I1.take (h' := sortedHeap h2 h'.objs.size (as.map Value.ref) out.toArray) (t' := tk) (fun b ob _ e => e) (I.fpOk (Nat.le_of_lt hlt) hn0) ⟨hlen, out, eF, rv, heF⟩
    obtain ⟨H2, I3, g, qt⟩ := DX.takeT (P := fun b vs => ∃ (e : Str × Int) (t t' : Nat), vs = [.str e.1, .int e.2] ∧ h'.get? b = some { cls := .type "tuple", data := .seq #[Value.str e.1 t, Value.int e.2 t'] }) I as _ I2 nd fun b hb => by
      obtain ⟨j, hj⟩ := List.mem_iff_getElem?.mp hb
      have hjl := (List.getElem?_eq_some_iff.mp hj).1
      obtain ⟨t, t', hg⟩ := pr j b (L[j]'(by omega)) hj (List.getElem?_eq_getElem _)
      have hbl : s.heap.objs.size ≤ b := Nat.le_of_lt (hG.above b hb)
      refine ⟨hbl, ?_, _, ⟨_, t, t', rfl, hg⟩, fun H3 => ⟨(by rw [sizeLine_eq]; show 2 ≤ 16777216; omega), [Value.str _ t, Value.int _ t'], .cons ⟨t, rfl⟩ (.cons ⟨t', rfl⟩ .nil), ⟨_, kF _ _ (ne0 _ _ hg) (ka _ _ hg), rfl, 0, rfl⟩⟩⟩
      rw [upd_ne (ne0 _ _ hg)]
      exact I.hok.fresh hbl
    have gr : ∀ b o, H b = some o → H2 b = some o := fun b o e => g b o (by rw [upd_ne (ne_of_none e hn0)]; exact e)
    refine ⟨.ref h'.objs.size, H2, I3, rfl, q H2 h'.objs.size ps gr ep2 (g _ _ upd_same) fun z' hz' => ?_⟩
    obtain ⟨hb, t, t', hg⟩ := ep3 z' hz'
    obtain ⟨vs, ⟨e, u, u', ev, hg'⟩, hH⟩ := qt z'.1 hb
    have same := Option.some.inj (hg.symm.trans hg')
    have e1 : z'.2.1 = e.1 ∧ z'.2.2 = e.2 := by
      injection same with _ _ s3
      injection s3 with s4
      have s5 := congrArg Array.toList s4
      injection s5 with s6 s7
      injection s7 with s8 _
      injection s6 with s9
      injection s8 with s10
      exact ⟨s9, s10⟩
    rw [ev, ← e1.1, ← e1.2] at hH
    exact hH
/-- up to the texts' order, if no text comes twice -/
theorem le_encI (a b : Str × Int) : dataLe false encI a b = true → ¬ b.1.cps.toList < a.1.cps.toList := by
  intro h
  have h : (!dataLt (encI b) (encI a)) = true := h
  intro c
  have : dataLt (encI b) (encI a) = true := by
    show dataLt (.tuple [.str b.1, .int b.2]) (.tuple [.str a.1, .int a.2]) = true
    rw [dataLt_pair (by simp [alike]) (by simp [alike])]
    have ne : PyData.eqv (.str b.1) (.str a.1) = false := by
      simp only [PyData.eqv, beq_eq_false_iff_ne]
      intro z
      rw [z] at c
      exact List.lt_irrefl _ c
    rw [if_neg (by rw [ne]; exact Bool.false_ne_true), dataLt_str]
    exact decide_eq_true c
  rw [this] at h
  cases h
end
end Gm

/-! the order of (text, number) -/
namespace Gm
open PySem PySem.Spec PyProof.Rows L2 PySem.W
theorem str_ext {a b : Str} (h : a.cps.toList = b.cps.toList) : a = b := by
  obtain ⟨⟨x⟩⟩ := a
  obtain ⟨⟨y⟩⟩ := b
  have h : x = y := h
  rw [h]
theorem lst_tri {a b : List Nat} (h1 : ¬ a < b) (h2 : ¬ b < a) : a = b := List.le_antisymm (List.not_lt.mp h2) (List.not_lt.mp h1)
theorem le_enc : dataLe false encI = fun a b => decide (a.1.cps.toList < b.1.cps.toList ∨ (a.1 = b.1 ∧ a.2 ≤ b.2)) := by
  funext a b
  show (!dataLt (.tuple [.str b.1, .int b.2]) (.tuple [.str a.1, .int a.2])) = _
  rw [dataLt_pair (by simp [alike]) (by simp [alike]), dataLt_str, dataLt_int]
  simp only [PyData.eqv, beq_iff_eq]
  by_cases e : b.1 = a.1
  · rw [if_pos e, e]
    have i : ¬ a.1.cps.toList < a.1.cps.toList := List.lt_irrefl _
    by_cases e2 : b.2 = a.2
    · rw [if_pos e2]
      simp [i, e2]
    · rw [if_neg e2]
      by_cases c : b.2 < a.2
      · have : ¬ a.2 ≤ b.2 := by omega
        simp [i, c, this]
      · have : a.2 ≤ b.2 := by omega
        simp [i, c, this]
  · rw [if_neg e]
    have e' : ¬ a.1 = b.1 := fun z => e z.symm
    by_cases c : b.1.cps.toList < a.1.cps.toList
    · have : ¬ a.1.cps.toList < b.1.cps.toList := List.lt_asymm c
      simp [c, e', this]
    · have : a.1.cps.toList < b.1.cps.toList := by
        by_cases d : a.1.cps.toList < b.1.cps.toList
        · exact d
        · exact absurd (str_ext (lst_tri c d)) e
      simp [c, this]
theorem sorted_enc (L : List (Str × Int)) : (L.mergeSort (dataLe false encI)).Pairwise fun a b => ¬ b.1.cps.toList < a.1.cps.toList := by
  have h := List.pairwise_mergeSort (le := dataLe false encI) (fun a b c h1 h2 => by
      rw [le_enc] at *
      have h1 := of_decide_eq_true h1
      have h2 := of_decide_eq_true h2
      refine decide_eq_true ?_
      rcases h1 with h1 | ⟨h1, g1⟩
      · rcases h2 with h2 | ⟨h2, g2⟩
        · exact .inl (List.lt_trans h1 h2)
        · exact .inl (by rw [← h2]; exact h1)
      · rcases h2 with h2 | ⟨h2, g2⟩
        · exact .inl (by rw [h1]; exact h2)
        · exact .inr ⟨h1.trans h2, by omega⟩) (fun a b => by
      rw [le_enc]
      simp only [Bool.or_eq_true, decide_eq_true_eq]
      by_cases c : a.1.cps.toList < b.1.cps.toList
      · exact .inl (.inl c)
      · by_cases d : b.1.cps.toList < a.1.cps.toList
        · exact .inr (.inl d)
        · have e := str_ext (lst_tri c d)
          by_cases g : a.2 ≤ b.2
          · exact .inl (.inr ⟨e, g⟩)
          · exact .inr (.inr ⟨e.symm, by omega⟩)) L
  refine h.imp fun {a b} q => ?_
  rw [le_enc] at q
  rcases of_decide_eq_true q with q | ⟨q, _⟩
  · exact List.lt_asymm q
  · rw [q]
    exact List.lt_irrefl _
end Gm

/-! the order of (number, text) -/
namespace Gm
open PySem PySem.Spec PyProof.Rows L2 PySem.W
abbrev encN (e : Int × Str) : PyData := .tuple [.int e.1, .str e.2]
theorem le_encN : dataLe false encN = fun a b => decide (a.1 < b.1 ∨ (a.1 = b.1 ∧ a.2.cps.toList ≤ b.2.cps.toList)) := by
  funext a b
  show (!dataLt (.tuple [.int b.1, .str b.2]) (.tuple [.int a.1, .str a.2])) = _
  rw [dataLt_pair (by simp [alike]) (by simp [alike]), dataLt_str, dataLt_int]
  simp only [PyData.eqv, beq_iff_eq]
  by_cases e : b.1 = a.1
  · rw [if_pos e, e]
    have i : ¬ a.1 < a.1 := by omega
    by_cases c : b.2.cps.toList < a.2.cps.toList
    · have : ¬ a.2.cps.toList ≤ b.2.cps.toList := fun z => (List.not_lt.mpr z) c
      have n : ¬ b.2 = a.2 := fun z => List.lt_irrefl _ (by rw [z] at c; exact c)
      simp [i, c, this, n]
    · have : a.2.cps.toList ≤ b.2.cps.toList := List.not_lt.mp c
      simp [i, c, this]
  · rw [if_neg e]
    have e' : ¬ a.1 = b.1 := fun z => e z.symm
    by_cases c : b.1 < a.1
    · have : ¬ a.1 < b.1 := by omega
      simp [c, e', this]
    · have : a.1 < b.1 := by omega
      simp [c, this]
/-- pairs that are in order already stay as they are -/
theorem sorted_encN {L : List (Int × Str)} (h : L.Pairwise fun a b => a.1 < b.1 ∨ (a.1 = b.1 ∧ a.2.cps.toList ≤ b.2.cps.toList)) : L.mergeSort (dataLe false encN) = L := by
  refine List.mergeSort_of_pairwise (h.imp fun {a b} q => ?_)
  rw [le_encN]
  exact decide_eq_true q
end Gm

/-! dict(zip(text, tuple)) -/
namespace PySem
section
variable {prog : Program} {w : World} {A : Around} {E : Value → Shared → Prop} {s : Shared} {z TI TO T i1 i2 : Addr} {fp1 fp2 : List Addr} {n1 n2 i : Nat} {P1 P2 : Nat → Value → Prop} {St1 St2 : Nat → Heap → Prop} {f : Bool} {oT : Obj}
theorem zipD2_next_item_held {Q : Value → Shared → Prop} (S : ZipSep2 z TI TO i1 i2 fp1 fp2) (D1 : Draws prog w A i1 fp1 n1 P1 St1) (D2 : Draws prog w A i2 fp2 n2 P2 St2)
    (hz : IsZipHeld s.heap z TI TO T f) (hT : s.heap.get? T = some oT) (hTI : IsTupOf2 s.heap TI (.ref i1) (.ref i2)) (st1 : St1 i s.heap) (st2 : St2 i s.heap) (hlt1 : i < n1) (hlt2 : i < n2)
    (hQ : ∀ x1 x2 h' tk, P1 i x1 → P2 i x2 → IsZipHeld h' z TI TO T true → St1 (i + 1) h' → St2 (i + 1) h' → IsTupOf2 h' s.heap.objs.size x1 x2 → h'.objs.size = s.heap.objs.size + 1 →
      (∀ c o, c ≠ z → c ≠ i1 → c ≠ i2 → s.heap.get? c = some o → h'.get? c = some o) → Q (.ref s.heap.objs.size) { s with heap := h', toks := tk }) :
    wpAny (model prog w) A (Builtin.«zip.__next__» ⟨[.ref z], []⟩) (fun fin s' => ∃ v, fin = .done (.ret v) ∧ Q v s') E s := by
  obtain ⟨hp, g, d, tk0, os⟩ := s
  show wpAny _ _ (field (.ref z) 2 >>= _) _ _ _
  refine wpAny_bind (wpAny_field hz rfl (x := .bool false) rfl ?_)
  show wpAny _ _ (field (.ref z) 3 >>= _) _ _ _
  refine wpAny_bind (wpAny_field hz rfl (x := .ref TI) rfl ?_)
  refine wpAny_bind (wpAny_seqItems hTI rfl ?_)
  show wpAny _ _ (Builtin.SmallTypes.ownedTupleIsFree (.ref z) >>= _) _ _ _
  refine wpAny_bind (wpAny_tupleHeld_zip hz hT fun h₁ hz₁ hs₁ => ?_)
  replace hs₁ : Heap.SameBut z hp h₁ := hs₁
  simp only [Bool.false_eq_true, if_false]
  refine wpAny_bind ?_
  rw [← Array.forIn_toList]
  simp only [List.forIn_cons, List.forIn_nil]
  refine wpAny_bind (wpAny_bind (wpAny_holding ?_))
  show wpAny _ _ (Builtin.SmallTypes.nextOf (.ref i1) >>= _) _ _ ⟨h₁, g, d, tk0, os⟩
  refine wpAny_bind (D1.item i _ _ _ hlt1 (D1.over st1 hs₁ S.zf1) fun x1 h₂ tk1 hx1 sn1 hs₂ => wpAny_pure ?_)
  replace hs₂ : Heap.SameBut i1 h₁ h₂ := hs₂
  refine wpAny_pure ?_
  refine wpAny_bind (wpAny_bind (wpAny_holding ?_))
  show wpAny _ _ (Builtin.SmallTypes.nextOf (.ref i2) >>= _) _ _ ⟨h₂, g, d, tk1, os⟩
  refine wpAny_bind (D2.item i _ _ _ hlt2 (D2.over (D2.over st2 hs₁ S.zf2) hs₂ S.sep1_2) fun x2 h₃ tk2 hx2 sn2 hs₃ => wpAny_pure ?_)
  replace hs₃ : Heap.SameBut i2 h₂ h₃ := hs₃
  refine wpAny_pure (wpAny_pure ?_)
  show wpAny _ _ (newTuple [x1, x2] >>= _) _ _ _
  refine wpAny_bind (wpAny_newTuple ?_)
  have hsz : h₃.objs.size = hp.objs.size := by rw [hs₃.1, hs₂.1, hs₁.1]
  have hz₃ : IsZipHeld h₃ z TI TO T true := hs₃.extBut _ _ S.zi2 (hs₂.extBut _ _ S.zi1 hz₁)
  have hk : ∀ c o, c ≠ z → c ≠ i1 → c ≠ i2 → hp.get? c = some o → h₃.get? c = some o := fun c o c1 c2 c3 e => hs₃.extBut _ _ c3 (hs₂.extBut _ _ c2 (hs₁.extBut _ _ c1 e))
  have j1 : St1 (i + 1) h₃ := D1.over sn1 hs₃ S.sep2_1
  refine wpAny_pure ⟨_, rfl, ?_⟩
  show Q (.ref h₃.objs.size) _
  have hp' : IsTupOf2 (h₃.push { cls := .type "tuple", data := .seq #[x1, x2] }) h₃.objs.size x1 x2 := Heap.get?_push_size _ rfl
  have hz4 : (h₃.push { cls := .type "tuple", data := .seq #[x1, x2] }).objs.size = h₃.objs.size + 1 := Heap.size_push ..
  rw [hsz] at hp' hz4 ⊢
  exact hQ _ _ _ tk2 hx1 hx2 (Heap.get?_push_of_some _ hz₃) (D1.frame _ _ _ j1 fun b _ o e => Heap.get?_push_of_some _ e) (D2.frame _ _ _ sn2 fun b _ o e => Heap.get?_push_of_some _ e) hp' hz4 fun c o c1 c2 c3 e => Heap.get?_push_of_some _ (hk c o c1 c2 c3 e)
theorem zipD2_next_end_held {Q : Fin → Shared → Prop} (S : ZipSep2 z TI TO i1 i2 fp1 fp2) (D1 : Draws prog w A i1 fp1 n1 P1 St1) (D2 : Draws prog w A i2 fp2 n2 P2 St2)
    (hz : IsZipHeld s.heap z TI TO T f) (hT : s.heap.get? T = some oT) (hTI : IsTupOf2 s.heap TI (.ref i1) (.ref i2)) (st1 : St1 i s.heap) (st2 : St2 i s.heap) (hle1 : i ≤ n1) (hle2 : i ≤ n2) (hend : i = n1 ∨ i = n2)
    (hE : ∀ h' tk e, (∀ c o, c ≠ z → c ≠ i1 → c ≠ i2 → s.heap.get? c = some o → h'.get? c = some o) → (∃ o, h'.get? e = some o ∧ o.cls = .type "StopIteration") → E (.ref e) { s with heap := h', toks := tk }) :
    wpAny (model prog w) A (Builtin.«zip.__next__» ⟨[.ref z], []⟩) Q E s := by
  obtain ⟨hp, g, d, tk0, os⟩ := s
  show wpAny _ _ (field (.ref z) 2 >>= _) _ _ _
  refine wpAny_bind (wpAny_field hz rfl (x := .bool false) rfl ?_)
  show wpAny _ _ (field (.ref z) 3 >>= _) _ _ _
  refine wpAny_bind (wpAny_field hz rfl (x := .ref TI) rfl ?_)
  refine wpAny_bind (wpAny_seqItems hTI rfl ?_)
  show wpAny _ _ (Builtin.SmallTypes.ownedTupleIsFree (.ref z) >>= _) _ _ _
  refine wpAny_bind (wpAny_tupleHeld_zip hz hT fun h₁ hz₁ hs₁ => ?_)
  replace hs₁ : Heap.SameBut z hp h₁ := hs₁
  simp only [Bool.false_eq_true, if_false]
  refine wpAny_bind ?_
  rw [← Array.forIn_toList]
  simp only [List.forIn_cons, List.forIn_nil]
  refine wpAny_bind (wpAny_bind (wpAny_holding ?_))
  show wpAny _ _ (Builtin.SmallTypes.nextOf (.ref i1) >>= _) _ _ ⟨h₁, g, d, tk0, os⟩
  by_cases hlt1 : i < n1
  · refine wpAny_bind (D1.item i _ _ _ hlt1 (D1.over st1 hs₁ S.zf1) fun x1 h₂ tk1 hx1 sn1 hs₂ => wpAny_pure ?_)
    replace hs₂ : Heap.SameBut i1 h₁ h₂ := hs₂
    refine wpAny_pure ?_
    have hi2 : i = n2 := by omega
    refine wpAny_bind (wpAny_bind (wpAny_holding ?_))
    show wpAny _ _ (Builtin.SmallTypes.nextOf (.ref i2) >>= _) _ _ ⟨h₂, g, d, tk1, os⟩
    refine wpAny_bind (D2.done ⟨h₂, g, d, tk1, os⟩ _ _ (by rw [← hi2]; exact D2.over (D2.over st2 hs₁ S.zf2) hs₂ S.sep1_2) fun q e hq he => ?_)
    exact hE q tk1 e (fun c o c1 c2 c3 x => hq _ _ c3 (hs₂.extBut _ _ c2 (hs₁.extBut _ _ c1 x))) he
  · have hi1 : i = n1 := by omega
    refine wpAny_bind (D1.done ⟨h₁, g, d, tk0, os⟩ _ _ (by rw [← hi1]; exact D1.over st1 hs₁ S.zf1) fun q e hq he => ?_)
    exact hE q tk0 e (fun c o c1 c2 c3 x => hq _ _ c2 (hs₁.extBut _ _ c1 x)) he
theorem wpAny_pyNext_zipD2_item_held {Q : Option Value → Shared → Prop} (S : ZipSep2 z TI TO i1 i2 fp1 fp2) (D1 : Draws prog w A.in1 i1 fp1 n1 P1 St1) (D2 : Draws prog w A.in1 i2 fp2 n2 P2 St2)
    (hz : IsZipHeld s.heap z TI TO T f) (hT : s.heap.get? T = some oT) (hTI : IsTupOf2 s.heap TI (.ref i1) (.ref i2)) (st1 : St1 i s.heap) (st2 : St2 i s.heap) (hlt1 : i < n1) (hlt2 : i < n2)
    (hQ : ∀ x1 x2 h' tk, P1 i x1 → P2 i x2 → IsZipHeld h' z TI TO T true → St1 (i + 1) h' → St2 (i + 1) h' → IsTupOf2 h' s.heap.objs.size x1 x2 → h'.objs.size = s.heap.objs.size + 1 →
      (∀ c o, c ≠ z → c ≠ i1 → c ≠ i2 → s.heap.get? c = some o → h'.get? c = some o) → Q (some (.ref s.heap.objs.size)) { s with heap := h', toks := tk }) :
    wpAny (model prog w) A (pyNext (.ref z)) Q E s := by
  have hTy : s.TypeIs (.ref z) "zip" := ⟨_, hz, rfl⟩
  unfold pyNext
  exact wpAny_bind (wpAny_attempt (wpAny_callSpecial?_slot (name := Str.ofString "__next__") hTy F.slot_zip_next
    (wpAny_call_entry F.slot_zip_next hTy F.entry_zip_next
      (zipD2_next_item_held S D1 D2 hz hT hTI st1 st2 hlt1 hlt2 fun x1 x2 h' tk y1 y2 b1 d1 d2 b5 b6 b7 => wpAny_pure (hQ x1 x2 h' tk y1 y2 b1 d1 d2 b5 b6 b7)) (F.args_zip_next_1 _))))
theorem wpAny_pyNext_zipD2_end_held {Q : Option Value → Shared → Prop} (S : ZipSep2 z TI TO i1 i2 fp1 fp2) (D1 : Draws prog w A.in1 i1 fp1 n1 P1 St1) (D2 : Draws prog w A.in1 i2 fp2 n2 P2 St2)
    (hz : IsZipHeld s.heap z TI TO T f) (hT : s.heap.get? T = some oT) (hTI : IsTupOf2 s.heap TI (.ref i1) (.ref i2)) (st1 : St1 i s.heap) (st2 : St2 i s.heap) (hle1 : i ≤ n1) (hle2 : i ≤ n2) (hend : i = n1 ∨ i = n2)
    (hQ : ∀ h' tk, (∀ c o, c ≠ z → c ≠ i1 → c ≠ i2 → s.heap.get? c = some o → h'.get? c = some o) → Q none { s with heap := h', toks := tk }) : wpAny (model prog w) A (pyNext (.ref z)) Q E s := by
  have hTy : s.TypeIs (.ref z) "zip" := ⟨_, hz, rfl⟩
  unfold pyNext
  refine wpAny_bind (wpAny_attempt (wpAny_callSpecial?_slot (name := Str.ofString "__next__") hTy F.slot_zip_next
    (wpAny_call_entry F.slot_zip_next hTy F.entry_zip_next (zipD2_next_end_held S D1 D2 hz hT hTI st1 st2 hle1 hle2 hend fun h' tk e hk he => ?_) (F.args_zip_next_1 _))))
  obtain ⟨o, ho, hc⟩ := he
  refine wpAny_bind (wpAny_isInstance (T := "StopIteration") (b := true) ⟨o, ho, hc⟩ isSubtype_stop ?_)
  exact wpAny_pure (hQ _ _ hk)
end
theorem PairArg.zipTx {prog : Program} {w : World} (z TI TO i1 i2 l2 : Addr) (D : ZipSep2 z TI TO i1 i2 [i1] [i2, l2]) (hl : l2 ≠ i2) (x : Str) (t : Tok) (ys : Array Value) :
    PairArg prog w "zip" z [z, TI, TO, i1, i2, l2] [z, TO, i1, i2] (min x.cps.size ys.size) (fun i k v => (∃ c u, x.cps[i]? = some c ∧ k = .str ⟨#[c]⟩ u) ∧ ys[i]? = some v)
      (fun h => IsZip h z TI TO .none ∧ IsTupOf2 h TI (.ref i1) (.ref i2) ∧ (∃ a b, IsTupOf2 h TO a b) ∧ h.IsStrIter i1 (strIterType x) x t 0 ∧ h.IsTupleIter i2 l2 0 ∧ h.IsTuple l2 ys) where
  type := fun s ok => ⟨_, ok.1, rfl⟩
  notDict := by decide
  keep := fun h h' ok hk => by
    obtain ⟨hz, hTI, ⟨a, b, hTO⟩, ⟨o1, h1, r1⟩, h2, hl2⟩ := ok
    exact ⟨hk _ _ hz, hk _ _ hTI, ⟨a, b, hk _ _ hTO⟩, ⟨o1, hk _ _ h1, r1⟩, h2.at fun o e => hk _ o e, hl2.at fun o e => hk _ o e⟩
  there := fun h ok b hb => by
    obtain ⟨hz, hTI, ⟨a, c, hTO⟩, ⟨o1, h1, _⟩, ⟨o2, h2, _⟩, ⟨o4, hl2, _⟩⟩ := ok
    simp only [List.mem_cons, List.not_mem_nil, or_false] at hb
    rcases hb with rfl | rfl | rfl | rfl | rfl | rfl
    all_goals first | exact ⟨_, hz⟩ | exact ⟨_, hTI⟩ | exact ⟨_, hTO⟩ | exact ⟨_, h1⟩ | exact ⟨_, h2⟩ | exact ⟨_, hl2⟩
  sub := fun b hb => by simp at hb ⊢; rcases hb with rfl | rfl | rfl | rfl <;> simp
  noKeys := fun A s Q E hA ok h => getAttrOr_miss_zip ok.1 rfl rfl rfl zip_no_keys (by decide +kernel) hA h
  iter := fun A s d Q E hA ok hd hdf h => by
    obtain ⟨hz, hTI, ⟨a, b, hTO⟩, h1, h2, hl2⟩ := ok
    simp only [List.mem_cons, List.not_mem_nil, or_false, not_or] at hdf
    obtain ⟨dz, dTI, dTO, di1, di2, dl2⟩ := hdf
    have d1 : Draws prog w A.in1 i1 [i1] x.cps.size (fun i v => ∃ c u, x.cps[i]? = some c ∧ v = .str ⟨#[c]⟩ u) (fun i h => h.IsStrIter i1 (strIterType x) x t i) := Draws.text (A := A.in1) hA i1 x t
    have d2 : Draws prog w A.in1 i2 [i2, l2] ys.size (fun i v => ys[i]? = some v) (fun i h => h.IsTupleIter i2 l2 i ∧ h.IsTuple l2 ys) := Draws.tuple (A := A.in1) hA i2 l2 hl ys
    refine wpAny_pyIter_zip hz (h z [z, TO, i1, i2] (fun i h => IsTupOf2 h TI (.ref i1) (.ref i2) ∧ h.IsStrIter i1 (strIterType x) x t i ∧ (h.IsTupleIter i2 l2 i ∧ h.IsTuple l2 ys) ∧
      ((IsZip h z TI TO .none ∧ ∃ a b, IsTupOf2 h TO a b) ∨ ∃ T f oT, IsZipHeld h z TI TO T f ∧ h.get? T = some oT ∧ T ≠ z ∧ T ≠ i1 ∧ T ≠ i2 ∧ T ≠ d)) s.heap s.toks ?_
      ⟨hTI, h1, ⟨h2, hl2⟩, .inl ⟨hz, a, b, hTO⟩⟩ (fun _ _ e => e) fun b hb => .inl hb)
    exact {
      off := fun hm => by
        simp only [List.mem_cons, List.not_mem_nil, or_false] at hm
        rcases hm with e | e | e | e
        · exact dz e
        · exact dTO e
        · exact di1 e
        · exact di2 e
      frame := fun i h₁ h₂ st hk => by
        obtain ⟨hTI, h1, h2, hz⟩ := st
        refine ⟨hk _ _ (Ne.symm dTI) hTI, d1.frame _ _ _ h1 fun b hb o e => hk b o (by rw [List.mem_singleton.mp hb]; exact Ne.symm di1) e, d2.frame _ _ _ h2 fun b hb o e => hk b o (by
          simp only [List.mem_cons, List.not_mem_nil, or_false] at hb
          rcases hb with rfl | rfl
          · exact Ne.symm di2
          · exact Ne.symm dl2) e, ?_⟩
        rcases hz with ⟨hz, a, b, hTO⟩ | ⟨T, f, oT, hz, hT, r1, r2, r3, r4⟩
        · exact .inl ⟨hk _ _ (Ne.symm dz) hz, a, b, hk _ _ (Ne.symm dTO) hTO⟩
        · exact .inr ⟨T, f, oT, hk _ _ (Ne.symm dz) hz, hk _ _ r4 hT, r1, r2, r3, r4⟩
      item := fun i s₁ Q₁ E₁ hi st hds hQ => by
        obtain ⟨hTI, h1, h2, hz⟩ := st
        have hix : i < x.cps.size := Nat.lt_of_lt_of_le hi (Nat.min_le_left ..)
        have hiy : i < ys.size := Nat.lt_of_lt_of_le hi (Nat.min_le_right ..)
        have lt : ∀ {c o}, s₁.heap.get? c = some o → s₁.heap.objs.size ≠ c := fun e => Nat.ne_of_gt (Heap.lt_size e)
        have n1 : s₁.heap.objs.size ≠ i1 := let ⟨_, e, _⟩ := h1; lt e
        have n2 : s₁.heap.objs.size ≠ i2 := let ⟨_, e, _⟩ := h2.1; lt e
        rcases hz with ⟨hz, a, b, hTO⟩ | ⟨T, f, oT, hz, hT, r1, r2, r3, r4⟩
        · refine wpAny_pyNext_zipD2_item (St1 := fun i h => h.IsStrIter i1 (strIterType x) x t i) (St2 := fun i h => h.IsTupleIter i2 l2 i ∧ h.IsTuple l2 ys) D d1 d2 hz hTI hTO h1 h2 hix hiy fun u u2 h' tk q1 q2 z' TO' h1' h2' hT hsz hk => ?_
          exact hQ s₁.heap.objs.size u u2 h' tk ⟨q1, q2⟩ (.inl ⟨_, hT, rfl, _, rfl⟩)
            ⟨hk _ _ D.TIz D.TITO D.TIi1 D.TIi2 hTI, h1', h2', .inr ⟨s₁.heap.objs.size, false, _, z', hT, lt hz, n1, n2, Nat.ne_of_gt hds⟩⟩
            fun c o hc e => hk c o (fun x => hc (by simp [x])) (fun x => hc (by simp [x])) (fun x => hc (by simp [x])) (fun x => hc (by simp [x])) e
        · refine wpAny_pyNext_zipD2_item_held (St1 := fun i h => h.IsStrIter i1 (strIterType x) x t i) (St2 := fun i h => h.IsTupleIter i2 l2 i ∧ h.IsTuple l2 ys) D d1 d2 hz hT hTI h1 h2 hix hiy fun u u2 h' tk q1 q2 z' h1' h2' hT' hsz hk => ?_
          exact hQ s₁.heap.objs.size u u2 h' tk ⟨q1, q2⟩ (.inl ⟨_, hT', rfl, _, rfl⟩)
            ⟨hk _ _ D.TIz D.TIi1 D.TIi2 hTI, h1', h2', .inr ⟨T, true, oT, z', hk _ _ r1 r2 r3 hT, r1, r2, r3, r4⟩⟩
            fun c o hc e => hk c o (fun x => hc (by simp [x])) (fun x => hc (by simp [x])) (fun x => hc (by simp [x])) e
      done := fun s₁ Q₁ E₁ st hQ => by
        obtain ⟨hTI, h1, h2, hz⟩ := st
        have hend : min x.cps.size ys.size = x.cps.size ∨ min x.cps.size ys.size = ys.size := by
          rcases Nat.le_total x.cps.size ys.size with h | h
          · exact .inl (Nat.min_eq_left h)
          · exact .inr (Nat.min_eq_right h)
        rcases hz with ⟨hz, a, b, hTO⟩ | ⟨T, f, oT, hz, hT, r1, r2, r3, r4⟩
        · exact wpAny_pyNext_zipD2_end (St1 := fun i h => h.IsStrIter i1 (strIterType x) x t i) (St2 := fun i h => h.IsTupleIter i2 l2 i ∧ h.IsTuple l2 ys) D d1 d2 hz hTI hTO h1 h2 (Nat.min_le_left ..) (Nat.min_le_right ..) hend fun h' tk hk => hQ h' tk fun c o hc e => hk c o (fun x => hc (by simp [x])) (fun x => hc (by simp [x])) (fun x => hc (by simp [x])) (fun x => hc (by simp [x])) e
        · exact wpAny_pyNext_zipD2_end_held (St1 := fun i h => h.IsStrIter i1 (strIterType x) x t i) (St2 := fun i h => h.IsTupleIter i2 l2 i ∧ h.IsTuple l2 ys) D d1 d2 hz hT hTI h1 h2 (Nat.min_le_left ..) (Nat.min_le_right ..) hend fun h' tk hk => hQ h' tk fun c o hc e => hk c o (fun x => hc (by simp [x])) (fun x => hc (by simp [x])) (fun x => hc (by simp [x])) e }
end PySem
namespace L2
open PySem PySem.Spec PyProof.Rows
theorem zt_sep {n b : Nat} (hb : b < n) : ZipSep2 (n + 4) (n + 2) (n + 3) n (n + 1) [n] [n + 1, b] := by
  constructor <;> first | (refine PySem.W.neN ?_; omega) | (intro z; simp only [List.mem_cons, List.not_mem_nil, or_false] at z; rcases z with z | z <;> (have z : (_ : Nat) = _ := z; omega)) | (intro z; have z : (_ : Nat) = _ := List.mem_singleton.mp z; omega) | (simp; done)
theorem kv_zip : ∀ (ks : List Key) {ys : List V} {us : List Value}, Vals ys us → KV (ks.zip ys) (ks.zip us)
  | [], _, _, _ => .nil
  | k :: ks, _, _, .nil => .nil
  | k :: ks, _, _, .cons h t => .cons ⟨rfl, h⟩ (kv_zip ks t)
/-- dict(zip(text, tuple)), one value for a letter -/
def tDictZip (K : PySem.W.Frag) (ta : TA) : TE := fun σ H Q => ta σ H fun vs H1 => ∃ (x : Str) (b : Addr) (ys : List V), vs = [.str x, .ref b] ∧ SqT K H1 b ys ∧ x.cps.size = ys.length ∧
  ∀ p, H1 p = none → Q (.ref p) (upd H1 p (.dK (mergeK [] ((x.cps.toList.map fun c => (Sum.inr (⟨#[c]⟩ : Str) : Key)).zip ys))))
theorem pe_dictZip {X : Cx} {e e2 : Expr} {ta : TA} {p p2 pos pos2 : Pos} (hc : X.calm = true) (hg : Gl X "dict") (hm : X.mg "dict" = none) (hv : bootBuiltins "dict" = some (.type "dict")) (hgz : Gl X "zip") (hmz : X.mg "zip" = none) (ha : PA X [e, e2] ta)
    (hs : starEach [e, e2] X.env = (false, eval e X.env) :: starEach [e2] X.env := by rfl) (hpl : (backTo pos2 (starEach [e2] X.env)).any (·.1) = false := by rfl)
    (hs1 : starEach [.Call (.Name "zip" p2) [e, e2] [] pos2] X.env = (false, eval (.Call (.Name "zip" p2) [e, e2] [] pos2) X.env) :: starEach [] X.env := by rfl) :
    PE X (.Call (.Name "dict" p) [.Call (.Name "zip" p2) [e, e2] [] pos2] [] pos) (tDictZip X.K ta) := by
  refine ⟨fun pins s σ H Q I hq => ?_⟩
  refine wpAny_Call_Name_kw (ld_blt I hg hm hv ?_)
  refine PyProof.Rows.callWith_type1 ?_ hs1 rfl
  rw [hs1]
  show wpAny _ _ (spliced ((false, eval (.Call (.Name "zip" p2) [e, e2] [] pos2) X.env) :: backTo pos (starEach [] X.env))) _ _ s
  refine Calls.spliced_cons ?_
  refine Call_ (ld_blt I hgz hmz PyProof.Rows.boot_zip (PyProof.Rows.callWith_type1 (thn (ha.run pos2 pins s σ H _ I hq) fun us s1 hh => ?_) hs hpl))
  obtain ⟨vs, H1, I1, r1, x, b, ys, rfl, hys, hl, q⟩ := hh
  cases r1 with
  | cons r rr =>
    cases rr with
    | cons r' rr =>
      cases rr
      obtain ⟨t, rfl⟩ := r
      cases r'
      obtain ⟨its2, rv2, p2', hlen⟩ := I1.tuple hys
      obtain ⟨o2, ho2, _⟩ := id p2'
      have lb : b < s1.heap.objs.size := Heap.lt_size ho2
      have e2 := rv2.length
      refine zip_begins2 (begins_text x t) (begins_tuple b its2.toArray) trivial p2' fun h' hz hTI hTO h1 h2 hsz hk => Calls.spliced_nil ?_
      have J : Inv X pins σ H1 { s1 with heap := h' } := I1.kept (t' := s1.toks) hk
      have sz : min x.cps.size its2.toArray.size = ys.length := by
        have e3 : its2.toArray.size = ys.length := by rw [e2]; simp
        rw [e3, hl, Nat.min_self]
      refine PySem.call_dict_pairs (s := { s1 with heap := h' }) (knd := mixKind X.prog X.w) (kvs := (x.cps.toList.map fun c => (Sum.inr (⟨#[c]⟩ : Str) : Key)).zip its2) (PairArg.zipTx _ _ _ _ _ b (zt_sep lb) (Nat.ne_of_lt (Nat.lt_succ_of_lt lb)) x t its2.toArray) (J.ok.hd hc) ⟨hz, hTI, ⟨_, _, hTO⟩, ⟨_, h1, rfl, rfl⟩, ⟨_, h2, rfl, rfl⟩, (let ⟨o, ho, r⟩ := p2'; ⟨o, hk _ _ ho, r⟩)⟩ ⟨?_, fun i key v ⟨⟨c, u, hc', ek⟩, hv'⟩ => ⟨Sum.inr ⟨#[c]⟩, ?_, ?_⟩⟩ (by rw [sz]; exact hlen) fun h'' tk hd' hk' => ?_
      · rw [sz, List.length_zip, List.length_map, Array.length_toList, hl, ← e2, Nat.min_self]
      · refine List.getElem?_zip_eq_some.mpr ⟨?_, by simpa using hv'⟩
        rw [List.getElem?_map, Array.getElem?_toList, hc']
        rfl
      · rw [ek]
        exact keyIs_str _ u
      · have kk : ∀ b o, s1.heap.get? b = some o → h''.get? b = some o := fun c o e => hk' c o (fun hm => by
          have lt := Heap.lt_size e
          simp only [List.mem_cons, List.not_mem_nil, or_false] at hm
          rcases hm with z | z | z | z
          · rw [z] at lt; exact absurd lt (Nat.not_lt.mpr (Nat.le_add_right _ _))
          · rw [z] at lt; exact absurd lt (Nat.not_lt.mpr (Nat.le_add_right _ _))
          · rw [z] at lt; exact absurd lt (Nat.lt_irrefl _)
          · rw [z] at lt; exact absurd lt (Nat.not_lt.mpr (Nat.le_add_right _ _))) (hk c o e)
        have hge : s1.heap.objs.size ≤ h'.objs.size := by omega
        have kvr : KV ((x.cps.toList.map fun c => (Sum.inr (⟨#[c]⟩ : Str) : Key)).zip ys) ((x.cps.toList.map fun c => (Sum.inr (⟨#[c]⟩ : Str) : Key)).zip its2) := kv_zip _ rv2
        have hlen2 : (mergeK [] ((x.cps.toList.map fun c => (Sum.inr (⟨#[c]⟩ : Str) : Key)).zip ys)).length ≤ sizeLine := by
          refine Nat.le_trans (length_mergeK _ []) ?_
          rw [List.length_zip, List.length_nil]
          have := Nat.min_le_right (x.cps.toList.map fun c => (Sum.inr (⟨#[c]⟩ : Str) : Key)).length ys.length
          omega
        have hm' : (h'.objs.size == sysModules) = false := beq_eq_false_iff_ne.mpr (Nat.ne_of_gt J.big)
        exact ⟨.ref h'.objs.size, upd H1 h'.objs.size (.dK (mergeK [] ((x.cps.toList.map fun c => (Sum.inr (⟨#[c]⟩ : Str) : Key)).zip ys))), I1.laid (t' := tk) kk hge (show ObjOk X.prog X.w _ _ _ (.dK _) from ⟨hlen2, hm', _, KV.merge kvr .nil, hd'⟩), rfl, q _ (I1.hok.fresh hge)⟩
end L2

/-! list of the pairs of zip(list, list), as `collect` makes it -/
namespace Gm
open PySem PySem.Spec PyProof.Rows L2 PySem.W
structure ZLow (S z TI TO i1 i2 l1 l2 : Addr) : Prop where
  z : z < S
  TI : TI < S
  TO : TO < S
  i1 : i1 < S
  i2 : i2 < S
  l1 : l1 < S
  l2 : l2 < S
def ZSt (z TI TO i1 i2 l1 l2 : Addr) (xs ys : Array Value) (S : Addr) (i : Nat) (h : Heap) : Prop :=
  IsPair h TI (.ref i1) (.ref i2) ∧ h.IsListIter i1 l1 i ∧ h.IsListIter i2 l2 i ∧ h.IsList l1 xs ∧ h.IsList l2 ys ∧
    ((IsZip h z TI TO .none ∧ ∃ a b, IsPair h TO a b) ∨ ∃ T f oT, IsZipHeld h z TI TO T f ∧ h.get? T = some oT ∧ S < T)
section
variable {prog : Program} {w : World} {A : Around} {E : Value → Shared → Prop} {s : Shared} {R : Result → Shared → Prop} {z TI TO i1 i2 l1 l2 S : Addr} {xs ys : Array Value}
theorem ZSt.keep (L : ZLow S z TI TO i1 i2 l1 l2) {i : Nat} {h h' : Heap} (st : ZSt z TI TO i1 i2 l1 l2 xs ys S i h) (hk : ∀ b o, b ≠ S → h.get? b = some o → h'.get? b = some o) : ZSt z TI TO i1 i2 l1 l2 xs ys S i h' := by
  obtain ⟨hTI, h1, h2, hl1, hl2, hz⟩ := st
  refine ⟨hk _ _ (Nat.ne_of_lt L.TI) hTI, h1.at fun o e => hk _ o (Nat.ne_of_lt L.i1) e, h2.at fun o e => hk _ o (Nat.ne_of_lt L.i2) e, hl1.at fun o e => hk _ o (Nat.ne_of_lt L.l1) e, hl2.at fun o e => hk _ o (Nat.ne_of_lt L.l2) e, ?_⟩
  rcases hz with ⟨hz, a, b, hTO⟩ | ⟨T, f, oT, hz, hT, r⟩
  · exact .inl ⟨hk _ _ (Nat.ne_of_lt L.z) hz, a, b, hk _ _ (Nat.ne_of_lt L.TO) hTO⟩
  · exact .inr ⟨T, f, oT, hk _ _ (Nat.ne_of_lt L.z) hz, hk _ _ (Nat.ne_of_gt r) hT, r⟩
theorem nxtZ {Q : Option Value → Shared → Prop} {i : Nat} (D : ZipApart z TI TO i1 i2 l1 l2) (L : ZLow S z TI TO i1 i2 l1 l2) (st : ZSt z TI TO i1 i2 l1 l2 xs ys S i s.heap) (hS : S < s.heap.objs.size) {x y : Value} (ex : xs[i]? = some x) (ey : ys[i]? = some y)
    (hQ : ∀ h', ZSt z TI TO i1 i2 l1 l2 xs ys S (i + 1) h' → IsPair h' s.heap.objs.size x y → h'.objs.size = s.heap.objs.size + 1 → (∀ c o, c ≠ z → c ≠ TO → c ≠ i1 → c ≠ i2 → s.heap.get? c = some o → h'.get? c = some o) → Q (some (.ref s.heap.objs.size)) { s with heap := h' }) :
    wpAny (model prog w) A (pyNext (.ref z)) Q E s := by
  obtain ⟨hTI, h1, h2, hl1, hl2, hz⟩ := st
  rcases hz with ⟨hz, a, b, hTO⟩ | ⟨T, f, oT, hz, hT, r⟩
  · refine wpAny_pyNext_zip_item D hz hTI hTO h1 h2 hl1 hl2 ex ey fun h' a1 a2 a3 a4 a5 a6 hk => hQ h' ?_ a5 a6 hk
    exact ⟨hk _ _ D.TIz D.TITO D.TIi1 D.TIi2 hTI, a3, a4, hl1.at fun o e => hk _ o D.l1z D.l1TO D.l1i1 D.l1i2 e, hl2.at fun o e => hk _ o D.l2z D.l2TO D.l2i1 D.l2i2 e, .inr ⟨s.heap.objs.size, false, _, a1, a5, hS⟩⟩
  · have n : ∀ {c : Addr}, c < S → T ≠ c := fun q => Nat.ne_of_gt (Nat.lt_trans q r)
    refine wpAny_pyNext_zip_item_held D hz hT hTI h1 h2 hl1 hl2 ex ey fun h' a1 a3 a4 a5 a6 hk => hQ h' ?_ a5 a6 fun c o c1 _ c3 c4 e => hk c o c1 c3 c4 e
    exact ⟨hk _ _ D.TIz D.TIi1 D.TIi2 hTI, a3, a4, hl1.at fun o e => hk _ o D.l1z D.l1i1 D.l1i2 e, hl2.at fun o e => hk _ o D.l2z D.l2i1 D.l2i2 e, .inr ⟨T, true, oT, a1, hk _ _ (n L.z) (n L.i1) (n L.i2) hT, r⟩⟩
theorem finZ {Q : Option Value → Shared → Prop} {i : Nat} (hh : A.handled = none) (D : ZipApart z TI TO i1 i2 l1 l2) (st : ZSt z TI TO i1 i2 l1 l2 xs ys S i s.heap) (hend : xs[i]? = none ∨ ys[i]? = none)
    (hQ : ∀ h', (∀ c o, c ≠ z → c ≠ TO → c ≠ i1 → c ≠ i2 → s.heap.get? c = some o → h'.get? c = some o) → Q none { s with heap := h' }) :
    wpAny (model prog w) A (pyNext (.ref z)) Q E s := by
  obtain ⟨hTI, h1, h2, hl1, hl2, hz⟩ := st
  rcases hz with ⟨hz, a, b, hTO⟩ | ⟨T, f, oT, hz, hT, r⟩
  · exact wpAny_pyNext_zip_end hh D hz hTI hTO h1 h2 hl1 hl2 hend fun h' hk => hQ h' fun c o c1 c2 c3 c4 e => hk c o (by first | exact c1 | exact c2 | exact c3 | exact c4) (by first | exact c2 | exact c1 | exact c3 | exact c4) (by first | exact c3 | exact c1 | exact c2 | exact c4) (by first | exact c4 | exact c3) e
  · exact wpAny_pyNext_zip_end_held hh D hz hT hTI h1 h2 hl1 hl2 hend fun h' hk => hQ h' fun c o c1 _ c3 c4 e => hk c o c1 c3 c4 e
structure MadeZ (xs ys : Array Value) (lo : Addr) (h : Heap) (as : List Addr) : Prop where
  rise : as.Pairwise (· < ·)
  above : ∀ a ∈ as, lo < a
  pairs : ∀ (j : Nat) (a : Addr), as[j]? = some a → ∃ x y, xs[j]? = some x ∧ ys[j]? = some y ∧ IsPair h a x y
theorem MadeZ.there {lo : Addr} {h : Heap} {as : List Addr} (g : MadeZ xs ys lo h as) {a : Addr} (ha : a ∈ as) : a < h.objs.size := by
  obtain ⟨j, hj⟩ := List.mem_iff_getElem?.mp ha
  obtain ⟨_, _, _, _, e⟩ := g.pairs j a hj
  exact Heap.lt_size e
theorem loopZ (hh : A.handled = none) (D : ZipApart z TI TO i1 i2 l1 l2) (L : ZLow S z TI TO i1 i2 l1 l2) (hxy : xs.size = ys.size) (hn : xs.size ≤ sizeLine) (res : Value) {h₁ : Heap}
    (hR : ∀ h' tk acc c as, (∀ b o, b ≠ S → b ≠ z → b ≠ TO → b ≠ i1 → b ≠ i2 → h₁.get? b = some o → h'.get? b = some o) → h'.get? S = some { cls := .type "list", dict := none, data := .seq acc c, slots := #[] } → as.length = xs.size → MadeZ xs ys S h' as →
      acc.toList = as.map Value.ref → R (.ok (.ret res)) { s with heap := h', toks := tk }) :
    ∀ (k i : Nat) (h : Heap) (tk c : Nat) (acc : Array Value) (as : List Addr), xs.size - i = k → i ≤ xs.size → ZSt z TI TO i1 i2 l1 l2 xs ys S i h → (∀ b o, b ≠ S → b ≠ z → b ≠ TO → b ≠ i1 → b ≠ i2 → h₁.get? b = some o → h.get? b = some o) →
      h.get? S = some { cls := .type "list", dict := none, data := .seq acc c, slots := #[] } → acc.toList = as.map Value.ref → as.length = i → MadeZ xs ys S h as →
      codeAny (model prog w) A (.builtin "list.extend.loop" ⟨[.ref S, .ref z, res], []⟩) R { s with heap := h, toks := tk } := by
  have ab : ∀ {a c : Addr}, S < a → c < S → a ≠ c := fun h q => Nat.ne_of_gt (Nat.lt_trans q h)
  intro k
  induction k with
  | zero =>
    intro i h tk c acc as hk hi hst hkeep hS hacc hal hG
    refine codeAny_builtin PySem.F.entry_extend_loop ?_
    rw [Around.under_plainId PySem.F.plain_extend_loop _]
    show wpAny _ A.in1 (pyNext (.ref z) >>= _) _ _ _
    refine wpAny_bind (finZ (s := { s with heap := h, toks := tk }) (A := A.in1) hh D hst (.inl (Array.getElem?_eq_none (by omega))) fun h' he => ?_)
    refine wpAny_pure (hR h' tk acc c as (fun b o n0 n1 n2 n3 n4 e => he b o n1 n2 n3 n4 (hkeep b o n0 n1 n2 n3 n4 e)) (he S _ (Nat.ne_of_gt L.z) (Nat.ne_of_gt L.TO) (Nat.ne_of_gt L.i1) (Nat.ne_of_gt L.i2) hS) (by omega) ⟨hG.rise, hG.above, fun j a hj => ?_⟩ hacc)
    obtain ⟨x, y, e1, e2, e3⟩ := hG.pairs j a hj
    have g := hG.above a (List.mem_of_getElem? hj)
    exact ⟨x, y, e1, e2, he a _ (ab g L.z) (ab g L.TO) (ab g L.i1) (ab g L.i2) e3⟩
  | succ k ih =>
    intro i h tk c acc as hk hi hst hkeep hS hacc hal hG
    have hlt : i < xs.size := by omega
    have hsz : acc.size = i := by rw [← Array.length_toList, hacc, List.length_map, hal]
    have ex : xs[i]? = some (xs[i]'hlt) := Array.getElem?_eq_getElem hlt
    have ey : ys[i]? = some (ys[i]'(by omega)) := Array.getElem?_eq_getElem (by omega)
    have hSl : S < h.objs.size := Heap.lt_size hS
    refine codeAny_builtin PySem.F.entry_extend_loop ?_
    rw [Around.under_plainId PySem.F.plain_extend_loop _]
    show wpAny _ A.in1 (pyNext (.ref z) >>= _) _ _ _
    refine wpAny_bind (nxtZ (s := { s with heap := h, toks := tk }) D L hst hSl ex ey fun h' hst' ht hz hkp => ?_)
    dsimp only at ht hz hkp ⊢
    have hS' := hkp S _ (Nat.ne_of_gt L.z) (Nat.ne_of_gt L.TO) (Nat.ne_of_gt L.i1) (Nat.ne_of_gt L.i2) hS
    have up : ∀ b o, b ≠ S → h'.get? b = some o → (h'.update S (Obj.mapSeq (·.push (Value.ref h.objs.size)))).get? b = some o := fun b o hb e => (Heap.get?_update_other _ _ (Ne.symm hb)).trans e
    show wpAny _ A.in1 (updateSeq S (·.push (Value.ref h.objs.size)) >>= _) _ _ _
    refine wpAny_bind ?_
    refine wpAny_updateSeq hS' rfl (wpAny_pure ⟨plainId_quiet PySem.F.plain_extend_loop _, ih (i + 1) _ tk _ (acc.push (Value.ref h.objs.size)) (as ++ [h.objs.size]) (by omega) hlt (hst'.keep L up)
      (fun b o n0 n1 n2 n3 n4 e => up b o n0 (hkp b o n1 n2 n3 n4 (hkeep b o n0 n1 n2 n3 n4 e))) (Heap.get?_update_self _ hS' rfl) (by rw [Array.toList_push, hacc, List.map_append]; rfl) (by rw [List.length_append, hal]; rfl) ⟨?_, ?_, ?_⟩⟩) (by rw [hsz]; omega) (by show (acc.push (Value.ref h.objs.size)).size ≤ sizeLine + 1; rw [Array.size_push, hsz]; omega)
    · refine List.pairwise_append.mpr ⟨hG.rise, List.pairwise_singleton _ _, fun a ha b hb => ?_⟩
      rw [List.mem_singleton.mp hb]
      exact hG.there ha
    · intro a ha
      rcases List.mem_append.mp ha with ha | ha
      · exact hG.above a ha
      · rw [List.mem_singleton.mp ha]; exact hSl
    · intro j b hj
      rcases Nat.lt_trichotomy j as.length with h1 | h1 | h1
      · rw [List.getElem?_append_left h1] at hj
        obtain ⟨x, y, e1, e2, e3⟩ := hG.pairs j b hj
        have g := hG.above b (List.mem_of_getElem? hj)
        exact ⟨x, y, e1, e2, up b _ (Nat.ne_of_gt g) (hkp b _ (ab g L.z) (ab g L.TO) (ab g L.i1) (ab g L.i2) e3)⟩
      · subst h1
        have hb : h.objs.size = b := by simpa using hj
        subst hb
        subst hal
        exact ⟨_, _, ex, ey, up _ _ (Nat.ne_of_gt hSl) ht⟩
      · have hnone : (as ++ [h.objs.size])[j]? = none := List.getElem?_eq_none (by rw [List.length_append, List.length_singleton]; omega)
        rw [hnone] at hj; cases hj
end
end Gm

/-! sorted(zip(list, list)) up to the sort -/
namespace Gm
open PySem PySem.Spec PyProof.Rows L2 PySem.W
theorem zip_no_len : typeLookup (.type "zip") "__len__" = pure none := by rw [typeLookup_type, builtinLookup_eq_fast]; kernel_rfl
theorem zip_no_hint : typeLookup (.type "zip") "__length_hint__" = pure none := by rw [typeLookup_type, builtinLookup_eq_fast]; kernel_rfl
section
variable {prog : Program} {w : World} {A : Around} {E : Value → Shared → Prop} {s : Shared} {z TI TO i1 i2 l1 l2 : Addr} {xs ys : Array Value}
theorem collectZ {R : List Value → Shared → Prop} (hh : A.handled = none) (D : ZipApart z TI TO i1 i2 l1 l2) (hxy : xs.size = ys.size) (hn : xs.size ≤ sizeLine)
    (hz : IsZip s.heap z TI TO .none) (hTI : IsPair s.heap TI (.ref i1) (.ref i2)) {a0 b0 : Value} (hTO : IsPair s.heap TO a0 b0) (h1 : s.heap.IsListIter i1 l1 0) (h2 : s.heap.IsListIter i2 l2 0) (hl1 : s.heap.IsList l1 xs) (hl2 : s.heap.IsList l2 ys)
    (h : ∀ (h' : Heap) (tk : Nat) (as : List Addr), (∀ b o, b ≠ z → b ≠ TO → b ≠ i1 → b ≠ i2 → s.heap.get? b = some o → h'.get? b = some o) → s.heap.objs.size < h'.objs.size → as.length = xs.size → MadeZ xs ys s.heap.objs.size h' as → R (as.map Value.ref) { s with heap := h', toks := tk }) :
    wpAny (model prog w) A (collect (.ref z)) R E s := by
  have L : ZLow s.heap.objs.size z TI TO i1 i2 l1 l2 := ⟨Heap.lt_size hz, Heap.lt_size hTI, Heap.lt_size hTO, (let ⟨_, e, _⟩ := h1; Heap.lt_size e), (let ⟨_, e, _⟩ := h2; Heap.lt_size e), (let ⟨_, e, _⟩ := hl1; Heap.lt_size e), (let ⟨_, e, _⟩ := hl2; Heap.lt_size e)⟩
  have hSz : s.heap.objs.size ≠ z := Nat.ne_of_gt L.z
  unfold collect
  refine wpAny_bind (wpAny_runValue (codeAny_builtin PySem.F.entry_proto_collect ?_))
  rw [Around.under_plainId PySem.F.plain_proto_collect _]
  show wpAny _ A.in1 (newList [] >>= fun l => again (.builtin "list.__iadd__" ⟨[l, .ref z], []⟩)) _ _ s
  refine wpAny_bind (wpAny_newObj_type ?_)
  refine wpAny_pure ⟨plainId_quiet PySem.F.plain_list_iadd _, codeAny_builtin PySem.F.entry_list_iadd ?_⟩
  rw [Around.under_plainId PySem.F.plain_list_iadd _]
  have hz₁ : IsZip (s.heap.push { cls := .type "list", data := .seq ([] : List Value).toArray }) z TI TO .none := Heap.get?_push_of_some _ hz
  show wpAny _ A.in1 (Builtin.List.listExtendWith (.ref s.heap.objs.size) (.ref z) (.ref s.heap.objs.size)) _ _ _
  unfold Builtin.List.listExtendWith
  refine wpAny_bind (wpAny_typeOf (T := "zip") ⟨_, hz₁, rfl⟩ ?_)
  have k1 : Builtin.List.listSameRef (.ref s.heap.objs.size) (.ref z) = false := by simp [Builtin.List.listSameRef, hSz]
  have k2 : (Value.type "zip" == Value.type "list") = false := by decide
  have k3 : (Value.type "zip" == Value.type "tuple") = false := by decide
  simp only [k1, k2, k3, Bool.or_false, Bool.false_eq_true, if_false]
  refine wpAny_bind (wpAny_pyIter_zip hz₁ ?_)
  refine wpAny_bind (wpAny_holding ?_)
  unfold Builtin.List.listLengthHint
  refine wpAny_bind (wpAny_specialOf (T := "zip") ⟨_, hz₁, rfl⟩ zip_no_len ?_)
  show wpAny _ A.in1 (specialOf (Value.ref z) (Str.ofString "__length_hint__") >>= _) _ _ _
  refine wpAny_bind (wpAny_specialOf (T := "zip") ⟨_, hz₁, rfl⟩ zip_no_hint ?_)
  refine wpAny_pure ?_
  show wpAny _ A.in1 (rule "list.extend.makes-room" >>= fun _ => Builtin.List.listTouch (.ref s.heap.objs.size) >>= fun _ =>
    again (.builtin "list.extend.loop" ⟨[.ref s.heap.objs.size, .ref z, .ref s.heap.objs.size], []⟩)) _ _ _
  refine wpAny_bind (wpAny_rule ?_)
  have hS₁ : (s.heap.push { cls := .type "list", data := .seq ([] : List Value).toArray }).get? s.heap.objs.size = some { cls := .type "list", data := .seq ([] : List Value).toArray } := Heap.get?_push_size _ rfl
  refine wpAny_bind ?_
  show wpAny _ A.in1 (updateSeq s.heap.objs.size (·.push .none) >>= fun _ => updateSeq s.heap.objs.size (·.pop)) _ _ _
  refine wpAny_bind (wpAny_updateSeq hS₁ rfl ?_)
  have hS₂ := Heap.get?_update_self (Obj.mapSeq (·.push Value.none)) hS₁ rfl
  refine wpAny_updateSeq hS₂ rfl ?_
  have hS₃ := Heap.get?_update_self (Obj.mapSeq (·.pop)) hS₂ rfl
  have oth : ∀ b o, s.heap.get? b = some o →
      (((s.heap.push { cls := .type "list", data := .seq ([] : List Value).toArray }).update s.heap.objs.size (Obj.mapSeq (·.push Value.none))).update s.heap.objs.size (Obj.mapSeq (·.pop))).get? b = some o :=
    fun b o e => (Heap.get?_update_other _ _ (Nat.ne_of_gt (Heap.lt_size e))).trans ((Heap.get?_update_other _ _ (Nat.ne_of_gt (Heap.lt_size e))).trans (Heap.get?_push_of_some _ e))
  refine wpAny_pure ⟨plainId_quiet PySem.F.plain_extend_loop _, loopZ (s := s) (h₁ := s.heap) hh D L hxy hn (.ref s.heap.objs.size) (fun h' tk acc c as hk hS' hl hG hacc => ?_) xs.size 0 _ s.toks _ #[] [] (Nat.sub_zero _) (Nat.zero_le _)
    ⟨oth _ _ hTI, h1.at fun o e => oth _ o e, h2.at fun o e => oth _ o e, hl1.at fun o e => oth _ o e, hl2.at fun o e => oth _ o e, .inl ⟨oth _ _ hz, _, _, oth _ _ hTO⟩⟩ (fun b o _ _ _ _ _ e => oth b o e) hS₃ rfl rfl
    ⟨List.Pairwise.nil, (fun _ ha => nomatch ha), (fun j a hj => by simp at hj)⟩⟩
  show wpAny _ A (load s.heap.objs.size >>= _) _ _ _
  refine wpAny_bind (wpAny_load hS' ?_)
  refine wpAny_pure ?_
  show R acc.toList _
  rw [hacc]
  exact h h' tk as (fun b o n1 n2 n3 n4 e => hk b o (Nat.ne_of_lt (Heap.lt_size e)) n1 n2 n3 n4 e) (Heap.lt_size hS') hl hG
theorem sortedZ {Q : Value → Shared → Prop} (hh : A.handled = none) (D : ZipApart z TI TO i1 i2 l1 l2) (hxy : xs.size = ys.size) (hn : xs.size ≤ sizeLine)
    (hz : IsZip s.heap z TI TO .none) (hTI : IsPair s.heap TI (.ref i1) (.ref i2)) {a0 b0 : Value} (hTO : IsPair s.heap TO a0 b0) (h1 : s.heap.IsListIter i1 l1 0) (h2 : s.heap.IsListIter i2 l2 0) (hl1 : s.heap.IsList l1 xs) (hl2 : s.heap.IsList l2 ys)
    (h : ∀ (h' : Heap) (tk : Nat) (as : List Addr), (∀ b o, b ≠ z → b ≠ TO → b ≠ i1 → b ≠ i2 → s.heap.get? b = some o → h'.get? b = some o) → s.heap.objs.size < h'.objs.size → as.length = xs.size → MadeZ xs ys s.heap.objs.size h' as →
      wpAny (model prog w) A.in1 (call (.builtin "list.sort") [.ref h'.objs.size]) (fun _ s' => Q (.ref h'.objs.size) s') E { s with heap := h'.push { cls := .type "list", data := .seq (as.map Value.ref).toArray }, toks := tk }) :
    wpAny (model prog w) A (call (.builtin "sorted") [.ref z]) Q E s := by
  refine PySem.Calls.call_function_entry PyProof.Rows.kind_sorted PyProof.Rows.plain_sorted PyProof.Rows.entry_sorted (PyProof.Rows.args_sorted1 _) ?_
  unfold Builtin.«sorted»
  refine wpAny_bind (m := checkCount "sorted" 1 1 _) (wpAny_pure ?_)
  refine wpAny_bind (collectZ (A := A.in1) hh D hxy hn hz hTI hTO h1 h2 hl1 hl2 fun h' tk as hk hlt hl hG => ?_)
  refine wpAny_bind (wpAny_newList ?_ (by rw [List.length_map, hl]; exact hn))
  have hg := h h' tk as hk hlt hl hG
  refine wpAny_bind (wpAny_holding (wpAny_mono hg (fun _ s' x => ?_) fun _ _ e => e))
  exact wpAny_pure ⟨_, rfl, x⟩
end
end Gm

/-! sorted(set(list of texts)) -/
namespace GmR
open PySem PySem.Spec PyProof.Rows L2 PySem.W
def txtV (v : Value) : Str := match v with | .str k _ => k | _ => ⟨#[]⟩
theorem strs_of : ∀ (l : List Value), (∀ v ∈ l, ∃ k tk, v = Value.str k tk) → EachIs (fun v b => RelV (V.str b) v) l (l.map txtV)
  | [], _ => .nil
  | v :: l, h => by
    obtain ⟨k, tk, rfl⟩ := h v List.mem_cons_self
    exact .cons ⟨tk, rfl⟩ (strs_of l fun u hu => h u (List.mem_cons_of_mem _ hu))
theorem leS_sorted (L : List Str) : (L.mergeSort Gm.leS).Pairwise fun a b => ¬ b.cps.toList < a.cps.toList := by
  have h := List.pairwise_mergeSort (le := Gm.leS) (fun a b c h1 h2 => decide_eq_true (List.le_trans (of_decide_eq_true h1) (of_decide_eq_true h2))) (fun a b => by
      simp only [Bool.or_eq_true, decide_eq_true_eq]
      exact List.le_total _ _) L
  refine h.imp fun {a b} q => ?_
  exact List.not_lt.mpr (of_decide_eq_true q)
section
variable {P : Program} {w : World} {A : Around} {E : Value → Shared → Prop} {s : Shared} {a : Addr} {S : Str → Bool} {n : Nat}
theorem sorted_setT {Q : Value → Shared → Prop} (R : SetT w s.heap a S n) (hh : A.handled = none) (hn0 : n ≤ sizeLine) (hu : A.units + 8 < cLine)
    (hQ : ∀ s' p (out : List Value) (c : Nat) (ys : List Str), (∀ b o, s.heap.get? b = some o → s'.heap.get? b = some o) → s'.gens = s.gens → s'.os = s.os → s.heap.objs.size ≤ p →
      s'.heap.get? p = some (seqObj "list" out.toArray c) → Vals (ys.map V.str) out → ys.Pairwise (fun a b => ¬ b.cps.toList < a.cps.toList) → ys.Nodup → (∀ k, k ∈ ys ↔ S k = true) → ys.length = n → Q (.ref p) s') :
    wpAny (model P w) A (call (.builtin "sorted") [.ref a]) Q E s := by
  obtain ⟨o, es, ep, t, ho, hex, hd, g, nd, hm, hb, hf, hn, hr, hl⟩ := R
  refine Calls.call_function_entry kind_sorted plain_sorted entry_sorted (args_sorted1 _) ?_
  unfold Builtin.«sorted»
  refine wpAny_bind (m := checkCount "sorted" 1 1 _) (wpAny_pure ?_)
  refine wpAny_bind (collect_set (A := A.in1) hh ⟨o, ho, hex.1, hd⟩ hf hb hr hl fun s1 vs k1 hz g1 o1 pm => ?_)
  have hvl : vs.length = n := by rw [pm.length_eq, List.length_map, Array.length_toList]; exact hn
  have hI := strs_of vs fun v hv => by
    obtain ⟨e, he, q⟩ := List.mem_map.mp (pm.mem_iff.mp hv)
    obtain ⟨k, tk, h1, _⟩ := g e he
    exact ⟨k, tk, by rw [← q]; exact h1⟩
  have pk : (vs.map txtV).Perm (es.toList.map keyT) := by
    have q := pm.map txtV
    rw [List.map_map] at q
    exact q
  have pn : ((vs.map txtV).mergeSort Gm.leS).Perm (es.toList.map keyT) := (List.mergeSort_perm _ _).trans pk
  refine wpAny_bind (wpAny_newList ?_ (by rw [hvl]; exact hn0))
  have hoL : (s1.heap.push (seqObj "list" vs.toArray 0)).get? s1.heap.objs.size = some (seqObj "list" vs.toArray 0) := Heap.get?_push_size _ rfl
  refine wpAny_bind (wpAny_holding (list_sort_data (vs := vs) (bs := vs.map txtV) (enc := PyData.str) (n := 0) (R := fun v b => RelV (V.str b) v) hoL hI (hI.mono fun v b ⟨t, e⟩ => ⟨[], by rw [e]; exact .str _ _, List.not_mem_nil⟩)
    (AllAlike.of fun b b' => by simp [alike]) (Sortable.others fun b => ⟨fun z => (nomatch z), fun _ z => (nomatch z)⟩) (by rw [List.length_map, hvl]; exact hn0) (fun b _ => by show A.units + 1 + 1 + _ < cLine; simp only [PyData.depth]; omega) fun out ol oe => ?_))
  have el : dataLe false PyData.str = Gm.leS := dataLe_str (fun b : Str => b)
  rw [el] at oe
  obtain ⟨c, hc⟩ := sortedHeap_at (vs := vs) (out := out.toArray) hoL
  refine wpAny_pure ⟨_, rfl, hQ _ s1.heap.objs.size out c _ (fun b u e => ?_) g1 o1 hz hc (Gm.vals_of_each V.str oe) (leS_sorted _) (pn.nodup_iff.mpr nd) (fun k => by rw [pn.mem_iff, ← hm k]) ?_⟩
  · have q := k1 b u e
    have hlt := Heap.lt_size q
    show (sortedHeap (s1.heap.push (seqObj "list" vs.toArray 0)) s1.heap.objs.size vs out.toArray).get? b = some u
    rw [sortedHeap_old (Nat.ne_of_lt hlt) (by rw [size_push']; exact Nat.lt_succ_of_lt hlt)]
    exact Heap.get?_push_of_some _ q
  · rw [pn.length_eq, List.length_map, Array.length_toList]; exact hn
end
/-- sorted(set(xs)), xs a list of texts -/
def tSortSet (K : PySem.W.Frag) (ta : TE) : TE := fun σ H Q => ta σ H fun x H1 => ∃ (l : Addr) (xs : List Str), x = .ref l ∧ SqL K H1 l (xs.map V.str) ∧ xs.length + 1 < scanBound ∧
  ∀ (H' : Hp) (p : Addr) (ys : List Str), (∀ b o, H1 b = some o → H' b = some o) → H' p = some (.lst (ys.map V.str)) → ys.Pairwise (fun a b => ¬ b.cps.toList < a.cps.toList) → ys.Nodup → (∀ k, k ∈ ys ↔ k ∈ xs) → Q (.ref p) H'
theorem pe_sortedSet {X : Cx} {a : Expr} {ta : TE} {p p2 q pos : Pos} (hc : X.calm = true) (hu : X.A.units + 8 < cLine) (hg : Gl X "sorted") (hm : X.mg "sorted" = none) (hv : bootBuiltins "sorted" = some (.builtin "sorted")) (hg2 : Gl X "set") (hm2 : X.mg "set" = none) (ha : PE X a ta)
    (na : starEach [a] X.env = (false, eval a X.env) :: starEach [] X.env := by rfl)
    (hs1 : starEach [.Call (.Name "set" p2) [a] [] q] X.env = (false, eval (.Call (.Name "set" p2) [a] [] q) X.env) :: starEach [] X.env := by rfl) : PE X (.Call (.Name "sorted" p) [.Call (.Name "set" p2) [a] [] q] [] pos) (tSortSet X.K ta) := by
  refine ⟨fun pins s σ H Q I h => ?_⟩
  refine wpAny_Call_Name_kw (ld_blt I hg hm hv ?_)
  refine PyProof.Rows.callWith_builtin1 ?_ hs1 rfl
  rw [hs1]
  show wpAny _ _ (spliced ((false, eval (.Call (.Name "set" p2) [a] [] q) X.env) :: backTo pos (starEach [] X.env))) _ _ s
  refine Calls.spliced_cons ?_
  refine Call_ (ld_blt I hg2 hm2 boot_set ?_)
  refine PyProof.Rows.callWith_type1 (PyProof.Rows.args_cons (thn (ha.run pins s σ H _ I h) fun v s1 ⟨x, H1, I1, r1, q1⟩ => PyProof.Rows.args_nil ?_) na) na rfl
  obtain ⟨l, xs, rfl, hq, hsb, q1⟩ := q1
  cases r1
  obtain ⟨its, r, pl, hz⟩ := I1.list hq
  have hh : X.A.handled = none := I1.ok.hd hc
  refine call_set_lstS xs hh pl.isList (by simpa using L2.strsAre_of r) hsb fun h' tk c hS hc' hk => ?_
  refine Calls.spliced_nil ?_
  have hx : xs.length ≤ sizeLine := by unfold scanBound at hsb; rw [sizeLine_eq]; omega
  refine sorted_setT (s := { s1 with heap := h', toks := tk }) hS hh (by omega) hu fun s' p out c2 ys k g o hp hgp hv' hsrt hnd hmem hlen => ?_
  have hlenV : (ys.map V.str).length ≤ sizeLine := by rw [List.length_map]; omega
  have kk : ∀ b o, s1.heap.get? b = some o → s'.heap.get? b = some o := fun b o e => k b o (hk b o e)
  have hp1 : s1.heap.objs.size ≤ p := by
    have : s1.heap.objs.size ≤ h'.objs.size := by
      have := hS.lt
      exact Nat.le_of_lt this
    exact Nat.le_trans this hp
  have hn0 : H1 p = none := I1.hok.fresh hp1
  have J : Inv X pins σ (upd H1 p (.lst (ys.map V.str))) { s1 with heap := s'.heap, gens := s'.gens, drawn := s'.drawn, toks := s'.toks } :=
    I1.call (ch := []) (Un.laid kk hp1 hn0) (I1.hok.laid kk hp1 ⟨hlenV, out, c2, hv', hgp⟩) (by rw [g]; exact I1.bare) (fun _ z => nomatch z)
  have e : s' = { s1 with heap := s'.heap, gens := s'.gens, drawn := s'.drawn, toks := s'.toks } := by
    cases s'
    cases s1
    cases o
    rfl
  show EP X pins σ Q (.ref p) s'
  rw [e]
  exact ⟨.ref p, _, J, rfl, q1 _ p ys (fun b o eb => by rw [upd_ne (ne_of_none eb hn0)]; exact eb) upd_same hsrt hnd fun k => by rw [hmem k]; exact decide_eq_true_iff⟩
end GmR

/-! check_guesses, letters_at, most_copies, tried_by, tried (k19; by gen_ta.py) -/
namespace Gm
open PySem PySem.Spec PyProof.Rows L2





abbrev txs (ws : List (List Nat)) : List V := ws.map fun w => .str (tx w)
theorem txs_len (ws : List (List Nat)) : (txs ws).length = ws.length := List.length_map ..
theorem sm_tr {A B D : Hp} (x : Same A B) (y : Same B D) : Same A D := fun b o e => y _ _ (x _ _ e)
theorem cnt_tx (w : List Nat) (a : Nat) : Txt.count (tx w) (one a) = (w.count a : Nat) := by
  rw [PyProof.Rows.count_cnt]
  show PyProof.Rows.cnt a w = _
  induction w with
  | nil => rfl
  | cons b w ih =>
    rw [PyProof.Rows.cnt_cons, ih, List.count_cons]
    by_cases h : b = a <;> simp [h] <;> omega
theorem takeS {α : Type} {xs : List α} {i : Nat} {x : α} (h : xs[i]? = some x) : xs.take (i + 1) = xs.take i ++ [x] := by
  rw [List.take_succ_eq_append_getElem (List.getElem?_eq_some_iff.mp h).1, (List.getElem?_eq_some_iff.mp h).2]
theorem same_putN {H H' : Hp} {N : Addr} {o : HO} (s : Same H H') (n : H N = none) : Same H (upd H' N o) := fun b u e => by
  rw [upd_ne (ne_of_none e n)]
  exact s b u e
theorem same_free {H H' : Hp} {N : Addr} (s : Same H H') (n : H' N = none) : H N = none := by
  cases e : H N with
  | none => rfl
  | some o => exact absurd ((s _ _ e).symm.trans n) (by simp)
theorem at_txs {ws : List (List Nat)} {i : Nat} {x : V} (h : (txs ws)[i]? = some x) : ∃ w, ws[i]? = some w ∧ x = .str (tx w) := by
  rw [List.getElem?_map] at h
  cases e : ws[i]? with
  | none => rw [e] at h; cases h
  | some w => rw [e] at h; exact ⟨w, rfl, (Option.some.inj h).symm⟩
/-- the letters of the guesses at a place, ascending -/
def atL (l : List Nat) (gs : List (List Nat)) (i : Nat) : List Nat := l.filter fun c => decide (c ∈ gs.map fun g => g.getD i 0)
/-- the most copies of a letter in a guess -/
def mostC (gs : List (List Nat)) (c : Nat) : Int := mxDef 0 (gs.map fun g => ((g.count c : Nat) : Int))
/-- what tried tells -/
def TrAt (H : Hp) (T : Addr) (l : List Nat) (n : Nat) (gs : List (List Nat)) : Prop := ∃ A B : Addr, H T = some (.tup [.ref A, .ref B]) ∧ H A = some (.tup ((List.range n).map fun i => V.str (tx (atL l gs i)))) ∧ H B = some (.tup (l.map fun c => V.int (mostC gs c)))
def spChkG (C : Addr) : Sp := fun vs H Q _ => ∃ (b a : Addr) (l : List Nat) (n : Int) (gs : List (List Nat)), vs = [.ref b, .ref a] ∧ Bd C H b l n ∧ H a = some (.tup (txs gs)) ∧ gs.length ≤ 20 ∧ (∀ g ∈ gs, Wd l n g) ∧ ∀ H', Same H H' → Q .non H'
def spLatT (C : Addr) : Sp := fun vs H Q _ => ∃ (b a : Addr) (l : List Nat) (n : Int) (gs : List (List Nat)) (i : Nat), vs = [.ref b, .ref a, .int (i : Int)] ∧ Bd C H b l n ∧ H a = some (.tup (txs gs)) ∧ (∀ g ∈ gs, Wd l n g) ∧ gs.length ≤ 20 ∧ (i : Int) < n ∧ ∀ H', Same H H' → Q (.str (tx (atL l gs i))) H'
def spMost : Sp := fun vs H Q _ => ∃ (a : Addr) (gs : List (List Nat)) (c : Nat), vs = [.ref a, .str (one c)] ∧ H a = some (.tup (txs gs)) ∧ gs.length ≤ 20 ∧ (∀ g ∈ gs, g.length ≤ 6) ∧ ∀ H', Same H H' → Q (.int (mostC gs c)) H'
def spTrBy (C : Addr) : Sp := fun vs H Q _ => ∃ (b a : Addr) (l : List Nat) (n : Int) (gs : List (List Nat)), vs = [.ref b, .ref a] ∧ Bd C H b l n ∧ H a = some (.tup (txs gs)) ∧ (∀ g ∈ gs, Wd l n g) ∧ gs.length ≤ 20 ∧ ∀ H' T, Same H H' → H T = none → TrAt H' T l n.toNat gs → Q (.ref T) H'
section
variable {P : Program} {w : World} {K : PySem.W.Frag} {mg : Str → Option Value} {base : Heap} {C : Addr}
abbrev nCG : List Str := ["board", "guesses", "index", "guess"]
theorem scChkG : FnScope nCG ["board", "guesses"] (defScope sChkG) := ⟨rfl, rfl, rfl, by decide +kernel, rfl, by decide +kernel, by decide +kernel⟩
theorem ok_chkG {f C fR : Addr} {fd fdR : FuncData} (F : Fun K "check_guesses" "check_guesses" sChkG f fd) (tl : mg "len" = none) (te : mg "enumerate" = none) (ti : mg "isinstance" = none) (tt : mg "tuple" = none) (tm : ∃ t, mg "MOST_GUESSES" = some (.int 20 t)) (GR : FnOk P w K mg base CX0 2 fR fdR ["board", "value"] (spIsW K C none)) (DR : Df K mg "is_word" fR fdR ["board", "value"]) :
    FnOk P w K mg base CX0 3 f fd ["board", "guesses"] (spChkG C) := by
  refine F.ok scChkG (fun vs H Q E h => ?_) (fun cdv A outer s H vs Q E hr h => ?_)
  · obtain ⟨p, r, l, n, gs, rfl, _⟩ := h
    rfl
  · obtain ⟨p, r, l, n, gs, rfl, hb, hv, hl, ok, q⟩ := h
    have nd := scChkG.nd
    obtain ⟨t20, m20⟩ := tm
    refine ⟨_, pss_cons (ps_if (PW.pt (pw_or (pt_not (pt_val (pe_callB call_isi (by rfl) ti (by decide +kernel) (pa_cons (pv 1) (pa_cons (pe_bltn (v := .ty "tuple") (by rfl) tt (by decide +kernel) rfl) pa_nil))))) (pw_or1 (pt_cmpR op_gt (pe_callB call_len_seq (by rfl) tl PySem.boot_len (pa_cons (pv 1) pa_nil)) (pe_glob (v := .int 20) (by rfl) m20 ⟨_, rfl⟩) (nomark _))))) (pss_one ps_never) pss_nil)
      (pss_one (ps_for PassesOwn.never rfl (pi_enumT (by rfl) te (pa_cons (pv 1) pa_nil)) (pg_tup (by rfl) (pgs_cons (pg_name (i := 2) nd rfl (Or.inl rfl)) (pgs_cons (pg_name (i := 3) nd rfl (Or.inl rfl)) pgs_nil)))
        (pss_one (ps_if (pt_not (pt_val (pe_call GR hr (by rfl) DR.mg DR.kp DR.b .nil pass0 (pa_cons (pv 0) (pa_cons (pv 3) pa_nil))))) (pss_one ps_never) pss_nil)))), ?_⟩
    refine ⟨_, rfl, _, _, _, _, _, rfl, .ty "tuple", .base (.tup hv), kit_ty (r := true) (by decide +kernel), _, rfl, iteF ?_⟩
    refine ⟨_, rfl, r, _, rfl, .inr (SqT.of hv), _, _, rfl, rfl, _, rfl, ?_⟩
    rw [decide_eq_false (show ¬ (((txs gs).length : Nat) : Int) > 20 from by rw [txs_len]; omega)]
    refine iteF ⟨_, rfl, r, txs gs, rfl, SqT.of hv, for_it walk_iten (fun i σ H' => (∃ v2 v3 : Option V, σ = [some (.ref p), some (.ref r), v2, v3]) ∧ Same H H') ⟨⟨_, _, rfl⟩, Same.refl H⟩ (fun i σ H' _ ⟨_, sm⟩ => SqT.of (sm _ _ hv)) ?_ ?_⟩
    · rintro i x σ H1 H2 hi ⟨⟨v2, v3, rfl⟩, sm⟩ ⟨T, y, rfl, hT, rfl, hy⟩
      unfold txs at hy
      rw [List.getElem?_map] at hy
      obtain ⟨g, hg, rfl⟩ := Option.map_eq_some_iff.mp hy
      have sm2 : Same H (upd H1 T (.tup [.int (i : Nat), .str (tx g)])) := sm_tr sm (same_upd hT)
      refine ⟨T, _, rfl, SqT.of upd_same, rfl, _, _, rfl, _, _, rfl, rfl, ?_⟩
      have wd := ok g (List.mem_of_getElem? hg)
      have n6 := hb.2.2.2
      have wl := wd.1
      refine ⟨_, rfl, _, rfl, p, l, n, _, rfl, hb.same sm2, .inl ⟨g, rfl, by omega, fun H3 s3 => ⟨_, rfl, ?_⟩⟩⟩
      rw [decide_eq_true (show Wd ((none : Option (List Nat)).getD l) n g from wd)]
      exact iteF ⟨⟨_, _, rfl⟩, sm_tr sm2 s3⟩
    · rintro σ H1 ⟨_, sm⟩
      exact q _ sm
abbrev nLatT : List Str := ["board", "guesses", "place", "found", "guess", "letter"]
theorem scLatT : FnScope nLatT ["board", "guesses", "place"] (defScope sLatT) := ⟨rfl, rfl, rfl, by decide +kernel, rfl, by decide +kernel, by decide +kernel⟩
theorem ok_latT {f : Addr} {fd : FuncData} (F : Fun K "letters_at" "letters_at" sLatT f fd) (TC : TxC K mg C)
    : FnOk P w K mg base CX0 1 f fd ["board", "guesses", "place"] (spLatT C) := by
  refine F.ok scLatT (fun vs H Q E h => ?_) (fun cdv A outer s H vs Q E hr h => ?_)
  · obtain ⟨b, a, l, n, gs, i, rfl, _⟩ := h
    rfl
  · obtain ⟨b, a, l, n, gs, i, rfl, hb, ha, ok, lg, hi, q⟩ := h
    have nd := scLatT.nd
    have hline : sizeLine = 16777216 := sizeLine_eq
    refine ⟨_, pss_cons (ps_set (i := 3) nd rfl (Or.inr rfl) (pe_lc (own := [("guess", 4)]) (g := gName 4) (by rfl) nd (pi_tup (pv 1)) (blkOk_by (own := [("guess", 4)]) (N := nLatT) (sc := defScope sLatT) (by decide +kernel)) (fun _ _ _ _ _ => pg_name (i := 4) nd rfl (Or.inl rfl)) (fun _ _ _ _ _ => pts_nil) (fun _ _ _ _ _ => pe_ix ix_str (pv 4) (pv 2) (fun _ _ => rfl))))
      (pss_one (ps_ret (pe_join pe_str (pe_lc (tt := (tTest (tOp (rIn K false) (tVar 5) (tVar 3)))) (own := [("letter", 5)]) (g := gName 5) (by rfl) nd (pi_str (pe_fld (pv 0) rfl)) (blkOk_by (own := [("letter", 5)]) (N := nLatT) (sc := defScope sLatT) (by decide +kernel)) (fun _ _ _ _ _ => pg_name (i := 5) nd rfl (Or.inl rfl)) (fun _ _ _ _ _ => by exact pts_one (pt_cmpR op_in_seq (pv 5) (pv 3) rfl)) (fun _ _ _ _ _ => by exact (pv 5)))))), ?_⟩
    obtain ⟨⟨dx, eb⟩, l26, n1, n6⟩ := _root_.id hb
    have gi : ∀ {j : Nat} {g : List Nat}, gs[j]? = some g → g[i]? = some (g.getD i 0) := fun {j} {g} hg => by
      have wl := (ok g (List.mem_of_getElem? hg)).1
      have hi' : i < g.length := by omega
      rw [List.getD_eq_getElem?_getD, List.getElem?_eq_getElem hi']
      rfl
    refine ⟨_, rfl, a, rfl, ⟨_, SqT.of ha⟩, fun M zM => lc_tup (xs := txs gs) (fun j H' => Same H H' ∧ H' M = some (.lst (((gs.take j).map fun g => g.getD i 0).map fun c => V.str (one c)))) ⟨same_upd zM, upd_same⟩ (fun j H' _ h => SqT.of (h.1 _ _ ha)) ?_ ?_⟩
    · rintro j y H1 hy ⟨sm, hM⟩
      obtain ⟨g, hg, rfl⟩ := at_txs hy
      have wl := (ok g (List.mem_of_getElem? hg)).1
      refine ⟨rfl, ⟨_, rfl, _, rfl, tx g, _, g.getD i 0, rfl, rfl, by rw [tx_len]; omega, atI_nat (gi hg), _, hM, ?_, same_putN sm zM, ?_⟩⟩
      · rw [List.length_map, List.length_map, List.length_take]
        omega
      · rw [upd_same, takeS hg, List.map_append, List.map_append]
        rfl
    rintro H1 ⟨s1, hM⟩
    rw [txs_len, List.take_length] at hM
    have eb1 := s1 _ _ eb
    refine ⟨⟨_, rfl⟩, _, rfl, b, C, dx, _, _, rfl, eb1, TC.cl, TC.nL, bf_letters _ _, tx l, rfl, fun M2 zM2 => ?_⟩
    refine lc_it (walk_str (z := tx l)) (fun k H' => Same H1 H' ∧ H' M2 = some (.lst (((l.take k).filter fun c => decide (c ∈ gs.map fun g => g.getD i 0)).map fun c => V.str (one c)))) ⟨same_upd zM2, upd_same⟩ (fun _ _ _ _ => trivial) ?_ ?_
    · rintro k y Ha Hb hk ⟨sm, hM2⟩ ⟨rfl, c, hc, rfl⟩
      have hc' := tx_at hc
      refine ⟨rfl, ?_⟩
      refine ⟨_, rfl, _, rfl, M, _, rfl, .inl (SqL.of (sm _ _ hM)), rfl, by rw [List.all_map]; exact List.all_eq_true.mpr fun _ _ => rfl, _, rfl, ?_⟩
      show if inV (.str (one c)) ((gs.map fun g => g.getD i 0).map fun c => V.str (one c)) = true then _ else _
      rw [in_ones]
      by_cases h : c ∈ gs.map fun g => g.getD i 0
      · rw [if_pos (decide_eq_true h)]
        refine ⟨_, rfl, _, hM2, ?_, same_putN sm zM2, ?_⟩
        · rw [List.length_map]
          have := List.length_filter_le (fun c => decide (c ∈ gs.map fun g => g.getD i 0)) (l.take k)
          rw [List.length_take] at this
          omega
        · rw [upd_same, takeS hc', List.filter_append, List.filter_cons, if_pos (decide_eq_true h), List.filter_nil, List.map_append]
          rfl
      · rw [if_neg (by rw [decide_eq_false h]; exact Bool.false_ne_true)]
        refine ⟨sm, ?_⟩
        rw [hM2, takeS hc', List.filter_append, List.filter_cons, if_neg (by rw [decide_eq_false h]; exact Bool.false_ne_true), List.filter_nil, List.append_nil]
    rintro H2 ⟨s2, hM2⟩
    rw [tx_size, List.take_length] at hM2
    refine ⟨_, M2, (atL l gs i).map one, rfl, rfl, .inl (SqL.of (by rw [List.map_map]; exact hM2)), ?_, ?_⟩
    · rw [sum_one, List.length_map]
      have := List.length_filter_le (fun c => decide (c ∈ gs.map fun g => g.getD i 0)) l
      show (atL l gs i).length + (atL l gs i).length * 0 ≤ 16777216
      unfold atL
      omega
    · show Q (.str (Txt.join (Str.ofString "") ((atL l gs i).map one))) H2
      rw [join_one]
      exact q H2 (sm_tr s1 s2)
abbrev nMost : List Str := ["guesses", "letter", "guess"]
theorem scMost : FnScope nMost ["guesses", "letter"] (defScope sMost) := ⟨rfl, rfl, rfl, by decide +kernel, rfl, by decide +kernel, by decide +kernel⟩
theorem ok_most {f : Addr} {fd : FuncData} (F : Fun K "most_copies" "most_copies" sMost f fd) (tmax_ : mg "max" = none)
    : FnOk P w K mg base CX0 1 f fd ["guesses", "letter"] spMost := by
  refine F.ok scMost (fun vs H Q E h => ?_) (fun cdv A outer s H vs Q E hr h => ?_)
  · obtain ⟨a, gs, c, rfl, _⟩ := h
    rfl
  · obtain ⟨a, gs, c, rfl, ha, lg, g6, q⟩ := h
    have nd := scMost.nd
    have hline : sizeLine = 16777216 := sizeLine_eq
    have hu8 : (A.deeper (PyProof.Rows.envOfC "most_copies" (defScope sMost) s.heap.objs.size f cdv)).units + 8 < cLine := by have := hr.units; omega
    refine ⟨_, pss_one (ps_ret (pe_callBK (cr_maxDef rfl hu8) (by rfl) tmax_ (by decide +kernel) (pa_cons (pe_lc (own := [("guess", 2)]) (g := gName 2) (by rfl) nd (pi_tup (pv 0)) (blkOk_by (own := [("guess", 2)]) (N := nMost) (sc := defScope sMost) (by decide +kernel)) (fun _ _ _ _ _ => pg_name (i := 2) nd rfl (Or.inl rfl)) (fun _ _ _ _ _ => pts_nil) (fun _ _ _ _ _ => pe_m1 PySem.F.slot_str_count PySem.F.type_str_count mt_count (pv 2) (pv 1))) pa_nil) (pk_cons pe_int pk_nil))), ?_⟩
    refine ⟨_, rfl, a, rfl, ⟨_, SqT.of ha⟩, fun M zM => lc_tup (xs := txs gs) (fun j H' => Same H H' ∧ H' M = some (.lst (((gs.take j).map fun g => ((g.count c : Nat) : Int)).map V.int))) ⟨same_upd zM, upd_same⟩ (fun j H' _ h => SqT.of (h.1 _ _ ha)) ?_ ?_⟩
    · rintro j y H1 hy ⟨sm, hM⟩
      obtain ⟨g, hg, rfl⟩ := at_txs hy
      refine ⟨rfl, ⟨_, rfl, ⟨_, rfl⟩, _, rfl, tx g, one c, rfl, rfl, _, hM, ?_, same_putN sm zM, ?_⟩⟩
      · rw [List.length_map, List.length_map, List.length_take]
        omega
      · rw [upd_same, takeS hg, List.map_append, List.map_append, cnt_tx]
        rfl
    rintro H1 ⟨s1, hM⟩
    rw [txs_len, List.take_length] at hM
    exact ⟨M, _, 0, rfl, rfl, SqL.of hM, q _ s1⟩
abbrev nTrBy : List Str := ["board", "guesses", "letters", "numbers", "place", "letter"]
theorem scTrBy : FnScope nTrBy ["board", "guesses"] (defScope sTrBy) := ⟨rfl, rfl, rfl, by decide +kernel, rfl, by decide +kernel, by decide +kernel⟩
theorem ok_trby {f fL fM : Addr} {fd fdL fdM : FuncData} (F : Fun K "tried_by" "tried_by" sTrBy f fd) (TC : TxC K mg C) (tran_ : mg "range" = none) (ttup_ : mg "tuple" = none)
    (GL : FnOk P w K mg base CX0 1 fL fdL ["board", "guesses", "place"] (spLatT C)) (DL : Df K mg "letters_at" fL fdL ["board", "guesses", "place"])
    (GM : FnOk P w K mg base CX0 1 fM fdM ["guesses", "letter"] spMost) (DM : Df K mg "most_copies" fM fdM ["guesses", "letter"])
    : FnOk P w K mg base CX0 2 f fd ["board", "guesses"] (spTrBy C) := by
  refine F.ok scTrBy (fun vs H Q E h => ?_) (fun cdv A outer s H vs Q E hr h => ?_)
  · obtain ⟨b, a, l, n, gs, rfl, _⟩ := h
    rfl
  · obtain ⟨b, a, l, n, gs, rfl, hb, ha, ok, lg, q⟩ := h
    have nd := scTrBy.nd
    have hline : sizeLine = 16777216 := sizeLine_eq
    have hrL : Room 1 _ := hr.mono (by decide)
    have hrM : Room 1 _ := hr.mono (by decide)
    refine ⟨_, pss_cons (ps_set (i := 2) nd rfl (Or.inl rfl) (pe_callTy call_tuple_of (by rfl) ttup_ (by decide +kernel) (pa_cons (pe_lc (own := [("place", 4)]) (g := gName 4) (by rfl) nd (pi_range1 (by rfl) tran_ (pa_cons (pe_fld (pv 0) rfl) pa_nil)) (blkOk_by (own := [("place", 4)]) (N := nTrBy) (sc := defScope sTrBy) (by decide +kernel)) (fun _ _ _ _ _ => pg_name (i := 4) nd rfl (Or.inl rfl)) (fun _ _ _ _ _ => pts_nil) (fun _ _ _ _ _ => pe_call GL hrL (by rfl) DL.mg DL.kp DL.b .nil pass0 (pa_cons (pv 0) (pa_cons (pv 1) (pa_cons (pv 4) pa_nil))))) pa_nil)))
      (pss_cons (ps_set (i := 3) nd rfl (Or.inl rfl) (pe_callTy call_tuple_of (by rfl) ttup_ (by decide +kernel) (pa_cons (pe_lc (own := [("letter", 5)]) (g := gName 5) (by rfl) nd (pi_str (pe_fld (pv 0) rfl)) (blkOk_by (own := [("letter", 5)]) (N := nTrBy) (sc := defScope sTrBy) (by decide +kernel)) (fun _ _ _ _ _ => pg_name (i := 5) nd rfl (Or.inl rfl)) (fun _ _ _ _ _ => pts_nil) (fun _ _ _ _ _ => pe_call GM hrM (by rfl) DM.mg DM.kp DM.b .nil pass0 (pa_cons (pv 1) (pa_cons (pv 5) pa_nil)))) pa_nil)))
      (pss_one (ps_ret (pe_tup (pa_cons (pv 2) (pa_cons (pv 3) pa_nil)))))), ?_⟩
    obtain ⟨⟨dx, eb⟩, l26, n1, n6⟩ := _root_.id hb
    refine ⟨_, rfl, b, C, dx, _, _, rfl, eb, TC.cl, TC.nN, bf_length _ _, n, rfl, by omega, by omega, fun M zM => ?_⟩
    refine lc_range (lo := 0) (n := n.toNat) (fun i H' => Same H H' ∧ H' M = some (.lst ((List.range i).map fun i => V.str (tx (atL l gs i))))) ⟨same_upd zM, upd_same⟩ ?_ ?_
    · rintro i H1 hi ⟨sm, hM⟩
      refine ⟨rfl, ⟨_, rfl, _, rfl, _, rfl, b, a, l, n, gs, i, ?_, hb.same sm, sm _ _ ha, ok, lg, by omega, fun H2 s2 => ⟨_, s2 _ _ hM, ?_, same_putN (sm_tr sm s2) zM, ?_⟩⟩⟩
      · rw [Int.zero_add]
        rfl
      · rw [List.length_map, List.length_range]
        omega
      · rw [upd_same, List.range_succ, List.map_append]
        rfl
    rintro H1 ⟨s1, hM⟩
    refine ⟨M, _, rfl, .inl ⟨SqL.of hM, fun A1 zA => ?_⟩⟩
    have sA := same_upd (o := .tup ((List.range n.toNat).map fun i => V.str (tx (atL l gs i)))) zA
    have s1A := sm_tr s1 sA
    have eA : upd H1 A1 (.tup ((List.range n.toNat).map fun i => V.str (tx (atL l gs i)))) A1 = some (.tup ((List.range n.toNat).map fun i => V.str (tx (atL l gs i)))) := upd_same
    generalize upd H1 A1 (.tup ((List.range n.toNat).map fun i => V.str (tx (atL l gs i)))) = H2 at s1A eA ⊢
    have eb2 := s1A _ _ eb
    refine ⟨_, rfl, b, C, dx, _, _, rfl, eb2, TC.cl, TC.nL, bf_letters _ _, tx l, rfl, fun M2 zM2 => ?_⟩
    refine lc_it (walk_str (z := tx l)) (fun k H' => Same H2 H' ∧ H' M2 = some (.lst ((l.take k).map fun c => V.int (mostC gs c)))) ⟨same_upd zM2, upd_same⟩ (fun _ _ _ _ => trivial) ?_ ?_
    · rintro k y Ha Hb hk ⟨sm, hM2⟩ ⟨rfl, c, hc, rfl⟩
      have hc' := tx_at hc
      refine ⟨rfl, ⟨_, rfl, _, rfl, a, gs, c, rfl, sm _ _ (s1A _ _ ha), lg, fun g hg => by have := (ok g hg).1; omega, fun H3 s3 => ⟨_, s3 _ _ hM2, ?_, same_putN (sm_tr sm s3) zM2, ?_⟩⟩⟩
      · rw [List.length_map, List.length_take]
        omega
      · rw [upd_same, takeS hc', List.map_append]
        rfl
    rintro H3 ⟨s3, hM2⟩
    rw [tx_size, List.take_length] at hM2
    refine ⟨M2, _, rfl, .inl ⟨SqL.of hM2, fun B1 zB => ?_⟩⟩
    have sB := same_upd (o := .tup (l.map fun c => V.int (mostC gs c))) zB
    refine ⟨_, rfl, _, rfl, by show 2 ≤ sizeLine; omega, fun T zT => ?_⟩
    have sT := same_upd (o := .tup [.ref A1, .ref B1]) zT
    have sAll := sm_tr (sm_tr (sm_tr s1A s3) sB) sT
    refine q _ T sAll (same_free (sm_tr (sm_tr s1A s3) sB) zT) ⟨A1, B1, upd_same, sT _ _ (sB _ _ (s3 _ _ eA)), sT _ _ upd_same⟩
abbrev nTried : List Str := ["board", "guesses"]
theorem scTried : FnScope nTried ["board", "guesses"] (defScope sTried) := ⟨rfl, rfl, rfl, by decide +kernel, rfl, by decide +kernel, by decide +kernel⟩
theorem ok_tried {f fB fG fT : Addr} {fd fdB fdG fdT : FuncData} (F : Fun K "tried" "tried" sTried f fd)
    (GB : FnOk P w K mg base CX0 1 fB fdB ["board"] (spChkB C)) (DB : Df K mg "check_board" fB fdB ["board"])
    (GG : FnOk P w K mg base CX0 3 fG fdG ["board", "guesses"] (spChkG C)) (DG : Df K mg "check_guesses" fG fdG ["board", "guesses"])
    (GT : FnOk P w K mg base CX0 2 fT fdT ["board", "guesses"] (spTrBy C)) (DT : Df K mg "tried_by" fT fdT ["board", "guesses"])
    : FnOk P w K mg base CX0 4 f fd ["board", "guesses"] (spTrBy C) := by
  refine F.ok scTried (fun vs H Q E h => ?_) (fun cdv A outer s H vs Q E hr h => ?_)
  · obtain ⟨b, a, l, n, gs, rfl, _⟩ := h
    rfl
  · obtain ⟨b, a, l, n, gs, rfl, hb, ha, ok, lg, q⟩ := h
    have nd := scTried.nd
    have hline : sizeLine = 16777216 := sizeLine_eq
    have hrB : Room 1 _ := hr.mono (by decide)
    have hrG : Room 3 _ := hr.mono (by decide)
    have hrT : Room 2 _ := hr.mono (by decide)
    refine ⟨_, pss_cons (ps_expr (pe_call GB hrB (by rfl) DB.mg DB.kp DB.b .nil pass0 (pa_cons (pv 0) pa_nil)))
      (pss_cons (ps_expr (pe_call GG hrG (by rfl) DG.mg DG.kp DG.b .nil pass0 (pa_cons (pv 0) (pa_cons (pv 1) pa_nil))))
      (pss_one (ps_ret (pe_call GT hrT (by rfl) DT.mg DT.kp DT.b .nil pass0 (pa_cons (pv 0) (pa_cons (pv 1) pa_nil)))))), ?_⟩
    refine ⟨_, rfl, b, l, n, rfl, hb, ?_⟩
    refine ⟨_, rfl, _, rfl, b, a, l, n, gs, rfl, hb, ha, lg, ok, fun H1 s1 => ?_⟩
    refine ⟨_, rfl, _, rfl, b, a, l, n, gs, rfl, hb.same s1, s1 _ _ ha, ok, lg, fun H2 T s2 zT hT => q _ T (sm_tr s1 s2) (same_free s1 zT) hT⟩
end
end Gm

/-! one sign times a number -/
namespace L2
open PySem PySem.Spec PyProof.Rows Builtin Builtin.Str
theorem rep_fold (c : Nat) : ∀ (k : Nat) (acc : Array Nat), (List.replicate k #[c]).foldl (· ++ ·) acc = acc ++ (List.replicate k c).toArray
  | 0, acc => by simp
  | k + 1, acc => by
    rw [List.replicate_succ, List.foldl_cons, rep_fold c k, List.replicate_succ, Array.append_assoc]
    congr 1
    simp
theorem mul_sign {c : Nat} {n : Int} (h0 : 0 ≤ n) (h1 : n ≤ 1000) : MulOk ⟨#[c]⟩ n ∧ Txt.mul ⟨#[c]⟩ n = ⟨(List.replicate n.toNat c).toArray⟩ := by
  have l1 : (⟨#[c]⟩ : Str).length = 1 := rfl
  refine ⟨⟨?_, fun h2 _ => ?_, fun h2 _ => ?_⟩, ?_⟩
  · rw [decide_eq_false (by omega), decide_eq_false (by omega)]; rfl
  · rw [l1]
    have : (2 ^ 63 - 1 : Int) / n ≥ 1 := by
      refine Int.le_ediv_of_mul_le (by omega) ?_
      omega
    omega
  · rw [l1]
    unfold tooLong sizeLine
    exact decide_eq_false (by omega)
  · unfold Txt.mul
    by_cases h2 : n < 1
    · have : n = 0 := by omega
      subst this
      rfl
    · rw [if_neg h2]
      by_cases h3 : n = 1
      · subst h3
        rfl
      · rw [if_neg (by rw [l1]; simp [h3])]
        rw [rep_fold]
        simp
/-- c * n for one sign c -/
def rRepC : R2 := fun x y H Q => ∃ (c : Nat) (n : Int), x = .str ⟨#[c]⟩ ∧ y = .int n ∧ 0 ≤ n ∧ n ≤ 1000 ∧ Q (.str ⟨(List.replicate n.toNat c).toArray⟩) H
theorem op_repC {X : Cx} : OpR X (binaryOp .Mult) rRepC := by
  intro pins s σ H x y v u Q I rx ry h
  obtain ⟨c, n, rfl, rfl, h0, h1, q⟩ := h
  obtain ⟨t, rfl⟩ := rx
  obtain ⟨t', rfl⟩ := ry
  obtain ⟨ok, e⟩ := mul_sign (c := c) h0 h1
  rw [← e] at q
  exact SB.mul ok fun t2 k => ⟨.str (Txt.mul ⟨#[c]⟩ n), H, I.tok _, ⟨_, rfl⟩, q⟩
end L2

/-! _law_of of a list, _law_guesses (k19; by gen_tb.py) -/
namespace Gm
open PySem PySem.Spec PyProof.Rows L2

def spOfL : Sp := fun vs H Q _ => ∃ (p l : Addr) (xs : List V), vs = [.ref p, .ref l] ∧ BowlAt H p ∧ l ≠ p ∧ H l = some (.lst xs) ∧ 0 < xs.length ∧ xs.length ≤ 1000 ∧ ∀ H' v, Stir p H H' → v ∈ xs → Q v H'
def spGss : Sp := fun vs H Q _ => ∃ (p : Addr) (l : List Nat) (n m : Int), vs = [.ref p, .str (tx l), .int n, .int m] ∧ BowlAt H p ∧ 0 < l.length ∧ l.length ≤ 26 ∧ 1 ≤ n ∧ n ≤ 6 ∧ 0 ≤ m ∧ m ≤ 20 ∧
  ∀ H' T gs, Stir p H H' → T ≠ p → H' T = some (.tup (txs gs)) → gs.length ≤ 20 → (∀ g ∈ gs, Wd l n g) → Q (.ref T) H'
theorem txs_app (a b : List (List Nat)) : txs (a ++ b) = txs a ++ txs b := by simp [txs]
theorem txsW {l : List Nat} {n : Int} (h : 0 ≤ n) {c : Nat} (hc : c ∈ l) : Wd l n (List.replicate n.toNat c) := ⟨by rw [List.length_replicate]; omega, fun a ha => by rw [List.eq_of_mem_replicate ha]; exact hc⟩
section
variable {P : Program} {w : World} {K : PySem.W.Frag} {mg : Str → Option Value} {base : Heap}
theorem ok_ofL {f fD : Addr} {fd fdD : FuncData} (F : Fun K "_law_of" "_law_of" sOf f fd) (tl : mg "len" = none) (GD : FnOk P w K mg base CX0 1 fD fdD ["_law_bowl_here", "_law_many"] spDip) (DD : Df K mg "_law_dip" fD fdD ["_law_bowl_here", "_law_many"]) :
    FnOk P w K mg base CX0 2 f fd ["_law_bowl_here", "_law_things"] spOfL := by
  refine F.ok scOf (fun vs H Q E h => ?_) (fun cdv A outer s H vs Q E hr h => ?_)
  · obtain ⟨p, l, xs, rfl, _⟩ := h
    rfl
  · obtain ⟨p, l, xs, rfl, hp, nl, hl, l0, l1, q⟩ := h
    refine ⟨_, pss_one (ps_ret (pe_ix ix_list (pv 1) (pe_call GD hr (by rfl) DD.mg DD.kp DD.b .nil pass0 (pa_cons (pv 0) (pa_cons (pe_callB call_len_seq (by rfl) tl PySem.boot_len (pa_cons (pv 1) pa_nil)) pa_nil))) (fun _ _ => rfl))), ?_⟩
    refine ⟨_, rfl, _, rfl, _, rfl, l, _, rfl, .inl (SqL.of hl), p, _, rfl, hp, by omega, by omega, fun H1 d R d0 d1 => ?_⟩
    obtain ⟨j, rfl⟩ := Int.eq_ofNat_of_zero_le d0
    have hj : j < xs.length := by omega
    exact ⟨l, _, _, xs[j], rfl, rfl, SqL.of (R.1 _ _ nl hl), atI_nat (List.getElem?_eq_getElem hj), q H1 _ R (List.getElem_mem hj)⟩
abbrev nGss : List Str := ["_law_bowl_here", "_law_signs_here", "_law_size", "_law_most", "_law_found", "_law_turn"]
theorem scGss : FnScope nGss ["_law_bowl_here", "_law_signs_here", "_law_size", "_law_most"] (defScope sGss) := ⟨rfl, rfl, rfl, by decide +kernel, rfl, by decide +kernel, by decide +kernel⟩
theorem ok_gss {f fD fO fW : Addr} {fd fdD fdO fdW : FuncData} (F : Fun K "_law_guesses" "_law_guesses" sGss f fd) (tran_ : mg "range" = none) (ttup_ : mg "tuple" = none)
    (GD : FnOk P w K mg base CX0 1 fD fdD ["_law_bowl_here", "_law_many"] spDip) (DD : Df K mg "_law_dip" fD fdD ["_law_bowl_here", "_law_many"])
    (GO : FnOk P w K mg base CX0 2 fO fdO ["_law_bowl_here", "_law_things"] spOfT) (DO : Df K mg "_law_of" fO fdO ["_law_bowl_here", "_law_things"])
    (GW : FnOk P w K mg base CX0 3 fW fdW ["_law_bowl_here", "_law_signs_here", "_law_size"] spWord) (DW : Df K mg "_law_word" fW fdW ["_law_bowl_here", "_law_signs_here", "_law_size"])
    : FnOk P w K mg base CX0 4 f fd ["_law_bowl_here", "_law_signs_here", "_law_size", "_law_most"] spGss := by
  refine F.ok scGss (fun vs H Q E h => ?_) (fun cdv A outer s H vs Q E hr h => ?_)
  · obtain ⟨p, l, n, m, rfl, _⟩ := h
    rfl
  · obtain ⟨p, l, n, m, rfl, hp, l0, l26, n1, n6, m0, m20, q⟩ := h
    have nd := scGss.nd
    have hline : sizeLine = 16777216 := sizeLine_eq
    have hrD : Room 1 _ := hr.mono (by decide)
    have hrO : Room 2 _ := hr.mono (by decide)
    have hrW : Room 3 _ := hr.mono (by decide)
    refine ⟨_, pss_cons (ps_set (i := 4) nd rfl (Or.inl rfl) (pe_lst pa_nil))
      (pss_cons (ps_for PassesOwn.never rfl (pi_range1 (by rfl) tran_ (pa_cons (pe_call GD hrD (by rfl) DD.mg DD.kp DD.b .nil pass0 (pa_cons (pv 0) (pa_cons (pe_op op_add (pv 3) pe_int) pa_nil))) pa_nil)) (pg_name (i := 5) nd rfl (Or.inl rfl))
        (pss_one (ps_expr (pe_bm PySem.F.plainAttrs_list PySem.F.slot_list_append PySem.F.type_list_append mt_append (pv 4) (pa_cons (pe_ifExp (pt_cmpR op_eq (pe_call GD hrD (by rfl) DD.mg DD.kp DD.b .nil pass0 (pa_cons (pv 0) (pa_cons pe_int pa_nil))) pe_int (nomark _)) (pe_op op_repC (pe_call GO hrO (by rfl) DO.mg DO.kp DO.b .nil pass0 (pa_cons (pv 0) (pa_cons (pv 1) pa_nil))) (pv 2)) (pe_call GW hrW (by rfl) DW.mg DW.kp DW.b .nil pass0 (pa_cons (pv 0) (pa_cons (pv 1) (pa_cons (pv 2) pa_nil))))) pa_nil)))))
      (pss_one (ps_ret (pe_callTy call_tuple_of (by rfl) ttup_ (by decide +kernel) (pa_cons (pv 4) pa_nil))))), ?_⟩
    refine ⟨by show 0 ≤ sizeLine; omega, fun D zD => ?_⟩
    have nDp : D ≠ p := by
      obtain ⟨_, _, _, e⟩ := hp
      exact (ne_of_none e zD).symm
    have sD := same_upd (o := .lst []) zD
    have R0 : Stir p H (upd H D (.lst [])) := (Stir.refl hp).same sD
    refine ⟨_, rfl, _, rfl, _, _, rfl, rfl, p, _, rfl, R0.2, by omega, by omega, fun H1 k R1 k0 k1 => ?_⟩
    have R01 := R0.trans R1
    refine ⟨k, rfl, by omega, by omega, for_range (n := k.toNat) (fun i σ H' => ∃ (v5 : Option V) (gs : List (List Nat)), σ = [some (.ref p), some (.str (tx l)), some (.int n), some (.int m), some (.ref D), v5] ∧ Stir p H H' ∧ H' D = some (.lst (txs gs)) ∧ gs.length = i ∧ ∀ g ∈ gs, Wd l n g)
      ⟨_, [], rfl, R01, R1.1 _ _ nDp upd_same, rfl, fun g hg => absurd hg List.not_mem_nil⟩ ?_ ?_⟩
    · rintro i σ H2 hi ⟨v5, gs, rfl, R2, hD, lg, ok⟩
      have put : ∀ (H3 : Hp) (g : List Nat), Stir p H2 H3 → Wd l n g → ∃ (v5 : Option V) (gs' : List (List Nat)), ([some (.ref p), some (.str (tx l)), some (.int n), some (.int m), some (.ref D), some (.int (0 + (i : Nat)))] : L2.St) = [some (.ref p), some (.str (tx l)), some (.int n), some (.int m), some (.ref D), v5] ∧
          Stir p H (upd H3 D (.lst (txs gs ++ [.str (tx g)]))) ∧ upd H3 D (.lst (txs gs ++ [.str (tx g)])) D = some (.lst (txs gs')) ∧ gs'.length = i + 1 ∧ ∀ g ∈ gs', Wd l n g := fun H3 g R3 wg => by
        refine ⟨_, gs ++ [g], rfl, ?_, ?_, by rw [List.length_append, lg]; rfl, fun x hx => ?_⟩
        · obtain ⟨k1, x, y, z, e⟩ := R2.trans R3
          refine ⟨fun b o nb eb => ?_, x, y, z, by rw [upd_ne nDp.symm]; exact e⟩
          rw [upd_ne (ne_of_none eb zD)]
          exact k1 b o nb eb
        · rw [upd_same, txs_app]
          rfl
        · rcases List.mem_append.mp hx with hx | hx
          · exact ok x hx
          · rw [List.mem_singleton.mp hx]; exact wg
      have lz : (txs gs).length < sizeLine := by rw [txs_len]; omega
      refine ⟨_, rfl, .inl ⟨rfl, _, SqL.of hD⟩, ?_⟩
      refine ⟨_, rfl, p, 4, rfl, R2.2, by decide, by decide, fun H3 d R3 d0 d4 => ⟨rfl, _, rfl, ?_⟩⟩
      refine ite2 (fun h => ?_) (fun h => ?_)
      · refine ⟨_, rfl, _, rfl, p, l, rfl, R3.2, l0, by omega, fun H4 c R4 hc => ?_⟩
        have R34 := R3.trans R4
        refine ⟨_, rfl, c, n, rfl, rfl, by omega, by omega, D, _, _, rfl, rfl, R34.1 _ _ nDp hD, lz, ?_⟩
        exact put H4 _ R34 (txsW (by omega) hc)
      · refine ⟨_, rfl, _, rfl, _, rfl, p, l, n, rfl, R3.2, l0, by omega, by omega, n6, fun H4 ws R4 wl wm => ?_⟩
        have R34 := R3.trans R4
        refine ⟨D, _, _, rfl, rfl, R34.1 _ _ nDp hD, lz, ?_⟩
        exact put H4 _ R34 ⟨by omega, wm⟩
    · rintro σ H2 ⟨v5, gs, rfl, R2, hD, lg, ok⟩
      refine ⟨_, rfl, D, _, rfl, .inl ⟨SqL.of hD, fun T zT => ?_⟩⟩
      have nTp : T ≠ p := by
        obtain ⟨_, _, _, _, e⟩ := R2
        exact (ne_of_none e zT).symm
      exact q _ T gs (R2.same (same_upd zT)) nTp upd_same (by omega) ok
end
end Gm

/-! t[::-1] of a tuple -/
namespace HT
open PySem PySem.Spec PyProof.Rows
theorem adjust_rev (n : Nat) : Builtin.Slice.sliceAdjust none none (-1) (n : Int) = ((n : Int) - 1, -1) := by
  have h1 : ((-1 : Int) < 0) := by omega
  unfold Builtin.Slice.sliceAdjust
  simp only [h1, if_true]
theorem places_rev (n : Nat) : Builtin.Slice.slicePlaces ((n : Int) - 1) (-1) (-1) = n := by
  unfold Builtin.Slice.slicePlaces
  have h1 : ¬ ((-1 : Int) > 0) := by omega
  simp only [h1, if_false]
  split <;> simp <;> omega
theorem fm_congr {α β : Type} {f g : α → Option β} : ∀ l : List α, (∀ x ∈ l, f x = g x) → l.filterMap f = l.filterMap g
  | [], _ => rfl
  | a :: l, h => by rw [List.filterMap_cons, List.filterMap_cons, h a (List.mem_cons_self ..), fm_congr l fun x hx => h x (List.mem_cons_of_mem _ hx)]
theorem pick_rev (xs : Array Value) : ((List.range xs.size).filterMap fun (m : Nat) => xs[((xs.size : Int) - 1 + (m : Int) * (-1)).toNat]?) = xs.toList.reverse := by
  refine List.ext_getElem? fun i => ?_
  have e : ((List.range xs.size).filterMap fun (m : Nat) => xs[((xs.size : Int) - 1 + (m : Int) * (-1)).toNat]?) = (List.range xs.size).map fun m => xs.toList.getD (xs.size - 1 - m) .none := by
    rw [← List.filterMap_eq_map]
    refine fm_congr _ fun m hm => ?_
    have hm := List.mem_range.mp hm
    have e2 : ((xs.size : Int) - 1 + (m : Int) * (-1)).toNat = xs.size - 1 - m := by omega
    have hlt : xs.size - 1 - m < xs.size := by omega
    rw [e2, Array.getElem?_eq_getElem hlt]
    show _ = some (xs.toList.getD (xs.size - 1 - m) .none)
    rw [List.getD_eq_getElem?_getD, List.getElem?_eq_getElem (by rw [Array.length_toList]; exact hlt)]
    rfl
  rw [e, List.getElem?_map]
  by_cases hi : i < xs.size
  · rw [List.getElem?_range hi, List.getElem?_reverse (by rw [Array.length_toList]; exact hi), Array.length_toList]
    have hlt : xs.size - 1 - i < xs.toList.length := by rw [Array.length_toList]; omega
    show some (xs.toList.getD (xs.size - 1 - i) .none) = _
    rw [List.getD_eq_getElem?_getD, List.getElem?_eq_getElem hlt]
    rfl
  · rw [List.getElem?_eq_none (by rw [List.length_range]; omega), List.getElem?_eq_none (by rw [List.length_reverse, Array.length_toList]; omega)]
    rfl
section
variable {prog : Program} {w : World} {A : Around} {E : Value → Shared → Prop} {s : Shared}
theorem sliceApplied_rev {sl : Addr} {vl vu vs : Value} {n : Nat} {Q : Int × Int × Nat → Shared → Prop} (hs : s.heap.IsSliceOf sl vl vu vs) (pl : IsPart vl none) (pu : IsPart vu none) (ps : IsPart vs (some (-1)))
    (h : Q ((n : Int) - 1, -1, n) s) : wpAny (model prog w) A (Builtin.Slice.sliceApplied (.ref sl) (pure (n : Int))) Q E s := by
  obtain ⟨os, hos, hcs, hds⟩ := id hs
  unfold Builtin.Slice.sliceApplied Builtin.Slice.sliceFields
  refine wpAny_bind (wpAny_bind (wpAny_field hos hds (x := vl) rfl (wpAny_bind (wpAny_field hos hds (x := vu) rfl (wpAny_bind (wpAny_field hos hds (x := vs) rfl (wpAny_pure ?_)))))))
  refine wpAny_bind (slicePart_ ps ?_)
  show wpAny _ _ (if ((-1 : Int) == 0) = true then _ else _) _ _ s
  rw [if_neg (by decide)]
  refine wpAny_bind (slicePart_ pl (wpAny_bind (slicePart_ pu (wpAny_bind (wpAny_pure ?_)))))
  show wpAny _ _ (match Builtin.Slice.sliceAdjust none none (-1) (n : Int) with | (lo, hi) => pure (lo, (-1 : Int), Builtin.Slice.slicePlaces lo hi (-1))) _ _ s
  rw [adjust_rev n]
  show wpAny _ _ (pure ((n : Int) - 1, (-1 : Int), Builtin.Slice.slicePlaces ((n : Int) - 1) (-1) (-1))) _ _ s
  rw [places_rev]
  exact wpAny_pure h
theorem getItem_tuple_rev {t sl : Addr} {items : Array Value} {vl vu vs : Value} {Q : Value → Shared → Prop} (ht : IsTup s.heap t items) (hs : s.heap.IsSliceOf sl vl vu vs) (pl : IsPart vl none) (pu : IsPart vu none) (ps : IsPart vs (some (-1)))
    (h : Q (.ref s.heap.objs.size) { s with heap := s.heap.push { cls := .type "tuple", data := .seq items.toList.reverse.toArray } })
    (hsz : items.size ≤ sizeLine) : wpAny (model prog w) A (getItem (.ref t) (.ref sl)) Q E s := by
  have htake : sizeOk (.seq items.toList.reverse.toArray) := by
    show items.toList.reverse.toArray.size ≤ sizeLine
    rw [List.size_toArray, List.length_reverse, Array.length_toList]
    exact hsz
  obtain ⟨os, hos, hcs, hds⟩ := id hs
  have hTs : s.TypeIs (.ref sl) "slice" := ⟨os, hos, hcs⟩
  unfold getItem
  try with_reducible refine wpAny_holding ?_
  first | refine wpAny_bind (wpAny_pure ?_) | skip
  refine wpAny_bind (wpAny_sequenceKey ht.typeIs (by decide) ?_)
  refine wpAny_bind (wpAny_callSpecial?_slot (name := Str.ofString "__getitem__") ht.typeIs PyProof.Rows.slot_tuple_getitem
    (wpAny_call_entry PyProof.Rows.slot_tuple_getitem ht.typeIs entry_tuple_getitem ?_ (args_tuple_getitem _ _)))
  show wpAny _ _ (Builtin.Tuple.tupleItemsOf (.ref t) >>= _) _ _ s
  refine wpAny_bind (tupleItemsOf_ ht ?_)
  refine wpAny_bind (wpAny_typeOf hTs ?_)
  rw [if_pos (by decide)]
  refine wpAny_bind (sliceApplied_rev hs pl pu ps ?_)
  have hno : ¬ (((items.size : Int) - 1 == 0 && (-1 : Int) == 1 && items.size == items.size) = true) := by
    intro q
    rw [Bool.and_eq_true, Bool.and_eq_true] at q
    exact absurd q.1.2 (by decide)
  show wpAny _ _ (if ((items.size : Int) - 1 == 0 && (-1 : Int) == 1 && items.size == items.size) = true then _ else _) _ _ s
  rw [if_neg hno, pick_rev]
  first
    | exact wpAny_bind (m := Builtin.Tuple.tupleExact _) (wpAny_newObj_type (wpAny_pure ⟨_, rfl, wpAny_pure h⟩) htake)
    | exact wpAny_bind (m := Builtin.Tuple.tupleExact _) (wpAny_newObj_type (wpAny_bind (wpAny_pure (wpAny_pure ⟨_, rfl, wpAny_pure h⟩))) htake)
    | exact wpAny_bind (wpAny_bind (m := Builtin.Tuple.tupleExact _) (wpAny_newObj_type (wpAny_pure (wpAny_pure ⟨_, rfl, wpAny_pure h⟩)) htake))
    | exact wpAny_bind (wpAny_bind (m := Builtin.Tuple.tupleExact _) (wpAny_newObj_type (wpAny_pure ⟨_, rfl, wpAny_pure h⟩) htake))
end
end HT
namespace L2
open PySem PySem.Spec PyProof.Rows
section
variable {X : Cx}
def tRevT (K : PySem.W.Frag) (te : TE) : TE := fun σ H Q => te σ H fun x H1 => ∃ a xs, x = .ref a ∧ SqT K H1 a xs ∧ ∀ p, H1 p = none → Q (.ref p) (upd H1 p (.tup xs.reverse))
theorem pe_revT {e : Expr} {te : TE} {k : Nat} {p1 p2 p3 pos : Pos} (he : PE X e te) : PE X (.Subscript e (.Slice none none (some (.UnaryOp .USub (.Constant (.int 1) k p1) p2)) p3) pos) (tRevT X.K te) := by
  refine ⟨fun pins s σ H Q I h => ?_⟩
  refine Subscript_ (thn (he.run pins s σ H _ I h) fun v s1 ⟨x, H1, I1, r1, q1⟩ => ?_)
  obtain ⟨a, xs, ex, hx, q⟩ := q1
  subst ex
  cases r1
  have hst : PO X (some (.UnaryOp .USub (.Constant (.int 1) k p1) p2)) (tPart (tUn (rU fun i => .int (-i)) (tC (.int 1)))) := po_some (pe_un un_neg pe_int)
  refine wpAny_Slice (thn (po_none.run pins s1 σ H1 (fun o H2 => o = none ∧ H2 = H1) I1 ⟨rfl, rfl⟩) fun vl s2 ⟨l, H2, I2, pl, el, e2⟩ => ?_)
  subst el e2
  refine thn (po_none.run pins s2 σ H2 (fun o H3 => o = none ∧ H3 = H2) I2 ⟨rfl, rfl⟩) fun vu s3 ⟨u, H3, I3, pu, eu, e3⟩ => ?_
  subst eu e3
  refine thn (hst.run pins s3 σ H3 (fun o H4 => o = some (-1) ∧ H4 = H3) I3 ⟨1, rfl, -1, rfl, rfl, rfl⟩) fun vs s4 ⟨o, H4, I4, ps, eo, e4⟩ => ?_
  subst eo e4
  have I5 : Inv X pins σ H4 { s4 with heap := s4.heap.push { cls := .type "slice", data := .fields #[vl, vu, vs] } } := I4.kept (t' := s4.toks) fun b ob q => Heap.get?_push_of_some _ q
  obtain ⟨its, r, ht, hz⟩ := I5.tuple hx
  have hlen := r.length
  show wpAny (model X.prog X.w) X.A (subscriptTail e (.Slice none none (some (.UnaryOp .USub (.Constant (.int 1) k p1) p2)) p3) (.ref a) (.ref s4.heap.objs.size)) (EP X pins σ Q) X.xe { s4 with heap := s4.heap.push { cls := .type "slice", data := .fields #[vl, vu, vs] } }
  refine tail_any (ops := [.ref a, .ref s4.heap.objs.size]) ht.typeIs (PyProof.Rows.slot_tuple_getitem.lookup) ?_ (by with_unfolding_all rfl)
  refine HT.getItem_tuple_rev ht (Heap.IsSliceOf.new _ vl vu vs) pl pu ps ?_ (by rw [List.size_toArray]; omega)
  refine ⟨.ref _, _, I5.laid (t' := s4.toks) (o := .tup xs.reverse) (fun b ob q => Heap.get?_push_of_some _ q) (Nat.le_refl _) ?_, rfl, q _ (I5.hok.fresh (Nat.le_refl _))⟩
  exact ⟨by rw [List.length_reverse]; exact hz, _, r.reverse, IsTup.new _ _⟩
end
end L2

/-! several except clauses, each with a name -/
namespace L2
open PySem PySem.Spec PyProof.Rows
abbrev Clause := Value × Nat × (Addr → Value → Option Addr → TS)
/-- ends behind a suite: the clause's name is gone -/
def endsGone (D : Ends) (i : Nat) : Ends := { nx := fun σ H => D.nx (σ.set i none) H, rt := D.rt, bk := fun σ H => D.bk (σ.set i none) H, ct := fun σ H => D.ct (σ.set i none) H }
def wNamed (K : PySem.W.Frag) (Wo : WX) (D : Ends) : List Clause → WX
  | [] => Wo
  | k :: r => fun cl d σ H => ∃ b, PySem.W.exmOne K cl k.1 = some b ∧ (b = true → ∀ a, H a = none → k.2.2 a cl d (endsGone D k.2.1) (σ.set k.2.1 (some (.ref a))) H) ∧ (b = false → wNamed K Wo D r cl d σ H)
def wLen (n : Nat) (W : WX) : WX := fun cl d σ H => σ.length = n → W cl d σ H
structure ClauseOk (X : Cx) (x n : Str) (suite : List Stmt) (k : Clause) : Prop where
  names : Names X x k.1
  at_ : X.N[k.2.1]? = some n
  loc : X.env.kindOf n = some .local
  run : ∀ (a : Addr) (o : Obj) (cl : Value) (d : Option Addr) (pn : List (Addr × Obj)), Zc cl d o → (∃ vs, o.data = .fields vs) → PSs (X.suite a ((a, o) :: pn)) suite (k.2.2 a cl d)
inductive NamedOk (X : Cx) : List ExceptHandler → List Clause → Prop
  | nil : NamedOk X [] []
  | cons {x n : Str} {k : Clause} {b : Stmt} {su : List Stmt} {p1 p2 : Pos} {hd : List ExceptHandler} {l : List Clause} (ok : ClauseOk X x n (b :: su) k) (r : NamedOk X hd l) : NamedOk X (.ExceptHandler (some (.Name x p1)) (some n) (b :: su) p2 :: hd) (k :: l)
section
variable {X : Cx} {hd0 : ExceptHandler} {hds : List ExceptHandler} {l : List Clause} {pos : Pos} {body : List Stmt} {tb : WX → TS} {Wo : WX} {pins : List (Addr × Obj)} {σ : L2.St} {H : Hp} {D : Ends}
/-- try: body, then except C as n: .. clauses, each by a name of its own -/
theorem ps_try_named (st : X.stack = X.env :: X.outer) (fr : X.env.frame = some X.env.locals) (nd : X.N.Nodup) (take : Takes X Wo)
    (run : ∀ (W : WX) (pn : List (Addr × Obj)) (xe : Value → Shared → Prop), Takes (X.tr pn xe) W → PassesOwn (model X.prog X.w) X.A X.env xe → PSs (X.tr pn xe) body (tb W)) (all : NamedOk X (hd0 :: hds) l) :
    PS X (.Try body (hd0 :: hds) [] [] pos) (fun D σ H => tb (wLen X.N.length (wNamed X.K Wo D l)) D σ H) := by
  constructor
  intro pins s σ H D I h
  have okX := I.ok
  have frs_eq : X.A.frames = some (X.env :: X.outer) := okX.frames.trans (congrArg some st)
  apply wpAny_Try_except
  refine wpAny_mono ((run (wLen X.N.length (wNamed X.K Wo D l)) (X.pn ++ pins) (fun e r1 => wpAny (model X.prog X.w) X.A (noteFrame e X.env) (fun _ r2 => wpAny (model X.prog X.w) X.A (setFlight e none) (fun _ r3 => wpAny (model X.prog X.w) X.A (handleBy e X.env (hd0 :: hds)) (SP X pins D) X.xe r3) X.xe r2) X.xe r1) (fun u s' x => ?_) PassesOwn.looking).run [] s σ H D (I.toTry _) h) (fun f s1 e => ?_) (fun _ _ z => z)
  · obtain ⟨a, B, sI, ps', τ, G, cl, d, rfl, J0, nb, up, sk, ga, eo, ag, wish⟩ := x
    have J : Inv X pins τ G sI := J0.ofTry okX
    rw [st] at sk
    show wpAny (model X.prog X.w) X.A (noteFrame (.ref a) X.env) _ _ _
    refine Sky.land Zc.steady frs_eq fr sk fun g3 dn up3 => ?_
    have J3 : Inv X pins τ G { s' with heap := g3 } := J.landed nb dn.1 (up.trans up3) eo ag
    obtain ⟨o3, v3, ho, zo, fo⟩ := dn.there
    have off : a ∉ frs (X.env :: X.outer) := fun m => by
      obtain ⟨_, o', ho', no⟩ := dn.2.2.1.mem m
      exact no _ ((Option.some.inj (ho.symm.trans ho')) ▸ fo)
    have aL : a ≠ X.env.locals := fun z => off (List.mem_filterMap.mpr ⟨X.env, List.mem_cons_self, z ▸ fr⟩)
    have aF : a ∉ X.fs := fun m => by
      obtain ⟨e, i, q⟩ := List.mem_filterMap.mp m
      exact off (List.mem_filterMap.mpr ⟨e, List.mem_cons_of_mem _ i, q⟩)
    have S3 := J3.suite ho fo ga aL aF
    have each : ∀ {hd : List ExceptHandler} {l : List Clause}, NamedOk X hd l → wNamed X.K Wo D l cl d τ G → wpAny (model X.prog X.w) X.A (handleBy (.ref a) X.env hd) (SP X pins D) X.xe { s' with heap := g3 } := by
      intro hd l m
      induction m with
      | nil =>
        intro wish
        apply wpAny_handleBy_nil
        obtain ⟨k1, k2, k3, oe, vs, T, oT, t', e1, e2, e3, e4, e5⟩ := id dn
        unfold PySem.passOn
        refine wpAny_bind (wpAny_field e1 e3 e4 ?_)
        rw [if_neg (show ¬ ((Value.ref T == Value.none) = true) from by simp)]
        have out : wpAny (model X.prog X.w) X.A (setFlight (.ref a) X.env.frame) (fun _ r => wpAny (model X.prog X.w) X.A (throw (.ref a) : Sem Flow) (SP X pins D) X.xe r) X.xe { s' with heap := g3 } := by
          rw [fr]
          exact HandSPX.setFlight_upZ dn fun g4 k4 up4 => wpAny_throw (take _ _ ⟨a, B, sI, pins, τ, G, cl, d, rfl, J, nb, (up.trans up3).trans up4, .inr (.inr (st ▸ k4)), ga, eo, ag, wish⟩)
        first | exact wpAny_bind (wpAny_pure (wpAny_bind out)) | exact wpAny_bind out
      | @cons x n k b su p1 p2 hd2 l2 C m2 ih =>
        intro wish
        obtain ⟨v, isK, yes, no⟩ := wish
        refine wpAny_handleBy_cons (codeAny_handlers_test ?_) nofun
        have tyA : PySem.W.Looks (model X.prog X.w) g3 (typeOf (.ref a)) cl := fun A Q E r k q => wpAny_typeOf_ref (k _ _ ho) (zo.1.symm ▸ q)
        have ans := PySem.W.exm_one (M := model X.prog X.w) (J3.kIn) tyA isK
        have reads : ∀ {Q E : Value → Shared → Prop}, Q k.1 { s' with heap := g3 } → wpAny (model X.prog X.w) (X.A.mark (some (.ref a))) (eval (.Name x p1) X.env) Q E { s' with heap := g3 } := fun {Q E} q => by
          rcases C.names with ⟨n1, n2, n3 | ⟨n3, n4, n5⟩⟩
          · exact ld_glob (X := X.suite a ((a, o3) :: (X.pn ++ pins))) S3 n1 n3 q n2
          · exact ld_blt (X := X.suite a ((a, o3) :: (X.pn ++ pins))) S3 n1 n3 n4 q n5 n2
        refine reads (ans.here ?_)
        cases v with
        | false => exact ih (no rfl)
        | true =>
          apply codeAny_handlers_suite_as
          refine HandSPX.lands_againZ dn fun g4 dn4 up4 => ?_
          have J4 : Inv X pins τ G { s' with heap := g4 } := J.landed nb dn4.1 ((up.trans up3).trans up4) eo ag
          obtain ⟨o4, v4, h4, z4, f4⟩ := dn4.there
          refine store_ok (X := X.suite a ((a, o4) :: (X.pn ++ pins))) (v := .ref a) (J4.suite h4 f4 ga aL aF) nd C.at_ (.inl C.loc) rfl (fun s5 S5 => ?_) (.inr C.loc)
          refine wpAny_mono ((C.run a o4 cl d (X.pn ++ pins) z4 ⟨_, f4⟩).run [] s5 _ G _ S5 (yes rfl a ga)) (fun f s6 e => ?_) (fun _ _ z => z.elim)
          have bye : ∀ {σ6 : L2.St} {H6 : Hp} {Q : Shared → Prop}, Inv (X.suite a ((a, o4) :: (X.pn ++ pins))) [] σ6 H6 s6 → (∀ s7, Inv X pins (σ6.set k.2.1 none) H6 s7 → Q s7) →
              wpAny (model X.prog X.w) X.A (do bindName X.env n .none; unbindBehindTheSuite X.env n p2) (fun _ s7 => Q s7) X.xe s6 := fun S6 q => gone_ok (S6.unsuite okX) nd C.at_ C.loc q
          cases f with
          | ret u =>
            obtain ⟨v6, σ6, H6, S6, r6, q6⟩ := e
            exact bye S6 fun s7 J7 => ⟨_, _, _, J7, r6, q6⟩
          | _ =>
            obtain ⟨σ6, H6, S6, q6⟩ := e
            exact bye S6 fun s7 J7 => ⟨_, _, J7, q6⟩
    exact each all (wish J.len)
  · cases f with
    | next =>
      obtain ⟨τ, G, J, q⟩ := e
      exact wpAny_execs_nil ⟨τ, G, J.ofTry okX, q⟩
    | ret u =>
      obtain ⟨v, τ, G, J, r, q⟩ := e
      exact ⟨v, τ, G, J.ofTry okX, r, q⟩
    | _ =>
      obtain ⟨τ, G, J, q⟩ := e
      exact ⟨τ, G, J.ofTry okX, q⟩
end
end L2

/-! error classes of the program that keep their argument: made, raised, caught, asked for their class -/
namespace L2
open PySem PySem.Spec PyProof.Rows
/-- what stands of an error class C with the field f; its __init__ at fI -/
structure ErrC (K : PySem.W.Frag) (mg : Str → Option Value) (x f : Str) (C fI : Addr) : Prop where
  gC : mg x = some (.ref C)
  ox : OexC K C
  no : PySem.W.findIn K (.ref C) f = some none
  iC : PySem.W.findIn K (.ref C) "__init__" = some (some (.ref fI))
  tI : PySem.W.typeIn K (.ref fI) = some (.type "function")
  ga : PySem.W.findIn K (.ref C) "__getattribute__" = some (some (.builtin "BaseException.__getattribute__"))
  gg : PySem.W.findIn K (.ref C) "__getattr__" = some none
  hd : PySem.W.hasDictIn K C = true
  ac : PySem.W.findIn K (.ref C) "__class__" = some (some (.builtin "object.__class__"))
  gt : PySem.W.specialIn K (.builtin "object.__class__") "__get__" = some (some (.builtin "getset_descriptor.__get__"))
  tk : PySem.W.takesIn K (.builtin "object.__class__") = some true
  ob : PySem.W.mroIn K C (.type "object") = some true
theorem ErrC.xf {K : PySem.W.Frag} {mg : Str → Option Value} {x f : Str} {C fI : Addr} (T : ErrC K mg x f C fI) : XfC K C := ⟨T.ga, T.gg, T.ox.exC, T.hd⟩
theorem ErrC.cl {K : PySem.W.Frag} {mg : Str → Option Value} {x f : Str} {C fI : Addr} (T : ErrC K mg x f C fI) : (PySem.W.clsIn K C).isSome = true := by
  obtain ⟨cd, hc, _⟩ := PySem.W.any_some T.hd
  rw [hc]
  rfl
def spErr (C : Addr) (f : Str) : Sp := fun vs H Q _ => ∃ (a : Addr) (v : V), vs = [.ref a, v] ∧ H a = some (exo a C none) ∧ ∀ dx, H dx = none → dx ≠ a → Q .non (upd (upd H dx (exd dx [(f, v)])) a (exo a C (some dx)))
theorem ok_err {P : Program} {w : World} {K : PySem.W.Frag} {mg : Str → Option Value} {base : Heap} {qual f x par : Str} {st : Stmt} {fI C : Addr} {fd : FuncData} {p1 p2 p3 p4 : Pos} (F : Fun K "__init__" qual st fI fd) (T : ErrC K mg x f C fI)
    (hB : defBody st = [.Assign [.Attribute (.Name "self" p1) f p2] (.Name par p3) p4]) (S : FnScope ["self", par] ["self", par] (defScope st)) (v0 : Vis (defScope st) "self") (v1 : Vis (defScope st) par)
    (d0 : (par == ("__debug__" : Str)) = false := by decide) (d1 : (par == ("__classdict__" : Str)) = false := by decide) : FnOk P w K mg base CX0 1 fI fd ["self", par] (spErr C f) := by
  refine F.ok S (fun vs H Q E h => ?_) (fun cdv A outer s H vs Q E hr h => ?_)
  · obtain ⟨a, v, rfl, _⟩ := h
    rfl
  · obtain ⟨a, v, rfl, e, q⟩ := h
    rw [hB]
    refine ⟨_, pss_one (ps_ost (pe_var (i := 0) rfl v0 (by decide) (by decide)) (pe_var (i := 1) rfl v1 d0 d1)), ?_⟩
    exact ⟨_, rfl, _, rfl, a, C, rfl, T.ox, T.no, .inl ⟨e, fun dx n ne => q dx n ne⟩⟩
theorem mkErr {C : Addr} {f : Str} {v : V} {H1 : Hp} {Q : XK} (h : ∀ H' d, Same H1 H' → H1 d = none → H' d = some (.xd [(f, v)]) → Q (.ref C) (some d) H') :
    [v].length ≤ 1000 ∧ ∀ a, H1 a = none → spErr C f (.ref a :: ([v] ++ [])) (upd H1 a (exo a C none))
      (fun u H2 => u = .non ∧ ∃ (d : Addr) (fs : List (Str × V)), H2 a = some (exo a C (some d)) ∧ H2 d = some (exd d fs) ∧ H1 d = none ∧ Q (.ref C) (some d) (upd (del H2 a) d (.xd fs))) (fun _ _ _ => False) := by
  refine ⟨(by decide : 1 ≤ 1000), fun a na => ⟨a, v, rfl, upd_same, fun dx nd ne => ⟨rfl, dx, [(f, v)], upd_same, (upd_ne ne).trans upd_same, ?_, ?_⟩⟩⟩
  · rwa [upd_ne ne] at nd
  · rw [upd_ne ne] at nd
    refine h _ dx (fun b o e => ?_) nd upd_same
    have n1 : b ≠ a := ne_of_none e na
    have n2 : b ≠ dx := ne_of_none e nd
    rw [upd_ne n2, del_ne n1, upd_ne n1, upd_ne n2, upd_ne n1]
    exact e
/-- isinstance(e, c) of the caught error with its dict -/
def rIsX (K : PySem.W.Frag) (D a : Addr) (cls : Value) (d : Option Addr) : List V → Hp → VK → Prop := fun xs H Q =>
  ∃ (c : V) (cv : Value) (b : Bool) (dd : Addr) (fs : List (Str × V)), xs = [.ref a, c] ∧ ClsV c cv ∧ cls = .ref D ∧ d = some dd ∧ H dd = some (.xd fs) ∧ PySem.W.kitOne K (.ref D) cv = some b ∧ Q (.bl b) H
theorem call_isX {X : Cx} {a D fI : Addr} {x f : Str} {oe : Obj} {cls : Value} {d : Option Addr} {pn : List (Addr × Obj)} (T : ErrC X.K X.mg x f D fI) (hz : Zc cls d oe) (hf : ∃ vs, oe.data = .fields vs) :
    CallR (X.suite a ((a, oe) :: pn)) (.builtin "isinstance") (rIsX X.K D a cls d) := by
  intro pins s σ H xs us Q I r h
  obtain ⟨c, cv, b, dd, fs, rfl, k, rfl, rfl, hd, e, q⟩ := h
  cases r with
  | cons rx rr =>
    cases rr with
    | cons rt rr =>
      cases rr
      cases rx
      have ec := k.eq rt
      subst ec
      obtain ⟨hget, _⟩ := I.pin (a, oe) (List.mem_append_left _ List.mem_cons_self)
      obtain ⟨vs, hv⟩ := hf
      have hx : ObjOk X.prog X.w H s.heap dd (.xd fs) := I.hok dd _ hd
      obtain ⟨mA, hns, _⟩ := hx
      obtain ⟨od, ho, _⟩ := lookIn_ns hns
      have J : PySem.W.InstAt s.heap a oe D (some od) := ⟨hget, hz.1, by unfold PySem.W.notCls; rw [hv] <;> rfl, by rw [hz.2]; exact ho⟩
      exact PySem.W.kia_one (PySem.W.kitx_exc T.cl T.ga T.gg T.ox.exC T.ac T.gt T.tk T.ob) I.kIn J e (fun z => nomatch z) fun tk => ⟨.bl b, H, I.kept (t' := tk) fun _ _ z => z, rfl, q⟩
theorem TyX.same {K : PySem.W.Frag} {H H' : Hp} {v : V} {t : Value} (ty : TyX K H v t) (s : Same H H') : TyX K H' v t := by
  cases ty with
  | base b =>
    cases b with
    | non => exact .base .non
    | bl y => exact .base (.bl y)
    | int i => exact .base (.int i)
    | str y => exact .base (.str y)
    | flt y => exact .base (.flt y)
    | lst e => exact .base (.lst (s _ _ e))
    | frz e => exact .base (.frz (s _ _ e))
    | tup e => exact .base (.tup (s _ _ e))
    | dK e => exact .base (.dK (s _ _ e))
    | dT e => exact .base (.dT (s _ _ e))
    | ins e cl ha hn htk hm => exact .base (.ins (s _ _ e) cl ha hn htk hm)
  | byt b => exact .byt b
  | set e => exact .set (s _ _ e)
  | kList e c => exact .kList e c
  | kTuple e c => exact .kTuple e c
  | kDict e c => exact .kDict e c
  | fTuple e => exact .fTuple (s _ _ e)
  | fDict e => exact .fDict (s _ _ e)
end L2

/-! things of any kind, as menus hold them -/
namespace L2
open PySem PySem.Spec PyProof.Rows
inductive Flat : V → PyData → Prop
  | non : Flat .non .none
  | bl (b : Bool) : Flat (.bl b) (.bool b)
  | int (i : Int) : Flat (.int i) (.int i)
  | str (x : Str) : Flat (.str x) (.str x)
inductive Flats : List V → List PyData → Prop
  | nil : Flats [] []
  | cons {v : V} {vs : List V} {d : PyData} {ds : List PyData} : Flat v d → Flats vs ds → Flats (v :: vs) (d :: ds)
/-- a thing that is not at p: its value, its data, its kind -/
inductive Thing (p : Addr) (H : Hp) : V → PyData → String → Prop
  | non : Thing p H .non .none "NoneType"
  | bl (b : Bool) : Thing p H (.bl b) (.bool b) "bool"
  | int (i : Int) : Thing p H (.int i) (.int i) "int"
  | str (x : Str) : Thing p H (.str x) (.str x) "str"
  | tup {a : Addr} {xs : List V} {ds : List PyData} : a ≠ p → H a = some (.tup xs) → Flats xs ds → Thing p H (.ref a) (.tuple ds) "tuple"
  | lst {a : Addr} {xs : List V} {ds : List PyData} : a ≠ p → H a = some (.lst xs) → Flats xs ds → Thing p H (.ref a) (.list ds) "list"
  | dic {a : Addr} : a ≠ p → H a = some (.dK []) → Thing p H (.ref a) (.dict []) "dict"
theorem Flat.dq {K : PySem.W.Frag} {H : Hp} {v : V} {d : PyData} (h : Flat v d) : Dq K H v d := by
  cases h with
  | non => exact .non
  | bl b => exact .bl b
  | int i => exact .int i
  | str x => exact .str x
theorem Flats.dq {K : PySem.W.Frag} {H : Hp} {vs : List V} {ds : List PyData} (h : Flats vs ds) : DqAll K H vs ds := by
  induction h with
  | nil => exact .nil
  | cons a _ ih => exact .cons a.dq ih
section
variable {K : PySem.W.Frag} {p : Addr} {H H' : Hp} {v : V} {d : PyData} {t : String}
/-- all but p and the tables of code objects stands as it stood -/
def Kp (p : Addr) (H H' : Hp) : Prop := ∀ b o, b ≠ p → (∀ ps, o ≠ .tbl ps) → H b = some o → H' b = some o
theorem Kp.refl : Kp p H H := fun _ _ _ _ e => e
theorem Kp.trans {H1 H2 H3 : Hp} (a : Kp p H1 H2) (b : Kp p H2 H3) : Kp p H1 H3 := fun c o n t e => b c o n t (a c o n t e)
theorem Kp.of (s : Same H H') : Kp p H H' := fun b o _ _ e => s b o e
theorem Kp.ext (s : LamX.ExtN H H') : Kp p H H' := fun b o _ t e => s b o e t
theorem Kp.but (s : ∀ b o, b ≠ p → H b = some o → H' b = some o) : Kp p H H' := fun b o n _ e => s b o n e
theorem Kp.new {q : Addr} {o : HO} (s : Kp p H H') (n : H q = none) : Kp p H (upd H' q o) := fun b u nb t e => by rw [upd_ne (ne_of_none e n)]; exact s b u nb t e
theorem Thing.keep (h : Thing p H v d t) (k : Kp p H H') : Thing p H' v d t := by
  cases h with
  | non => exact .non
  | bl b => exact .bl b
  | int i => exact .int i
  | str x => exact .str x
  | tup n e f => exact .tup n (k _ _ n (fun _ z => by cases z) e) f
  | lst n e f => exact .lst n (k _ _ n (fun _ z => by cases z) e) f
  | dic n e => exact .dic n (k _ _ n (fun _ z => by cases z) e)
theorem Thing.same (h : Thing p H v d t) (s : Same H H') : Thing p H' v d t := h.keep (.of s)
theorem Thing.ty (h : Thing p H v d t) : TyX K H v (.type t) := by
  cases h with
  | non => exact .base .non
  | bl b => exact .base (.bl b)
  | int i => exact .base (.int i)
  | str x => exact .base (.str x)
  | tup n e f => exact .base (.tup e)
  | lst n e f => exact .base (.lst e)
  | dic n e => exact .base (.dK e)
theorem Thing.dq (h : Thing p H v d t) : Dq K H v d := by
  cases h with
  | non => exact .non
  | bl b => exact .bl b
  | int i => exact .int i
  | str x => exact .str x
  | tup n e f => exact .tup (SqT.of e) f.dq
  | lst n e f => exact .lst (SqL.of e) f.dq
  | dic n e => exact .dic e
end
theorem Thing.free (h : Thing p H v d t) {q : Addr} (n : H q = none) : v ≠ .ref q := fun z => by
  cases h with
  | tup _ e f => cases z; rw [n] at e; cases e
  | lst _ e f => cases z; rw [n] at e; cases e
  | dic _ e => cases z; rw [n] at e; cases e
  | _ => cases z
/-! sizes of what repr shows -/
structure ShAll (ds : List PyData) (n m : Nat) : Prop where
  ok : PyData.showableAll ds = true
  long : ((PyData.shownAll ds).map (·.length)).sum + 2 * ds.length ≤ n
  deep : PyData.depthAll ds ≤ m
theorem ShAll.nil {m : Nat} : ShAll [] 0 m := ⟨by simp [PyData.showableAll], by simp [PyData.shownAll], by simp [PyData.depthAll]⟩
theorem ShAll.cons {d : PyData} {ds : List PyData} {n k m : Nat} (h : Sh d n m) (hs : ShAll ds k m) : ShAll (d :: ds) (n + 2 + k) m := by
  refine ⟨?_, ?_, ?_⟩
  · simp only [PyData.showableAll, h.ok, hs.ok, Bool.and_self]
  · have a := h.long
    have b := hs.long
    simp only [PyData.shownAll, List.map_cons, List.sum_cons, List.length_cons]
    omega
  · have a := h.deep
    have b := hs.deep
    simp only [PyData.depthAll]
    omega
theorem Sh.lst {ds : List PyData} {n m : Nat} (h : ShAll ds n m) : Sh (.list ds) (n + 3) (m + 1) := by
  refine ⟨?_, ?_, ?_⟩
  · simp only [PyData.showable, h.ok]
  · have a := h.long
    have b := listText_len_le (PyData.shownAll ds)
    rw [PyData.shownAll_length] at b
    simp only [PyData.shown]
    omega
  · have a := h.deep
    simp only [PyData.depth]
    omega
theorem Sh.tup {ds : List PyData} {n m : Nat} (h : ShAll ds n m) : Sh (.tuple ds) (n + 3) (m + 1) := by
  refine ⟨?_, ?_, ?_⟩
  · simp only [PyData.showable, h.ok]
  · have a := h.long
    have b := tupleText_len_le (PyData.shownAll ds)
    rw [PyData.shownAll_length] at b
    simp only [PyData.shown]
    omega
  · have a := h.deep
    simp only [PyData.depth]
    omega
theorem Sh.le {d : PyData} {n n' m m' : Nat} (h : Sh d n m) (hn : n ≤ n') (hm : m ≤ m') : Sh d n' m' := ⟨h.ok, Nat.le_trans h.long hn, Nat.le_trans h.deep hm⟩
theorem Sh.bl (b : Bool) {m : Nat} : Sh (.bool b) 5 m := ⟨by simp only [PyData.showable], by cases b <;> (simp only [PyData.shown]; decide), by simp only [PyData.depth]; omega⟩
theorem Sh.non {m : Nat} : Sh .none 4 m := ⟨by simp only [PyData.showable], by simp only [PyData.shown]; decide, by simp only [PyData.depth]; omega⟩
theorem Sh.str (x : Str) {n m : Nat} (h : (reprText x).length ≤ n) : Sh (.str x) n m := ⟨by simp only [PyData.showable], by simp only [PyData.shown]; exact h, by simp only [PyData.depth]; omega⟩
theorem Sh.int (i : Int) {n m : Nat} (h : i.natAbs.log2 < 1920) (h2 : ((toString i : String) : Str).length ≤ n) : Sh (.int i) n m := ⟨by simp only [PyData.showable]; exact decide_eq_true h, by simp only [PyData.shown]; exact h2, by simp only [PyData.depth]; omega⟩
theorem Sh.dic {m : Nat} : Sh (.dict []) 10 (m + 1) := ⟨by simp only [PyData.showable, PyData.showableKv], by simp only [PyData.shown, PyData.shownKv]; decide +kernel, by simp only [PyData.depth, PyData.depthKv]; omega⟩
/-- an item of a menu: a thing that can be shown, of which C holds -/
def Item (p : Addr) (H : Hp) (C : V → Prop) (v : V) : Prop := ∃ d t, Thing p H v d t ∧ Sh d 300 2 ∧ C v
section
variable {p : Addr} {H H' : Hp} {C : V → Prop}
theorem Item.keep {v : V} (h : Item p H C v) (k : Kp p H H') : Item p H' C v := let ⟨d, t, a, b, c⟩ := h; ⟨d, t, a.keep k, b, c⟩
theorem item_non (c : C .non) : Item p H C .non := ⟨_, _, .non, (Sh.non (m := 0)).le (by decide) (by decide), c⟩
theorem item_bl (b : Bool) (c : C (.bl b)) : Item p H C (.bl b) := ⟨_, _, .bl b, (Sh.bl b).le (by decide) (Nat.le_refl _), c⟩
theorem item_int (i : Int) (h : i.natAbs.log2 < 1920) (h2 : ((toString i : String) : Str).length ≤ 300) (c : C (.int i)) : Item p H C (.int i) := ⟨_, _, .int i, .int i h h2, c⟩
theorem item_str (x : Str) (h : (reprText x).length ≤ 300) (c : C (.str x)) : Item p H C (.str x) := ⟨_, _, .str x, .str x h, c⟩
theorem item_dic {a : Addr} (n : a ≠ p) (e : H a = some (.dK [])) (c : C (.ref a)) : Item p H C (.ref a) := ⟨_, _, .dic n e, (Sh.dic (m := 0)).le (by decide) (by decide), c⟩
theorem item_tup {a : Addr} {xs : List V} {ds : List PyData} {k : Nat} (n : a ≠ p) (e : H a = some (.tup xs)) (f : Flats xs ds) (s : ShAll ds k 0) (hk : k + 3 ≤ 300) (c : C (.ref a)) : Item p H C (.ref a) := ⟨_, _, .tup n e f, (Sh.tup s).le hk (by decide), c⟩
theorem item_lst {a : Addr} {xs : List V} {ds : List PyData} {k : Nat} (n : a ≠ p) (e : H a = some (.lst xs)) (f : Flats xs ds) (s : ShAll ds k 0) (hk : k + 3 ≤ 300) (c : C (.ref a)) : Item p H C (.ref a) := ⟨_, _, .lst n e f, (Sh.lst s).le hk (by decide), c⟩
end
end L2

/-! k19: the right (by gen_tj.py) -/
namespace Gm
open PySem PySem.Spec PyProof.Rows L2

def spRight : Sp := fun vs H Q _ => ∃ (p : Addr), vs = [.ref p] ∧ BowlAt H p ∧ ∀ H', Stir p H H' → Q (.bl true) H'
def gRev2 {α : Type} : List α → List α → List α
  | [], [b, a] => [a, b]
  | _, _ => []
theorem gRev2_rel {vs : List V} {us : List Value} {zs : List V} {ws : List Value} (r : Vals vs us) (q : Vals zs ws) : Vals (gRev2 vs zs) (gRev2 us ws) := by
  cases r with
  | cons a r => exact .nil
  | nil =>
    cases q with
    | nil => exact .nil
    | cons a q =>
      cases q with
      | nil => exact .nil
      | cons b q =>
        cases q with
        | nil => exact .cons b (.cons a .nil)
        | cons c q => exact .nil
theorem kw_tried {K : PySem.W.Frag} {f : Addr} {fd : FuncData} (F : Fun K "tried" "tried" sTried f fd) : KBinds K fd ["board", "guesses"] ["guesses", "board"] gRev2 gRev2 := by
  obtain ⟨oc, od, kV, doc, pm, an, cdv, ct, osl, rfl, lk, hcd⟩ := F.ex
  refine ⟨fun s us ws X l1 => ?_, gRev2_rel⟩
  match us, ws, l1 with
  | [], [a, b], _ => exact .of_eq rfl
  | [], [], l | [], [_], l | [], _ :: _ :: _ :: _, l | _ :: _, _, l => simp [gRev2] at l
abbrev rJn (K : PySem.W.Frag) : V → List V → Hp → VK → Prop := fun x xs H Q => ∃ a p, ∃ ys : List Str, x = .str a ∧ xs = [.ref p] ∧ (SqL K H p (ys.map V.str) ∨ SqT K H p (ys.map V.str)) ∧
      (ys.map (·.length)).sum + ys.length * a.length ≤ 16777216 ∧ Q (.str (Txt.join a ys)) H
abbrev tSpot (K : PySem.W.Frag) (sm a k : Nat) : TE := tM1 (rJn K) (tC (.str "")) (GmR.tSortSet K (tLc (iTup K (tVar sm)) (gName a) tYes (tOp rIxS (tVar a) (tVar k)) [a]))
abbrev tMxs (K : PySem.W.Frag) (sm a s : Nat) : TE := tCB (rMax K) (tCons (tOp rCat (tLst (tCons (tC (.int 0)) tNil)) (tLc (iTup K (tVar sm)) (gName a) tYes (tM1 (fun x xs H Q => ∃ a b, x = .str a ∧ xs = [.str b] ∧ Q (.int (Txt.count a b)) H) (tVar a) (tVar s)) [a])) tNil)
theorem alph_lo {l : List Nat} (h : Alph (tx l)) : l.Pairwise (· < ·) ∧ ∀ c ∈ l, c ∈ low := by
  have e : l = pick (tx l) := h.2.2
  rw [e]
  exact ⟨low_sorted.sublist List.filter_sublist, fun c hc => (List.mem_filter.mp hc).1⟩
theorem tx_self (s : Str) : s = tx s.cps.toList := TL.ext_tl rfl
theorem spots_eq {l : List Nat} {gs : List (List Nat)} {i : Nat} {ys : List Str} (hl : l.Pairwise (· < ·)) (hin : ∀ g ∈ gs, g.getD i 0 ∈ l) (hs : ys.Pairwise fun a b => ¬ b.cps.toList < a.cps.toList) (hn : ys.Nodup)
    (hm : ∀ k, k ∈ ys ↔ k ∈ (gs.map fun g => g.getD i 0).map fun c => one c) : ys = (atL l gs i).map one := by
  have ey : ys = (ys.map codeOf).map one := by
    rw [List.map_map]
    have : ∀ y ∈ ys, (one ∘ codeOf) y = y := fun y hy => by
      obtain ⟨c, _, rfl⟩ := List.mem_map.mp ((hm y).mp hy)
      rfl
    exact (List.map_congr_left this |>.trans (List.map_id' ys)).symm
  rw [ey]
  congr 1
  refine sorted_eq _ _ ?_ (hl.sublist List.filter_sublist) fun c => ?_
  · rw [List.pairwise_map]
    refine (hs.and hn).imp_of_mem fun {a b} ha hb ⟨h1, h2⟩ => ?_
    obtain ⟨x, _, rfl⟩ := List.mem_map.mp ((hm a).mp ha)
    obtain ⟨y, _, rfl⟩ := List.mem_map.mp ((hm b).mp hb)
    show x < y
    rcases Nat.lt_trichotomy x y with h | h | h
    · exact h
    · exact absurd (by rw [h]) h2
    · exact absurd (show ([y] : List Nat) < [x] from List.cons_lt_cons_iff.mpr (.inl h)) h1
  · rw [List.mem_map]
    unfold atL
    rw [List.mem_filter, decide_eq_true_iff]
    constructor
    · rintro ⟨y, hy, rfl⟩
      obtain ⟨c, hc, rfl⟩ := List.mem_map.mp ((hm y).mp hy)
      refine ⟨?_, hc⟩
      obtain ⟨g, hg, rfl⟩ := List.mem_map.mp hc
      exact hin g hg
    · rintro ⟨_, hc⟩
      exact ⟨one c, (hm _).mpr (List.mem_map.mpr ⟨c, hc, rfl⟩), rfl⟩
theorem fold_max : ∀ (ys : List Int) (y : Int), ys.foldl max y ∈ y :: ys ∧ ∀ x ∈ y :: ys, x ≤ ys.foldl max y
  | [], y => ⟨List.mem_singleton.mpr rfl, fun x hx => by rw [List.mem_singleton.mp hx]; exact Int.le_refl _⟩
  | a :: ys, y => by
    obtain ⟨h1, h2⟩ := fold_max ys (max y a)
    refine ⟨?_, fun x hx => ?_⟩
    · show ys.foldl max (max y a) ∈ _
      rcases List.mem_cons.mp h1 with h | h
      · rw [h]
        rcases Int.le_total y a with q | q
        · rw [Int.max_eq_right q]; exact List.mem_cons_of_mem _ (List.mem_cons_self ..)
        · rw [Int.max_eq_left q]; exact List.mem_cons_self ..
      · exact List.mem_cons_of_mem _ (List.mem_cons_of_mem _ h)
    · show x ≤ ys.foldl max (max y a)
      have h0 := h2 (max y a) (List.mem_cons_self ..)
      rcases List.mem_cons.mp hx with rfl | hx
      · omega
      · rcases List.mem_cons.mp hx with rfl | hx
        · omega
        · exact h2 x (List.mem_cons_of_mem _ hx)
/-- the greatest of 0 and the counts -/
theorem most_eq {cs : List Int} {m : Int} (h0 : ∀ c ∈ cs, 0 ≤ c) (hm : m ∈ [0] ++ cs) (hle : ∀ y ∈ [0] ++ cs, y ≤ m) : m = mxDef 0 cs := by
  cases cs with
  | nil => simpa [mxDef] using hm
  | cons y ys =>
    obtain ⟨a, b⟩ := fold_max ys y
    show m = ys.foldl max y
    have h1 := hle _ (List.mem_append_right _ a)
    have h2 : m ≤ ys.foldl max y := by
      rcases List.mem_append.mp hm with h | h
      · rw [List.mem_singleton.mp h]
        exact h0 _ a
      · exact b m h
    omega
theorem mx_same {as bs : List Int} (h : ∀ x, x ∈ as ↔ x ∈ bs) : mxDef 0 as = mxDef 0 bs := by
  cases as with
  | nil =>
    cases bs with
    | nil => rfl
    | cons b bs => exact absurd ((h b).mpr (List.mem_cons_self ..)) List.not_mem_nil
  | cons a as =>
    cases bs with
    | nil => exact absurd ((h a).mp (List.mem_cons_self ..)) List.not_mem_nil
    | cons b bs =>
      obtain ⟨p1, p2⟩ := fold_max as a
      obtain ⟨q1, q2⟩ := fold_max bs b
      exact Int.le_antisymm (q2 _ ((h _).mp p1)) (p2 _ ((h _).mpr q1))
theorem atL_rev (l : List Nat) (gs : List (List Nat)) (i : Nat) : atL l gs.reverse i = atL l gs i := by
  unfold atL
  refine List.filter_congr fun c _ => ?_
  rw [List.map_reverse]
  simp only [List.mem_reverse]
theorem most_rev (gs : List (List Nat)) (c : Nat) : mostC gs.reverse c = mostC gs c := by
  unfold mostC
  refine mx_same fun x => ?_
  rw [List.map_reverse, List.mem_reverse]
theorem TrAt.same {H H' : Hp} {T : Addr} {l : List Nat} {n : Nat} {gs : List (List Nat)} (h : TrAt H T l n gs) (s : Same H H') : TrAt H' T l n gs := let ⟨A, B, a, b, c⟩ := h; ⟨A, B, s _ _ a, s _ _ b, s _ _ c⟩
theorem TrAt.rev {H : Hp} {T : Addr} {l : List Nat} {n : Nat} {gs : List (List Nat)} (h : TrAt H T l n gs.reverse) : TrAt H T l n gs := by
  obtain ⟨A, B, a, b, c⟩ := h
  refine ⟨A, B, a, ?_, ?_⟩
  · rw [b]
    simp only [atL_rev]
  · rw [c]
    simp only [most_rev]
/-- what tried tells, as data -/
def trD (l : List Nat) (n : Nat) (gs : List (List Nat)) : PyData := .tuple [.tuple ((List.range n).map fun i => .str (tx (atL l gs i))), .tuple (l.map fun c => .int (mostC gs c))]
theorem dq_strs {K : PySem.W.Frag} {H : Hp} {f : Nat → Str} : ∀ is : List Nat, DqAll K H (is.map fun i => V.str (f i)) (is.map fun i => PyData.str (f i))
  | [] => .nil
  | i :: is => .cons (.str _) (dq_strs is)
theorem dq_ints {K : PySem.W.Frag} {H : Hp} {f : Nat → Int} : ∀ is : List Nat, DqAll K H (is.map fun i => V.int (f i)) (is.map fun i => PyData.int (f i))
  | [] => .nil
  | i :: is => .cons (.int _) (dq_ints is)
theorem dq_tr {K : PySem.W.Frag} {H : Hp} {T : Addr} {l : List Nat} {n : Nat} {gs : List (List Nat)} (h : TrAt H T l n gs) : Dq K H (.ref T) (trD l n gs) := by
  obtain ⟨A, B, a, b, c⟩ := h
  exact .tup (SqT.of a) (.cons (.tup (SqT.of b) (dq_strs _)) (.cons (.tup (SqT.of c) (dq_ints _)) .nil))
theorem sh_all {n m : Nat} : ∀ {ds : List PyData}, (∀ d ∈ ds, Sh d n m) → ShAll ds (ds.length * (n + 2)) m
  | [], _ => by rw [List.length_nil, Nat.zero_mul]; exact ShAll.nil
  | d :: ds, h => by
    have := ShAll.cons (h d (List.mem_cons_self ..)) (sh_all fun x hx => h x (List.mem_cons_of_mem _ hx))
    rw [List.length_cons, Nat.succ_mul, Nat.add_comm (ds.length * (n + 2))]
    exact this
theorem low128 : ∀ c ∈ low, c < 128 := by decide +kernel
theorem mostC_room {gs : List (List Nat)} {c : Nat} (h : ∀ g ∈ gs, g.length ≤ 6) : 0 ≤ mostC gs c ∧ mostC gs c ≤ 6 := by
  unfold mostC
  have all : ∀ x ∈ gs.map fun g => ((g.count c : Nat) : Int), 0 ≤ x ∧ x ≤ 6 := fun x hx => by
    obtain ⟨g, hg, rfl⟩ := List.mem_map.mp hx
    have := h g hg
    have := List.count_le_length (a := c) (l := g)
    omega
  generalize (gs.map fun g => ((g.count c : Nat) : Int)) = cs at all
  cases cs with
  | nil => exact ⟨Int.le_refl _, by show (0 : Int) ≤ 6; decide⟩
  | cons y ys => exact all _ (fold_max ys y).1
theorem sh_tr {l : List Nat} {n : Nat} {gs : List (List Nat)} (hl : ∀ c ∈ l, c ∈ low) (l26 : l.length ≤ 26) (n6 : n ≤ 6) (h6 : ∀ g ∈ gs, g.length ≤ 6) : Sh (trD l n gs) 4000 2 := by
  have a : ShAll ((List.range n).map fun i => PyData.str (tx (atL l gs i))) (n * (264 + 2)) 0 := by
    have := sh_all (n := 264) (m := 0) (ds := (List.range n).map fun i => PyData.str (tx (atL l gs i))) fun d hd => by
      obtain ⟨i, _, rfl⟩ := List.mem_map.mp hd
      refine Sh.str _ ?_
      have le : (atL l gs i).length ≤ l.length := List.length_filter_le _ _
      have r := PySem.StrLaws.reprText_len (tx (atL l gs i)) fun c hc => Nat.lt_trans (low128 c (hl c (List.mem_filter.mp hc).1)) (by decide)
      refine Nat.le_trans r ?_
      rw [tx_len]
      omega
    rw [List.length_map, List.length_range] at this
    exact this
  have b : ShAll (l.map fun c => PyData.int (mostC gs c)) (l.length * (10 + 2)) 0 := by
    have := sh_all (n := 10) (m := 0) (ds := l.map fun c => PyData.int (mostC gs c)) fun d hd => by
      obtain ⟨c, _, rfl⟩ := List.mem_map.mp hd
      obtain ⟨m0, m6⟩ := mostC_room (c := c) h6
      generalize mostC gs c = m at m0 m6
      have : m = 0 ∨ m = 1 ∨ m = 2 ∨ m = 3 ∨ m = 4 ∨ m = 5 ∨ m = 6 := by omega
      rcases this with rfl | rfl | rfl | rfl | rfl | rfl | rfl <;> exact Sh.int _ (by decide) (by decide +kernel)
    rw [List.length_map] at this
    exact this
  refine (Sh.tup (.cons (Sh.tup a) (.cons (Sh.tup b) .nil))).le ?_ (by decide)
  have e1 : n * (264 + 2) ≤ 6 * (264 + 2) := Nat.mul_le_mul_right _ n6
  have e2 : l.length * (10 + 2) ≤ 26 * (10 + 2) := Nat.mul_le_mul_right _ l26
  omega
theorem Bd.stir {C p x : Addr} {H H' : Hp} {l : List Nat} {n : Int} (h : Bd C H x l n) (n1 : x ≠ p) (R : Stir p H H') : Bd C H' x l n := by
  obtain ⟨⟨dx, eb⟩, r⟩ := h
  exact ⟨⟨dx, R.1 _ _ n1 eb⟩, r⟩
section
variable {P : Program} {w : World} {K : PySem.W.Frag} {mg : Str → Option Value} {base : Heap} {C fI : Addr} {fdI : FuncData}
abbrev nRt : List Str := ["_law_bowl_here", "_law_turn", "_law_signs_here", "_law_size", "_law_box", "_law_some", "_law_spots", "_law_numbers", "_law_told", "_law_k", "_law_asked", "_law_sign"]
theorem scRt : FnScope nRt ["_law_bowl_here"] (defScope sRight) := ⟨rfl, rfl, rfl, by decide +kernel, rfl, by decide +kernel, by decide +kernel⟩
theorem ok_right {f fS fD fL fG fT : Addr} {fd fdS fdD fdL fdG fdT : FuncData} (F : Fun K "_law_right" "_law_right" sRight f fd) (trep_ : mg "repr" = none) (tran_ : mg "range" = none) (ttup_ : mg "tuple" = none) (tsor_ : mg "sorted" = none) (tset_ : mg "set" = none) (tmax_ : mg "max" = none) (TC : TxC K mg C)
    (GI : FnOk P w K mg base CX0 2 fI fdI ["self", "letters", "length"] (spInit C)) (MB : Mk K C fI) (bI : Binds K fdI ["self", "letters", "length"] []) (kT : KBinds K fdT ["board", "guesses"] ["guesses", "board"] gRev2 gRev2) (hM : ∃ mm, base.Ns sysModules mm)

    (GS : FnOk P w K mg base CX0 2 fS fdS ["_law_bowl_here", "_law_least", "_law_most"] spSigns) (DS : Df K mg "_law_signs" fS fdS ["_law_bowl_here", "_law_least", "_law_most"])
    (GD : FnOk P w K mg base CX0 1 fD fdD ["_law_bowl_here", "_law_many"] spDip) (DD : Df K mg "_law_dip" fD fdD ["_law_bowl_here", "_law_many"])
    (GL : FnOk P w K mg base CX0 2 fL fdL ["_law_bowl_here", "_law_things"] spOfL) (DL : Df K mg "_law_of" fL fdL ["_law_bowl_here", "_law_things"])
    (GG : FnOk P w K mg base CX0 4 fG fdG ["_law_bowl_here", "_law_signs_here", "_law_size", "_law_most"] spGss) (DG : Df K mg "_law_guesses" fG fdG ["_law_bowl_here", "_law_signs_here", "_law_size", "_law_most"])
    (GT : FnOk P w K mg base CX0 4 fT fdT ["board", "guesses"] (spTrBy C)) (DT : Df K mg "tried" fT fdT ["board", "guesses"])
    : FnG P w K mg base CX0 5 f fd ["_law_bowl_here"] spRight := by
  refine F.okG scRt (fun vs H Q E h => ?_) (fun cdv A outer s H vs Q E g hr h => ?_)
  · obtain ⟨p, rfl, _⟩ := h
    rfl
  · obtain ⟨p, rfl, hp, q⟩ := h
    have nd := scRt.nd
    have hline : sizeLine = 16777216 := sizeLine_eq
    have hrS : Room 2 _ := hr.mono (by decide)
    have hrD : Room 1 _ := hr.mono (by decide)
    have hrL : Room 2 _ := hr.mono (by decide)
    have hrG : Room 4 _ := hr.mono (by decide)
    have hrT : Room 4 _ := hr.mono (by decide)
    have hr3 : Room 3 _ := hr.mono (by decide)
    have hu8 : (A.deeper (PyProof.Rows.envOfC "_law_right" (defScope sRight) s.heap.objs.size f cdv)).units + 8 < cLine := by have := hr.units; omega
    refine ⟨_, pss_cons (ps_for PassesOwn.never rfl (pi_range1 (by rfl) tran_ (pa_cons pe_int pa_nil)) (pg_name (i := 1) nd rfl (Or.inl rfl))
        (pss_cons (ps_par (i := 2) (j := 3) (by rfl) nd rfl rfl (by decide) rfl rfl (pa_cons (pe_call GS hrS (by rfl) DS.mg DS.kp DS.b .nil pass0 (pa_cons (pv 0) (pa_cons pe_int (pa_cons pe_int pa_nil)))) (pa_cons (pe_op op_add pe_int (pe_call GD hrD (by rfl) DD.mg DD.kp DD.b .nil pass0 (pa_cons (pv 0) (pa_cons pe_int pa_nil)))) pa_nil)) (by rfl))
      (C8.pss_cut (ps_asg (pe_tup (pa_cons (pe_make MB GI hr3 (by rfl) TC.mgC bI .nil pass0 (pa_cons (pv 2) (pa_cons (pv 3) pa_nil))) (pa_cons (pe_call GG hrG (by rfl) DG.mg DG.kp DG.b .nil pass0 (pa_cons (pv 0) (pa_cons (pv 2) (pa_cons (pv 3) (pa_cons (pe_call GL hrL (by rfl) DL.mg DL.kp DL.b .nil pass0 (pa_cons (pv 0) (pa_cons (pe_lst (pa_cons pe_int (pa_cons pe_int (pa_cons pe_int pa_nil)))) pa_nil))) pa_nil))))) pa_nil))) (pg_tup (by rfl) (pgs_cons (pg_name (i := 4) nd rfl (Or.inl rfl)) (pgs_cons (pg_name (i := 5) nd rfl (Or.inr rfl)) pgs_nil))))
      (C8.pss_cut (ps_set (i := 6) nd rfl (Or.inl rfl) (pe_callTy call_tuple_of (by rfl) ttup_ (by decide +kernel) (pa_cons (pe_lc (te := tSpot K 5 10 9) (own := [("_law_k", 9)]) (g := gName 9) (by rfl) nd (pi_range1 (by rfl) tran_ (pa_cons (pv 3) pa_nil)) (blkOk_by (own := [("_law_k", 9)]) (N := nRt) (sc := defScope sRight) (by decide +kernel)) (fun _ _ _ _ _ => pg_name (i := 9) nd rfl (Or.inr rfl)) (fun _ _ _ _ _ => by exact pts_nil) (fun _ _ _ _ _ => by exact (pe_join pe_str (GmR.pe_sortedSet rfl hu8 (by rfl) tsor_ (by decide +kernel) (by rfl) tset_ (pe_lc (own := [("_law_asked", 10)]) (g := gName 10) (by rfl) nd (pi_tup (pv 5)) (blkOk_by (own := [("_law_asked", 10)]) (by show blkC nRt (relS _ (defScope sRight)) _ _ = true; decide +kernel)) (fun _ _ _ _ _ => pg_name (i := 10) nd rfl (Or.inl rfl)) (fun _ _ _ _ _ => pts_nil) (fun _ _ _ _ _ => pe_ix ix_str (pv 10) (pv 9) (fun _ _ => rfl))))))) pa_nil)))
      (C8.pss_cut (ps_set (i := 7) nd rfl (Or.inl rfl) (pe_callTy call_tuple_of (by rfl) ttup_ (by decide +kernel) (pa_cons (pe_lc (te := tMxs K 5 10 11) (own := [("_law_sign", 11)]) (g := gName 11) (by rfl) nd (pi_str (pv 2)) (blkOk_by (own := [("_law_sign", 11)]) (N := nRt) (sc := defScope sRight) (by decide +kernel)) (fun _ _ _ _ _ => pg_name (i := 11) nd rfl (Or.inr rfl)) (fun _ _ _ _ _ => by exact pts_nil) (fun _ _ _ _ _ => by exact (pe_callB (cr_max rfl) (by rfl) tmax_ (by decide +kernel) (pa_cons (pe_op op_cat (pe_lst (pa_cons pe_int pa_nil)) (pe_lc (own := [("_law_asked", 10)]) (g := gName 10) (by rfl) nd (pi_tup (pv 5)) (blkOk_by (own := [("_law_asked", 10)]) (by show blkC nRt (relS _ (defScope sRight)) _ _ = true; decide +kernel)) (fun _ _ _ _ _ => pg_name (i := 10) nd rfl (Or.inl rfl)) (fun _ _ _ _ _ => pts_nil) (fun _ _ _ _ _ => pe_m1 PySem.F.slot_str_count PySem.F.type_str_count mt_count (pv 10) (pv 11)))) pa_nil)))) pa_nil)))
      (pss_cons (ps_set (i := 8) nd rfl (Or.inl rfl) (pe_lst (pa_cons (pe_call GT hrT (by rfl) DT.mg DT.kp DT.b .nil pass0 (pa_cons (pv 4) (pa_cons (pv 5) pa_nil))) (pa_cons (pe_callK0 (ks := ["guesses", "board"]) GT hrT (by rfl) DT.mg DT.kp kT pass0 (pk_cons (pe_revT (pv 5)) (pk_cons (pv 4) pk_nil))) pa_nil))))
      (pss_one (ps_if (pt_cmpR op_ne (pe_callB (call_reprD g hr.units hM) (by rfl) trep_ (by decide +kernel) (pa_cons (pv 8) pa_nil)) (pe_callB (call_reprD g hr.units hM) (by rfl) trep_ (by decide +kernel) (pa_cons (pe_lst (pa_cons (pe_tup (pa_cons (pv 6) (pa_cons (pv 7) pa_nil))) (pa_cons (pe_tup (pa_cons (pv 6) (pa_cons (pv 7) pa_nil))) pa_nil))) pa_nil)) (nomark _)) (pss_one (ps_ret pe_bl)) pss_nil))))))))
      (pss_one (ps_ret pe_bl)), ?_⟩
    refine ⟨5, rfl, by decide, by decide, for_range (n := 5) (fun i σ H' => (∃ v1 v2 v3 v4 v5 v6 v7 v8 v9 v10 v11 : Option V, σ = [some (.ref p), v1, v2, v3, v4, v5, v6, v7, v8, v9, v10, v11]) ∧ Stir p H H') ⟨⟨_, _, _, _, _, _, _, _, _, _, _, rfl⟩, Stir.refl hp⟩ ?_ ?_⟩
    rotate_left
    · rintro σ H1 ⟨⟨v1, v2, v3, v4, v5, v6, v7, v8, v9, v10, v11, rfl⟩, R⟩
      exact q _ R
    rintro i σ H1 hi ⟨⟨v1, v2, v3, v4, v5, v6, v7, v8, v9, v10, v11, rfl⟩, R1⟩
    refine ⟨_, rfl, p, 2, 26, rfl, R1.2, by decide, by decide, by decide, fun H2 z R2 hA z2 z26 => ?_⟩
    refine ⟨_, rfl, p, 6, rfl, R2.2, by decide, by decide, fun H3 d R3 d0 d6 => ⟨_, _, rfl, rfl, _, _, rfl, ?_⟩⟩
    dsimp only
    obtain ⟨l, rfl⟩ : ∃ l, z = tx l := ⟨_, tx_self z⟩
    have n1 : 1 ≤ 1 + d := by omega
    have n6 : 1 + d ≤ 6 := by omega
    generalize 1 + d = n at n1 n6 ⊢
    rw [tx_len] at z2 z26
    have l26 : l.length ≤ 26 := by omega
    obtain ⟨plt, plo⟩ := alph_lo hA
    have R13 := (R1.trans R2).trans R3
    refine ⟨fun σ' H' => ∃ (x T : Addr) (gs : List (List Nat)), σ' = [some (.ref p), some (.int (0 + (i : Nat))), some (.str (tx l)), some (.int n), some (.ref x), some (.ref T), v6, v7, v8, v9, v10, v11] ∧ Stir p H H' ∧ Bd C H' x l n ∧ x ≠ p ∧ T ≠ p ∧ H' T = some (.tup (txs gs)) ∧ gs.length ≤ 20 ∧ ∀ g ∈ gs, Wd l n g, ?_, ?_⟩
    · refine ⟨_, rfl, _, rfl, fun x dx nx nd_ ne => ⟨x, dx, tx l, n, rfl, hA, n1, n6, upd_same, fun Hb bt ba => ⟨rfl, ?_⟩⟩⟩
      have sb : Same H3 Hb := fun b o e => bt b o (ne_of_none e nx) (by rw [upd_ne (ne_of_none e nx), upd_ne (ne_of_none e nd_)]; exact e)
      have bd : Bd C Hb x l n := ⟨ba, l26, n1, n6⟩
      have nxp : x ≠ p := fun z => by obtain ⟨_, _, _, _, e⟩ := R13; rw [z, e] at nx; cases nx
      have R14 := R13.same sb
      refine ⟨_, rfl, _, rfl, _, rfl, _, rfl, by show 3 ≤ sizeLine; omega, fun L zL => ?_⟩
      have nLp : L ≠ p := by obtain ⟨_, _, _, _, e⟩ := R14; exact (ne_of_none e zL).symm
      have sL := same_upd (o := .lst [.int 2, .int 6, .int 20]) zL
      have R15 := R14.same sL
      have bd := bd.same sL
      refine ⟨p, L, _, rfl, R15.2, nLp, upd_same, by simp, by simp, fun H5 v R5 hv => ?_⟩
      obtain ⟨m, rfl, m0, m20⟩ : ∃ m : Int, v = .int m ∧ 0 ≤ m ∧ m ≤ 20 := by
        simp only [List.mem_cons, List.not_mem_nil, or_false] at hv
        rcases hv with rfl | rfl | rfl
        · exact ⟨2, rfl, by decide, by decide⟩
        · exact ⟨6, rfl, by decide, by decide⟩
        · exact ⟨20, rfl, by decide, by decide⟩
      have bd := bd.stir nxp R5
      refine ⟨p, l, n, m, rfl, R5.2, by omega, l26, n1, n6, m0, m20, fun H6 T gs R6 nT hT lg ok => ?_⟩
      have bd := bd.stir nxp R6
      refine ⟨by show 2 ≤ sizeLine; omega, fun T2 zT2 => ?_⟩
      have sT := same_upd (o := .tup [.ref x, .ref T]) zT2
      refine ⟨T2, _, rfl, SqT.of upd_same, rfl, _, _, rfl, _, _, rfl, rfl, ?_⟩
      exact ⟨x, T, gs, rfl, ((R15.trans R5).trans R6).same sT, bd.same sT, nxp, nT, sT _ _ hT, lg, ok⟩
    rintro σ' H4 ⟨x, T, gs, rfl, R4, bd, nxp, nT, hT, lg, ok⟩
    have gi : ∀ {j i : Nat} {g : List Nat}, i < n.toNat → gs[j]? = some g → g[i]? = some (g.getD i 0) ∧ g.getD i 0 ∈ l := fun {j i} {g} hi hg => by
      have wd := ok g (List.mem_of_getElem? hg)
      have wl := wd.1
      have hi' : i < g.length := by omega
      rw [List.getD_eq_getElem?_getD, List.getElem?_eq_getElem hi']
      exact ⟨rfl, wd.2 _ (List.getElem_mem hi')⟩
    have g6 : ∀ g ∈ gs, g.length ≤ 6 := fun g hg => by have := (ok g hg).1; omega
    refine ⟨fun σ' H' => ∃ A : Addr, σ' = [some (.ref p), some (.int (0 + (i : Nat))), some (.str (tx l)), some (.int n), some (.ref x), some (.ref T), some (.ref A), v7, v8, v9, v10, v11] ∧ Same H4 H' ∧ H' A = some (.tup ((List.range n.toNat).map fun i => V.str (tx (atL l gs i)))), ?_, ?_⟩
    · refine ⟨_, rfl, n, rfl, by omega, by omega, fun M zM => ?_⟩
      refine lc_range (lo := 0) (n := n.toNat) (fun i H' => Same H4 H' ∧ H' M = some (.lst ((List.range i).map fun i => V.str (tx (atL l gs i))))) ⟨same_upd zM, upd_same⟩ ?_ ?_
      · rintro k H5 hk ⟨s5, hM⟩
        refine ⟨rfl, ⟨⟨_, rfl⟩, _, rfl, T, rfl, ⟨_, SqT.of (s5 _ _ hT)⟩, fun M2 zM2 => ?_⟩⟩
        refine lc_tup (xs := txs gs) (fun j H' => Same H5 H' ∧ H' M2 = some (.lst ((((gs.take j).map fun g => g.getD k 0).map fun c => one c).map V.str))) ⟨same_upd zM2, upd_same⟩ (fun j H' _ h => SqT.of (h.1 _ _ (s5 _ _ hT))) ?_ ?_
        · rintro j y H6 hy ⟨s6, hM2⟩
          obtain ⟨g, hg, rfl⟩ := at_txs hy
          have wl := (ok g (List.mem_of_getElem? hg)).1
          refine ⟨rfl, ⟨_, rfl, _, rfl, tx g, _, g.getD k 0, rfl, rfl, by rw [tx_len]; omega, ?_, _, hM2, ?_, same_putN s6 zM2, ?_⟩⟩
          · rw [Int.zero_add]
            exact atI_nat (gi hk hg).1
          · rw [List.length_map, List.length_map, List.length_map, List.length_take]
            omega
          · rw [upd_same, takeS hg, List.map_append, List.map_append, List.map_append]
            rfl
        rintro H6 ⟨s6, hM2⟩
        rw [txs_len, List.take_length] at hM2
        refine ⟨M2, _, rfl, SqL.of hM2, by rw [List.length_map, List.length_map]; unfold scanBound; omega, fun H7 P2 ys k7 hP hs hn hm => ?_⟩
        have ey := spots_eq (l := l) (gs := gs) (i := k) plt (fun g hg => by
          obtain ⟨j, hj⟩ := List.getElem?_of_mem hg
          exact (gi hk hj).2) hs hn hm
        have le : (atL l gs k).length ≤ l.length := List.length_filter_le _ _
        subst ey
        refine ⟨_, P2, (atL l gs k).map one, rfl, rfl, .inl (SqL.of hP), ?_, ?_⟩
        · rw [sum_one, List.length_map]
          show (atL l gs k).length + (atL l gs k).length * 0 ≤ 16777216
          omega
        · have s57 : Same H5 H7 := sm_tr s6 k7
          refine ⟨_, s57 _ _ hM, ?_, same_putN (sm_tr s5 s57) zM, ?_⟩
          · rw [List.length_map, List.length_range]
            omega
          · rw [upd_same, List.range_succ, List.map_append]
            show some (HO.lst (_ ++ [V.str (Txt.join (Str.ofString "") ((atL l gs k).map one))])) = _
            rw [join_one]
            rfl
      rintro H5 ⟨s5, hM⟩
      refine ⟨M, _, rfl, .inl ⟨SqL.of hM, fun A zA => ?_⟩⟩
      exact ⟨A, rfl, sm_tr s5 (same_upd zA), upd_same⟩
    rintro σ' H5 ⟨A, rfl, s5, hA5⟩
    refine ⟨fun σ' H' => ∃ B : Addr, σ' = [some (.ref p), some (.int (0 + (i : Nat))), some (.str (tx l)), some (.int n), some (.ref x), some (.ref T), some (.ref A), some (.ref B), v8, v9, v10, v11] ∧ Same H5 H' ∧ H' B = some (.tup (l.map fun c => V.int (mostC gs c))), ?_, ?_⟩
    · refine ⟨_, rfl, tx l, rfl, fun M zM => ?_⟩
      refine lc_it (walk_str (z := tx l)) (fun k H' => Same H5 H' ∧ H' M = some (.lst ((l.take k).map fun c => V.int (mostC gs c)))) ⟨same_upd zM, upd_same⟩ (fun _ _ _ _ => trivial) ?_ ?_
      · rintro k y _ Ha hk ⟨sa, hM⟩ ⟨rfl, c, hc, rfl⟩
        have hc' := tx_at hc
        have klt := (List.getElem?_eq_some_iff.mp hc').1
        refine ⟨rfl, ⟨by show 1 ≤ sizeLine; omega, fun L0 zL0 => ?_⟩⟩
        have sL0 := same_upd (o := .lst [.int 0]) zL0
        have hT6 := sL0 _ _ (sa _ _ (s5 _ _ hT))
        refine ⟨_, rfl, T, rfl, ⟨_, SqT.of hT6⟩, fun M2 zM2 => ?_⟩
        refine lc_tup (xs := txs gs) (fun j H' => Same (upd Ha L0 (.lst [.int 0])) H' ∧ H' M2 = some (.lst (((gs.take j).map fun g => ((g.count c : Nat) : Int)).map V.int))) ⟨same_upd zM2, upd_same⟩ (fun j H' _ h => SqT.of (h.1 _ _ hT6)) ?_ ?_
        · rintro j y H6 hy ⟨s6, hM2⟩
          obtain ⟨g, hg, rfl⟩ := at_txs hy
          refine ⟨rfl, ⟨_, rfl, ⟨_, rfl⟩, _, rfl, tx g, one c, rfl, rfl, _, hM2, ?_, same_putN s6 zM2, ?_⟩⟩
          · rw [List.length_map, List.length_map, List.length_take]
            omega
          · rw [upd_same, takeS hg, List.map_append, List.map_append, cnt_tx]
            rfl
        rintro H6 ⟨s6, hM2⟩
        rw [txs_len, List.take_length] at hM2
        have eL0 := s6 _ _ (show upd Ha L0 (.lst [.int 0]) L0 = some (.lst [.int 0]) from upd_same)
        refine ⟨L0, M2, _, _, rfl, rfl, eL0, hM2, by rw [List.length_map, List.length_map]; show 1 + gs.length ≤ sizeLine; omega, fun P2 zP2 => ?_⟩
        have sP := same_upd (o := .lst ([V.int 0] ++ (gs.map fun g => ((g.count c : Nat) : Int)).map V.int)) zP2
        refine ⟨P2, [0] ++ gs.map fun g => ((g.count c : Nat) : Int), rfl, SqL.of (by rw [upd_same, List.map_append]; rfl), by rw [List.length_append]; show 0 < 1 + _; omega, fun m hm hle => ?_⟩
        have em := most_eq (cs := gs.map fun g => ((g.count c : Nat) : Int)) (fun x hx => by
          obtain ⟨g, _, rfl⟩ := List.mem_map.mp hx
          exact Int.natCast_nonneg _) hm hle
        have sx : Same Ha (upd H6 P2 (.lst ([V.int 0] ++ (gs.map fun g => ((g.count c : Nat) : Int)).map V.int))) := sm_tr (sm_tr sL0 s6) sP
        refine ⟨_, sx _ _ hM, ?_, same_putN (sm_tr sa sx) zM, ?_⟩
        · rw [List.length_map, List.length_take]
          omega
        · rw [upd_same, takeS hc', List.map_append, em]
          rfl
      rintro H6 ⟨s6, hM⟩
      rw [tx_size, List.take_length] at hM
      refine ⟨M, _, rfl, .inl ⟨SqL.of hM, fun B zB => ?_⟩⟩
      exact ⟨B, rfl, sm_tr s6 (same_upd zB), upd_same⟩
    rintro σ' H6 ⟨B, rfl, s6, hB6⟩
    have s56 := sm_tr s5 s6
    have hA6 := s6 _ _ hA5
    refine ⟨_, rfl, _, rfl, x, T, l, n, gs, rfl, bd.same s56, s56 _ _ hT, ok, lg, fun H7 T1 s7 zT1 h1 => ?_⟩
    have s57 := sm_tr s56 s7
    refine ⟨_, rfl, T, _, rfl, SqT.of (s57 _ _ hT), fun P2 zP2 => ?_⟩
    have sP := same_upd (o := .tup (txs gs).reverse) zP2
    have s58 := sm_tr s57 sP
    refine ⟨_, rfl, x, P2, l, n, gs.reverse, rfl, bd.same s58, by rw [upd_same]; unfold txs; rw [List.map_reverse], fun g hg => ok g (List.mem_reverse.mp hg), by rw [List.length_reverse]; exact lg, fun H9 T2 s9 zT2 h2 => ?_⟩
    have s59 := sm_tr s58 s9
    have h2 := h2.rev
    have h1 := (h1.same sP).same s9
    refine ⟨by show 2 ≤ sizeLine; omega, fun D zD => ?_⟩
    have sD := same_upd (o := .lst [.ref T1, .ref T2]) zD
    have h1 := h1.same sD
    have h2 := h2.same sD
    have shT : Sh (trD l n.toNat gs) 4000 2 := sh_tr plo l26 (by omega) g6
    have shL : Sh (.list [trD l n.toNat gs, trD l n.toNat gs]) 16777216 60 := (Sh.lst (.cons shT (.cons shT .nil))).le (by decide) (by decide)
    refine ⟨_, rfl, D, .list [trD l n.toNat gs, trD l n.toNat gs], rfl, .lst (SqL.of upd_same) (.cons (dq_tr h1) (.cons (dq_tr h2) .nil)), shL, ?_⟩
    have s5A : Same H6 (upd H9 D (.lst [.ref T1, .ref T2])) := sm_tr (sm_tr (sm_tr s7 sP) s9) sD
    generalize upd H9 D (.lst [.ref T1, .ref T2]) = HA at s5A ⊢
    refine ⟨_, rfl, _, rfl, by show 2 ≤ sizeLine; omega, fun U1 zU1 => ?_⟩
    have sU1 := same_upd (o := .tup [.ref A, .ref B]) zU1
    refine ⟨_, rfl, _, rfl, by show 2 ≤ sizeLine; omega, fun U2 zU2 => ?_⟩
    have sU2 := same_upd (o := .tup [.ref A, .ref B]) zU2
    refine ⟨by show 2 ≤ sizeLine; omega, fun D2 zD2 => ?_⟩
    have sD2 := same_upd (o := .lst [.ref U1, .ref U2]) zD2
    have sB := sm_tr (sm_tr (sm_tr s5A sU1) sU2) sD2
    have k1 : TrAt (upd (upd (upd HA U1 (.tup [.ref A, .ref B])) U2 (.tup [.ref A, .ref B])) D2 (.lst [.ref U1, .ref U2])) U1 l n.toNat gs := ⟨A, B, sD2 _ _ (sU2 _ _ upd_same), sB _ _ hA6, sB _ _ hB6⟩
    have k2 : TrAt (upd (upd (upd HA U1 (.tup [.ref A, .ref B])) U2 (.tup [.ref A, .ref B])) D2 (.lst [.ref U1, .ref U2])) U2 l n.toNat gs := ⟨A, B, sD2 _ _ upd_same, sB _ _ hA6, sB _ _ hB6⟩
    refine ⟨D2, .list [trD l n.toNat gs, trD l n.toNat gs], rfl, .lst (SqL.of upd_same) (.cons (dq_tr k1) (.cons (dq_tr k2) .nil)), shL, ?_⟩
    refine ⟨rfl, _, rfl, ?_⟩
    rw [decide_eq_true rfl]
    exact iteF ⟨⟨_, _, _, _, _, _, _, _, _, _, _, rfl⟩, R4.same (sm_tr s56 sB)⟩
end
end Gm

namespace Gm
open PySem L2

def spLaw (K : PySem.W.Frag) : Sp := fun vs H Q _ => ∃ (a : Addr) (ns : List Int), vs = [.ref a] ∧ SqL K H a (ns.map V.int) ∧ ns.length ≤ 63 ∧ ∀ H', Q (.bl true) H'
def spLawN (K : PySem.W.Frag) : Sp := fun vs H Q E => (∀ p ∈ ([] : List (Addr × Addr)), H p.2 = some (.tbl #[])) ∧ spLaw K vs H Q E
structure TxL (mg : Str → Option Value) : Prop where
  all : mg "all" = none
  range : mg "range" = none
  max : mg "max" = none
  min : mg "min" = none
  len : mg "len" = none
section
variable {P : Program} {w : World} {K : PySem.W.Frag} {mg : Str → Option Value} {base : Heap}
abbrev nL : List Str := ["_law_script", "_law_k"]
theorem scL : FnScope nL ["_law_script"] (defScope sLaw) := ⟨rfl, rfl, rfl, by decide +kernel, rfl, by decide +kernel, by decide +kernel⟩
theorem ok_law {f fB fR : Addr} {fd fdB fdR : FuncData} (F : Fun K "law" "law" sLaw f fd) (T : TxL mg)
    (GB : FnOk P w K mg base CX0 1 fB fdB ["_law_script", "_law_k"] (spBowl K)) (DB : Df K mg "_law_bowl" fB fdB ["_law_script", "_law_k"])
    (GR : FnG P w K mg base CX0 5 fR fdR ["_law_bowl_here"] spRight) (DR : Df K mg "_law_right" fR fdR ["_law_bowl_here"]) : FnG P w K mg base CX0 6 f fd ["_law_script"] (spLawN K) := by
  refine F.okG scL (fun vs H Q E h => ?_) (fun cdv A outer s H vs Q E g hr h => ?_)
  · obtain ⟨_, a, ns, rfl, _⟩ := h
    rfl
  · obtain ⟨_, a, ns, rfl, hS, hlen, q⟩ := h
    have nd := scL.nd
    have hr1 : Room 1 _ := hr.mono (by decide)
    refine ⟨_, pss_one (ps_ret (pe_callB (cr_all rfl) (by rfl) T.all (by decide +kernel) (pa_cons
      (pe_lc (own := [("_law_k", 1)]) (g := gName 1) (by rfl) nd
        (pi_range1 (by rfl) T.range (pa_cons (pe_callB (call_max2 rfl) (by rfl) T.max (by decide +kernel) (pa_cons pe_int (pa_cons (pe_callB (call_min2 rfl) (by rfl) T.min (by decide +kernel)
          (pa_cons (pe_callB call_len_seq (by rfl) T.len PySem.boot_len (pa_cons (pv 0) pa_nil)) (pa_cons pe_int pa_nil))) pa_nil))) pa_nil))
        (blkOk_by (own := [("_law_k", 1)]) (N := nL) (sc := defScope sLaw) (by decide +kernel))
        (fun _ _ _ _ _ => pg_name (i := 1) nd rfl (Or.inl rfl)) (fun _ _ _ _ _ => pts_nil)
        (fun _ _ _ _ _ => pe_callG GR g hr (by rfl) DR.mg DR.kp DR.b pass0 (pa_cons (pe_call GB hr1 (by rfl) DB.mg DB.kp DB.b .nil pass0 (pa_cons (pv 0) (pa_cons (pv 1) pa_nil))) pa_nil))) pa_nil))), ?_⟩
    have hline : sizeLine = 16777216 := sizeLine_eq
    refine ⟨_, rfl, a, _, rfl, .inl hS, _, _, rfl, _, _, rfl, ?_⟩
    refine ⟨_, rfl, ?_, ?_, fun D hD => ?_⟩
    · rw [List.length_map]
      split <;> (try split) <;> omega
    · rw [List.length_map]
      split <;> (try split) <;> omega
    have hn : ∀ L : Int, (if (if (6 : Int) < L then (6 : Int) else L) > 2 then (if (6 : Int) < L then (6 : Int) else L) else 2).toNat ≤ 6 := fun L => by
      split <;> (try split) <;> omega
    refine lc_range (lo := 0) (fun i H' => Same H H' ∧ H' D = some (.lst ((List.replicate i true).map V.bl))) ⟨same_upd hD, upd_same⟩ ?_ ?_
    · rintro i H1 hi ⟨sm, hDi⟩
      have hi6 : i < 6 := Nat.lt_of_lt_of_le hi (hn _)
      refine ⟨rfl, ⟨_, rfl, _, rfl, a, ns, _, rfl, sm.seq hS, hlen, by omega, fun H2 p s2 np B => ⟨p, rfl, B, fun H3 R3 => ?_⟩⟩⟩
      have keep : Same H1 H3 := fun b o e => R3.1 b o (ne_of_none e np) (s2 b o e)
      refine ⟨_, keep _ _ hDi, ?_, fun b u e => ?_, ?_⟩
      · rw [List.length_map, List.length_replicate]
        omega
      · rw [upd_ne (ne_of_none e hD)]
        exact keep b u (sm b u e)
      · rw [upd_same, List.replicate_succ', List.map_append]
        rfl
    · rintro H1 ⟨sm, hD1⟩
      refine ⟨D, _, rfl, SqL.of hD1, ?_⟩
      rw [List.all_replicate]
      simp only [id, if_true, ite_self]
      exact q _
end
end Gm

namespace Gm
open PySem PySem.Spec PyProof.Rows L2 LamX
theorem all_mk {P : Program} {w : World} {K : PySem.W.Frag} {h : Heap} {mg : Str → Option Value} {fa CB fB fD fSg fOf fLw fGs fR fL fW fA fCn fOv fIw fCb fCg fLa fMc fTb fTr fI : Addr} (X : K.In h) (G : h.Ns mainGlobals mg) (hfa : mg "law" = some (.ref fa))
    {odB anB odD anD odSg anSg odOf anOf odLw anLw odGs anGs odR anR odL anL odW anW odA anA odCn anCn odOv anOv odIw anIw odCb anCb odCg anCg odLa anLa odMc anMc odTb anTb odTr anTr odI anI : Option Addr} {slB slD slSg slOf slLw slGs slR slL slW slA slCn slOv slIw slCb slCg slLa slMc slTb slTr slI : Array (Option Value)} {ocB kVB dcB pmB cdB ctB ocD kVD dcD pmD cdD ctD ocSg kVSg dcSg pmSg cdSg ctSg ocOf kVOf dcOf pmOf cdOf ctOf ocLw kVLw dcLw pmLw cdLw ctLw ocGs kVGs dcGs pmGs cdGs ctGs ocR kVR dcR pmR cdR ctR ocL kVL dcL pmL cdL ctL ocW kVW dcW pmW cdW ctW ocA kVA dcA pmA cdA ctA ocCn kVCn dcCn pmCn cdCn ctCn ocOv kVOv dcOv pmOv cdOv ctOv ocIw kVIw dcIw pmIw cdIw ctIw ocCb kVCb dcCb pmCb cdCb ctCb ocCg kVCg dcCg pmCg cdCg ctCg ocLa kVLa dcLa pmLa cdLa ctLa ocMc kVMc dcMc pmMc cdMc ctMc ocTb kVTb dcTb pmTb cdTb ctTb ocTr kVTr dcTr pmTr cdTr ctTr ocI kVI dcI pmI cdI ctI : Value}
    {tkML tkMM tkLO tkMG : Tok}
    (gCB : PySem.W.nsIn K mainGlobals "Board" = some (some (.ref CB)))
    (aB : PySem.W.nsIn K mainGlobals "_law_bowl" = some (some (.ref fB)))
    (lB : K.lookup fB = some ⟨ocB, odB, .func (PySem.W.fnOf "_law_bowl" "_law_bowl" (defArgs sBowl) (defBody sBowl) (defScope sBowl) .none kVB dcB pmB anB cdB ctB), slB⟩)
    (cB : PySem.W.codeIn K cdB "_law_bowl" = true)
    (kB : PySem.W.keepIn K (.ref fB) = true)
    (aD : PySem.W.nsIn K mainGlobals "_law_dip" = some (some (.ref fD)))
    (lD : K.lookup fD = some ⟨ocD, odD, .func (PySem.W.fnOf "_law_dip" "_law_dip" (defArgs sDip) (defBody sDip) (defScope sDip) .none kVD dcD pmD anD cdD ctD), slD⟩)
    (cD : PySem.W.codeIn K cdD "_law_dip" = true)
    (kD : PySem.W.keepIn K (.ref fD) = true)
    (aSg : PySem.W.nsIn K mainGlobals "_law_signs" = some (some (.ref fSg)))
    (lSg : K.lookup fSg = some ⟨ocSg, odSg, .func (PySem.W.fnOf "_law_signs" "_law_signs" (defArgs sSigns) (defBody sSigns) (defScope sSigns) .none kVSg dcSg pmSg anSg cdSg ctSg), slSg⟩)
    (cSg : PySem.W.codeIn K cdSg "_law_signs" = true)
    (kSg : PySem.W.keepIn K (.ref fSg) = true)
    (aOf : PySem.W.nsIn K mainGlobals "_law_of" = some (some (.ref fOf)))
    (lOf : K.lookup fOf = some ⟨ocOf, odOf, .func (PySem.W.fnOf "_law_of" "_law_of" (defArgs sOf) (defBody sOf) (defScope sOf) .none kVOf dcOf pmOf anOf cdOf ctOf), slOf⟩)
    (cOf : PySem.W.codeIn K cdOf "_law_of" = true)
    (kOf : PySem.W.keepIn K (.ref fOf) = true)
    (aLw : PySem.W.nsIn K mainGlobals "_law_word" = some (some (.ref fLw)))
    (lLw : K.lookup fLw = some ⟨ocLw, odLw, .func (PySem.W.fnOf "_law_word" "_law_word" (defArgs sWord) (defBody sWord) (defScope sWord) .none kVLw dcLw pmLw anLw cdLw ctLw), slLw⟩)
    (cLw : PySem.W.codeIn K cdLw "_law_word" = true)
    (kLw : PySem.W.keepIn K (.ref fLw) = true)
    (aGs : PySem.W.nsIn K mainGlobals "_law_guesses" = some (some (.ref fGs)))
    (lGs : K.lookup fGs = some ⟨ocGs, odGs, .func (PySem.W.fnOf "_law_guesses" "_law_guesses" (defArgs sGss) (defBody sGss) (defScope sGss) .none kVGs dcGs pmGs anGs cdGs ctGs), slGs⟩)
    (cGs : PySem.W.codeIn K cdGs "_law_guesses" = true)
    (kGs : PySem.W.keepIn K (.ref fGs) = true)
    (aR : PySem.W.nsIn K mainGlobals "_law_right" = some (some (.ref fR)))
    (lR : K.lookup fR = some ⟨ocR, odR, .func (PySem.W.fnOf "_law_right" "_law_right" (defArgs sRight) (defBody sRight) (defScope sRight) .none kVR dcR pmR anR cdR ctR), slR⟩)
    (cR : PySem.W.codeIn K cdR "_law_right" = true)
    (kR : PySem.W.keepIn K (.ref fR) = true)
    (aL : PySem.W.nsIn K mainGlobals "law" = some (some (.ref fL)))
    (lL : K.lookup fL = some ⟨ocL, odL, .func (PySem.W.fnOf "law" "law" (defArgs sLaw) (defBody sLaw) (defScope sLaw) .none kVL dcL pmL anL cdL ctL), slL⟩)
    (cL : PySem.W.codeIn K cdL "law" = true)
    (kL : PySem.W.keepIn K (.ref fL) = true)
    (aW : PySem.W.nsIn K mainGlobals "is_integer_within" = some (some (.ref fW)))
    (lW : K.lookup fW = some ⟨ocW, odW, .func (PySem.W.fnOf "is_integer_within" "is_integer_within" (defArgs sWithin) (defBody sWithin) (defScope sWithin) .none kVW dcW pmW anW cdW ctW), slW⟩)
    (cW : PySem.W.codeIn K cdW "is_integer_within" = true)
    (kW : PySem.W.keepIn K (.ref fW) = true)
    (aA : PySem.W.nsIn K mainGlobals "is_alphabet" = some (some (.ref fA)))
    (lA : K.lookup fA = some ⟨ocA, odA, .func (PySem.W.fnOf "is_alphabet" "is_alphabet" (defArgs sAlpha) (defBody sAlpha) (defScope sAlpha) .none kVA dcA pmA anA cdA ctA), slA⟩)
    (cA : PySem.W.codeIn K cdA "is_alphabet" = true)
    (kA : PySem.W.keepIn K (.ref fA) = true)
    (aCn : PySem.W.nsIn K mainGlobals "count_words" = some (some (.ref fCn)))
    (lCn : K.lookup fCn = some ⟨ocCn, odCn, .func (PySem.W.fnOf "count_words" "count_words" (defArgs sCount) (defBody sCount) (defScope sCount) .none kVCn dcCn pmCn anCn cdCn ctCn), slCn⟩)
    (cCn : PySem.W.codeIn K cdCn "count_words" = true)
    (kCn : PySem.W.keepIn K (.ref fCn) = true)
    (aOv : PySem.W.nsIn K mainGlobals "is_text_over" = some (some (.ref fOv)))
    (lOv : K.lookup fOv = some ⟨ocOv, odOv, .func (PySem.W.fnOf "is_text_over" "is_text_over" (defArgs sOver) (defBody sOver) (defScope sOver) .none kVOv dcOv pmOv anOv cdOv ctOv), slOv⟩)
    (cOv : PySem.W.codeIn K cdOv "is_text_over" = true)
    (kOv : PySem.W.keepIn K (.ref fOv) = true)
    (aIw : PySem.W.nsIn K mainGlobals "is_word" = some (some (.ref fIw)))
    (lIw : K.lookup fIw = some ⟨ocIw, odIw, .func (PySem.W.fnOf "is_word" "is_word" (defArgs sIsW) (defBody sIsW) (defScope sIsW) .none kVIw dcIw pmIw anIw cdIw ctIw), slIw⟩)
    (cIw : PySem.W.codeIn K cdIw "is_word" = true)
    (kIw : PySem.W.keepIn K (.ref fIw) = true)
    (aCb : PySem.W.nsIn K mainGlobals "check_board" = some (some (.ref fCb)))
    (lCb : K.lookup fCb = some ⟨ocCb, odCb, .func (PySem.W.fnOf "check_board" "check_board" (defArgs sChkB) (defBody sChkB) (defScope sChkB) .none kVCb dcCb pmCb anCb cdCb ctCb), slCb⟩)
    (cCb : PySem.W.codeIn K cdCb "check_board" = true)
    (kCb : PySem.W.keepIn K (.ref fCb) = true)
    (aCg : PySem.W.nsIn K mainGlobals "check_guesses" = some (some (.ref fCg)))
    (lCg : K.lookup fCg = some ⟨ocCg, odCg, .func (PySem.W.fnOf "check_guesses" "check_guesses" (defArgs sChkG) (defBody sChkG) (defScope sChkG) .none kVCg dcCg pmCg anCg cdCg ctCg), slCg⟩)
    (cCg : PySem.W.codeIn K cdCg "check_guesses" = true)
    (kCg : PySem.W.keepIn K (.ref fCg) = true)
    (aLa : PySem.W.nsIn K mainGlobals "letters_at" = some (some (.ref fLa)))
    (lLa : K.lookup fLa = some ⟨ocLa, odLa, .func (PySem.W.fnOf "letters_at" "letters_at" (defArgs sLatT) (defBody sLatT) (defScope sLatT) .none kVLa dcLa pmLa anLa cdLa ctLa), slLa⟩)
    (cLa : PySem.W.codeIn K cdLa "letters_at" = true)
    (kLa : PySem.W.keepIn K (.ref fLa) = true)
    (aMc : PySem.W.nsIn K mainGlobals "most_copies" = some (some (.ref fMc)))
    (lMc : K.lookup fMc = some ⟨ocMc, odMc, .func (PySem.W.fnOf "most_copies" "most_copies" (defArgs sMost) (defBody sMost) (defScope sMost) .none kVMc dcMc pmMc anMc cdMc ctMc), slMc⟩)
    (cMc : PySem.W.codeIn K cdMc "most_copies" = true)
    (kMc : PySem.W.keepIn K (.ref fMc) = true)
    (aTb : PySem.W.nsIn K mainGlobals "tried_by" = some (some (.ref fTb)))
    (lTb : K.lookup fTb = some ⟨ocTb, odTb, .func (PySem.W.fnOf "tried_by" "tried_by" (defArgs sTrBy) (defBody sTrBy) (defScope sTrBy) .none kVTb dcTb pmTb anTb cdTb ctTb), slTb⟩)
    (cTb : PySem.W.codeIn K cdTb "tried_by" = true)
    (kTb : PySem.W.keepIn K (.ref fTb) = true)
    (aTr : PySem.W.nsIn K mainGlobals "tried" = some (some (.ref fTr)))
    (lTr : K.lookup fTr = some ⟨ocTr, odTr, .func (PySem.W.fnOf "tried" "tried" (defArgs sTried) (defBody sTried) (defScope sTried) .none kVTr dcTr pmTr anTr cdTr ctTr), slTr⟩)
    (cTr : PySem.W.codeIn K cdTr "tried" = true)
    (kTr : PySem.W.keepIn K (.ref fTr) = true)
    (aI : PySem.W.findIn K (.ref CB) "__init__" = some (some (.ref fI)))
    (iI : PySem.W.isFn K (.ref fI) = true)
    (lI : K.lookup fI = some ⟨ocI, odI, .func (PySem.W.fnOf "__init__" "Board.__init__" (defArgs sInit) (defBody sInit) (defScope sInit) .none kVI dcI pmI anI cdI ctI), slI⟩)
    (cI : PySem.W.codeIn K cdI "Board.__init__" = true)
    (kI : PySem.W.keepIn K (.ref fI) = true)
    (nML : PySem.W.nsIn K mainGlobals "MOST_LENGTH" = some (some (.int 6 tkML)))
    (nMM : PySem.W.nsIn K mainGlobals "MOST_LETTERS" = some (some (.int 26 tkMM)))
    (nLO : PySem.W.nsIn K mainGlobals "LOWERCASE" = some (some (.str lowTxt tkLO)))
    (nMG : PySem.W.nsIn K mainGlobals "MOST_GUESSES" = some (some (.int 20 tkMG)))
    (zlen : PySem.W.nsIn K mainGlobals "len" = some none)
    (zint : PySem.W.nsIn K mainGlobals "int" = some none)
    (zabs : PySem.W.nsIn K mainGlobals "abs" = some none)
    (zdivmod : PySem.W.nsIn K mainGlobals "divmod" = some none)
    (zisinstance : PySem.W.nsIn K mainGlobals "isinstance" = some none)
    (zbool : PySem.W.nsIn K mainGlobals "bool" = some none)
    (zstr : PySem.W.nsIn K mainGlobals "str" = some none)
    (zrange : PySem.W.nsIn K mainGlobals "range" = some none)
    (zsorted : PySem.W.nsIn K mainGlobals "sorted" = some none)
    (zrepr : PySem.W.nsIn K mainGlobals "repr" = some none)
    (zall : PySem.W.nsIn K mainGlobals "all" = some none)
    (zmax : PySem.W.nsIn K mainGlobals "max" = some none)
    (zmin : PySem.W.nsIn K mainGlobals "min" = some none)
    (ztuple : PySem.W.nsIn K mainGlobals "tuple" = some none)
    (zenumerate : PySem.W.nsIn K mainGlobals "enumerate" = some none)
    (zset : PySem.W.nsIn K mainGlobals "set" = some none)
    (pg : PySem.W.plainGet K CB Str.empty = true)
    (hd : PySem.W.hasDictIn K CB = true)
    (po : PySem.W.plainOver K CB = true)
    (sa : PySem.W.findIn K (.ref CB) "__setattr__" = some (some (.builtin "object.__setattr__")))
    (mk : PySem.W.makesIn K CB = true)
    (kc : PySem.W.keepIn K (.ref CB) = true)
    (naL : PySem.W.findIn K (.ref CB) "letters" = some none)
    (naN : PySem.W.findIn K (.ref CB) "length" = some none)
    (naS : PySem.W.findIn K (.ref CB) "size" = some none)
    (ac : PySem.W.findIn K (.ref CB) "__class__" = some (some (.builtin "object.__class__")))
    (gtc : PySem.W.specialIn K (.builtin "object.__class__") "__get__" = some (some (.builtin "getset_descriptor.__get__")))
    (tkc : PySem.W.takesIn K (.builtin "object.__class__") = some true)
    (ob : PySem.W.mroIn K CB (.type "object") = some true)
    (kitO : PySem.W.kitOne K (.ref CB) (.ref CB) = some true) :
    ∃ (fd : FuncData) (cs : List (Addr × Addr)), (∀ p ∈ cs, h.get? p.2 = some { cls := .none, data := .fields #[] } ∧ K.lookup p.2 = none ∧ PySem.W.CodeHd h p.1 p.2) ∧ (∀ (s : Shared) (u : Value), BindsTo s fd ⟨[u], []⟩ [("_law_script", u)]) ∧
      ∀ base : Heap, K.In base → base.Ns mainGlobals mg → (∃ mm, base.Ns sysModules mm) → (∀ p ∈ cs, TabB base mg p.1 p.2) → FnG P w K mg base L2.CX0 6 fa fd ["_law_script"] (fun vs H Q E => (∀ p ∈ cs, H p.2 = some (.tbl #[])) ∧ spLaw K vs H Q E) := by
  have e := hfa.symm.trans (PySem.W.mg_of X G aL)
  cases e
  have FB := fun_mk (st := sBowl) lB cB kB
  have FD := fun_mk (st := sDip) lD cD kD
  have FSg := fun_mk (st := sSigns) lSg cSg kSg
  have FOf := fun_mk (st := sOf) lOf cOf kOf
  have FLw := fun_mk (st := sWord) lLw cLw kLw
  have FGs := fun_mk (st := sGss) lGs cGs kGs
  have FR := fun_mk (st := sRight) lR cR kR
  have FL := fun_mk (st := sLaw) lL cL kL
  have FW := fun_mk (st := sWithin) lW cW kW
  have FA := fun_mk (st := sAlpha) lA cA kA
  have FCn := fun_mk (st := sCount) lCn cCn kCn
  have FOv := fun_mk (st := sOver) lOv cOv kOv
  have FIw := fun_mk (st := sIsW) lIw cIw kIw
  have FCb := fun_mk (st := sChkB) lCb cCb kCb
  have FCg := fun_mk (st := sChkG) lCg cCg kCg
  have FLa := fun_mk (st := sLatT) lLa cLa kLa
  have FMc := fun_mk (st := sMost) lMc cMc kMc
  have FTb := fun_mk (st := sTrBy) lTb cTb kTb
  have FTr := fun_mk (st := sTried) lTr cTr kTr
  have FI := fun_mk (st := sInit) lI cI kI
  have bB := FB.binds (ps := ["_law_script", "_law_k"]) fun _ _ _ _ _ _ us hl => match us, hl with | [_, _], _ => rfl
  have bD := FD.binds (ps := ["_law_bowl_here", "_law_many"]) fun _ _ _ _ _ _ us hl => match us, hl with | [_, _], _ => rfl
  have bSg := FSg.binds (ps := ["_law_bowl_here", "_law_least", "_law_most"]) fun _ _ _ _ _ _ us hl => match us, hl with | [_, _, _], _ => rfl
  have bOf := FOf.binds (ps := ["_law_bowl_here", "_law_things"]) fun _ _ _ _ _ _ us hl => match us, hl with | [_, _], _ => rfl
  have bLw := FLw.binds (ps := ["_law_bowl_here", "_law_signs_here", "_law_size"]) fun _ _ _ _ _ _ us hl => match us, hl with | [_, _, _], _ => rfl
  have bGs := FGs.binds (ps := ["_law_bowl_here", "_law_signs_here", "_law_size", "_law_most"]) fun _ _ _ _ _ _ us hl => match us, hl with | [_, _, _, _], _ => rfl
  have bR := FR.binds (ps := ["_law_bowl_here"]) fun _ _ _ _ _ _ us hl => match us, hl with | [_], _ => rfl
  have bW := FW.binds (ps := ["value", "least", "most"]) fun _ _ _ _ _ _ us hl => match us, hl with | [_, _, _], _ => rfl
  have bA := FA.binds (ps := ["letters"]) fun _ _ _ _ _ _ us hl => match us, hl with | [_], _ => rfl
  have bCn := FCn.binds (ps := ["many", "length"]) fun _ _ _ _ _ _ us hl => match us, hl with | [_, _], _ => rfl
  have bOv := FOv.binds (ps := ["value", "characters", "length"]) fun _ _ _ _ _ _ us hl => match us, hl with | [_, _, _], _ => rfl
  have bIw := FIw.binds (ps := ["board", "value"]) fun _ _ _ _ _ _ us hl => match us, hl with | [_, _], _ => rfl
  have bCb := FCb.binds (ps := ["board"]) fun _ _ _ _ _ _ us hl => match us, hl with | [_], _ => rfl
  have bCg := FCg.binds (ps := ["board", "guesses"]) fun _ _ _ _ _ _ us hl => match us, hl with | [_, _], _ => rfl
  have bLa := FLa.binds (ps := ["board", "guesses", "place"]) fun _ _ _ _ _ _ us hl => match us, hl with | [_, _, _], _ => rfl
  have bMc := FMc.binds (ps := ["guesses", "letter"]) fun _ _ _ _ _ _ us hl => match us, hl with | [_, _], _ => rfl
  have bTb := FTb.binds (ps := ["board", "guesses"]) fun _ _ _ _ _ _ us hl => match us, hl with | [_, _], _ => rfl
  have bTr := FTr.binds (ps := ["board", "guesses"]) fun _ _ _ _ _ _ us hl => match us, hl with | [_, _], _ => rfl
  have bI := FI.binds (ps := ["self", "letters", "length"]) fun _ _ _ _ _ _ us hl => match us, hl with | [_, _, _], _ => rfl
  have DB : Df K mg "_law_bowl" _ _ _ := ⟨PySem.W.mg_of X G aB, kB, bB⟩
  have DD : Df K mg "_law_dip" _ _ _ := ⟨PySem.W.mg_of X G aD, kD, bD⟩
  have DSg : Df K mg "_law_signs" _ _ _ := ⟨PySem.W.mg_of X G aSg, kSg, bSg⟩
  have DOf : Df K mg "_law_of" _ _ _ := ⟨PySem.W.mg_of X G aOf, kOf, bOf⟩
  have DLw : Df K mg "_law_word" _ _ _ := ⟨PySem.W.mg_of X G aLw, kLw, bLw⟩
  have DGs : Df K mg "_law_guesses" _ _ _ := ⟨PySem.W.mg_of X G aGs, kGs, bGs⟩
  have DR : Df K mg "_law_right" _ _ _ := ⟨PySem.W.mg_of X G aR, kR, bR⟩
  have DW : Df K mg "is_integer_within" _ _ _ := ⟨PySem.W.mg_of X G aW, kW, bW⟩
  have DA : Df K mg "is_alphabet" _ _ _ := ⟨PySem.W.mg_of X G aA, kA, bA⟩
  have DCn : Df K mg "count_words" _ _ _ := ⟨PySem.W.mg_of X G aCn, kCn, bCn⟩
  have DOv : Df K mg "is_text_over" _ _ _ := ⟨PySem.W.mg_of X G aOv, kOv, bOv⟩
  have DIw : Df K mg "is_word" _ _ _ := ⟨PySem.W.mg_of X G aIw, kIw, bIw⟩
  have DCb : Df K mg "check_board" _ _ _ := ⟨PySem.W.mg_of X G aCb, kCb, bCb⟩
  have DCg : Df K mg "check_guesses" _ _ _ := ⟨PySem.W.mg_of X G aCg, kCg, bCg⟩
  have DLa : Df K mg "letters_at" _ _ _ := ⟨PySem.W.mg_of X G aLa, kLa, bLa⟩
  have DMc : Df K mg "most_copies" _ _ _ := ⟨PySem.W.mg_of X G aMc, kMc, bMc⟩
  have DTb : Df K mg "tried_by" _ _ _ := ⟨PySem.W.mg_of X G aTb, kTb, bTb⟩
  have DTr : Df K mg "tried" _ _ _ := ⟨PySem.W.mg_of X G aTr, kTr, bTr⟩
  have TBx : TxB mg := ⟨(PySem.W.mg_none_of X G zlen),(PySem.W.mg_none_of X G zint),(PySem.W.mg_none_of X G zabs),(PySem.W.mg_none_of X G zdivmod)⟩
  have TW : TxW mg := ⟨(PySem.W.mg_none_of X G zisinstance),(PySem.W.mg_none_of X G zbool),(PySem.W.mg_none_of X G zint),(PySem.W.mg_none_of X G zstr),(PySem.W.mg_none_of X G zlen),(PySem.W.mg_none_of X G zrange), ⟨_, PySem.W.mg_of X G nMM⟩, ⟨_, PySem.W.mg_of X G nML⟩, ⟨_, PySem.W.mg_of X G nLO⟩⟩
  have TC : TxC K mg CB := ⟨⟨pg, hd, po, sa⟩, PySem.W.mg_of X G gCB, naL, naN, naS, ac, gtc, tkc, ob, kitO⟩
  have TS : TxS mg := ⟨(PySem.W.mg_none_of X G zlen),(PySem.W.mg_none_of X G zrange),(PySem.W.mg_none_of X G zsorted)⟩
  have TL : TxL mg := ⟨(PySem.W.mg_none_of X G zall),(PySem.W.mg_none_of X G zrange),(PySem.W.mg_none_of X G zmax),(PySem.W.mg_none_of X G zmin),(PySem.W.mg_none_of X G zlen)⟩
  have mMG : ∃ t, mg "MOST_GUESSES" = some (.int 20 t) := ⟨_, PySem.W.mg_of X G nMG⟩
  refine ⟨PySem.W.fnOf "law" "law" (defArgs sLaw) (defBody sLaw) (defScope sLaw) .none kVL dcL pmL anL cdL ctL, [], nofun, fun s v => .of_eq rfl, fun base _ _ hM _ => ?_⟩

  have GD : FnOk P w K mg base L2.CX0 1 fD _ _ spDip := ok_dip FD TBx
  have GI : FnOk P w K mg base L2.CX0 2 fI _ _ (spInit CB) := ok_init FI TW TC (ok_alpha FA TW) DA (ok_within FW TW) DW (ok_count FCn TW) DCn
  have GOt : FnOk P w K mg base L2.CX0 2 fOf _ _ spOfT := ok_ofT FOf TS GD DD
  have GOl : FnOk P w K mg base L2.CX0 2 fOf _ _ spOfL := ok_ofL FOf ((PySem.W.mg_none_of X G zlen)) GD DD
  have GLw : FnOk P w K mg base L2.CX0 3 fLw _ _ spWord := ok_word FLw TS GD DD GOt DOf
  have GSg : FnOk P w K mg base L2.CX0 2 fSg _ _ spSigns := ok_signs FSg TS GD DD
  have GGs : FnOk P w K mg base L2.CX0 4 fGs _ _ spGss := ok_gss FGs ((PySem.W.mg_none_of X G zrange)) ((PySem.W.mg_none_of X G ztuple)) GD DD GOt DOf GLw DLw
  have GOv : FnOk P w K mg base L2.CX0 1 fOv _ _ (spOver K) := ok_over FOv TW ((PySem.W.mg_none_of X G zall))
  have GIw : FnOk P w K mg base L2.CX0 2 fIw _ _ (spIsW K CB none) := ok_isW FIw TC GOv DOv
  have GCb : FnOk P w K mg base L2.CX0 1 fCb _ _ (spChkB CB) := ok_chkB FCb TW TC
  have GCg : FnOk P w K mg base L2.CX0 3 fCg _ _ (spChkG CB) := ok_chkG FCg ((PySem.W.mg_none_of X G zlen)) ((PySem.W.mg_none_of X G zenumerate)) ((PySem.W.mg_none_of X G zisinstance)) ((PySem.W.mg_none_of X G ztuple)) mMG GIw DIw
  have GLa : FnOk P w K mg base L2.CX0 1 fLa _ _ (spLatT CB) := ok_latT FLa TC
  have GMc : FnOk P w K mg base L2.CX0 1 fMc _ _ spMost := ok_most FMc ((PySem.W.mg_none_of X G zmax))
  have GTb : FnOk P w K mg base L2.CX0 2 fTb _ _ (spTrBy CB) := ok_trby FTb TC ((PySem.W.mg_none_of X G zrange)) ((PySem.W.mg_none_of X G ztuple)) GLa DLa GMc DMc
  have GTr : FnOk P w K mg base L2.CX0 4 fTr _ _ (spTrBy CB) := ok_tried FTr GCb DCb GCg DCg GTb DTb
  have GR : FnG P w K mg base L2.CX0 5 fR _ _ spRight := ok_right FR (PySem.W.mg_none_of X G zrepr) (PySem.W.mg_none_of X G zrange) (PySem.W.mg_none_of X G ztuple) (PySem.W.mg_none_of X G zsorted) (PySem.W.mg_none_of X G zset) (PySem.W.mg_none_of X G zmax) TC GI ⟨mk, aI, iI, kc⟩ bI (kw_tried FTr) hM GSg DSg GD DD GOl DOf GGs DGs GTr DTr
  exact ok_law FL TL (ok_bowl FB TBx) DB GR DR

/-! the head -/
theorem of_says {P : Program} {w : World} {K : PySem.W.Frag} {h : Heap} {mg : Str → Option Value} {fa : Addr} (X : K.In h) (G : h.Ns mainGlobals mg) (hfa : mg "law" = some (.ref fa)) (c : HX.SaysA fnH tfH exH exI h K) :
    ∃ (fd : FuncData) (cs : List (Addr × Addr)), (∀ p ∈ cs, h.get? p.2 = some { cls := .none, data := .fields #[] } ∧ K.lookup p.2 = none ∧ PySem.W.CodeHd h p.1 p.2) ∧ (∀ (s : Shared) (u : Value), BindsTo s fd ⟨[u], []⟩ [("_law_script", u)]) ∧
      ∀ base : Heap, K.In base → base.Ns mainGlobals mg → (∃ mm, base.Ns sysModules mm) → (∀ p ∈ cs, TabB base mg p.1 p.2) → FnG P w K mg base L2.CX0 6 fa fd ["_law_script"] (fun vs H Q E => (∀ p ∈ cs, H p.2 = some (.tbl #[])) ∧ spLaw K vs H Q E) := by
  have mm := c.more
  have mm : exH K = true := mm
  unfold exH at mm
  have m1 := HX.and_r mm
  replace mm := HX.and_l mm
  have m0 := mm
  have mm := c.more2
  have mm : exI K = true := mm
  unfold exI at mm
  have m2 := mm
  obtain ⟨ocB, odB, kVB, dcB, pmB, anB, cdB, ctB, slB, lB, cB, kB⟩ := c.def_ 0 (d := dHB) rfl rfl
  obtain ⟨ocD, odD, kVD, dcD, pmD, anD, cdD, ctD, slD, lD, cD, kD⟩ := c.def_ 1 (d := dHD) rfl rfl
  obtain ⟨ocSg, odSg, kVSg, dcSg, pmSg, anSg, cdSg, ctSg, slSg, lSg, cSg, kSg⟩ := c.def_ 2 (d := dHSg) rfl rfl
  obtain ⟨ocOf, odOf, kVOf, dcOf, pmOf, anOf, cdOf, ctOf, slOf, lOf, cOf, kOf⟩ := c.def_ 3 (d := dHOf) rfl rfl
  obtain ⟨ocLw, odLw, kVLw, dcLw, pmLw, anLw, cdLw, ctLw, slLw, lLw, cLw, kLw⟩ := c.def_ 4 (d := dHLw) rfl rfl
  obtain ⟨ocGs, odGs, kVGs, dcGs, pmGs, anGs, cdGs, ctGs, slGs, lGs, cGs, kGs⟩ := c.def_ 5 (d := dHGs) rfl rfl
  obtain ⟨ocR, odR, kVR, dcR, pmR, anR, cdR, ctR, slR, lR, cR, kR⟩ := c.def_ 6 (d := dHR) rfl rfl
  obtain ⟨ocL, odL, kVL, dcL, pmL, anL, cdL, ctL, slL, lL, cL, kL⟩ := c.def_ 7 (d := dHL) rfl rfl
  obtain ⟨ocW, odW, kVW, dcW, pmW, anW, cdW, ctW, slW, lW, cW, kW⟩ := c.def_ 8 (d := dHW) rfl rfl
  obtain ⟨ocA, odA, kVA, dcA, pmA, anA, cdA, ctA, slA, lA, cA, kA⟩ := c.def_ 9 (d := dHA) rfl rfl
  obtain ⟨ocCn, odCn, kVCn, dcCn, pmCn, anCn, cdCn, ctCn, slCn, lCn, cCn, kCn⟩ := c.def_ 10 (d := dHCn) rfl rfl
  obtain ⟨ocOv, odOv, kVOv, dcOv, pmOv, anOv, cdOv, ctOv, slOv, lOv, cOv, kOv⟩ := c.def_ 11 (d := dHOv) rfl rfl
  obtain ⟨ocIw, odIw, kVIw, dcIw, pmIw, anIw, cdIw, ctIw, slIw, lIw, cIw, kIw⟩ := c.def_ 12 (d := dHIw) rfl rfl
  obtain ⟨ocCb, odCb, kVCb, dcCb, pmCb, anCb, cdCb, ctCb, slCb, lCb, cCb, kCb⟩ := c.def_ 13 (d := dHCb) rfl rfl
  obtain ⟨ocCg, odCg, kVCg, dcCg, pmCg, anCg, cdCg, ctCg, slCg, lCg, cCg, kCg⟩ := c.def_ 14 (d := dHCg) rfl rfl
  obtain ⟨ocLa, odLa, kVLa, dcLa, pmLa, anLa, cdLa, ctLa, slLa, lLa, cLa, kLa⟩ := c.def_ 15 (d := dHLa) rfl rfl
  obtain ⟨ocMc, odMc, kVMc, dcMc, pmMc, anMc, cdMc, ctMc, slMc, lMc, cMc, kMc⟩ := c.def_ 16 (d := dHMc) rfl rfl
  obtain ⟨ocTb, odTb, kVTb, dcTb, pmTb, anTb, cdTb, ctTb, slTb, lTb, cTb, kTb⟩ := c.def_ 17 (d := dHTb) rfl rfl
  obtain ⟨ocTr, odTr, kVTr, dcTr, pmTr, anTr, cdTr, ctTr, slTr, lTr, cTr, kTr⟩ := c.def_ 18 (d := dHTr) rfl rfl
  obtain ⟨ocI, odI, kVI, dcI, pmI, anI, cdI, ctI, slI, lI, cI, kI⟩ := c.def_ 19 (d := dHI) rfl rfl
  have gCB : PySem.W.nsIn K mainGlobals "Board" = some (some (.ref (A_CB K))) := HX.allT_of m0 0 rfl
  have aB : PySem.W.nsIn K mainGlobals "_law_bowl" = some (some (.ref (A_fB K))) := HX.allT_of m0 1 rfl
  have aD : PySem.W.nsIn K mainGlobals "_law_dip" = some (some (.ref (A_fD K))) := HX.allT_of m0 2 rfl
  have aSg : PySem.W.nsIn K mainGlobals "_law_signs" = some (some (.ref (A_fSg K))) := HX.allT_of m0 3 rfl
  have aOf : PySem.W.nsIn K mainGlobals "_law_of" = some (some (.ref (A_fOf K))) := HX.allT_of m0 4 rfl
  have aLw : PySem.W.nsIn K mainGlobals "_law_word" = some (some (.ref (A_fLw K))) := HX.allT_of m0 5 rfl
  have aGs : PySem.W.nsIn K mainGlobals "_law_guesses" = some (some (.ref (A_fGs K))) := HX.allT_of m0 6 rfl
  have aR : PySem.W.nsIn K mainGlobals "_law_right" = some (some (.ref (A_fR K))) := HX.allT_of m0 7 rfl
  have aL : PySem.W.nsIn K mainGlobals "law" = some (some (.ref (A_fL K))) := HX.allT_of m0 8 rfl
  have aW : PySem.W.nsIn K mainGlobals "is_integer_within" = some (some (.ref (A_fW K))) := HX.allT_of m0 9 rfl
  have aA : PySem.W.nsIn K mainGlobals "is_alphabet" = some (some (.ref (A_fA K))) := HX.allT_of m0 10 rfl
  have aCn : PySem.W.nsIn K mainGlobals "count_words" = some (some (.ref (A_fCn K))) := HX.allT_of m0 11 rfl
  have aOv : PySem.W.nsIn K mainGlobals "is_text_over" = some (some (.ref (A_fOv K))) := HX.allT_of m0 12 rfl
  have aIw : PySem.W.nsIn K mainGlobals "is_word" = some (some (.ref (A_fIw K))) := HX.allT_of m0 13 rfl
  have aCb : PySem.W.nsIn K mainGlobals "check_board" = some (some (.ref (A_fCb K))) := HX.allT_of m0 14 rfl
  have aCg : PySem.W.nsIn K mainGlobals "check_guesses" = some (some (.ref (A_fCg K))) := HX.allT_of m0 15 rfl
  have aLa : PySem.W.nsIn K mainGlobals "letters_at" = some (some (.ref (A_fLa K))) := HX.allT_of m0 16 rfl
  have aMc : PySem.W.nsIn K mainGlobals "most_copies" = some (some (.ref (A_fMc K))) := HX.allT_of m0 17 rfl
  have aTb : PySem.W.nsIn K mainGlobals "tried_by" = some (some (.ref (A_fTb K))) := HX.allT_of m0 18 rfl
  have aTr : PySem.W.nsIn K mainGlobals "tried" = some (some (.ref (A_fTr K))) := HX.allT_of m0 19 rfl
  have aI : PySem.W.findIn K (.ref (A_CB K)) "__init__" = some (some (.ref (A_fI K))) := HX.allT_of m0 20 rfl
  have iI : PySem.W.isFn K (.ref (A_fI K)) = true := HX.allT_of m0 21 rfl
  obtain ⟨_, nML⟩ := HX.intB_of (HX.allT_at m0 (i := 22) rfl)
  obtain ⟨_, nMM⟩ := HX.intB_of (HX.allT_at m0 (i := 23) rfl)
  obtain ⟨_, nLO⟩ := HX.strB_of (HX.allT_at m0 (i := 24) rfl)
  obtain ⟨_, nMG⟩ := HX.intB_of (HX.allT_at m1 (i := 0) rfl)
  have zlen : PySem.W.nsIn K mainGlobals "len" = some none := HX.allT_of m1 1 rfl
  have zint : PySem.W.nsIn K mainGlobals "int" = some none := HX.allT_of m1 2 rfl
  have zabs : PySem.W.nsIn K mainGlobals "abs" = some none := HX.allT_of m1 3 rfl
  have zdivmod : PySem.W.nsIn K mainGlobals "divmod" = some none := HX.allT_of m1 4 rfl
  have zisinstance : PySem.W.nsIn K mainGlobals "isinstance" = some none := HX.allT_of m1 5 rfl
  have zbool : PySem.W.nsIn K mainGlobals "bool" = some none := HX.allT_of m1 6 rfl
  have zstr : PySem.W.nsIn K mainGlobals "str" = some none := HX.allT_of m1 7 rfl
  have zrange : PySem.W.nsIn K mainGlobals "range" = some none := HX.allT_of m1 8 rfl
  have zsorted : PySem.W.nsIn K mainGlobals "sorted" = some none := HX.allT_of m1 9 rfl
  have zrepr : PySem.W.nsIn K mainGlobals "repr" = some none := HX.allT_of m1 10 rfl
  have zall : PySem.W.nsIn K mainGlobals "all" = some none := HX.allT_of m1 11 rfl
  have zmax : PySem.W.nsIn K mainGlobals "max" = some none := HX.allT_of m1 12 rfl
  have zmin : PySem.W.nsIn K mainGlobals "min" = some none := HX.allT_of m1 13 rfl
  have ztuple : PySem.W.nsIn K mainGlobals "tuple" = some none := HX.allT_of m1 14 rfl
  have zenumerate : PySem.W.nsIn K mainGlobals "enumerate" = some none := HX.allT_of m1 15 rfl
  have zset : PySem.W.nsIn K mainGlobals "set" = some none := HX.allT_of m1 16 rfl
  have pg : PySem.W.plainGet K (A_CB K) Str.empty = true := HX.allT_of m1 17 rfl
  have hd : PySem.W.hasDictIn K (A_CB K) = true := HX.allT_of m1 18 rfl
  have po : PySem.W.plainOver K (A_CB K) = true := HX.allT_of m1 19 rfl
  have sa : PySem.W.findIn K (.ref (A_CB K)) "__setattr__" = some (some (.builtin "object.__setattr__")) := HX.allT_of m1 20 rfl
  have mk : PySem.W.makesIn K (A_CB K) = true := HX.allT_of m1 21 rfl
  have kc : PySem.W.keepIn K (.ref (A_CB K)) = true := HX.allT_of m1 22 rfl
  have naL : PySem.W.findIn K (.ref (A_CB K)) "letters" = some none := HX.allT_of m1 23 rfl
  have naN : PySem.W.findIn K (.ref (A_CB K)) "length" = some none := HX.allT_of m1 24 rfl
  have naS : PySem.W.findIn K (.ref (A_CB K)) "size" = some none := HX.allT_of m2 0 rfl
  have ac : PySem.W.findIn K (.ref (A_CB K)) "__class__" = some (some (.builtin "object.__class__")) := HX.allT_of m2 1 rfl
  have gtc : PySem.W.specialIn K (.builtin "object.__class__") "__get__" = some (some (.builtin "getset_descriptor.__get__")) := HX.allT_of m2 2 rfl
  have tkc : PySem.W.takesIn K (.builtin "object.__class__") = some true := HX.allT_of m2 3 rfl
  have ob : PySem.W.mroIn K (A_CB K) (.type "object") = some true := HX.allT_of m2 4 rfl
  have kitO : PySem.W.kitOne K (.ref (A_CB K)) (.ref (A_CB K)) = some true := HX.allT_of m2 5 rfl
  exact all_mk X G hfa gCB aB lB cB kB aD lD cD kD aSg lSg cSg kSg aOf lOf cOf kOf aLw lLw cLw kLw aGs lGs cGs kGs aR lR cR kR aL lL cL kL aW lW cW kW aA lA cA kA aCn lCn cCn kCn aOv lOv cOv kOv aIw lIw cIw kIw aCb lCb cCb kCb aCg lCg cCg kCg aLa lLa cLa kLa aMc lMc cMc kMc aTb lTb cTb kTb aTr lTr cTr kTr aI iI lI cI kI nML nMM nLO nMG zlen zint zabs zdivmod zisinstance zbool zstr zrange zsorted zrepr zall zmax zmin ztuple zenumerate zset pg hd po sa mk kc naL naN naS ac gtc tkc ob kitO
end Gm
open PySem PySem.W PySem.Calls PyProof.Rows
theorem PySem.Challenge.cw_guessmarks_k19_whole_letters_tried_holds : PySem.Challenge.rw_guessmarks_k19_whole_letters_tried.Holds := by
  w_on; o_law
  refine HandSHeadRun.head_any (r := OpenLaw.row PySem.Challenge.rw_guessmarks_k19_whole_letters_tried) (q := view (OpenLaw.row PySem.Challenge.rw_guessmarks_k19_whole_letters_tried).prog [36]) (H := Gm.hkH) (ob := Gm.obH) (M := 12000) (loose := Gm.namesH) (d := HandSHeadRun.topDef (OpenLaw.row PySem.Challenge.rw_guessmarks_k19_whole_letters_tried).prog 36) (kwd := []) Gm.obH_eq
    (by kernel_rfl) (fun s => by kernel_rfl) Gm.runH (by kernel_rfl) (by kernel_rfl) (by kernel_rfl) (by rfl) (by first | assumption | decide +kernel) (by decide +kernel) ⟨rfl, rfl, rfl, rfl, rfl, by decide +kernel⟩ ?hw ?hc
  case hw => w_witness2
  case hc =>
    refine L2.walkGE (l := PySem.Challenge.rw_guessmarks_k19_whole_letters_tried) (n := 63) (k := 6) (x := "_law_script") rfl (by decide) (by kernel_rfl) ⟨rfl, by decide, by decide⟩ (by first | kernel_rfl | decide +kernel) ?F
    intro w mg fa h Y G hmg0
    obtain ⟨K, KX, c⟩ := Y
    have hmg : mg ("law" : PySem.Str) = some (.ref fa) := by
      have e : (HandSHeadRun.topDef (OpenLaw.row PySem.Challenge.rw_guessmarks_k19_whole_letters_tried).prog 36).name = ("law" : PySem.Str) := by kernel_rfl
      rw [← e]
      exact hmg0
    obtain ⟨fd, cs, hC, hb, hF⟩ := Gm.of_says (P := (PySem.Challenge.rw_guessmarks_k19_whole_letters_tried).prog) (w := w) KX G hmg c
    exact ⟨K, fd, cs, _, KX, hC, hb, fun H a ns hl hT hS => ⟨hT, a, ns, rfl, hS, hl, fun _ => rfl⟩, hF⟩

