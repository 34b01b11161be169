import PyProof.Rows.All
import Wide.All
import OpenK.AllK
import Wide.FinOn
import KE.KCallOwn
import PyProof.InstEq
import HandS.ForMost
import HandS.OwnEq
import HandS.IsInst
import HandS.Walk
import HandS.Codes
import HandS.FStr
import KE.GoesMore
import KE.GoesZip
import HandS.Zip
import HandS.SetFor
import KE.GoesEnum
import HandS.Star
import HandS.Defaults
import HandS.CallLocal
import PyProof.Rows.RegReprOcc
import HandS.Style
import PyProof.ReprRoads
import HandS.Lambda
import HandS.EndTab
import HandS.Exc
import KE.KExcIs
import HandS.ExcInit
import HandS.ExcField
import HandS.WordsExc
import PyProof.ExcBaseAll.ArithmeticError
import PyProof.ExcBaseAll.LookupError
import HandS.MakeKwOnly
import HandS.ExcValue
import HandS.ExcIs
import HandS.Text
import HandS.Dict
import PySem.Challenge.RW_guessmarks_k71_words_judged
set_option Elab.async false
set_option linter.all false
set_option maxRecDepth 100000
set_option maxHeartbeats 8000000
namespace PySem.W
open PySem PySem.Spec PySem.Calls PyProof.Rows Builtin
section
variable {prog : Program} {w : World} {M : Model} {A : Around} {E : Value → Shared → Prop} {s : Shared} {K : Frag} {x C f L : Addr} {ox : Obj} {od : Option Obj} {h₀ : Heap} {m : Str → Option Value} {b tb : Value}
theorem gm_ifBound {name : Str} {id : String} {args : List Value} {Q : Option Value → Shared → Prop} (X : K.In s.heap) (I : InstAt s.heap x ox C od) (hs : findIn K (.ref C) name = some (some (.builtin id)))
    (hb : ∀ self, bindSpecial (.builtin id) self = pure (.builtin id, [self])) (h : wpAny M A (call (.builtin id) (.ref x :: args)) (fun v => Q (some v)) E s) : wpAny M A (callSpecialIfBound? (.ref x) name args) Q E s := by
  simp only [callSpecialIfBound?, bindSpecialIfBound?]
  refine wpAny_holding <| wpAny_bind <| wpAny_bind <| wpAny_bind <| I.type.here <| (looks_findIn X hs).here ?_
  refine wpAny_bind <| wpAny_askSetting <| wpAny_ite ?_
  have z : wpAny M A (call (.builtin id) ([.ref x] ++ args) >>= fun v => pure (some v)) Q E s := wpAny_bind <| wpAny_mono h (fun v s' h' => wpAny_pure h') fun _ _ h' => h'
  split
  · exact wpAny_bind <| (Looks.of_pure (hb _)).here <| wpAny_pure z
  · exact wpAny_tryCatch <| wpAny_bind <| (Looks.of_pure (hb _)).here <| wpAny_pure z
def NeBack (Q : Value → Shared → Prop) (v : Value) (s' : Shared) : Prop := ∃ r, v = .bool r ∧ Q (.bool (!r)) s'
theorem gm_objNe {Q : Value → Shared → Prop} (hu : A.in1.units < cLine) (X : K.In s.heap) (I : InstAt s.heap x ox C od) (hm : mroIn K C (.type "object") = some true) (hs : findIn K (.ref C) "__eq__" = some (some (.ref f))) (hf : isFn K (.ref f) = true)
    (h : wpAny (model prog w) A.in1 (call (.ref f) [.ref x, b]) (NeBack Q) E s) : wpAny (model prog w) A (call (.builtin "object.__ne__") [.ref x, b]) Q E s := by
  refine wpAny_call <| codeAny_call_builtin PySem.F.cmp_object.ne.plain PySem.F.cmpEntry_ne <| check_slot (owner := "object") (n := "__ne__") PySem.F.cmpKind_ne PySem.F.cmpSplit_ne (I.type.andThen (looks_mroIn X hm)) (PySem.F.cmpArgs_ne _ _) ?_
  unfold Builtin.«object.__ne__»
  refine wpAny_bind (m := slotArgs "__ne__" 1 _) <| wpAny_pure ?_
  refine wpAny_bind (m := cRoomFor _ _) <| wpAny_cRoomFor hu ?_
  refine wpAny_bind (m := callSpecialIfBound? (.ref x) (Str.ofString "__eq__") _) <| ifBound_K X I hs hf <| wpAny_mono h (fun r s' hq => ?_) fun _ _ y => y
  obtain ⟨r, rfl, hq⟩ := hq
  refine wpAny_bind <| wpAny_truthy_bool ?_
  exact wpAny_pure hq
theorem gm_ne {Q : Value → Shared → Prop} (hu : A.units < cLine) (hu1 : A.in1.units < cLine) (X : K.In s.heap) (I : InstAt s.heap x ox C od) (hb : Looks (model prog w) s.heap (typeOf b) tb) (hn : notFirst K C tb = true)
    (hN : findIn K (.ref C) "__ne__" = some (some (.builtin "object.__ne__"))) (hm : mroIn K C (.type "object") = some true)
    (hs : findIn K (.ref C) "__eq__" = some (some (.ref f))) (hf : isFn K (.ref f) = true)
    (h : wpAny (model prog w) A.in1 (call (.ref f) [.ref x, b]) (NeBack Q) E s) : wpAny (model prog w) A (richCompare .NotEq (.ref x) b) Q E s := by
  have one : wpAny (model prog w) A (tryCompare (.ref x) (cmpInfo .NotEq).2.1 b) (fun r s' => ∃ v, r = some v ∧ Q v s') E s := by
    unfold tryCompare
    refine wpAny_bind <| gm_ifBound X I hN PySem.F.cmp_object.ne.bind ?_
    refine wpAny_mono (gm_objNe (Q := fun v s' => (∃ r, v = .bool r) ∧ Q v s') hu1 X I hm hs hf (wpAny_mono h (fun v s' hv => ?_) fun _ _ e => e)) (fun v s' hv => ?_) fun _ _ e => e
    · obtain ⟨r, e, hv⟩ := hv
      exact ⟨r, e, ⟨_, rfl⟩, hv⟩
    · obtain ⟨⟨r, rfl⟩, hv⟩ := hv
      exact wpAny_pure ⟨_, rfl, hv⟩
  unfold richCompare
  simp only [oneThing_ref]
  refine wpAny_holding <| wpAny_bind <| wpAny_cRoomFor hu ?_
  refine wpAny_bind <| I.type.here <| wpAny_bind <| hb.here ?_
  split
  · rename_i q
    have e : subIn K tb (.ref C) = some false := by
      rcases Bool.or_eq_true_iff.mp hn with e | e
      · rw [beq_iff_eq.mp e] at q
        simp at q
      · exact beq_iff_eq.mp e
    refine wpAny_bind <| (looks_subIn X e).here ?_
    simp only [Bool.false_eq_true, if_false]
    refine wpAny_bind <| wpAny_mono one (fun r s' z => ?_) fun _ _ e => e
    obtain ⟨v, rfl, hq⟩ := z
    exact wpAny_pure hq
  · refine wpAny_bind (wpAny_pure ?_)
    simp only [Bool.false_eq_true, if_false]
    refine wpAny_bind <| wpAny_mono one (fun r s' z => ?_) fun _ _ e => e
    obtain ⟨v, rfl, hq⟩ := z
    exact wpAny_pure hq
end
end PySem.W

namespace L2
open PySem PySem.Spec PyProof.Rows
section
variable {X : Cx} {n : Nat} {pins : List (Addr × Obj)} {σ : St} {H : Hp} {s : Shared}
theorem gm_call {A : Around} {CX : CXT} {f : Addr} {fd : FuncData} {ps : List Str} {sp : Sp} {E : XK} {vs : List V} {us : List Value} {Q : VK} (sb : Sub X n A) (I : Inv X pins σ H s) (F : FnOk X.prog X.w X.K X.mg X.base CX n f fd ps sp)
    (hb : Binds X.K fd ps []) (hx : Passes CX X E) (r2 : Vals vs us) (hsp : sp vs H Q E) : wpAny (model X.prog X.w) A (call (.ref f) us) (EP X pins σ Q) X.xe s := by
  have e0 : Env0 X.prog X.w X.K X.mg X.base A X.stack s H := by
    have e := I.env0
    exact ⟨by rw [sb.fr]; exact e.frames, e.mod, e.bs, e.bsz, e.funs, e.frf, e.hok, e.bare⟩
  have hl := F.len _ _ _ _ hsp
  have hl2 : us.length = ps.length := by rw [← r2.length]; exact hl
  refine wpAny_call <| codeAny_mono (F.run A X.stack s H ⟨us, []⟩ us vs Q E sb.room e0 (by
    have := hb s us I.kIn (by simpa using hl2)
    simpa using this) r2 hsp) fun r s' hq => ?_
  cases r with
  | error e => exact hx pins σ H s e s' I hq
  | ok fl =>
    cases fl with
    | ret w => exact I.after hq
    | next => exact hq.elim
    | brk => exact hq.elim
    | cont => exact hq.elim
/-- x == y, x != y by the class's own == -/
def rOwn (K : PySem.W.Frag) (C : Addr) (sp : Sp) (E : XK) (g : Bool → Bool) : R2 := fun x y H Q => ∃ a dx fs t, x = .ref a ∧ H a = some (.ins C dx fs) ∧ TyX K H y t ∧ PySem.W.notFirst K C t = true ∧ sp [.ref a, y] H (fun v H' => ∃ r, v = .bl r ∧ Q (.bl (g r)) H') E
theorem op_eqOwn {CX : CXT} {C f : Addr} {fd : FuncData} {ps : List Str} {sp : Sp} {E : XK} (hr : Room n X.A) (F : FnOk X.prog X.w X.K X.mg X.base CX n f fd ps sp) (hs : PySem.W.findIn X.K (.ref C) "__eq__" = some (some (.ref f))) (hf : PySem.W.isFn X.K (.ref f) = true)
    (hb : Binds X.K fd ps []) (hx : Passes CX X E) : OpR X (compareOp .Eq) (rOwn X.K C sp E id) := by
  intro pins s σ H x y u v Q I rx ry d
  obtain ⟨a, dx, fs, t, rfl, ha, ty, hn, hsp⟩ := d
  cases rx
  obtain ⟨mA, J, _⟩ := ins_get I.hok ha
  obtain ⟨od, J, _⟩ := J.look
  obtain ⟨m, hF⟩ := I.fr
  obtain ⟨Pv, Z, pv, _⟩ := kit_of I ry ty
  refine PySem.W.cmp_K (op := .Eq) hr.units0 hF I.ok.mod.kin J (Z.ty _ _ I.kIn pv) hn hs hf ?_
  refine wpAny_mono (gm_call ⟨hr, rfl⟩ I F hb hx (vs := [.ref a, y]) (us := [.ref a, v]) (.cons rfl (.cons ry .nil)) hsp) (fun z s' hz => ?_) fun _ _ e => e
  obtain ⟨z', H', I', rz, r, rfl, q⟩ := hz
  cases rz
  exact ⟨.bl r, H', I', rfl, q⟩
theorem op_neOwn {CX : CXT} {C f : Addr} {fd : FuncData} {ps : List Str} {sp : Sp} {E : XK} (hr : Room (n + 1) X.A) (F : FnOk X.prog X.w X.K X.mg X.base CX n f fd ps sp) (hs : PySem.W.findIn X.K (.ref C) "__eq__" = some (some (.ref f))) (hf : PySem.W.isFn X.K (.ref f) = true)
    (hN : PySem.W.findIn X.K (.ref C) "__ne__" = some (some (.builtin "object.__ne__"))) (hm : PySem.W.mroIn X.K C (.type "object") = some true)
    (hb : Binds X.K fd ps []) (hx : Passes CX X E) : OpR X (compareOp .NotEq) (rOwn X.K C sp E not) := by
  intro pins s σ H x y u v Q I rx ry d
  obtain ⟨a, dx, fs, t, rfl, ha, ty, hn, hsp⟩ := d
  cases rx
  obtain ⟨mA, J, _⟩ := ins_get I.hok ha
  obtain ⟨od, J, _⟩ := J.look
  obtain ⟨Pv, Z, pv, _⟩ := kit_of I ry ty
  refine PySem.W.gm_ne hr.units0 hr.in1.units0 I.kIn J (Z.ty _ _ I.kIn pv) hn hN hm hs hf ?_
  refine wpAny_mono (gm_call ⟨hr.in1, rfl⟩ I F hb hx (vs := [.ref a, y]) (us := [.ref a, v]) (.cons rfl (.cons ry .nil)) hsp) (fun z s' hz => ?_) fun _ _ e => e
  obtain ⟨z', H', I', rz, r, rfl, q⟩ := hz
  cases rz
  exact ⟨_, rfl, .bl (!r), H', I', rfl, q⟩
/-- str(x), repr(x) by the class's own -/
def rTxt (C : Addr) (sp : Sp) (E : XK) : List V → Hp → VK → Prop := fun xs H Q => ∃ a dx fs, xs = [.ref a] ∧ H a = some (.ins C dx fs) ∧ sp [.ref a] H (fun v H' => ∃ r, v = .str r ∧ Q (.str r) H') E
theorem call_reprOwn {CX : CXT} {C f : Addr} {fd : FuncData} {ps : List Str} {sp : Sp} {E : XK} (hr : Room (n + 1) X.A) (F : FnOk X.prog X.w X.K X.mg X.base CX n f fd ps sp) (hs : PySem.W.findIn X.K (.ref C) "__repr__" = some (some (.ref f))) (hf : PySem.W.isFn X.K (.ref f) = true)
    (hb : Binds X.K fd ps []) (hx : Passes CX X E) : CallR X (.builtin "repr") (rTxt C sp E) := by
  intro pins s σ H xs us Q I r h
  obtain ⟨a, dx, fs, rfl, ha, hsp⟩ := h
  obtain ⟨mA, J, _⟩ := ins_get I.hok ha
  obtain ⟨od, J, _⟩ := J.look
  obtain ⟨m, hF⟩ := I.fr
  cases r with
  | cons r1 r2 =>
    cases r2
    cases r1
    refine PySem.W.repr_K hr.in1.units0 hF I.ok.mod.kin J hs hf ?_
    refine wpAny_mono (gm_call ⟨hr.in1, rfl⟩ I F hb hx (vs := [.ref a]) (us := [.ref a]) (.cons rfl .nil) hsp) (fun z s' hz => ?_) fun _ _ e => e
    obtain ⟨z', H', I', rz, r, rfl, q⟩ := hz
    obtain ⟨t, rfl⟩ := rz
    exact ⟨.str r, H', I', ⟨_, rfl⟩, q⟩
theorem call_strOwn {CX : CXT} {C f : Addr} {fd : FuncData} {ps : List Str} {sp : Sp} {E : XK} (hr : Room (n + 2) X.A) (F : FnOk X.prog X.w X.K X.mg X.base CX n f fd ps sp) (hs : PySem.W.findIn X.K (.ref C) "__str__" = some (some (.ref f))) (hf : PySem.W.isFn X.K (.ref f) = true)
    (hb : Binds X.K fd ps []) (hx : Passes CX X E) : CallR X (.type "str") (rTxt C sp E) := by
  intro pins s σ H xs us Q I r h
  obtain ⟨a, dx, fs, rfl, ha, hsp⟩ := h
  obtain ⟨mA, J, _⟩ := ins_get I.hok ha
  obtain ⟨od, J, _⟩ := J.look
  cases r with
  | cons r1 r2 =>
    cases r2
    cases r1
    refine PySem.W.kso_call hr.in1.in1.units0 I.kIn J hs hf ?_
    refine wpAny_mono (gm_call ⟨hr.in1.in1, rfl⟩ I F hb hx (vs := [.ref a]) (us := [.ref a]) (.cons rfl .nil) hsp) (fun z s' hz => ?_) fun _ _ e => e
    obtain ⟨z', H', I', rz, r, rfl, q⟩ := hz
    obtain ⟨t, rfl⟩ := rz
    exact ⟨.str r, H', I', ⟨_, rfl⟩, q⟩
/-- an instance without __bool__ and __len__ is true -/
def tTru (C : Addr) (ta : TE) : TT := fun σ H Q => ta σ H fun x H' => ∃ a dx fs, x = .ref a ∧ H' a = some (.ins C dx fs) ∧ Q true H'
theorem pt_inst {a : Expr} {ta : TE} {C : Addr} (hb : PySem.W.findIn X.K (.ref C) "__bool__" = some none) (hl : PySem.W.findIn X.K (.ref C) "__len__" = some none) (ha : PE X a ta) (he : ∀ whole, isTrue a X.env whole = (do let v ← whole; standAt a.pos; holding [v] (truthy v))) :
    PT X a (tTru C ta) := by
  refine ⟨fun pins s σ H Q I h => ?_⟩
  refine isTrue_plain (thn (ha.run pins s σ H _ I h) fun v s1 hh => ?_) (he _)
  obtain ⟨x, H1, I1, r1, p, dx, fs, rfl, hp, q⟩ := hh
  cases r1
  obtain ⟨mA, J, _⟩ := ins_get I1.hok hp
  obtain ⟨od, J, _⟩ := J.look
  obtain ⟨m, hF⟩ := I1.fr
  exact PySem.W.truthy_K0 hF I1.ok.mod.kin J hb hl ⟨H1, I1, q⟩
end
end L2

namespace Gm
open PySem L2
def top (i : Nat) : Stmt := PySem.Challenge.pw_guessmarks_k71_words_judged.main.body.getD i (.Pass ⟨0, 0, 0, 0⟩)
abbrev sWell : Stmt := top 48
abbrev sDraw : Stmt := top 49

/-- three ints stand at p -/
def BowlAt (H : Hp) (p : Addr) : Prop := ∃ x y z : Int, H p = some (.lst [.int x, .int y, .int z])
/-- all but p stands as it stood, and p is a bowl -/
def Stir (p : Addr) (H H' : Hp) : Prop := (∀ b o, b ≠ p → H b = some o → H' b = some o) ∧ BowlAt H' p
theorem Stir.trans {p : Addr} {H H1 H2 : Hp} (a : Stir p H H1) (b : Stir p H1 H2) : Stir p H H2 := ⟨fun c o n h => b.1 c o n (a.1 c o n h), b.2⟩
theorem Stir.same {p : Addr} {H H1 H2 : Hp} (a : Stir p H H1) (b : Same H1 H2) : Stir p H H2 := ⟨fun c o n h => b _ _ (a.1 c o n h), let ⟨x, y, z, h⟩ := a.2; ⟨x, y, z, b _ _ h⟩⟩
theorem Stir.refl {p : Addr} {H : Hp} (h : BowlAt H p) : Stir p H H := ⟨fun _ _ _ h => h, h⟩
theorem same_upd {H : Hp} {p : Addr} {o : HO} (h : H p = none) : Same H (upd H p o) := fun b u e => by rw [upd_ne (ne_of_none e h)]; exact e

theorem stir_upd (H : Hp) (p : Addr) (x y z : Int) : Stir p H (upd H p (.lst [.int x, .int y, .int z])) := ⟨fun b o n e => by rw [upd_ne n]; exact e, _, _, _, upd_same⟩
def spBowl (K : PySem.W.Frag) : Sp := fun vs H Q _ => ∃ (a : Addr) (ns : List Int) (k : Int), vs = [.ref a, .int k] ∧ SqL K H a (ns.map V.int) ∧ ns.length ≤ 63 ∧ 0 ≤ k ∧
  ∀ H' p, Same H H' → H p = none → BowlAt H' p → Q (.ref p) H'
def spDip : Sp := fun vs H Q _ => ∃ (p : Addr) (m : Int), vs = [.ref p, .int m] ∧ BowlAt H p ∧ 0 < m ∧ m < 1073741824 ∧
  ∀ H' d, Stir p H H' → 0 ≤ d → d < m → Q (.int d) H'

structure TxB (mg : Str → Option Value) : Prop where
  len : mg "len" = none
  int : mg "int" = none
  abs : mg "abs" = none
  divmod : mg "divmod" = none

theorem int_at {ns : List Int} {k : Int} (h0 : 0 ≤ k) (h : k < ns.length) : ∃ u, atI (ns.map V.int) k = some (V.int u) := by
  obtain ⟨j, rfl⟩ := Int.eq_ofNat_of_zero_le h0
  have hj : j < ns.length := by omega
  exact ⟨ns[j], atI_nat (by rw [List.getElem?_map, List.getElem?_eq_getElem hj]; rfl)⟩

theorem cut_int {ns : List Int} {lo hi : Option Int} {i : Nat} {y : V} (h : (cutV (ns.map V.int) lo hi)[i]? = some y) : ∃ u, y = V.int u := by
  have hm := List.mem_of_getElem? h
  unfold cutV at hm
  have := List.mem_of_mem_drop (List.mem_of_mem_take hm)
  obtain ⟨u, _, rfl⟩ := List.mem_map.mp this
  exact ⟨u, rfl⟩
theorem pos1 : (0 : Int) < 2147483629 := by decide
theorem cutIfA {tA : TT} {ta tb : TE} {g : TG} {tz : TS} {D : Ends} {σ : St} {H : Hp} (C : V → Prop) (k : ∀ v, C v → g v σ H ({ D with nx := tz D } : Ends).nx) (h : ∀ Q : V → Hp → Prop, (∀ v, C v → Q v H) → tIf tA ta tb σ H Q) : ({ D with nx := tSeq (tAsg (tIf tA ta tb) g) tz D } : Ends).nx σ H := h _ k
theorem cutIfV {tA : TT} {ta tb : TE} {σ : St} {H : Hp} {Q : V → Hp → Prop} (C : V → Prop) (k : ∀ v, C v → Q v H) (h : (∀ v, C v → Q v H) → tIf tA ta tb σ H Q) : tIf tA ta tb σ H Q := h k
theorem cutIf {tA : TT} {ta tb : TE} {σ : St} {H : Hp} {Q : V → Hp → Prop} (C : V → Hp → Prop) (k : ∀ v H', C v H' → Q v H') (h : (∀ v H', C v H' → Q v H') → tIf tA ta tb σ H Q) : tIf tA ta tb σ H Q := h k
section
variable {P : Program} {w : World} {K : PySem.W.Frag} {mg : Str → Option Value} {base : Heap}
abbrev nB : List Str := ["_law_script", "_law_k", "_law_own", "_law_blend", "_law_entry", "_law_deep"]
theorem scB : FnScope nB ["_law_script", "_law_k"] (defScope sWell) := ⟨rfl, rfl, rfl, by decide +kernel, rfl, by decide +kernel, by decide +kernel⟩
theorem ok_bowl {f : Addr} {fd : FuncData} (F : Fun K "_law_well" "_law_well" sWell f fd) (T : TxB mg) : FnOk P w K mg base CX0 1 f fd ["_law_script", "_law_k"] (spBowl K) := by
  refine F.ok scB (fun vs H Q E h => ?_) (fun cdv A outer s H vs Q E hr h => ?_)
  · obtain ⟨a, ns, k, rfl, _⟩ := h
    rfl
  · obtain ⟨a, ns, k, rfl, hS, hlen, h0, q⟩ := h
    refine ⟨_, pss_cons (ps_set (i := 2) scB.nd rfl (Or.inl rfl)
        (pe_ifExp (pt_cmpR op_lt (pv 1) (pe_callB call_len_seq (by rfl) T.len PySem.boot_len (pa_cons (pv 0) pa_nil)) (nomark _))
          (pe_callTy call_int1 (by rfl) T.int (by decide +kernel) (pa_cons (pe_ix ix_list (pv 0) (pv 1) (fun _ _ => rfl)) pa_nil))
          (pe_op op_add (pe_op op_mul pe_int (pv 1)) pe_int)))
      (pss_cons (ps_set (i := 3) scB.nd rfl (Or.inl rfl) (pe_op op_add pe_int (pe_op op_mul pe_int (pv 1))))
      (pss_cons (ps_for PassesOwn.never rfl (pi_list (pe_slice sl_list (pv 0) po_none (po_some pe_int))) (pg_name (i := 4) scB.nd rfl (Or.inl rfl))
          (pss_one (ps_set (i := 3) scB.nd rfl (Or.inl rfl)
            (pe_op op_mod (pe_callTy call_int1 (by rfl) T.int (by decide +kernel) (pa_cons (pe_op op_add (pe_op op_mul (pv 3) pe_int)
              (pe_op op_mod (pe_callTy call_int1 (by rfl) T.int (by decide +kernel) (pa_cons (pv 4) pa_nil)) pe_int)) pa_nil)) pe_int))))
      (pss_cons (ps_set (i := 5) scB.nd rfl (Or.inl rfl) (pe_ifExp (PW.pt (pw_or (pt_cmpR op_lt (pv 2) pe_int (nomark _)) (pw_or1 (pt_cmpR op_ge (pv 2) (pe_op op_pow pe_int pe_int) (nomark _)))))
            (pe_callB call_abs (by rfl) T.abs (by decide +kernel) (pa_cons (pv 2) pa_nil)) pe_int))
      (pss_one (ps_ret (pe_lst (pa_cons (pe_op op_mod (pe_callTy call_int1 (by rfl) T.int (by decide +kernel) (pa_cons (pe_op op_add (pv 3) (pe_op op_mod (pe_callTy call_int1 (by rfl) T.int (by decide +kernel) (pa_cons (pv 2) pa_nil)) pe_int)) pa_nil)) pe_int)
        (pa_cons (pv 5) (pa_cons pe_int pa_nil))))))))), ?_⟩
    refine cutIfV (fun v => ∃ u, v = .int u) ?_ (fun c => ?_)
    · rintro _ ⟨u, rfl⟩
      refine ⟨_, rfl, _, _, rfl, rfl, .inl ⟨by decide, by decide⟩, _, _, rfl, rfl, ?_⟩
      refine ⟨_, rfl, 63, rfl, a, _, rfl, hS, fun pl hpl => ?_⟩
      have s1 := same_upd (o := .lst (cutV (ns.map V.int) none (some 63))) hpl
      refine ⟨pl, rfl, ⟨_, SqL.of upd_same⟩, for_list (K := K) (a := pl) (xs := cutV (ns.map V.int) none (some 63))
        (fun i σ H' => H' = upd _ pl (.lst (cutV (ns.map V.int) none (some 63))) ∧ ∃ (z : Int) (v : Option V), σ = [some (.ref a), some (.int k), some (.int u), some (.int z), v, none]) ⟨rfl, _, _, rfl⟩ ?_ ?_ ?_⟩
      · rintro i σ H' _ ⟨rfl, _⟩
        exact SqL.of upd_same
      · rintro i y σ H' hi ⟨rfl, z, v, rfl⟩
        obtain ⟨e, rfl⟩ := cut_int hi
        refine ⟨_, rfl, _, _, rfl, rfl, .inr ⟨by decide, by decide⟩, ?_⟩
        refine ⟨_, rfl, .inl ⟨_, rfl, _, _, rfl, rfl, pos1, _, _, rfl, rfl, .inl ⟨_, rfl, _, _, rfl, rfl, pos1, rfl, _, _, rfl⟩⟩⟩
      · rintro σ H' ⟨rfl, z, v, rfl⟩
        refine cutIfA (fun v => ∃ u, v = .int u) ?_ (fun Q' c => ?_)
        · rintro _ ⟨y, rfl⟩
          refine ⟨_, rfl, _, rfl, .inl ⟨_, rfl, _, _, rfl, rfl, pos1, _, _, rfl, rfl, .inl ⟨_, rfl, _, _, rfl, rfl, pos1, _, rfl, ?_⟩⟩⟩
          refine ⟨by show 3 ≤ sizeLine; decide, fun p hp => ?_⟩
          refine q _ p (s1.trans (same_upd hp)) (s1.free hp) ⟨_, _, _, upd_same⟩
        · refine ⟨_, rfl, _, _, rfl, rfl, _, rfl, ?_⟩
          refine ite2 (fun h => ?_) (fun h => ?_)
          · refine iteT ⟨_, rfl, _, rfl, c _ ⟨_, rfl⟩⟩
          · refine ⟨_, rfl, _, _, rfl, rfl, ⟨by decide, by decide, by decide⟩, _, _, rfl, rfl, _, rfl, ?_⟩
            refine ite2 (fun h => ?_) (fun h => ?_)
            · exact ⟨_, rfl, _, rfl, c _ ⟨_, rfl⟩⟩
            · exact c _ ⟨_, rfl⟩
    · refine ⟨_, rfl, _, rfl, a, _, rfl, .inl hS, _, _, rfl, rfl, _, rfl, ?_⟩
      refine ite2 (fun h => ?_) (fun h => ?_)
      · have h' : k < ns.length := by
          have := of_decide_eq_true h
          rw [List.length_map] at this
          exact this
        obtain ⟨e, he⟩ := int_at h0 h'
        exact ⟨_, rfl, _, rfl, a, _, _, _, rfl, rfl, hS, he, .inl ⟨_, rfl, c _ ⟨_, rfl⟩⟩⟩
      · exact ⟨_, rfl, _, _, rfl, rfl, .inl ⟨by decide, by decide⟩, _, _, rfl, rfl, c _ ⟨_, rfl⟩⟩
abbrev nD : List Str := ["_law_well_here", "_law_many", "_law_digit"]
theorem scD : FnScope nD ["_law_well_here", "_law_many"] (defScope sDraw) := ⟨rfl, rfl, rfl, by decide +kernel, rfl, by decide +kernel, by decide +kernel⟩
theorem ok_dip {f : Addr} {fd : FuncData} (F : Fun K "_law_draw" "_law_draw" sDraw f fd) (T : TxB mg) : FnOk P w K mg base CX0 1 f fd ["_law_well_here", "_law_many"] spDip := by
  refine F.ok scD (fun vs H Q E h => ?_) (fun cdv A outer s H vs Q E hr h => ?_)
  · obtain ⟨p, m, rfl, _⟩ := h
    rfl
  · obtain ⟨p, m, rfl, ⟨x, y, z, hp⟩, hm0, hm1, q⟩ := h
    refine ⟨_, pss_cons (ps_asg (pe_op op_add (pe_ix ix_list (pv 0) pe_int (fun _ _ => rfl)) pe_int) (pg_sub (pv 0) pe_int set_list))
      (pss_cons (ps_if (pt_cmpR op_gt (pe_ix ix_list (pv 0) pe_int (fun _ _ => rfl)) pe_int (nomark _))
        (pss_cons (ps_asg (pe_callB call_divmod (by rfl) T.divmod (by decide +kernel) (pa_cons (pe_callTy call_int1 (by rfl) T.int (by decide +kernel) (pa_cons (pe_ix ix_list (pv 0) pe_int (fun _ _ => rfl)) pa_nil)) (pa_cons (pv 1) pa_nil)))
            (pg_tup (by rfl) (pgs_cons (pg_sub (pv 0) pe_int set_list) (pgs_cons (pg_name (i := 2) scD.nd rfl (Or.inl rfl)) pgs_nil))))
          (pss_one (ps_ret (pv 2)))) pss_nil)
      (pss_cons (ps_asg (pe_op op_mod (pe_callTy call_int1 (by rfl) T.int (by decide +kernel) (pa_cons (pe_op op_add (pe_op op_add (pe_op op_mul (pe_ix ix_list (pv 0) pe_int (fun _ _ => rfl)) pe_int)
            (pe_op op_mul (pe_op op_fdiv (pe_ix ix_list (pv 0) pe_int (fun _ _ => rfl)) pe_int) pe_int))
            (pe_op op_mul (pe_ix ix_list (pv 0) pe_int (fun _ _ => rfl)) pe_int)) pa_nil)) pe_int) (pg_sub (pv 0) pe_int set_list))
      (pss_one (ps_ret (pe_op op_mod (pe_callTy call_int1 (by rfl) T.int (by decide +kernel) (pa_cons (pe_op op_fdiv (pe_ix ix_list (pv 0) pe_int (fun _ _ => rfl)) pe_int) pa_nil)) (pv 1)))))), ?_⟩
    refine ⟨_, rfl, p, _, 2, _, rfl, rfl, SqL.of hp, rfl, _, _, rfl, rfl, _, rfl, p, _, 2, 2, rfl, rfl, hp, rfl, ?_⟩
    have h1 : upd H p (.lst [.int x, .int y, .int (z + 1)]) p = some (.lst [.int x, .int y, .int (z + 1)]) := upd_same
    refine ⟨_, rfl, p, _, 1, _, rfl, rfl, SqL.of h1, rfl, _, _, rfl, rfl, _, rfl, ?_⟩
    refine ite2 (fun h => ?_) (fun h => ?_)
    · refine ⟨_, rfl, p, _, 1, _, rfl, rfl, SqL.of h1, rfl, .inl ⟨_, rfl, _, rfl, _, _, rfl, ⟨hm0, hm1⟩, fun t ht => ?_⟩⟩
      have ntp : t ≠ p := fun e => by rw [e] at ht; exact absurd (h1.symm.trans ht) (by simp)
      refine ⟨t, _, rfl, SqT.of upd_same, rfl, _, _, rfl, _, rfl, p, _, 1, 1, rfl, rfl, ((upd_ne ntp.symm).trans h1), rfl, ?_⟩
      refine ⟨_, _, rfl, rfl, _, rfl, ?_⟩
      exact q _ _ (((stir_upd H p _ _ _).same (same_upd ht)).trans (stir_upd _ p _ _ _)) (Int.emod_nonneg _ (by omega)) (Int.emod_lt_of_pos _ hm0)
    · refine ⟨_, rfl, p, _, 0, _, rfl, rfl, SqL.of h1, rfl, _, _, rfl, rfl, .inr ⟨by decide, by decide⟩, _, rfl, p, _, 0, _, rfl, rfl, SqL.of h1, rfl, _, _, rfl, rfl, ⟨by decide, by decide⟩, _, _, rfl, rfl, .inr ⟨by decide, by decide⟩, _, _, rfl, rfl, _, rfl, p, _, 2, _, rfl, rfl, SqL.of h1, rfl, _, _, rfl, rfl, .inr ⟨by decide, by decide⟩, _, _, rfl, rfl, .inl ⟨_, rfl, _, _, rfl, rfl, pos1, _, rfl, p, _, 0, 0, rfl, rfl, h1, rfl, _, rfl, p, _, 0, _, rfl, rfl, SqL.of upd_same, rfl, _, _, rfl, rfl, ⟨by decide, by decide⟩, .inl ⟨_, rfl, _, rfl, _, _, rfl, rfl, hm0, ?_⟩⟩⟩
      exact q _ _ ((stir_upd H p _ _ _).trans (stir_upd _ p _ _ _)) (Int.emod_nonneg _ (by omega)) (Int.emod_lt_of_pos _ hm0)
end
end Gm

namespace Gm
open PySem L2
abbrev sWithin : Stmt := top 14
abbrev sInit : Stmt := inClass (top 22) 0
abbrev sEq : Stmt := inClass (top 22) 3
abbrev sStr : Stmt := inClass (top 22) 4
abbrev sRepr : Stmt := inClass (top 22) 5
abbrev sAlpha : Stmt := top 23
abbrev sCount : Stmt := top 24

/-! ### mathematics -/
def lowTxt : Str := "abcdefghijklmnopqrstuvwxyz"
def low : List Nat := lowTxt.cps.toList
def pick (s : Str) : List Nat := low.filter fun c => decide (c ∈ s.cps.toList)
def Alph (s : Str) : Prop := 2 ≤ s.length ∧ s.length ≤ 26 ∧ s.cps.toList = pick s
instance (s : Str) : Decidable (Alph s) := by unfold Alph; infer_instance
theorem join_one (cs : List Nat) : Txt.join (Str.ofString "") (cs.map fun c => (⟨#[c]⟩ : Str)) = ⟨cs.toArray⟩ := by
  have h : (cs.map fun c => (⟨#[c]⟩ : Str)) = (cs.map fun c => [c]).map SX.S := by rw [List.map_map]; rfl
  have e : (Str.ofString "" : Str) = SX.S [] := rfl
  rw [h, e, SX.join_S]
  have j : ∀ l : List Nat, TL.joinL [] (l.map fun c => [c]) = l := by
    intro l
    induction l with
    | nil => rfl
    | cons a l ih =>
      cases l with
      | nil => rfl
      | cons b l =>
        show [a] ++ ([] ++ TL.joinL [] ((b :: l).map fun c => [c])) = a :: b :: l
        rw [ih]
        rfl
  rw [j]
theorem str_len (s : Str) : s.cps.toList.length = s.length := by simp [Str.length]
theorem take_filter {p : Nat → Bool} (l : List Nat) (i : Nat) (h : i < l.length) : (l.take (i + 1)).filter p = (l.take i).filter p ++ (if p l[i] = true then [l[i]] else []) := by
  rw [List.take_succ_eq_append_getElem h, List.filter_append]
  congr 1
  by_cases c : p l[i] = true
  · rw [if_pos c]; simp [c]
  · rw [if_neg c]; simp [c]

theorem low_len : low.length = 26 := by decide +kernel
theorem sum_one (cs : List Nat) : ((cs.map fun c => (⟨#[c]⟩ : Str)).map (·.length)).sum = cs.length := by
  induction cs with
  | nil => rfl
  | cons c cs ih =>
    rw [List.map_cons, List.map_cons, List.sum_cons, ih, List.length_cons]
    show 1 + cs.length = cs.length + 1
    omega
/-! ### promises -/
def NoInt (K : PySem.W.Frag) (t : Value) : Prop := PySem.W.kitOne K t (.type "bool") = some true ∨ (PySem.W.kitOne K t (.type "bool") = some false ∧ PySem.W.kitOne K t (.type "int") = some false)
def spWithin (K : PySem.W.Frag) : Sp := fun vs H Q _ => ∃ (v : V) (lo hi : Int), vs = [v, .int lo, .int hi] ∧
  ((∃ n, v = .int n ∧ Q (.bl (decide (lo ≤ n ∧ n ≤ hi))) H) ∨ (∃ t, TyX K H v t ∧ NoInt K t ∧ Q (.bl false) H))
def spAlpha (K : PySem.W.Frag) : Sp := fun vs H Q _ => ∃ (v : V), vs = [v] ∧
  ((∃ s, v = .str s ∧ s.length ≤ 1000 ∧ ∀ H', Same H H' → Q (.bl (decide (Alph s))) H') ∨ (∃ t, TyX K H v t ∧ PySem.W.kitOne K t (.type "str") = some false ∧ Q (.bl false) H))
def spCount : Sp := fun vs H Q _ => ∃ (m n : Int), vs = [.int m, .int n] ∧ 0 ≤ m ∧ m ≤ 26 ∧ 0 ≤ n ∧ n ≤ 6 ∧ Q (.int (m ^ n.toNat)) H
def boardF (s : Str) (n : Int) : List (Str × V) := putF "size" (.int ((s.length : Int) ^ n.toNat)) (putF "length" (.int n) (putF "letters" (.str s) []))
def BoardAt (C : Addr) (H : Hp) (p : Addr) (s : Str) (n : Int) : Prop := ∃ dx, H p = some (.ins C dx (boardF s n))
/-- all but p as it stood -/
def But (p : Addr) (H H' : Hp) : Prop := ∀ b o, b ≠ p → H b = some o → H' b = some o
def spInit (C : Addr) : Sp := fun vs H Q _ => ∃ (p dx : Addr) (s : Str) (n : Int), vs = [.ref p, .str s, .int n] ∧ Alph s ∧ 1 ≤ n ∧ n ≤ 6 ∧ H p = some (.ins C dx []) ∧
  ∀ H', But p H H' → BoardAt C H' p s n → Q .non H'
/-- what another object is, beside a board -/
def spEqB (K : PySem.W.Frag) (C : Addr) : Sp := fun vs H Q _ => ∃ (p : Addr) (s : Str) (n : Int) (y : V), vs = [.ref p, y] ∧ BoardAt C H p s n ∧ s.length ≤ 1000 ∧
  ((∃ q s' n', y = .ref q ∧ BoardAt C H q s' n' ∧ s'.length ≤ 1000 ∧ Q (.bl (decide (s = s' ∧ n = n'))) H) ∨ (∃ t, TyX K H y t ∧ PySem.W.kitOne K t (.ref C) = some false ∧ Q (.bl false) H))
def digit (n : Int) : Str := (toString n : String)
def spStr (C : Addr) : Sp := fun vs H Q _ => ∃ (p : Addr) (s : Str) (n : Int), vs = [.ref p] ∧ BoardAt C H p s n ∧ s.length ≤ 26 ∧ 1 ≤ n ∧ n ≤ 6 ∧ Q (.str (s ++ " " ++ digit n)) H
def spRepr (C : Addr) : Sp := fun vs H Q _ => ∃ (p : Addr) (s : Str) (n : Int), vs = [.ref p] ∧ BoardAt C H p s n ∧ s.length ≤ 26 ∧ 1 ≤ n ∧ n ≤ 6 ∧ Q (.str ("Board(" ++ s ++ " " ++ digit n ++ ")")) H

structure TxW (mg : Str → Option Value) : Prop where
  isi : mg "isinstance" = none
  bool : mg "bool" = none
  int : mg "int" = none
  str : mg "str" = none
  len : mg "len" = none
  range : mg "range" = none
  most : ∃ t, mg "MOST_LETTERS" = some (.int 26 t)
  mlen : ∃ t, mg "MOST_LENGTH" = some (.int 6 t)
  low : ∃ t, mg "LOWERCASE" = some (.str lowTxt t)

section
variable {P : Program} {w : World} {K : PySem.W.Frag} {mg : Str → Option Value} {base : Heap}
theorem scW : FnScope ["value", "least", "most"] ["value", "least", "most"] (defScope sWithin) := ⟨rfl, rfl, rfl, by decide +kernel, rfl, by decide +kernel, by decide +kernel⟩
theorem ok_within {f : Addr} {fd : FuncData} (F : Fun K "is_integer_within" "is_integer_within" sWithin f fd) (T : TxW mg) : FnOk P w K mg base CX0 1 f fd ["value", "least", "most"] (spWithin K) := by
  refine F.ok scW (fun vs H Q E h => ?_) (fun cdv A outer s H vs Q E hr h => ?_)
  · obtain ⟨v, lo, hi, rfl, _⟩ := h
    rfl
  · obtain ⟨v, lo, hi, rfl, h⟩ := h
    refine ⟨_, pss_cons (ps_if (PW.pt (pw_or (pt_val (pe_callB call_isi (by rfl) T.isi (by decide +kernel) (pa_cons (pv 0) (pa_cons (pe_bltn (v := .ty "bool") (by rfl) T.bool (by decide +kernel) rfl) pa_nil))))
        (pw_or1 (pt_not (pt_val (pe_callB call_isi (by rfl) T.isi (by decide +kernel) (pa_cons (pv 0) (pa_cons (pe_bltn (v := .ty "int") (by rfl) T.int (by decide +kernel) rfl) pa_nil))))))))
        (pss_one (ps_ret pe_bl)) pss_nil)
      (pss_one (ps_ret (pe_chain op_le op_le (pv 1) (pv 0) (pv 2)))), ?_⟩
    rcases h with ⟨n, rfl, q⟩ | ⟨t, ty, no, q⟩
    · refine ⟨_, rfl, _, _, _, _, _, rfl, .ty "bool", .base (.int n), kit_ty (r := false) (by decide +kernel), _, rfl, iteF ?_⟩
      refine ⟨_, rfl, _, _, _, _, _, rfl, .ty "int", .base (.int n), kit_ty (r := true) (by decide +kernel), _, rfl, ?_⟩
      refine ⟨_, rfl, _, rfl, _, _, rfl, rfl, _, rfl, ?_⟩
      refine ite2 (fun h => ?_) (fun h => ?_)
      · refine ⟨_, rfl, _, _, rfl, rfl, ?_⟩
        have e : decide (lo ≤ n ∧ n ≤ hi) = decide (n ≤ hi) := by
          have := of_decide_eq_true h
          simp [this]
        rw [e] at q
        exact q
      · have e : decide (lo ≤ n ∧ n ≤ hi) = false := by
          simp only [decide_eq_true_eq] at h
          simp [h]
        rw [e] at q
        exact q
    · rcases no with no | ⟨no, no2⟩
      · exact ⟨_, rfl, _, _, _, _, _, rfl, .ty "bool", ty, no, _, rfl, iteT q⟩
      · refine ⟨_, rfl, _, _, _, _, _, rfl, .ty "bool", ty, no, _, rfl, iteF ?_⟩
        exact ⟨_, rfl, _, _, _, _, _, rfl, .ty "int", ty, no2, _, rfl, q⟩
abbrev nA : List Str := ["letters", "letter"]
theorem scAl : FnScope nA ["letters"] (defScope sAlpha) := ⟨rfl, rfl, rfl, by decide +kernel, rfl, by decide +kernel, by decide +kernel⟩
theorem ok_alpha {f : Addr} {fd : FuncData} (F : Fun K "is_alphabet" "is_alphabet" sAlpha f fd) (T : TxW mg) : FnOk P w K mg base CX0 1 f fd ["letters"] (spAlpha K) := by
  refine F.ok scAl (fun vs H Q E h => ?_) (fun cdv A outer s H vs Q E hr h => ?_)
  · obtain ⟨v, rfl, _⟩ := h
    rfl
  · obtain ⟨v, rfl, h⟩ := h
    obtain ⟨t1, mg1⟩ := T.most
    obtain ⟨t2, mg2⟩ := T.low
    refine ⟨_, pss_cons (ps_if (PW.pt (pw_or (pt_not (pt_val (pe_callB call_isi (by rfl) T.isi (by decide +kernel) (pa_cons (pv 0) (pa_cons (pe_bltn (v := .ty "str") (by rfl) T.str (by decide +kernel) rfl) pa_nil)))))
        (pw_or1 (pt_not (pt_chain op_le op_le pe_int (pe_callB call_len_str (by rfl) T.len PySem.boot_len (pa_cons (pv 0) pa_nil)) (pe_glob (v := .int 26) (by rfl) mg1 ⟨_, rfl⟩))))))
        (pss_one (ps_ret pe_bl)) pss_nil)
      (pss_one (ps_ret (pe_cmpR op_eq (pv 0) (pe_join pe_str
        (pe_lc (own := [("letter", 1)]) (g := gName 1) (by rfl) scAl.nd (pi_str (pe_glob (v := .str lowTxt) (by rfl) mg2 ⟨_, rfl⟩)) (blkOk_by (own := [("letter", 1)]) (N := nA) (sc := defScope sAlpha) (by decide +kernel))
          (fun _ _ _ _ _ => pg_name (i := 1) scAl.nd rfl (Or.inl rfl)) (fun _ _ _ _ _ => pts_one (pt_cmpR op_in_sign (pv 1) (pv 0) rfl)) (fun _ _ _ _ _ => pv 1))) (nomark _)))), ?_⟩
    rcases h with ⟨z, rfl, hz, q⟩ | ⟨t, ty, no, q⟩
    · refine ⟨_, rfl, _, _, _, _, _, rfl, .ty "str", .base (.str z), kit_ty (r := true) (by decide +kernel), _, rfl, ?_⟩
      refine ⟨_, rfl, _, rfl, by have : sizeLine = 16777216 := sizeLine_eq; omega, _, _, rfl, rfl, _, rfl, ?_⟩
      have hf : ¬ Alph z → decide (Alph z) = false := decide_eq_false
      refine ite2 (fun h2 => ?_) (fun h2 => ?_)
      · refine ⟨_, _, rfl, rfl, _, rfl, ?_⟩
        have h2 := of_decide_eq_true h2
        refine ite2 (fun h3 => ?_) (fun h3 => ?_)
        · have n : ¬ Alph z := fun a => by
            have := a.2.1
            simp at h3
            omega
          rw [hf n] at q
          exact q _ (Same.refl H)
        · have h3 : (z.length : Int) ≤ 26 := by simpa using h3
          refine ⟨_, rfl, ⟨_, rfl⟩, lowTxt, rfl, fun D hD => ?_⟩
          refine lc_it (walk_str (z := lowTxt)) (fun i H' => Same H H' ∧ H' D = some (.lst (((low.take i).filter fun c => decide (c ∈ z.cps.toList)).map fun c => V.str ⟨#[c]⟩))) ⟨same_upd hD, upd_same⟩ (fun _ _ _ _ => trivial) ?_ ?_
          · rintro i x H1 H2 hi ⟨sm, hD1⟩ ⟨rfl, c, hc, rfl⟩
            have hi' : i < low.length := hi
            have ec : low[i] = c := by
              have : lowTxt.cps[i] = c := (Array.getElem?_eq_some_iff.mp hc).2
              exact this
            have st := take_filter (p := fun c => decide (c ∈ z.cps.toList)) low i hi'
            rw [ec] at st
            refine ⟨rfl, _, rfl, _, rfl, c, z, rfl, rfl, _, rfl, ?_⟩
            refine ite2 (fun hm => ?_) (fun hm => ?_)
            · rw [if_pos hm] at st
              refine ⟨_, rfl, _, hD1, ?_, fun b o e => ?_, ?_⟩
              · have h1 := List.length_filter_le (fun c => decide (c ∈ z.cps.toList)) (low.take i)
                have h2 : (low.take i).length ≤ i := by rw [List.length_take]; omega
                have h3 : sizeLine = 16777216 := sizeLine_eq
                rw [low_len] at hi'
                rw [List.length_map]
                omega
              · rw [upd_ne (ne_of_none e hD)]
                exact sm b o e
              · rw [upd_same, st, List.map_append]
                rfl
            · rw [if_neg hm, List.append_nil] at st
              exact ⟨sm, by rw [st]; exact hD1⟩
          · rintro H1 ⟨sm, hD1⟩
            have el : low.take lowTxt.cps.size = low := List.take_of_length_le (Nat.le_of_eq (by simp [low]))
            rw [el] at hD1
            refine ⟨_, D, (pick z).map (fun c => (⟨#[c]⟩ : Str)), rfl, rfl, .inl (SqL.of ?_), ?_, rfl, ?_⟩
            · rw [List.map_map]
              exact hD1
            · have h1 := List.length_filter_le (fun c => decide (c ∈ z.cps.toList)) low
              have h2 : (pick z).length ≤ 26 := h1
              rw [sum_one, List.length_map]
              show (pick z).length + (pick z).length * 0 ≤ 16777216
              omega
            · have e : decide (V.str z = V.str (Txt.join (Str.ofString "") ((pick z).map fun c => (⟨#[c]⟩ : Str)))) = decide (Alph z) := by
                rw [join_one]
                refine decide_eq_decide.mpr ⟨fun e => ⟨by omega, by omega, ?_⟩, fun a => ?_⟩
                · have e := V.str.inj e
                  have := congrArg (fun s : Str => s.cps.toList) e
                  simpa using this
                · have := a.2.2
                  rw [← this]
              rw [← e] at q
              exact q _ sm
      · have n : ¬ Alph z := fun a => by
          have := a.1
          simp at h2
          omega
        rw [hf n] at q
        exact ⟨_, rfl, q _ (Same.refl H)⟩
    · exact ⟨_, rfl, _, _, _, _, _, rfl, .ty "str", ty, no, _, rfl, iteT q⟩

theorem scC : FnScope ["many", "length", "total", "place"] ["many", "length"] (defScope sCount) := ⟨rfl, rfl, rfl, by decide +kernel, rfl, by decide +kernel, by decide +kernel⟩
theorem ok_count {f : Addr} {fd : FuncData} (F : Fun K "count_words" "count_words" sCount f fd) (T : TxW mg) : FnOk P w K mg base CX0 1 f fd ["many", "length"] spCount := by
  refine F.ok scC (fun vs H Q E h => ?_) (fun cdv A outer s H vs Q E hr h => ?_)
  · obtain ⟨m, n, rfl, _⟩ := h
    rfl
  · obtain ⟨m, n, rfl, m0, m1, n0, n1, q⟩ := h
    refine ⟨_, pss_cons (ps_set (i := 2) scC.nd rfl (Or.inl rfl) pe_int)
      (pss_cons (ps_for PassesOwn.never rfl (pi_range1 (by rfl) T.range (pa_cons (pv 1) pa_nil)) (pg_name (i := 3) scC.nd rfl (Or.inl rfl)) (pss_one (ps_aug (i := 2) scC.nd rfl (Or.inl rfl) (pv 0) iop_mul)))
      (pss_one (ps_ret (pv 2)))), ?_⟩
    refine ⟨_, rfl, n, rfl, by omega, by omega, for_range (n := n.toNat) (fun i σ H' => H' = H ∧ ∃ v, σ = [some (.int m), some (.int n), some (.int (m ^ i)), v]) ⟨rfl, none, by rw [Int.pow_zero]; rfl⟩ ?_ ?_⟩
    · rintro i σ H' hi ⟨rfl, v, rfl⟩
      exact ⟨_, rfl, _, rfl, _, _, rfl, rfl, .inr ⟨by omega, by omega⟩, rfl, _, by rw [Int.pow_succ]; rfl⟩
    · rintro σ H' ⟨rfl, v, rfl⟩
      exact ⟨_, rfl, q⟩
/-- a def of the top, as it is called -/
structure Df (K : PySem.W.Frag) (mg : Str → Option Value) (x : Str) (f : Addr) (fd : FuncData) (ps : List Str) : Prop where
  mg : mg x = some (.ref f)
  kp : PySem.W.keepIn K (.ref f) = true
  b : Binds K fd ps []
/-- the class Board -/
structure TxC (K : PySem.W.Frag) (mg : Str → Option Value) (C : Addr) : Prop where
  cl : Cls K C
  mgC : mg "Board" = some (.ref C)
  nL : NoAttr K C "letters"
  nN : NoAttr K C "length"
  nS : NoAttr K C "size"
  ac : PySem.W.findIn K (.ref C) "__class__" = some (some (.builtin "object.__class__"))
  gt : PySem.W.specialIn K (.builtin "object.__class__") "__get__" = some (some (.builtin "getset_descriptor.__get__"))
  tk : PySem.W.takesIn K (.builtin "object.__class__") = some true
  ob : PySem.W.mroIn K C (.type "object") = some true
  own : PySem.W.kitOne K (.ref C) (.ref C) = some true
theorem bf_eq (s : Str) (n : Int) : boardF s n = ([("letters", V.str s), ("length", V.int n), ("size", V.int ((s.length : Int) ^ n.toNat))] : List (Str × V)) := by
  have h1 : ¬ (("letters" : Str) = "length") := by decide +kernel
  have h2 : ¬ (("letters" : Str) = "size") := by decide +kernel
  have h3 : ¬ (("length" : Str) = "size") := by decide +kernel
  show putF "size" _ (if ("letters" : Str) = "length" then _ else (("letters" : Str), V.str s) :: putF "length" (V.int n) []) = _
  rw [if_neg h1]
  show (if ("letters" : Str) = "size" then _ else (("letters" : Str), V.str s) :: (if ("length" : Str) = "size" then _ else (("length" : Str), V.int n) :: putF "size" _ [])) = _
  rw [if_neg h2, if_neg h3]
  rfl
theorem pf2_eq (s : Str) (n : Int) : putF "length" (.int n) (putF "letters" (.str s) []) = ([("letters", V.str s), ("length", V.int n)] : List (Str × V)) := by
  have h1 : ¬ (("letters" : Str) = "length") := by decide +kernel
  show (if ("letters" : Str) = "length" then _ else (("letters" : Str), V.str s) :: putF "length" (V.int n) []) = _
  rw [if_neg h1]
  rfl
theorem bf_letters (s : Str) (n : Int) : (boardF s n).lookup ("letters" : Str) = some (.str s) := by rw [bf_eq]; rfl
theorem bf_length (s : Str) (n : Int) : (boardF s n).lookup ("length" : Str) = some (.int n) := by
  have h1 : (("length" : Str) == "letters") = false := by decide +kernel
  rw [bf_eq, List.lookup_cons, h1]
  rfl
theorem bf_size (s : Str) (n : Int) : (boardF s n).lookup ("size" : Str) = some (.int ((s.length : Int) ^ n.toNat)) := by
  have h1 : (("size" : Str) == "letters") = false := by decide +kernel
  have h2 : (("size" : Str) == "length") = false := by decide +kernel
  rw [bf_eq, List.lookup_cons, h1, List.lookup_cons, h2]
  rfl
theorem But.upd {p : Addr} {H : Hp} {o : HO} : But p H (L2.upd H p o) := fun b u n e => by rw [upd_ne n]; exact e
theorem But.trans {p : Addr} {H H1 H2 : Hp} (a : But p H H1) (b : But p H1 H2) : But p H H2 := fun c o n h => b c o n (a c o n h)
theorem But.of {p : Addr} {H H1 : Hp} (a : Same H H1) : But p H H1 := fun c o n h => a c o h
theorem scI : FnScope ["self", "letters", "length"] ["self", "letters", "length"] (defScope sInit) := ⟨rfl, rfl, rfl, by decide +kernel, rfl, by decide +kernel, by decide +kernel⟩
theorem ok_init {f C fA fW fC : Addr} {fd fdA fdW fdC : FuncData} (F : Fun K "__init__" "Board.__init__" sInit f fd) (T : TxW mg) (TC : TxC K mg C)
    (GA : FnOk P w K mg base CX0 1 fA fdA ["letters"] (spAlpha K)) (DA : Df K mg "is_alphabet" fA fdA ["letters"]) (GW : FnOk P w K mg base CX0 1 fW fdW ["value", "least", "most"] (spWithin K)) (DW : Df K mg "is_integer_within" fW fdW ["value", "least", "most"])
    (GC : FnOk P w K mg base CX0 1 fC fdC ["many", "length"] spCount) (DC : Df K mg "count_words" fC fdC ["many", "length"]) : FnOk P w K mg base CX0 2 f fd ["self", "letters", "length"] (spInit C) := by
  refine F.ok scI (fun vs H Q E h => ?_) (fun cdv A outer s H vs Q E hr h => ?_)
  · obtain ⟨p, dx, s, n, rfl, _⟩ := h
    rfl
  · obtain ⟨p, dx, z, n, rfl, hz, n0, n1, hp, q⟩ := h
    obtain ⟨t1, mg1⟩ := T.mlen
    refine ⟨_, pss_cons (ps_if (pt_not (pt_val (pe_call GA hr (by rfl) DA.mg DA.kp DA.b .nil pass0 (pa_cons (pv 1) pa_nil)))) (pss_one ps_never) pss_nil)
      (pss_cons (ps_if (pt_not (pt_val (pe_call GW hr (by rfl) DW.mg DW.kp DW.b .nil pass0 (pa_cons (pv 2) (pa_cons pe_int (pa_cons (pe_glob (v := .int 6) (by rfl) mg1 ⟨_, rfl⟩) pa_nil)))))) (pss_one ps_never) pss_nil)
      (pss_cons (ps_fld (pv 0) (pv 1) rfl) (pss_cons (ps_fld (pv 0) (pv 2) rfl)
      (pss_one (ps_fld (pv 0) (pe_call GC hr (by rfl) DC.mg DC.kp DC.b .nil pass0 (pa_cons (pe_callB call_len_str (by rfl) T.len PySem.boot_len (pa_cons (pv 1) pa_nil)) (pa_cons (pv 2) pa_nil))) rfl))))), ?_⟩
    have hl : z.length ≤ 26 := hz.2.1
    have hline : sizeLine = 16777216 := sizeLine_eq
    refine ⟨_, rfl, _, rfl, .inl ⟨z, rfl, by omega, fun H1 s1 => ⟨_, rfl, ?_⟩⟩⟩
    rw [decide_eq_true hz]
    refine iteF ?_
    refine ⟨_, rfl, _, _, _, rfl, .inl ⟨n, rfl, _, rfl, ?_⟩⟩
    rw [decide_eq_true (show 1 ≤ n ∧ n ≤ 6 from ⟨n0, n1⟩)]
    refine iteF ?_
    have hp1 := s1 _ _ hp
    refine ⟨_, rfl, _, rfl, p, C, dx, _, rfl, hp1, TC.cl, TC.nL, by show 0 < 1000; decide, ?_⟩
    refine ⟨_, rfl, _, rfl, p, C, dx, _, rfl, upd_same, TC.cl, TC.nN, by show 1 < 1000; decide, ?_⟩
    refine ⟨_, rfl, _, rfl, by omega, _, rfl, _, _, rfl, by omega, by omega, by omega, n1, ?_⟩
    refine ⟨_, rfl, p, C, dx, _, rfl, upd_same, TC.cl, TC.nS, (by rw [pf2_eq]; show 2 < 1000; decide), ?_⟩
    refine q _ ?_ ⟨dx, upd_same⟩
    exact (But.of s1).trans (But.upd.trans (But.upd.trans But.upd))
theorem digit_len {n : Int} (h0 : 1 ≤ n) (h1 : n ≤ 6) : (digit n).length = 1 := by
  have : n = 1 ∨ n = 2 ∨ n = 3 ∨ n = 4 ∨ n = 5 ∨ n = 6 := by omega
  rcases this with rfl | rfl | rfl | rfl | rfl | rfl <;> decide +kernel
theorem digit_log {n : Int} (h0 : 1 ≤ n) (h1 : n ≤ 6) : n.natAbs.log2 < 1920 := by
  have : n = 1 ∨ n = 2 ∨ n = 3 ∨ n = 4 ∨ n = 5 ∨ n = 6 := by omega
  rcases this with rfl | rfl | rfl | rfl | rfl | rfl <;> decide +kernel
theorem app_len (a b : Str) : (a ++ b).length = a.length + b.length := by
  rw [← str_len, ← str_len, ← str_len, ← List.length_append]
  exact congrArg List.length (TL.tl_append a b)
theorem empty_app (a : Str) : Str.empty ++ a = a := TL.ext_tl (by rw [TL.tl_append]; rfl)
theorem ty_board {C p dx : Addr} {H : Hp} {fs : List (Str × V)} (T : TxC K mg C) (h : H p = some (.ins C dx fs)) : TyX K H (.ref p) (.ref C) := .base (.ins h T.cl T.ac T.gt T.tk T.ob)
theorem scE : FnScope ["self", "other"] ["self", "other"] (defScope sEq) := ⟨rfl, rfl, rfl, by decide +kernel, rfl, by decide +kernel, by decide +kernel⟩
theorem ok_eq {f C : Addr} {fd : FuncData} (F : Fun K "__eq__" "Board.__eq__" sEq f fd) (T : TxW mg) (TC : TxC K mg C) : FnOk P w K mg base CX0 1 f fd ["self", "other"] (spEqB K C) := by
  refine F.ok scE (fun vs H Q E h => ?_) (fun cdv A outer s H vs Q E hr h => ?_)
  · obtain ⟨p, s, n, y, rfl, _⟩ := h
    rfl
  · obtain ⟨p, z, n, y, rfl, ⟨dx, hp⟩, hz, h⟩ := h
    refine ⟨_, pss_one (ps_ret (pe_and (pe_callB call_isi (by rfl) T.isi (by decide +kernel) (pa_cons (pv 1) (pa_cons (pe_glob (v := .ref C) (by rfl) TC.mgC rfl) pa_nil)))
      (pe_and (pe_cmpR op_eq (pe_fld (pv 0) rfl) (pe_fld (pv 1) rfl) (nomark _)) (pe_one (pe_cmpR op_eq (pe_fld (pv 0) rfl) (pe_fld (pv 1) rfl) (nomark _)))))), ?_⟩
    rcases h with ⟨q, z', n', rfl, ⟨dy, hq⟩, hz', k⟩ | ⟨t, ty, no, k⟩
    · refine ⟨_, rfl, _, _, _, _, _, rfl, .own C, ty_board TC hq, TC.own, _, rfl, ?_⟩
      refine iteT ⟨_, rfl, p, C, dx, _, _, rfl, hp, TC.cl, TC.nL, bf_letters z n, _, rfl, q, C, dy, _, _, rfl, hq, TC.cl, TC.nL, bf_letters z' n', rfl, _, rfl, ?_⟩
      refine ite2 (fun e => ?_) (fun e => ?_)
      · refine ⟨_, rfl, p, C, dx, _, _, rfl, hp, TC.cl, TC.nN, bf_length z n, _, rfl, q, C, dy, _, _, rfl, hq, TC.cl, TC.nN, bf_length z' n', rfl, ?_⟩
        have e := V.str.inj (of_decide_eq_true e)
        have e2 : decide (z = z' ∧ n = n') = decide (V.int n = V.int n') := decide_eq_decide.mpr ⟨fun x => by rw [x.2], fun x => ⟨e, V.int.inj x⟩⟩
        rw [e2] at k
        exact k
      · have e2 : decide (z = z' ∧ n = n') = false := decide_eq_false fun x => e (decide_eq_true (by rw [x.1]))
        rw [e2] at k
        exact k
    · exact ⟨_, rfl, _, _, _, _, _, rfl, .own C, ty, no, _, rfl, iteF k⟩
theorem scS : FnScope ["self"] ["self"] (defScope sStr) := ⟨rfl, rfl, rfl, by decide +kernel, rfl, by decide +kernel, by decide +kernel⟩
theorem ok_str {f C : Addr} {fd : FuncData} (F : Fun K "__str__" "Board.__str__" sStr f fd) (TC : TxC K mg C) : FnOk P w K mg base CX0 1 f fd ["self"] (spStr C) := by
  refine F.ok scS (fun vs H Q E h => ?_) (fun cdv A outer s H vs Q E hr h => ?_)
  · obtain ⟨p, s, n, rfl, _⟩ := h
    rfl
  · obtain ⟨p, z, n, rfl, ⟨dx, hp⟩, hz, n0, n1, q⟩ := h
    refine ⟨_, pss_one (ps_ret (pe_joined (.cons (pe_fmt (pe_fld (pv 0) rfl)) (.cons pe_str (.cons (pe_fmt (pe_fld (pv 0) rfl)) .nil))))), ?_⟩
    have hline : sizeLine = 16777216 := sizeLine_eq
    have d := digit_len n0 n1
    refine ⟨_, rfl, p, C, dx, _, _, rfl, hp, TC.cl, TC.nL, bf_letters z n, .inl ⟨z, rfl, by omega, z, rfl, by rw [empty_app]; omega, ?_⟩⟩
    refine ⟨_, rfl, by rw [empty_app, app_len]; have : (Str.ofString " ").length = 1 := rfl; omega, ?_⟩
    refine ⟨_, rfl, p, C, dx, _, _, rfl, hp, TC.cl, TC.nN, bf_length z n, .inr ⟨n, rfl, digit_log n0 n1, digit n, rfl, ?_, ?_⟩⟩
    · rw [empty_app, app_len, app_len]; have : (Str.ofString " ").length = 1 := rfl; omega
    · show Q (.str (Str.empty ++ z ++ Str.ofString " " ++ digit n)) H
      rw [empty_app]
      exact q
theorem scR : FnScope ["self"] ["self"] (defScope sRepr) := ⟨rfl, rfl, rfl, by decide +kernel, rfl, by decide +kernel, by decide +kernel⟩
theorem ok_repr {f C : Addr} {fd : FuncData} (F : Fun K "__repr__" "Board.__repr__" sRepr f fd) (TC : TxC K mg C) : FnOk P w K mg base CX0 1 f fd ["self"] (spRepr C) := by
  refine F.ok scR (fun vs H Q E h => ?_) (fun cdv A outer s H vs Q E hr h => ?_)
  · obtain ⟨p, s, n, rfl, _⟩ := h
    rfl
  · obtain ⟨p, z, n, rfl, ⟨dx, hp⟩, hz, n0, n1, q⟩ := h
    refine ⟨_, pss_one (ps_ret (pe_joined (.cons pe_str (.cons (pe_fmt (pe_fld (pv 0) rfl)) (.cons pe_str (.cons (pe_fmt (pe_fld (pv 0) rfl)) (.cons pe_str .nil))))))), ?_⟩
    have hline : sizeLine = 16777216 := sizeLine_eq
    have d := digit_len n0 n1
    have l1 : (Str.ofString " ").length = 1 := rfl
    have l2 : (Str.ofString "Board(").length = 6 := rfl
    have l3 : (Str.ofString ")").length = 1 := rfl
    refine ⟨_, rfl, by rw [empty_app, l2]; omega, ?_⟩
    refine ⟨_, rfl, p, C, dx, _, _, rfl, hp, TC.cl, TC.nL, bf_letters z n, .inl ⟨z, rfl, by omega, z, rfl, by rw [empty_app, app_len, l2]; omega, ?_⟩⟩
    refine ⟨_, rfl, by rw [empty_app, app_len, app_len, l1, l2]; omega, ?_⟩
    refine ⟨_, rfl, p, C, dx, _, _, rfl, hp, TC.cl, TC.nN, bf_length z n, .inr ⟨n, rfl, digit_log n0 n1, digit n, rfl, by rw [empty_app, app_len, app_len, app_len, l1, l2]; omega, ?_⟩⟩
    refine ⟨_, rfl, by rw [empty_app, app_len, app_len, app_len, app_len, l1, l2, l3]; omega, ?_⟩
    show Q (.str (Str.empty ++ Str.ofString "Board(" ++ z ++ Str.ofString " " ++ digit n ++ Str.ofString ")")) H
    rw [empty_app]
    exact q
end
end Gm

namespace Gm
open PySem L2
/-- the text of these codes -/
abbrev tx (l : List Nat) : Str := ⟨l.toArray⟩
theorem tx_len (l : List Nat) : (tx l).length = l.length := by simp [Str.length]
theorem cut_pre (z : Str) (i : Nat) (h : i ≤ z.length) : cutS z none (some (i : Int)) = tx (z.cps.toList.take i) := by
  unfold cutS
  rw [HT.sIx_none, HT.sIx_nat, Nat.min_eq_left h]
  rfl
theorem cut_suf (z : Str) (i : Nat) (h : i ≤ z.length) : cutS z (some (i : Int)) none = tx (z.cps.toList.drop i) := by
  unfold cutS
  rw [HT.sIx_none, HT.sIx_nat, Nat.min_eq_left h]
  have e : (z.cps.toList.drop i).length = z.length - i := by rw [List.length_drop, str_len]
  rw [← e, List.take_length]
theorem alph_take : ∀ m : Fin 27, 2 ≤ m.val → Alph (tx (low.take m.val)) := by decide +kernel
theorem low_sorted : low.Pairwise (· < ·) := by decide +kernel
theorem sorted_eq : ∀ (l1 l2 : List Nat), l1.Pairwise (· < ·) → l2.Pairwise (· < ·) → (∀ x, x ∈ l1 ↔ x ∈ l2) → l1 = l2
  | [], [], _, _, _ => rfl
  | [], b :: l2, _, _, h => by have := (h b).mpr List.mem_cons_self; cases this
  | a :: l1, [], _, _, h => by have := (h a).mp List.mem_cons_self; cases this
  | a :: l1, b :: l2, h1, h2, h => by
    have p1 := List.pairwise_cons.mp h1
    have p2 := List.pairwise_cons.mp h2
    have e : a = b := by
      have ha := (h a).mp List.mem_cons_self
      have hb := (h b).mpr List.mem_cons_self
      rcases List.mem_cons.mp ha with e | ha
      · exact e
      · rcases List.mem_cons.mp hb with e | hb
        · exact e.symm
        · have := p1.1 b hb
          have := p2.1 a ha
          omega
    subst e
    rw [sorted_eq l1 l2 p1.2 p2.2 fun x => ⟨fun m => ?_, fun m => ?_⟩]
    · rcases List.mem_cons.mp ((h x).mp (List.mem_cons_of_mem _ m)) with e | q
      · have := p1.1 x m
        omega
      · exact q
    · rcases List.mem_cons.mp ((h x).mpr (List.mem_cons_of_mem _ m)) with e | q
      · have := p2.1 x m
        omega
      · exact q
/-- letters that ascend are an alphabet -/
theorem alph_of {zs : List Nat} (hs : zs.Pairwise (· < ·)) (hl : ∀ c ∈ zs, c ∈ low) (h0 : 2 ≤ zs.length) (h1 : zs.length ≤ 26) : Alph (tx zs) := by
  refine ⟨by rw [tx_len]; exact h0, by rw [tx_len]; exact h1, ?_⟩
  show zs = low.filter fun c => decide (c ∈ (tx zs).cps.toList)
  refine sorted_eq _ _ hs (low_sorted.sublist List.filter_sublist) fun x => ?_
  rw [List.mem_filter]
  show x ∈ zs ↔ x ∈ low ∧ decide (x ∈ zs) = true
  exact ⟨fun h => ⟨hl x h, decide_eq_true h⟩, fun h => of_decide_eq_true h.2⟩
abbrev one (c : Nat) : Str := ⟨#[c]⟩
def codeOf (s : Str) : Nat := s.cps.toList.headD 0
/-- what sorted leaves of signs -/
theorem sorted_one {fs : List Nat} {ys : List Str} (hp : ys.Perm (fs.map one)) : ∃ zs : List Nat, zs.Perm fs ∧ ys = zs.map one := by
  refine ⟨ys.map codeOf, ?_, ?_⟩
  · have := hp.map codeOf
    rw [List.map_map] at this
    have e : fs.map (codeOf ∘ one) = fs := by
      have : (codeOf ∘ one) = id := by funext c; rfl
      rw [this, List.map_id]
    rw [e] at this
    exact this
  · rw [List.map_map]
    have : ∀ y ∈ ys, (one ∘ codeOf) y = y := fun y hy => by
      obtain ⟨c, _, rfl⟩ := List.mem_map.mp (hp.mem_iff.mp hy)
      rfl
    exact (List.map_congr_left this |>.trans (List.map_id' ys)).symm
open PyProof.Rows in
theorem rising_le : ∀ (zs : List Nat) (a : Nat), risingS (one a) (zs.map one) = true → (a :: zs).Pairwise (· ≤ ·)
  | [], a, _ => List.pairwise_singleton _ _
  | b :: zs, a, h => by
    have h' : (!Spec.ltCps [b] [a] && risingS (one b) (zs.map one)) = true := h
    rw [Bool.and_eq_true] at h'
    have ih := rising_le zs b h'.2
    have e : a ≤ b := by
      refine Nat.le_of_not_lt fun q => ?_
      have : Spec.ltCps [b] [a] = true := by simp [Spec.ltCps, q]
      rw [this] at h'
      exact absurd h'.1 (by decide)
    refine List.pairwise_cons.mpr ⟨fun c hc => ?_, ih⟩
    rcases List.mem_cons.mp hc with rfl | hc
    · exact e
    · exact Nat.le_trans e ((List.pairwise_cons.mp ih).1 c hc)
open PyProof.Rows in
theorem sorted_le {zs : List Nat} (h : sortedS (zs.map one) = true) : zs.Pairwise (· ≤ ·) := by
  cases zs with
  | nil => exact List.Pairwise.nil
  | cons a zs => exact rising_le zs a h
theorem strict {zs : List Nat} (h : zs.Pairwise (· ≤ ·)) (n : zs.Nodup) : zs.Pairwise (· < ·) := by
  refine (h.and n).imp fun ⟨a, b⟩ => ?_
  omega
theorem low_nodup : low.Nodup := by decide +kernel
theorem drawn_perm {fs l : List Nat} {i : Nat} {c : Nat} (h : (fs ++ l).Perm low) (hc : l[i]? = some c) : (fs ++ [c] ++ (l.take i ++ l.drop (i + 1))).Perm low := by
  refine List.Perm.trans ?_ h
  rw [List.append_assoc]
  refine List.Perm.append_left fs ?_
  have hi := (List.getElem?_eq_some_iff.mp hc).1
  have e : l = l.take i ++ c :: l.drop (i + 1) := by
    have := (List.getElem?_eq_some_iff.mp hc).2
    rw [← this, List.getElem_cons_drop, List.take_append_drop]
  have q : (c :: (l.take i ++ l.drop (i + 1))).Perm (l.take i ++ c :: l.drop (i + 1)) := List.perm_middle.symm
  rw [← e] at q
  exact q
theorem drawn_alph {fs lf : List Nat} {ys : List Str} (h : (fs ++ lf).Perm low) (h0 : 2 ≤ fs.length) (hp : ys.Perm (fs.map one)) (hs : PyProof.Rows.sortedS ys = true) : ∃ zs : List Nat, ys = zs.map one ∧ Alph (tx zs) ∧ zs.length = fs.length := by
  obtain ⟨zs, q, rfl⟩ := sorted_one hp
  have nd : fs.Nodup := (List.nodup_append.mp (h.nodup_iff.mpr low_nodup)).1
  have hl := h.length_eq
  rw [List.length_append, low_len] at hl
  refine ⟨zs, rfl, alph_of (strict (sorted_le hs) (q.nodup_iff.mpr nd)) (fun c hc => h.mem_iff.mp (List.mem_append_left _ (q.mem_iff.mp hc))) (by rw [q.length_eq]; exact h0) (by rw [q.length_eq]; omega), q.length_eq⟩
end Gm

/-! marks as lists of codes: the mirror of marks_of -/
namespace Gm
def un (g w : List Nat) : List Nat := ((g.zip w).filter fun p => !decide (p.1 = p.2)).map (·.2)
def go : List (Nat × Nat) → List Nat → List Nat
  | [], _ => []
  | (a, b) :: r, u => if a = b then 50 :: go r u else if a ∈ u then 49 :: go r (u.erase a) else 48 :: go r u
def mk (g w : List Nat) : List Nat := go (g.zip w) (un g w)
theorem drop_at {α : Type} {l : List α} {i : Nat} {x : α} (h : l[i]? = some x) : l.drop i = x :: l.drop (i + 1) := by
  have hi := (List.getElem?_eq_some_iff.mp h).1
  have e := (List.getElem?_eq_some_iff.mp h).2
  rw [← e, List.getElem_cons_drop]
theorem zip_at {g w : List Nat} {i c e : Nat} (h1 : g[i]? = some c) (h2 : w[i]? = some e) : (g.zip w)[i]? = some (c, e) := by
  rw [List.getElem?_zip_eq_some]
  exact ⟨h1, h2⟩
theorem take_map_filter {l : List (Nat × Nat)} {i : Nat} {x : Nat × Nat} (p : Nat × Nat → Bool) (f : Nat × Nat → Nat) (h : l[i]? = some x) :
    ((l.take (i + 1)).filter p).map f = ((l.take i).filter p).map f ++ (if p x = true then [f x] else []) := by
  have hi := (List.getElem?_eq_some_iff.mp h).1
  have e := (List.getElem?_eq_some_iff.mp h).2
  rw [List.take_succ_eq_append_getElem hi, e, List.filter_append, List.map_append]
  congr 1
  by_cases c : p x = true
  · rw [if_pos c]; simp [c]
  · rw [if_neg c]; simp [c]
theorem go_length : ∀ (l : List (Nat × Nat)) (u : List Nat), (go l u).length = l.length
  | [], _ => rfl
  | (a, b) :: r, u => by
    unfold go
    split
    · rw [List.length_cons, go_length r u, List.length_cons]
    · split <;> rw [List.length_cons, go_length r _, List.length_cons]
end Gm

namespace L2
open PySem PySem.Spec PyProof.Rows
/-- two texts, sign by sign, in new pairs -/
def Itzs (x y : Str) : It :=
  ⟨fun i _ => i < x.cps.size ∧ i < y.cps.size,
    fun i H v H' => ∃ (T : Addr) (c e : Nat), v = .ref T ∧ H T = none ∧ H' = upd H T (.tup [.str ⟨#[c]⟩, .str ⟨#[e]⟩]) ∧ x.cps[i]? = some c ∧ y.cps[i]? = some e,
    fun i _ => i = x.cps.size ∧ i = y.cps.size⟩
theorem zs_sep (n : Nat) : ZipSep2 (n + 4) (n + 2) (n + 3) n (n + 1) [n] [n + 1] := by
  constructor <;> first | (simp; done) | (refine PySem.W.neN ?_; omega) | (simp; omega)
theorem turn_zips {P : Program} {w : World} {K : PySem.W.Frag} {elts : List Expr} {kk : Nat} {tpos : Pos} {z TI TO i1 i2 : Addr} {x y : Str} {t1 t2 : Tok} (D : ZipSep2 z TI TO i1 i2 [i1] [i2]) :
    Turn P w K (.Tuple elts kk tpos) (Itzs x y) [z, TI, TO, i1, i2] z (fun i h => IsZip h z TI TO .none ∧ IsTupOf2 h TI (.ref i1) (.ref i2) ∧ (∃ a b, IsTupOf2 h TO a b) ∧ h.IsStrIter i1 (strIterType x) x t1 i ∧ h.IsStrIter i2 (strIterType y) y t2 i) where
  mem := by simp
  obj := fun i h st c hc => by
    obtain ⟨hz, hTI, ⟨a, b, hTO⟩, ⟨o1, e1, _, d1⟩, ⟨o2, e2, _, d2⟩⟩ := st
    have q : c = z ∨ c = TI ∨ c = TO ∨ c = i1 ∨ c = i2 := by simpa using hc
    rcases q with rfl | rfl | rfl | rfl | rfl
    · exact ⟨_, hz, fun v q => nomatch q⟩
    · exact ⟨_, hTI, fun v q => nomatch q⟩
    · exact ⟨_, hTO, fun v q => nomatch q⟩
    · exact ⟨o1, e1, fun v q => by rw [d1] at q; cases q⟩
    · exact ⟨o2, e2, fun v q => by rw [d2] at q; cases q⟩
  keep := fun i h h' st k => by
    obtain ⟨hz, hTI, ⟨a, b, hTO⟩, ⟨o1, e1, r1⟩, ⟨o2, e2, r2⟩⟩ := st
    exact ⟨k z (by simp) _ hz, k TI (by simp) _ hTI, ⟨a, b, k TO (by simp) _ hTO⟩, ⟨o1, k i1 (by simp) _ e1, r1⟩, ⟨o2, k i2 (by simp) _ e2, r2⟩⟩
  item := by
    intro X hP hw hK hc i pins s σ H E I hf st hg
    subst hP hw hK
    obtain ⟨hz, hTI, ⟨a0, b0, hTO⟩, h1, h2⟩ := st
    have lz : z < s.heap.objs.size := Heap.lt_size hz
    refine wpAny_pyNext_zipD2_item (St1 := fun i h => h.IsStrIter i1 (strIterType x) x t1 i) (St2 := fun i h => h.IsStrIter i2 (strIterType y) y t2 i) D (Draws.text (A := X.A.in1) (show X.A.in1.handled = none from I.ok.hd hc) i1 x t1) (Draws.text (A := X.A.in1) (show X.A.in1.handled = none from I.ok.hd hc) i2 y t2) hz hTI hTO h1 h2 hg.1 hg.2 fun u u2 h' tk p1 p2 z' TO' h1' h2' hT hsz hk => ?_
    obtain ⟨c, v1, hcx, rfl⟩ := p1
    obtain ⟨e, v2, hey, rfl⟩ := p2
    refine ⟨_, rfl, wpAny_letOwnedTupleGo_zip (s := { s with heap := h', toks := tk }) z' fun g z'' sb => ?_⟩
    have hT2 := (sb.2 _ (Nat.ne_of_gt lz)).trans hT
    have fresh : ObjOk X.prog X.w (upd H s.heap.objs.size (.tup [.str ⟨#[c]⟩, .str ⟨#[e]⟩])) g s.heap.objs.size (.tup [.str ⟨#[c]⟩, .str ⟨#[e]⟩]) :=
      ⟨by show 2 ≤ sizeLine; decide, _, .cons ⟨v1, rfl⟩ (.cons ⟨v2, rfl⟩ .nil), ⟨_, hT2, rfl, _, rfl⟩⟩
    have J : Inv X pins σ (upd H s.heap.objs.size (.tup [.str ⟨#[c]⟩, .str ⟨#[e]⟩])) { s with heap := g, toks := tk } := by
      refine I.turnedNew (ch := [z, TI, TO, i1, i2]) (fun b o hb q => ?_) hf (Nat.le_refl _) fresh
      have nb : b ≠ z ∧ b ≠ TI ∧ b ≠ TO ∧ b ≠ i1 ∧ b ≠ i2 := by simpa using hb
      exact (sb.2 b nb.1).trans (hk b o nb.1 nb.2.2.1 nb.2.2.2.1 nb.2.2.2.2 q)
    refine ⟨.ref s.heap.objs.size, _, J, rfl, ⟨_, c, e, rfl, I.hok.fresh (Nat.le_refl _), rfl, hcx, hey⟩, ⟨z'', ?_, ⟨_, _, (sb.2 _ D.TOz).trans TO'⟩, ?_, ?_⟩, fun b hb => ?_⟩
    · exact (sb.2 _ D.TIz).trans (hk _ _ D.TIz D.TITO D.TIi1 D.TIi2 hTI)
    · obtain ⟨o1, e1, r1⟩ := h1'
      exact ⟨o1, (sb.2 _ D.zi1.symm).trans e1, r1⟩
    · obtain ⟨o2, e2, r2⟩ := h2'
      exact ⟨o2, (sb.2 _ D.zi2.symm).trans e2, r2⟩
    · have hlt : b < s.heap.objs.size := by
        have q : b = z ∨ b = TI ∨ b = TO ∨ b = i1 ∨ b = i2 := by simpa using hb
        obtain ⟨o1, e1, _⟩ := h1
        obtain ⟨o2, e2, _⟩ := h2
        rcases q with rfl | rfl | rfl | rfl | rfl
        · exact lz
        · exact Heap.lt_size hTI
        · exact Heap.lt_size hTO
        · exact Heap.lt_size e1
        · exact Heap.lt_size e2
      rw [upd_ne (Nat.ne_of_lt hlt)]
      exact (hf b hb).1
  done := by
    intro X hP hw hK hc i pins s σ H E I hf st hg
    subst hP hw hK
    obtain ⟨hz, hTI, ⟨a0, b0, hTO⟩, h1, h2⟩ := st
    refine wpAny_pyNext_zipD2_end (St1 := fun i h => h.IsStrIter i1 (strIterType x) x t1 i) (St2 := fun i h => h.IsStrIter i2 (strIterType y) y t2 i) D (Draws.text (A := X.A.in1) (show X.A.in1.handled = none from I.ok.hd hc) i1 x t1) (Draws.text (A := X.A.in1) (show X.A.in1.handled = none from I.ok.hd hc) i2 y t2) hz hTI hTO h1 h2 (Nat.le_of_eq hg.1) (Nat.le_of_eq hg.2) (.inl hg.1) fun h' tk hk => ⟨rfl, I.turnedL (ch := [z, TI, TO, i1, i2]) (fun b o hb q => ?_) hf⟩
    have nb : b ≠ z ∧ b ≠ TI ∧ b ≠ TO ∧ b ≠ i1 ∧ b ≠ i2 := by simpa using hb
    exact hk b o nb.1 nb.2.2.1 nb.2.2.2.1 nb.2.2.2.2 q
  self := fun A i s Q E st h => wpAny_pyIter_zip st.1 h
def iZips (ta : TA) : TI := fun σ H R => ta σ H fun vs H1 => ∃ x y, vs = [.str x, .str y] ∧ x.cps.size = y.cps.size ∧ R (Itzs x y) H1
theorem pi_zips {X : Cx} {e e2 : Expr} {ta : TA} {p pos tpos : Pos} {elts : List Expr} {kk : Nat} (hg : Gl X "zip") (hm : X.mg "zip" = none) (ha : PA X [e, e2] ta)
    (hs : starEach [e, e2] X.env = (false, eval e X.env) :: starEach [e2] X.env := by rfl) (hpl : (backTo pos (starEach [e2] X.env)).any (·.1) = false := by rfl) :
    PI X (.Tuple elts kk tpos) (.Call (.Name "zip" p) [e, e2] [] pos) (iZips ta) := by
  refine ⟨fun pins s σ H R I h => ?_⟩
  refine Call_ (ld_blt I hg hm PyProof.Rows.boot_zip (PyProof.Rows.callWith_type1 (thn (ha.run pos pins s σ H _ I h) fun us s1 hh => ?_) hs hpl))
  obtain ⟨vs, H1, I1, r1, x, y, rfl, hxy, q⟩ := hh
  cases r1 with
  | cons r rr =>
    cases rr with
    | cons r' rr =>
      cases rr
      obtain ⟨t1, rfl⟩ := r
      obtain ⟨t2, rfl⟩ := r'
      refine zip_begins2 (begins_text x t1) (begins_text y t2) trivial trivial fun h' hz hTI hTO h1 h2 hsz hk => wpAny_pyIter_zip hz ?_
      have J : Inv X pins σ H1 { s1 with heap := h' } := I1.kept (t' := s1.toks) hk
      refine ⟨s1.heap.objs.size + 4, [s1.heap.objs.size + 4, s1.heap.objs.size + 2, s1.heap.objs.size + 3, s1.heap.objs.size, s1.heap.objs.size + 1], _, _, H1, rfl, J, turn_zips (t1 := t1) (t2 := t2) (zs_sep s1.heap.objs.size), ⟨hz, hTI, ⟨_, _, hTO⟩, ⟨_, h1, rfl, rfl⟩, ⟨_, h2, rfl, rfl⟩⟩, fun b hb => ?_, q⟩
      have hle : s1.heap.objs.size ≤ b := by
        have q : b = s1.heap.objs.size + 4 ∨ b = s1.heap.objs.size + 2 ∨ b = s1.heap.objs.size + 3 ∨ b = s1.heap.objs.size ∨ b = s1.heap.objs.size + 1 := by simpa using hb
        rcases q with rfl | rfl | rfl | rfl | rfl
        · exact Nat.le_add_right _ _
        · exact Nat.le_add_right _ _
        · exact Nat.le_add_right _ _
        · exact Nat.le_refl _
        · exact Nat.le_add_right _ _
      exact I1.fpOk hle (I1.hok.fresh hle)
theorem walk_zips {x y : Str} (hxy : x.cps.size = y.cps.size) : Walk (Itzs x y) x.cps.size (fun _ => True) (fun i H v H' => ∃ (T : Addr) (c e : Nat), v = .ref T ∧ H T = none ∧ H' = upd H T (.tup [.str ⟨#[c]⟩, .str ⟨#[e]⟩]) ∧ x.cps[i]? = some c ∧ y.cps[i]? = some e) :=
  ⟨fun i _ hi _ => ⟨hi, hxy ▸ hi⟩, fun _ _ => ⟨rfl, hxy⟩, fun _ _ _ _ _ _ y => y⟩
end L2

namespace L2
open PySem PySem.Spec PyProof.Rows
section
variable {X : Cx} {CX : CXT} {k : Nat} {f : Addr} {fd : FuncData} {ps ks : List Str} {sp : Sp} {E : XK} {x : Str} {p pos : Pos} {kws : List Keyword} {tk : TA} {g : List Value → List Value → List Value} {gV : List V → List V → List V}
/-- f(k = v, ..), keywords alone -/
theorem pe_callK0 (F : FnOk X.prog X.w X.K X.mg X.base CX k f fd ps sp) (hr : Room k X.A) (hg : Gl X x) (hm : X.mg x = some (.ref f)) (hk : PySem.W.keepIn X.K (.ref f) = true) (hb : KBinds X.K fd ps ks g gV) (hx : Passes CX X E) (hkw : PK X kws tk)
    (hall : (backToKw pos (keywordEach kws X.env)).all (·.1.isSome) = true := by rfl) (hks : (backToKw pos (keywordEach kws X.env)).filterMap (·.1) = ks := by rfl) (hdb : (x == ("__debug__" : Str)) = false := by decide)
    (hpl : ((backTo pos (starEach [] X.env)).any (·.1) || (backToKw pos (keywordEach kws X.env)).any (·.1.isNone)) = false := by rfl) : PE X (.Call (.Name x p) [] kws pos) (tCallK sp gV E tNil tk) := by
  refine ⟨fun pins s σ H Q I h => wpAny_Call_Name_kw (ld_glob I hg hm ?_ hdb)⟩
  refine PySem.W.callWith_KW0 (h₀ := X.base) I.ok.mod.kin hk hall (thn (hkw.run pos pins s σ H _ I h) fun ws s2 hh => ?_) hpl
  obtain ⟨zs, H2, I2, rz, q2⟩ := hh
  refine ⟨I2.kIn, ?_⟩
  rw [hks]
  exact run_fnk (us := []) (vs := []) F hr hb hx I2 .nil rz q2
end
/-- list.remove of a text that is there -/
def rRemS : V → List V → Hp → VK → Prop := fun x xs H Q => ∃ (l : Addr) (ss : List Str) (k : Str) (j : Nat), x = .ref l ∧ xs = [.str k] ∧ H l = some (.lst (ss.map V.str)) ∧ ss[j]? = some k ∧ (∀ m : Nat, m < j → ss[m]? ≠ some k) ∧ Q .non (upd H l (.lst ((ss.eraseIdx j).map V.str)))
def eqs (k : Str) (v : Value) : Bool := match v with
  | .str n _ => n.cps.toList == k.cps.toList
  | _ => false
theorem erase_mapS : ∀ (l : List Str) (j : Nat), (l.map V.str).eraseIdx j = (l.eraseIdx j).map V.str
  | [], j => by simp
  | a :: r, 0 => by simp
  | a :: r, j + 1 => by simp [erase_mapS r j]
theorem eqs_gives {k : Str} {t : Tok} : ∀ {us : List Value} {ss : List Str}, Vals (ss.map V.str) us → ∀ y ∈ us, MeetsSeq.EqGives y (.str k t) (eqs k y)
  | _, [], .nil => fun y hy => by cases hy
  | _, n :: ss, .cons ⟨t', e⟩ h => fun y hy => by
    rcases List.mem_cons.mp hy with q | q
    · rw [q, e]
      exact SeqRoads2.EqGives.str n k t' t
    · exact eqs_gives h y q
theorem mt_removeS {X : Cx} : MtM X "list.remove" rRemS := by
  intro pins s σ H x xs v us Q I rx rxs h
  obtain ⟨l, ss, k, j, rfl, rfl, hH, hj, hno, q⟩ := h
  cases rx
  obtain ⟨u, rfl, t, rfl⟩ := rxs.one
  obtain ⟨z, its, n, r, hl, e⟩ := I.lstM hH
  have len := r.length
  rw [List.length_map] at hl z len
  have hjn : j < ss.length := (List.getElem?_eq_some_iff.mp hj).1
  have item : ∀ m (hm : m < ss.length) (hm' : m < its.toArray.size), ∃ tm, its.toArray[m] = .str ss[m] tm := fun m hm hm' => by
    obtain ⟨u, hu, ru⟩ := r.get (i := m) (x := V.str ss[m]) (by rw [List.getElem?_map, List.getElem?_eq_getElem hm]; rfl)
    obtain ⟨tm, rfl⟩ := ru
    exact ⟨tm, by simpa using (List.getElem?_eq_some_iff.mp hu).2⟩
  have sz : its.toArray.size = its.length := by simp
  have hjl : j < its.toArray.size := by omega
  refine call_meets PySem.F.slot_list_remove ⟨_, e, rfl⟩ PySem.F.entry_list_remove (PySem.F.args_list_remove_2 _ _)
    (MeetsSeq.list_remove l its.toArray n (.str k t) (eqs k) (fun y hy => eqs_gives r y (by simpa using hy)) j hjl ?_ ?_ (by omega)) ⟨e, ?_⟩
  · obtain ⟨tj, e1⟩ := item j hjn hjl
    have e2 : ss[j] = k := (List.getElem?_eq_some_iff.mp hj).2
    rw [e1, e2]
    exact beq_self_eq_true _
  · intro m hm hmj
    have hmn : m < ss.length := by omega
    obtain ⟨tm, e1⟩ := item m hmn hm
    rw [e1]
    refine beq_eq_false_iff_ne.mpr fun e2 => hno m hmj ?_
    rw [List.getElem?_eq_getElem hmn]
    exact congrArg some (TL.ext_tl e2)
  · have rr := r.eraseIdx j
    rw [erase_mapS] at rr
    refine ⟨.non, _, I.lset (its' := its.eraseIdx j) (t' := s.toks) hH e ?_ rr ?_, rfl, q⟩
    · show its.toArray.eraseIdxIfInBounds j = (its.eraseIdx j).toArray
      rw [List.eraseIdxIfInBounds_toArray]
    · have := List.length_eraseIdx_le ss j
      rw [List.length_map]
      omega
end L2

namespace Gm
open PySem L2
abbrev sMarksOf : Stmt := top 34
def spMarksOf : Sp := fun vs H Q _ => ∃ (g w : List Nat), vs = [.str (tx g), .str (tx w)] ∧ g.length = w.length ∧ g.length ≤ 6 ∧ ∀ H', Same H H' → Q (.str (tx (mk g w))) H'
theorem tx_app (a b : List Nat) : tx a ++ tx b = tx (a ++ b) := TL.ext_tl (TL.tl_append _ _)
theorem tx_at {g : List Nat} {i c : Nat} (h : (tx g).cps[i]? = some c) : g[i]? = some c := by simpa using h
theorem tx_size (g : List Nat) : (tx g).cps.size = g.length := by simp
theorem in_ones (a : Nat) (u : List Nat) : inV (.str (one a)) (u.map fun c => V.str (one c)) = decide (a ∈ u) := by
  induction u with
  | nil => rfl
  | cons b u ih =>
    have e : eqV (.str (one b)) (.str (one a)) = decide (a = b) := by
      show (one b == one a) = _
      by_cases h : a = b
      · subst h; simp
      · rw [decide_eq_false h]
        refine beq_eq_false_iff_ne.mpr fun q => h ?_
        have := congrArg (fun s : Str => s.cps.toList) q
        simpa using this.symm
    show (eqV (.str (one b)) (.str (one a)) || inV (.str (one a)) (u.map fun c => V.str (one c))) = _
    rw [ih, e]
    by_cases h : a = b <;> simp [h]
theorem flat_ones (u : List Nat) : (u.map fun c => V.str (one c)).all flatV = true := by
  rw [List.all_map, List.all_eq_true]
  exact fun c _ => rfl
theorem ones_inj {a b : Nat} (h : one a = one b) : a = b := by
  have := congrArg (fun s : Str => s.cps.toList) h
  simpa using this
/-- the first place of a in u -/
theorem first_at {u : List Nat} {a : Nat} (h : a ∈ u) : ∃ j, u[j]? = some a ∧ (∀ m : Nat, m < j → u[m]? ≠ some a) ∧ u.eraseIdx j = u.erase a := by
  induction u with
  | nil => cases h
  | cons b u ih =>
    by_cases hb : b = a
    · subst hb
      exact ⟨0, rfl, fun m hm => by omega, by simp⟩
    · have h' : a ∈ u := by
        rcases List.mem_cons.mp h with q | q
        · exact absurd q.symm hb
        · exact q
      obtain ⟨j, h1, h2, h3⟩ := ih h'
      refine ⟨j + 1, by simpa using h1, fun m hm => ?_, ?_⟩
      · cases m with
        | zero => simpa using hb
        | succ m => simpa using h2 m (by omega)
      · rw [List.erase_cons_tail (by simpa using hb)]
        simp [h3]
section
variable {P : Program} {w : World} {K : PySem.W.Frag} {mg : Str → Option Value} {base : Heap}
abbrev nM : List Str := ["guess", "word", "letter", "hidden", "unmatched", "told"]
theorem scMo : FnScope nM ["guess", "word"] (defScope sMarksOf) := ⟨rfl, rfl, rfl, by decide +kernel, rfl, by decide +kernel, by decide +kernel⟩
theorem ok_marksOf {f : Addr} {fd : FuncData} (F : Fun K "marks_of" "marks_of" sMarksOf f fd) (zip : mg "zip" = none) : FnOk P w K mg base CX0 1 f fd ["guess", "word"] spMarksOf := by
  refine F.ok scMo (fun vs H Q E h => ?_) (fun cdv A outer s H vs Q E hr h => ?_)
  · obtain ⟨g, w, rfl, _⟩ := h
    rfl
  · obtain ⟨g, w', rfl, hl, h6, q⟩ := h
    have nd := scMo.nd
    have hline : sizeLine = 16777216 := sizeLine_eq
    refine ⟨_, pss_cons (ps_setLc (i := 4) (own := [("letter", 2), ("hidden", 3)]) (g := gTup K 2 (gCons (gName 2) (gCons (gName 3) gNil))) (by rfl) nd rfl rfl (sw_true rfl rfl rfl (by decide +kernel))
        (pi_zips (by rfl) zip (pa_cons (pv 0) (pa_cons (pv 1) pa_nil))) (blkOk_by (own := [("letter", 2), ("hidden", 3)]) (N := nM) (sc := defScope sMarksOf) (by decide +kernel))
        (fun _ _ _ _ _ => by exact pg_tup (by rfl) (pgs_cons (pg_name (i := 2) nd rfl (Or.inl rfl)) (pgs_cons (pg_name (i := 3) nd rfl (Or.inl rfl)) pgs_nil)))
        (fun _ _ _ _ _ => pts_one (pt_cmpR op_ne (pv 2) (pv 3) (nomark _))) (fun _ _ _ _ _ => pv 3))
      (pss_cons (ps_set (i := 5) nd rfl (Or.inl rfl) pe_str)
      (pss_cons (ps_for PassesOwn.never rfl (pi_zips (by rfl) zip (pa_cons (pv 0) (pa_cons (pv 1) pa_nil))) (pg_tup (by rfl) (pgs_cons (pg_name (i := 2) nd rfl (Or.inl rfl)) (pgs_cons (pg_name (i := 3) nd rfl (Or.inl rfl)) pgs_nil)))
        (pss_one (ps_if (pt_cmpR op_eq (pv 2) (pv 3) (nomark _)) (pss_one (ps_aug (i := 5) nd rfl (Or.inl rfl) pe_str iop_add_str))
          (pss_one (ps_if (pt_cmpR op_in_seq (pv 2) (pv 4) rfl)
            (pss_cons (ps_expr (pe_bm PySem.F.plainAttrs_list PySem.F.slot_list_remove PySem.F.type_list_remove mt_removeS (pv 4) (pa_cons (pv 2) pa_nil))) (pss_one (ps_aug (i := 5) nd rfl (Or.inl rfl) pe_str iop_add_str)))
            (pss_one (ps_aug (i := 5) nd rfl (Or.inl rfl) pe_str iop_add_str)))))))
      (pss_one (ps_ret (pv 5))))), ?_⟩
    have sz : (tx g).cps.size = (tx w').cps.size := by rw [tx_size, tx_size, hl]
    refine ⟨_, rfl, _, rfl, tx g, tx w', rfl, sz, fun D hD => ?_⟩
    refine lc_it (walk_zips sz) (fun i H' => Same H H' ∧ H' D = some (.lst ((((g.zip w').take i).filter fun p => !decide (p.1 = p.2)).map fun p => V.str (one p.2)))) ⟨same_upd hD, upd_same⟩ (fun _ _ _ _ => trivial) ?_ ?_
    · rintro i x H1 H2 hi ⟨sm, hDi⟩ ⟨T, c, e, rfl, hT, rfl, hx, hy⟩
      have hz := zip_at (tx_at hx) (tx_at hy)
      have nDT : D ≠ T := ne_of_none hDi hT
      refine ⟨T, _, rfl, SqT.of upd_same, rfl, _, _, rfl, _, _, rfl, rfl, rfl, ?_⟩
      have ne_iff : decide (V.str (one c) = V.str (one e)) = decide (c = e) := decide_eq_decide.mpr ⟨fun q => ones_inj (V.str.inj q), fun q => by rw [q]⟩
      have st := take_map_filter (fun p => !decide (p.1 = p.2)) (fun p => p.2) hz
      have st' : (((g.zip w').take (i + 1)).filter fun p => !decide (p.1 = p.2)).map (fun p => V.str (one p.2)) = (((g.zip w').take i).filter fun p => !decide (p.1 = p.2)).map (fun p => V.str (one p.2)) ++ (if (!decide (c = e)) = true then [V.str (one e)] else []) := by
        have := congrArg (List.map fun a => V.str (one a)) st
        rw [List.map_append, List.map_map, List.map_map] at this
        refine this.trans (congrArg _ ?_)
        split <;> rfl
      have hD2 : upd H1 T (.tup [.str (one c), .str (one e)]) D = _ := (upd_ne nDT).trans hDi
      have sm2 : Same H (upd H1 T (.tup [.str (one c), .str (one e)])) := sm.trans (same_upd hT)
      refine ⟨_, rfl, _, rfl, rfl, _, rfl, ?_⟩
      rw [ne_iff]
      refine ite2 (fun hm => ?_) (fun hm => ?_)
      · rw [if_pos hm] at st'
        refine ⟨_, rfl, _, hD2, ?_, fun b o q => ?_, ?_⟩
        · have h1 := List.length_filter_le (fun p : Nat × Nat => !decide (p.1 = p.2)) ((g.zip w').take i)
          have h2 : ((g.zip w').take i).length ≤ 6 := by rw [List.length_take, List.length_zip]; omega
          rw [List.length_map]
          omega
        · rw [upd_ne (ne_of_none q hD)]
          exact sm2 b o q
        · rw [upd_same, st']
      · rw [if_neg hm, List.append_nil] at st'
        exact ⟨sm2, by rw [st']; exact hD2⟩
    rintro H1 ⟨sm, hD1⟩
    have eu : (((g.zip w').take (tx g).cps.size).filter fun p => !decide (p.1 = p.2)).map (fun p => V.str (one p.2)) = (un g w').map fun c => V.str (one c) := by
      rw [tx_size, List.take_of_length_le (by rw [List.length_zip]; omega)]
      unfold un
      rw [List.map_map]
      rfl
    rw [eu] at hD1
    refine ⟨_, rfl, _, rfl, tx g, tx w', rfl, sz, for_it (walk_zips sz) (fun i σ H' => ∃ (u t : List Nat) (v2 v3 : Option V), σ = [some (.str (tx g)), some (.str (tx w')), v2, v3, some (.ref D), some (.str (tx t))] ∧ Same H H' ∧
      H' D = some (.lst (u.map fun c => V.str (one c))) ∧ t ++ go ((g.zip w').drop i) u = mk g w' ∧ t.length = i ∧ u.length ≤ 6) ?_ (fun _ _ _ _ _ => trivial) ?_ ?_⟩
    · refine ⟨un g w', [], _, _, rfl, sm, hD1, rfl, rfl, ?_⟩
      have h1 := List.length_filter_le (fun p : Nat × Nat => !decide (p.1 = p.2)) (g.zip w')
      have h2 : (g.zip w').length ≤ 6 := by rw [List.length_zip]; omega
      unfold un
      rw [List.length_map]
      omega
    · rintro i x σ H2 H3 hi ⟨u, t, v2, v3, rfl, sm2, hD2, hgo, ht, hu⟩ ⟨T, c, e, rfl, hT, rfl, hx, hy⟩
      have hz := zip_at (tx_at hx) (tx_at hy)
      have nDT : D ≠ T := ne_of_none hD2 hT
      rw [drop_at hz] at hgo
      have eq_iff : decide (V.str (one c) = V.str (one e)) = decide (c = e) := decide_eq_decide.mpr ⟨fun q => ones_inj (V.str.inj q), fun q => by rw [q]⟩
      have hD3 : upd H2 T (.tup [.str (one c), .str (one e)]) D = _ := (upd_ne nDT).trans hD2
      have sm3 : Same H (upd H2 T (.tup [.str (one c), .str (one e)])) := sm2.trans (same_upd hT)
      have hi6 : i < g.length := by rw [tx_size] at hi; exact hi
      have tl : (tx t).length = i := by rw [tx_len, ht]
      have grow : ∀ (m : Nat) {r : List Nat}, t ++ m :: r = mk g w' → (t ++ [m]) ++ r = mk g w' := fun m r h => by rw [List.append_assoc]; exact h
      refine ⟨T, _, rfl, SqT.of upd_same, rfl, _, _, rfl, _, _, rfl, rfl, ?_⟩
      refine ⟨_, rfl, _, rfl, rfl, _, rfl, ?_⟩
      rw [eq_iff]
      refine ite2 (fun hm => ?_) (fun hm => ?_)
      · have hm := of_decide_eq_true hm
        refine ⟨_, rfl, _, _, rfl, rfl, by show (tx t).length + 1 ≤ sizeLine; omega, u, t ++ [50], some (.str (one c)), some (.str (one e)), ?_, sm3, hD3, ?_, by rw [List.length_append, ht]; rfl, hu⟩
        · rw [← tx_app]
          rfl
        · refine grow 50 ?_
          rw [go, if_pos hm] at hgo
          exact hgo
      · have hm : ¬ c = e := fun q => hm (decide_eq_true q)
        rw [go, if_neg hm] at hgo
        refine ⟨_, rfl, _, rfl, D, _, rfl, .inl (SqL.of hD3), rfl, flat_ones u, _, rfl, ?_⟩
        refine ite2 (fun hc => ?_) (fun hc => ?_)
        · have hc : c ∈ u := by
            have := (in_ones c u).symm.trans hc
            exact of_decide_eq_true this
          rw [if_pos hc] at hgo
          obtain ⟨j, j1, j2, j3⟩ := first_at hc
          have em : (u.map one).map V.str = u.map fun c => V.str (one c) := by rw [List.map_map]; rfl
          refine ⟨_, rfl, .inl ⟨rfl, _, SqL.of hD3⟩, _, rfl, D, u.map one, one c, j, rfl, rfl, by rw [em]; exact hD3, by rw [List.getElem?_map, j1]; rfl, fun m hm q => j2 m hm ?_, ?_⟩
          · rw [List.getElem?_map] at q
            cases e' : u[m]? with
            | none => rw [e'] at q; cases q
            | some b => rw [e'] at q; exact congrArg some (ones_inj (Option.some.inj q))
          have ee : (((u.map one).eraseIdx j).map V.str) = (u.erase c).map fun c => V.str (one c) := by
            rw [← j3]
            have : ∀ (l : List Nat) (j : Nat), (l.map one).eraseIdx j = (l.eraseIdx j).map one := by
              intro l
              induction l with
              | nil => intro j; simp
              | cons a l ih => intro j; cases j <;> simp [ih]
            rw [this, List.map_map]
            rfl
          refine ⟨_, rfl, _, _, rfl, rfl, by show (tx t).length + 1 ≤ sizeLine; omega, u.erase c, t ++ [49], some (.str (one c)), some (.str (one e)), ?_, fun b o q => ?_, ?_, grow 49 hgo, by rw [List.length_append, ht]; rfl, ?_⟩
          · rw [← tx_app]
            rfl
          · rw [upd_ne (ne_of_none q hD)]
            exact sm3 b o q
          · rw [upd_same, ee]
          · have := List.length_erase_le (a := c) (l := u)
            omega
        · have hc : ¬ c ∈ u := fun q => hc ((in_ones c u).trans (decide_eq_true q))
          rw [if_neg hc] at hgo
          refine ⟨_, rfl, _, _, rfl, rfl, by show (tx t).length + 1 ≤ sizeLine; omega, u, t ++ [48], some (.str (one c)), some (.str (one e)), ?_, sm3, hD3, grow 48 hgo, by rw [List.length_append, ht]; rfl, hu⟩
          rw [← tx_app]
          rfl
    · rintro σ H2 ⟨u, t, v2, v3, rfl, sm2, hD2, hgo, ht, hu⟩
      rw [tx_size, List.drop_of_length_le (by rw [List.length_zip]; omega)] at hgo
      have e : t = mk g w' := by
        rw [go, List.append_nil] at hgo
        exact hgo
      rw [e]
      exact ⟨_, rfl, q H2 sm2⟩
end
end Gm

/-! enumerate of a tuple, of a text -/
namespace PySem
open Builtin
set_option maxHeartbeats 1000000 in
theorem enum1_new {v : Value} {o : Obj} {H : Heap → Prop} (B : Begins v o H) :
    Meets (Builtin.«enumerate.__new__» ⟨[.type "enumerate", v], []⟩) (fun _ R s => H s.heap ∧
      R (.ok (.ret (.ref (s.heap.push o).objs.size))) { s with heap := (s.heap.push o).push { cls := .type "enumerate", data := .fields #[.none, .bool false, .ref s.heap.objs.size, rawInt 0, .none, .none] } }) :=
  .of_wp fun prog w A R s h => by
    obtain ⟨hp, g, d, tk, os⟩ := s
    obtain ⟨h1, hR⟩ := h
    have isS := sub_enumerate
    have go : ∀ {A' : Around} {E : Value → Shared → Prop} {Q : Value → Shared → Prop}, Q (.ref hp.objs.size) ⟨hp.push o, g, d, tk, os⟩ → wpAny (model prog w) A' (pyIter v) Q E ⟨hp, g, d, tk, os⟩ := fun q => B.iter prog w _ _ ⟨hp, g, d, tk, os⟩ _ h1 q
    wp_walk using go
    refine wpAny_stack_any fun st => wpAny_pure ?_
    split
    · rename_i c _ _ _ _ _
      cases (c == Value.type "enumerate") <;> (wp_walk using go; exact ⟨_, rfl, hR⟩)
    · wp_walk using go; exact ⟨_, rfl, hR⟩
theorem enum1_begins {prog : Program} {w : World} {A : Around} {E : Value → Shared → Prop} {s : Shared} {v : Value} {o : Obj} {H : Heap → Prop} {Q : Value → Shared → Prop} (B : Begins v o H) (h1 : H s.heap)
    (h : ∀ h', IsEnum h' (s.heap.objs.size + 1) s.heap.objs.size 0 .none → h'.get? s.heap.objs.size = some o → (∀ b o, s.heap.get? b = some o → h'.get? b = some o) → Q (.ref (s.heap.objs.size + 1)) { s with heap := h' }) :
    wpAny (model prog w) A (call (.type "enumerate") [v]) Q E s := by
  refine callType_new F.called_enumerate (by decide) (F.typeCall_enumerate_1 _) (F.newCall_enumerate_1 _) (fun obj => F.args_object_init_2 obj _) F.entry_enumerate_new (enum1_new B) ⟨h1, ?_⟩
  have sz : (s.heap.push o).objs.size = s.heap.objs.size + 1 := Heap.size_push ..
  show _ ∧ _
  rw [sz]
  have e : IsEnum ((s.heap.push o).push { cls := .type "enumerate", data := .fields #[.none, .bool false, .ref s.heap.objs.size, rawInt 0, .none, .none] }) (s.heap.objs.size + 1) s.heap.objs.size 0 .none := by
    rw [← sz]
    exact Heap.get?_push_size _ rfl
  exact ⟨⟨_, e, rfl⟩, h _ e (Heap.get?_push_of_some _ (Heap.get?_push_size _ B.free)) fun b u x => Heap.get?_push_of_some _ (Heap.get?_push_of_some _ x)⟩
end PySem
namespace L2
open PySem PySem.Spec PyProof.Rows
/-- pairs of a number and what Y tells of it; G stands, n turns -/
def Iten (n : Nat) (G : Hp → Prop) (Y : Nat → V → Prop) : It :=
  ⟨fun i H => i < n ∧ G H, fun i H v H' => ∃ T x, v = .ref T ∧ H T = none ∧ H' = upd H T (.tup [.int (i : Nat), x]) ∧ Y i x, fun i H => i = n ∧ G H⟩
theorem turn_enumD {P : Program} {w : World} {K : PySem.W.Frag} {elts : List Expr} {kk : Nat} {tpos : Pos} {n : Nat} {G : Hp → Prop} {Y : Nat → V → Prop} {e it : Addr} (ne : e ≠ it) (S : Nat → Heap → Prop) (sat : ∀ i h, S i h → ∃ o, h.get? it = some o ∧ ∀ v, o.data ≠ .cell v)
    (sk : ∀ i h h', S i h → (∀ o, h.get? it = some o → h'.get? it = some o) → S i h')
    (draws : ∀ (X : Cx) (pins : List (Addr × Obj)) (σ : St) (H : Hp) (s : Shared), X.prog = P → X.w = w → X.K = K → X.A.handled = none → Inv X pins σ H s → G H →
      ∃ (fp : List Addr) (V : Nat → Value → Prop) (St : Nat → Heap → Prop), Draws X.prog X.w X.A.in1 it fp n V St ∧ e ∉ fp ∧ (∀ i, S i s.heap → St i s.heap) ∧ (∀ i h', St i h' → S i h') ∧ ∀ i u, V i u → ∃ x, RelV x u ∧ Y i x) :
    Turn P w K (.Tuple elts kk tpos) (Iten n G Y) [e, it] e (fun i h => (∃ old, IsEnum h e it ((i : Nat) : Int) old) ∧ S i h) where
  mem := by simp
  obj := fun i h st b hb => by
    obtain ⟨⟨old, he⟩, hs⟩ := st
    have q : b = e ∨ b = it := by simpa using hb
    rcases q with rfl | rfl
    · exact ⟨_, he, fun v q => nomatch q⟩
    · exact sat i h hs
  keep := fun i h h' st k => by
    obtain ⟨⟨old, he⟩, hs⟩ := st
    exact ⟨⟨old, k e (by simp) _ he⟩, sk i h h' hs fun o q => k it (by simp) o q⟩
  item := by
    intro X hP hw hK hc i pins s σ H E I hf st hg
    obtain ⟨⟨old, he⟩, hs⟩ := st
    obtain ⟨hi, gg⟩ := hg
    obtain ⟨fp, Vp, St, D, nf, to, back, rel⟩ := draws X pins σ H s hP hw hK (I.ok.hd hc) I gg
    subst hP hw hK
    have hel : e < s.heap.objs.size := Heap.lt_size he
    have hil : it < s.heap.objs.size := let ⟨_, q, _⟩ := sat i _ hs; Heap.lt_size q
    refine wpAny_pyNext_enum_itemD D he (to i hs) hi ne nf fun u h' tk pu ho hs' hT hsz hk => ?_
    obtain ⟨x, rx, yx⟩ := rel i u pu
    refine ⟨_, rfl, wpAny_letOwnedTupleGo_enum (s := { s with heap := h', toks := tk + 1 }) ho fun g he' sb => ?_⟩
    have hT2 := (sb.2 _ (Nat.ne_of_gt hel)).trans hT
    have fresh : ObjOk X.prog X.w (upd H s.heap.objs.size (.tup [.int (i : Nat), x])) g s.heap.objs.size (.tup [.int (i : Nat), x]) :=
      ⟨by show 2 ≤ sizeLine; decide, _, .cons ⟨tk, rfl⟩ (.cons rx .nil), ⟨_, hT2, rfl, _, rfl⟩⟩
    have J : Inv X pins σ (upd H s.heap.objs.size (.tup [.int (i : Nat), x])) { s with heap := g, toks := tk + 1 } := by
      refine I.turnedNew (ch := [e, it]) (fun b o hb q => ?_) hf (Nat.le_refl _) fresh
      have nb : b ≠ e ∧ b ≠ it := by simpa using hb
      exact (sb.2 b nb.1).trans (hk b o nb.1 nb.2 q)
    refine ⟨.ref s.heap.objs.size, _, J, rfl, ⟨_, x, rfl, I.hok.fresh (Nat.le_refl _), rfl, yx⟩, ⟨⟨u, ?_⟩, sk _ _ _ (back _ _ hs') fun o q => (sb.2 it ne.symm).trans q⟩, fun b hb => ?_⟩
    · have c : ((i + 1 : Nat) : Int) = (i : Int) + 1 := by omega
      rw [c]
      exact he'
    · have q : b = e ∨ b = it := by simpa using hb
      have hlt : b < s.heap.objs.size := by
        rcases q with rfl | rfl
        · exact hel
        · exact hil
      rw [upd_ne (Nat.ne_of_lt hlt)]
      exact (hf b hb).1
  done := by
    intro X hP hw hK hc i pins s σ H E I hf st hg
    obtain ⟨⟨old, he⟩, hs⟩ := st
    obtain ⟨rfl, gg⟩ := hg
    obtain ⟨fp, Vp, St, D, nf, to, back, rel⟩ := draws X pins σ H s hP hw hK (I.ok.hd hc) I gg
    subst hP hw hK
    obtain ⟨f0, f1, f2, f3, f4, f5⟩ := hf it (by simp)
    exact wpAny_pyNext_enum_endD D he (to _ hs) fun h' eb => ⟨rfl, I.turned (t' := s.toks) (fun b o hb q => eb b o hb q) f0 f1 f3 f4 f5⟩
  self := fun A i s Q E st h => let ⟨⟨_, he⟩, _⟩ := st; wpAny_pyIter_enum he h
/-- enumerate(t), t a tuple -/
def iEnumT (K : PySem.W.Frag) (ta : TA) : TI := fun σ H R => ta σ H fun vs H1 => ∃ a xs, vs = [.ref a] ∧ SqT K H1 a xs ∧ R (Iten xs.length (fun H => SqT K H a xs) fun i x => xs[i]? = some x) H1
/-- enumerate(z), z a text -/
def iEnumS (ta : TA) : TI := fun σ H R => ta σ H fun vs H1 => ∃ z : Str, vs = [.str z] ∧ R (Iten z.cps.size (fun _ => True) fun i x => ∃ c, z.cps[i]? = some c ∧ x = .str ⟨#[c]⟩) H1
section
variable {X : Cx} {e : Expr} {ta : TA} {p pos tpos : Pos} {elts : List Expr} {kk : Nat}
theorem pi_enumT (hg : Gl X "enumerate") (hm : X.mg "enumerate" = none) (ha : PA X [e] ta) (hs : starEach [e] X.env = [(false, eval e X.env)] := by rfl) : PI X (.Tuple elts kk tpos) (.Call (.Name "enumerate" p) [e] [] pos) (iEnumT X.K ta) := by
  refine ⟨fun pins s σ H R I h => ?_⟩
  refine Call_ (ld_blt I hg hm boot_enumerate (PyProof.Rows.callWith_type1 (thn (ha.run pos pins s σ H _ I h) fun us s1 hh => ?_) hs rfl))
  obtain ⟨vs, H1, I1, r1, a, xs, rfl, hq, q⟩ := hh
  cases r1 with
  | cons r rr =>
    cases rr
    cases r
    obtain ⟨its, rv, pt, _⟩ := I1.tuple hq
    refine enum1_begins (begins_tuple a its.toArray) pt fun h' he hit hk => wpAny_pyIter_enum he ?_
    have J : Inv X pins σ H1 { s1 with heap := h' } := I1.kept (t' := s1.toks) hk
    have la : a < s1.heap.objs.size := let ⟨o, ho, _⟩ := pt; Heap.lt_size ho
    have na : s1.heap.objs.size + 1 ≠ a := Nat.ne_of_gt (Nat.lt_succ_of_lt la)
    have ni : a ≠ s1.heap.objs.size := Nat.ne_of_lt la
    have lx : xs.length = its.toArray.size := by rw [rv.length]; simp
    refine ⟨s1.heap.objs.size + 1, [s1.heap.objs.size + 1, s1.heap.objs.size], _, _, H1, rfl, J, turn_enumD (Nat.succ_ne_self _) (fun i h => h.IsTupleIter s1.heap.objs.size a i) (fun i h ⟨o, ho, _, hd⟩ => ⟨o, ho, fun v z => by rw [hd] at z; cases z⟩) (fun i h h' st k => st.at k) ?_, ⟨⟨.none, he⟩, ⟨_, hit, rfl, rfl⟩⟩, fun b hb => ?_, q⟩
    · intro X' pins' σ' H' s' hP hw hK hh I' g
      rw [← hK] at g
      obtain ⟨its', rv', pt', _⟩ := I'.tuple g
      have D := Draws.tuple (prog := X'.prog) (w := X'.w) (A := X'.A.in1) (show X'.A.in1.handled = none from hh) s1.heap.objs.size a ni its'.toArray
      have e' : its'.toArray.size = xs.length := by rw [rv'.length]; simp
      refine ⟨[s1.heap.objs.size, a], _, _, e' ▸ D, by simp [na], fun i st => ⟨st, pt'⟩, fun i h' st => st.1, fun i u hu => ?_⟩
      have hu' : its'[i]? = some u := by simpa using hu
      have hi : i < xs.length := by
        rw [rv'.length]
        exact (List.getElem?_eq_some_iff.mp hu').1
      obtain ⟨u2, h2, r2⟩ := rv'.get (List.getElem?_eq_getElem hi)
      rw [hu'] at h2
      cases h2
      exact ⟨_, r2, List.getElem?_eq_getElem hi⟩
    · have e' : b = s1.heap.objs.size + 1 ∨ b = s1.heap.objs.size := by simpa using hb
      have hle : s1.heap.objs.size ≤ b := e'.elim (fun z => z ▸ Nat.le_succ _) fun z => z ▸ Nat.le_refl _
      exact I1.fpOk hle (I1.hok.fresh hle)
theorem pi_enumS (hg : Gl X "enumerate") (hm : X.mg "enumerate" = none) (ha : PA X [e] ta) (hs : starEach [e] X.env = [(false, eval e X.env)] := by rfl) : PI X (.Tuple elts kk tpos) (.Call (.Name "enumerate" p) [e] [] pos) (iEnumS ta) := by
  refine ⟨fun pins s σ H R I h => ?_⟩
  refine Call_ (ld_blt I hg hm boot_enumerate (PyProof.Rows.callWith_type1 (thn (ha.run pos pins s σ H _ I h) fun us s1 hh => ?_) hs rfl))
  obtain ⟨vs, H1, I1, r1, z, rfl, q⟩ := hh
  cases r1 with
  | cons r rr =>
    cases rr
    obtain ⟨t, rfl⟩ := r
    refine enum1_begins (begins_text z t) trivial fun h' he hit hk => wpAny_pyIter_enum he ?_
    have J : Inv X pins σ H1 { s1 with heap := h' } := I1.kept (t' := s1.toks) hk
    refine ⟨s1.heap.objs.size + 1, [s1.heap.objs.size + 1, s1.heap.objs.size], _, _, H1, rfl, J, turn_enumD (Nat.succ_ne_self _) (fun i h => h.IsStrIter s1.heap.objs.size (strIterType z) z t i) (fun i h ⟨o, ho, _, hd⟩ => ⟨o, ho, fun v z => by rw [hd] at z; cases z⟩) (fun i h h' ⟨o, ho, st⟩ k => ⟨o, k o ho, st⟩) ?_, ⟨⟨.none, he⟩, ⟨_, hit, rfl, rfl⟩⟩, fun b hb => ?_, q⟩
    · intro X' pins' σ' H' s' hP hw hK hh I' g
      refine ⟨[s1.heap.objs.size], _, _, Draws.text (show X'.A.in1.handled = none from hh) s1.heap.objs.size z t, by simp, fun i st => st, fun i h' st => st, fun i u hu => ?_⟩
      obtain ⟨c, k, hc, rfl⟩ := hu
      exact ⟨.str ⟨#[c]⟩, ⟨k, rfl⟩, c, hc, rfl⟩
    · have e' : b = s1.heap.objs.size + 1 ∨ b = s1.heap.objs.size := by simpa using hb
      have hle : s1.heap.objs.size ≤ b := e'.elim (fun z => z ▸ Nat.le_succ _) fun z => z ▸ Nat.le_refl _
      exact I1.fpOk hle (I1.hok.fresh hle)
theorem walk_iten {n : Nat} {G : Hp → Prop} {Y : Nat → V → Prop} : Walk (Iten n G Y) n G (fun i H v H' => ∃ T x, v = .ref T ∧ H T = none ∧ H' = upd H T (.tup [.int (i : Nat), x]) ∧ Y i x) :=
  ⟨fun i _ hi g => ⟨hi, g⟩, fun _ g => ⟨rfl, g⟩, fun _ _ _ _ _ _ y => y⟩
end
end L2

/-! o.m(k = v, ..); C(e, .., *y) -/
namespace L2
open PySem PySem.Spec PyProof.Rows
section
variable {X : Cx} {CX : CXT} {k : Nat} {f C : Addr} {fd : FuncData} {ps ks : List Str} {sp : Sp} {E : XK} {x m : Str} {o e : Expr} {es : List Expr} {kws : List Keyword} {ta : TE} {t tk : TA} {p pos apos : Pos} {g : List Value → List Value → List Value} {gV : List V → List V → List V}
def tMethK (C : Addr) (m : Str) (n : Nat) (sp : Sp) (gV : List V → List V → List V) (E : XK) (ta : TE) (tk : TA) : TE := fun σ H Q => ta σ H fun x H1 => ∃ a dx fs, x = .ref a ∧ H1 a = some (.ins C dx fs) ∧ fs.lookup m = none ∧
  tk σ H1 fun zs H2 => zs.length = n ∧ sp (gV [x] zs) H2 Q E
/-- o.m(k = v, ..), keywords alone -/
theorem pe_methK0 {pl : Sem Bool} (he : PE X o ta) (c : Cls X.K C) (hm : Meth X.K C m f) (F : FnOk X.prog X.w X.K X.mg X.base CX k f fd ps sp) (hr : Room k X.A) (hb : KBn X.K fd ps 1 ks g gV) (hx : Passes CX X E) (hkw : PK X kws tk)
    (hall : (backToKw pos (keywordEach kws X.env)).all (·.1.isSome) = true := by rfl) (hks : (backToKw pos (keywordEach kws X.env)).filterMap (·.1) = ks := by rfl)
    (hpl : ((backTo pos (starEach [] X.env)).any (·.1) || (backToKw pos (keywordEach kws X.env)).any (·.1.isNone)) = false := by rfl)
    (ht : eval (.Call (.Attribute o m apos) [] kws pos) X.env = (do
      let ov ← eval o X.env
      standAt apos.atName
      let (f, first) ← holding [ov] (getMethod ov m pl)
      callWith pos f first (backTo pos (starEach [] X.env)) (backToKw pos (keywordEach kws X.env))) := by rfl) :
    PE X (.Call (.Attribute o m apos) [] kws pos) (tMethK C m ks.length sp gV E ta tk) := by
  constructor
  intro pins s σ H Q I h
  refine PySem.W.methodCall_KW (pl := pl) (thn (he.run pins s σ H _ I h) fun u s1 hh => ?_) ht
  obtain ⟨y, H1, I1, ry, a, dx, fs, rfl, ea, l, q⟩ := hh
  obtain rfl : u = Value.ref a := ry
  refine getmeth_ok I1 ea c hm l ?_
  refine PySem.W.callWith_KW0 (first := [.ref a]) (h₀ := X.base) I.ok.mod.kin hm.kp hall (thn (hkw.run pos pins s1 σ H1 _ I1 q) fun ws s2 h2 => ?_) hpl
  obtain ⟨zs, H2, I2, rz, lz, q2⟩ := h2
  refine ⟨I2.kIn, ?_⟩
  rw [hks]
  exact run_fnN (us := [.ref a]) (vs := [.ref a]) F hr hb hx I2 (.cons rfl .nil) rz rfl lz q2
/-- C(e, .., *y, ..) -/
theorem pe_makeS2 (M : Mk X.K C f) (F : FnR X.prog X.w X.K X.mg X.base CX k f sp) (hr : Room (k + 1) X.A) (hg : Gl X x) (hm : X.mg x = some (.ref C)) (hx : Passes CX X E) (ha : PA X (e :: es) t) (hdb : (x == ("__debug__" : Str)) = false := by decide)
    (he : starEach (e :: es) X.env = (false, eval e X.env) :: starEach es X.env := by rfl) (hst : (backTo pos (starEach es X.env)).any (·.1) = true := by rfl) : PE X (.Call (.Name x p) (e :: es) [] pos) (StX.tMakeR C sp E t) := by
  constructor
  intro pins s σ H Q I h
  refine wpAny_Call_Name_kw (ld_glob I hg hm ?_ hdb)
  refine PySem.W.callWith_S2 (h₀ := X.base) I.ok.mod.kin M.kp (thn (ha.run pos pins s σ H _ I h) fun us s1 hh => ?_) he hst
  obtain ⟨vs, H1, I1, r, q⟩ := hh
  exact ⟨I1.kIn, StX.run_makeR M F hr hx I1 r q⟩
end
end L2

namespace Gm
open PySem L2
abbrev sOver : Stmt := top 15
abbrev sIsW : Stmt := top 16
abbrev sAreM : Stmt := top 17
abbrev sChkW : Stmt := top 19
def spOver (K : PySem.W.Frag) : Sp := fun vs H Q _ => ∃ (v : V) (ch : List Nat) (n : Int), vs = [v, .str (tx ch), .int n] ∧
  ((∃ s : List Nat, v = .str (tx s) ∧ s.length ≤ 1000 ∧ ∀ H', Same H H' → Q (.bl (decide ((s.length : Int) = n ∧ ∀ c ∈ s, c ∈ ch))) H') ∨ (∃ t, TyX K H v t ∧ PySem.W.kitOne K t (.type "str") = some false ∧ Q (.bl false) H))
/-- words of the board of l and n -/
def Wd (l : List Nat) (n : Int) (s : List Nat) : Prop := (s.length : Int) = n ∧ ∀ c ∈ s, c ∈ l
def Bd (C : Addr) (H : Hp) (p : Addr) (l : List Nat) (n : Int) : Prop := BoardAt C H p (tx l) n ∧ l.length ≤ 26 ∧ 1 ≤ n ∧ n ≤ 6
theorem Bd.same {C p : Addr} {H H' : Hp} {l : List Nat} {n : Int} (h : Bd C H p l n) (e : Same H H') : Bd C H' p l n := ⟨let ⟨dx, h⟩ := h.1; ⟨dx, e _ _ h⟩, h.2⟩
def spChkW (C : Addr) : Sp := fun vs H Q _ => ∃ (p : Addr) (l s : List Nat) (n : Int), vs = [.ref p, .str (tx s)] ∧ Bd C H p l n ∧ Wd l n s ∧ ∀ H', Same H H' → Q .non H'
def spChkM (C : Addr) : Sp := fun vs H Q _ => ∃ (p : Addr) (l s : List Nat) (n : Int), vs = [.ref p, .str (tx s)] ∧ Bd C H p l n ∧ Wd [48, 49, 50] n s ∧ ∀ H', Same H H' → Q .non H'
def spChkB (C : Addr) : Sp := fun vs H Q _ => ∃ (p : Addr) (l : List Nat) (n : Int), vs = [.ref p] ∧ Bd C H p l n ∧ Q .non H
instance {l : List Nat} {n : Int} {s : List Nat} : Decidable (Wd l n s) := by unfold Wd; infer_instance
/-- is_word, are_marks: ch = none: the board's letters -/
def spIsW (K : PySem.W.Frag) (C : Addr) (ch : Option (List Nat)) : Sp := fun vs H Q _ => ∃ (p : Addr) (l : List Nat) (n : Int) (v : V), vs = [.ref p, v] ∧ Bd C H p l n ∧
  ((∃ s : List Nat, v = .str (tx s) ∧ s.length ≤ 1000 ∧ ∀ H', Same H H' → Q (.bl (decide (Wd (ch.getD l) n s))) H') ∨ (∃ t, TyX K H v t ∧ PySem.W.kitOne K t (.type "str") = some false ∧ Q (.bl false) H))
/-- a row stands at a -/
theorem in_tx {c : Nat} {l : List Nat} : decide (c ∈ (tx l).cps.toList) = decide (c ∈ l) := by simp
section
variable {P : Program} {w : World} {K : PySem.W.Frag} {mg : Str → Option Value} {base : Heap}
abbrev nO : List Str := ["value", "characters", "length", "character"]
theorem scOv : FnScope nO ["value", "characters", "length"] (defScope sOver) := ⟨rfl, rfl, rfl, by decide +kernel, rfl, by decide +kernel, by decide +kernel⟩
theorem ok_over {f : Addr} {fd : FuncData} (F : Fun K "is_text_over" "is_text_over" sOver f fd) (T : TxW mg) (mall : mg "all" = none) : FnOk P w K mg base CX0 1 f fd ["value", "characters", "length"] (spOver K) := by
  refine F.ok scOv (fun vs H Q E h => ?_) (fun cdv A outer s H vs Q E hr h => ?_)
  · obtain ⟨v, ch, n, rfl, _⟩ := h
    rfl
  · obtain ⟨v, ch, n, rfl, h⟩ := h
    have nd := scOv.nd
    have hline : sizeLine = 16777216 := sizeLine_eq
    refine ⟨_, pss_cons (ps_if (PW.pt (pw_or (pt_not (pt_val (pe_callB call_isi (by rfl) T.isi (by decide +kernel) (pa_cons (pv 0) (pa_cons (pe_bltn (v := .ty "str") (by rfl) T.str (by decide +kernel) rfl) pa_nil)))))
        (pw_or1 (pt_cmpR op_ne (pe_callB call_len_str (by rfl) T.len PySem.boot_len (pa_cons (pv 0) pa_nil)) (pv 2) (nomark _)))))
        (pss_one (ps_ret pe_bl)) pss_nil)
      (pss_one (ps_ret (pe_callB (cr_all rfl) (by rfl) mall (by decide +kernel) (pa_cons
        (pe_lc (own := [("character", 3)]) (g := gName 3) (by rfl) nd (pi_str (pv 0)) (blkOk_by (own := [("character", 3)]) (N := nO) (sc := defScope sOver) (by decide +kernel))
          (fun _ _ _ _ _ => pg_name (i := 3) nd rfl (Or.inl rfl)) (fun _ _ _ _ _ => pts_nil) (fun _ _ _ _ _ => pe_cmpR op_in_sign (pv 3) (pv 1) rfl)) pa_nil)))), ?_⟩
    rcases h with ⟨z, rfl, hz, q⟩ | ⟨t, ty, no, q⟩
    · have zl : (tx z).length = z.length := tx_len z
      refine ⟨_, rfl, _, _, _, _, _, rfl, .ty "str", .base (.str _), kit_ty (r := true) (by decide +kernel), _, rfl, iteF ?_⟩
      refine ⟨_, rfl, _, rfl, by omega, _, rfl, rfl, _, rfl, ?_⟩
      have ei : decide (V.int ((tx z).length : Nat) = V.int n) = decide ((z.length : Int) = n) := decide_eq_decide.mpr ⟨fun e => by rw [← zl]; exact V.int.inj e, fun e => by rw [zl, e]⟩
      rw [ei]
      refine ite2 (fun h => ?_) (fun h => ?_)
      · have e : decide ((z.length : Int) = n ∧ ∀ c ∈ z, c ∈ ch) = false := decide_eq_false fun a => by rw [decide_eq_true a.1] at h; cases h
        rw [e] at q
        exact q _ (Same.refl H)
      · have hn : (z.length : Int) = n := by
          refine Decidable.byContradiction fun c => h ?_
          rw [decide_eq_false c]
          rfl
        refine ⟨_, rfl, tx z, rfl, fun D hD => ?_⟩
        refine lc_it (walk_str (z := tx z)) (fun i H' => Same H H' ∧ H' D = some (.lst (((z.take i).map fun c => decide (c ∈ ch)).map V.bl))) ⟨same_upd hD, upd_same⟩ (fun _ _ _ _ => trivial) ?_ ?_
        · rintro i x H1 H2 hi ⟨sm, hDi⟩ ⟨rfl, c, hc, rfl⟩
          have hc' := tx_at hc
          have hi' : i < z.length := (List.getElem?_eq_some_iff.mp hc').1
          refine ⟨rfl, ⟨_, rfl, _, rfl, c, tx ch, rfl, rfl, _, hDi, ?_, fun b o q => ?_, ?_⟩⟩
          · rw [List.length_map, List.length_map, List.length_take]
            omega
          · rw [upd_ne (ne_of_none q hD)]
            exact sm b o q
          · have e2 : z.take (i + 1) = z.take i ++ [c] := by rw [List.take_succ_eq_append_getElem hi', (List.getElem?_eq_some_iff.mp hc').2]
            rw [upd_same, e2, List.map_append, List.map_append, in_tx]
            rfl
        · rintro H1 ⟨sm, hD1⟩
          refine ⟨D, _, rfl, SqL.of hD1, ?_⟩
          have e : decide ((z.length : Int) = n ∧ ∀ c ∈ z, c ∈ ch) = ((z.take (tx z).cps.size).map fun c => decide (c ∈ ch)).all id := by
            rw [tx_size, List.take_length, List.all_map]
            have : (List.all z (id ∘ fun c => decide (c ∈ ch))) = decide (∀ c ∈ z, c ∈ ch) := by
              rw [Bool.eq_iff_iff, List.all_eq_true, decide_eq_true_iff]
              exact ⟨fun h c hc => of_decide_eq_true (h c hc), fun h c hc => decide_eq_true (h c hc)⟩
            rw [this]
            exact decide_eq_decide.mpr ⟨fun a => a.2, fun a => ⟨hn, a⟩⟩
          rw [e] at q
          exact q _ sm
    · exact ⟨_, rfl, _, _, _, _, _, rfl, .ty "str", ty, no, _, rfl, iteT q⟩
theorem scIW : FnScope ["board", "value"] ["board", "value"] (defScope sIsW) := ⟨rfl, rfl, rfl, by decide +kernel, rfl, by decide +kernel, by decide +kernel⟩
theorem ok_isW {f C fO : Addr} {fd fdO : FuncData} (F : Fun K "is_word" "is_word" sIsW f fd) (TC : TxC K mg C) (GO : FnOk P w K mg base CX0 1 fO fdO ["value", "characters", "length"] (spOver K)) (DO : Df K mg "is_text_over" fO fdO ["value", "characters", "length"]) :
    FnOk P w K mg base CX0 2 f fd ["board", "value"] (spIsW K C none) := by
  refine F.ok scIW (fun vs H Q E h => ?_) (fun cdv A outer s H vs Q E hr h => ?_)
  · obtain ⟨p, l, n, v, rfl, _⟩ := h
    rfl
  · obtain ⟨p, l, n, v, rfl, ⟨⟨dx, hp⟩, l26, n1, n6⟩, h⟩ := h
    refine ⟨_, pss_one (ps_ret (pe_call GO hr (by rfl) DO.mg DO.kp DO.b .nil pass0 (pa_cons (pv 1) (pa_cons (pe_fld (pv 0) rfl) (pa_cons (pe_fld (pv 0) rfl) pa_nil))))), ?_⟩
    refine ⟨_, rfl, _, rfl, p, C, dx, _, _, rfl, hp, TC.cl, TC.nL, bf_letters _ _, _, rfl, p, C, dx, _, _, rfl, hp, TC.cl, TC.nN, bf_length _ _, _, _, _, rfl, ?_⟩
    exact h
theorem scAM : FnScope ["board", "value"] ["board", "value"] (defScope sAreM) := ⟨rfl, rfl, rfl, by decide +kernel, rfl, by decide +kernel, by decide +kernel⟩
theorem ok_areM {f C fO : Addr} {fd fdO : FuncData} (F : Fun K "are_marks" "are_marks" sAreM f fd) (TC : TxC K mg C) (tM : ∃ t, mg "MARKS" = some (.str (tx [48, 49, 50]) t)) (GO : FnOk P w K mg base CX0 1 fO fdO ["value", "characters", "length"] (spOver K)) (DO : Df K mg "is_text_over" fO fdO ["value", "characters", "length"]) :
    FnOk P w K mg base CX0 2 f fd ["board", "value"] (spIsW K C (some [48, 49, 50])) := by
  refine F.ok scAM (fun vs H Q E h => ?_) (fun cdv A outer s H vs Q E hr h => ?_)
  · obtain ⟨p, l, n, v, rfl, _⟩ := h
    rfl
  · obtain ⟨p, l, n, v, rfl, ⟨⟨dx, hp⟩, l26, n1, n6⟩, h⟩ := h
    obtain ⟨tm, mgM⟩ := tM
    refine ⟨_, pss_one (ps_ret (pe_call GO hr (by rfl) DO.mg DO.kp DO.b .nil pass0 (pa_cons (pv 1) (pa_cons (pe_glob (v := .str (tx [48, 49, 50])) (by rfl) mgM ⟨_, rfl⟩) (pa_cons (pe_fld (pv 0) rfl) pa_nil))))), ?_⟩
    refine ⟨_, rfl, _, rfl, p, C, dx, _, _, rfl, hp, TC.cl, TC.nN, bf_length _ _, _, _, _, rfl, ?_⟩
    exact h
theorem scCW : FnScope ["board", "word"] ["board", "word"] (defScope sChkW) := ⟨rfl, rfl, rfl, by decide +kernel, rfl, by decide +kernel, by decide +kernel⟩
theorem ok_chkW {f C fO : Addr} {fd fdO : FuncData} (F : Fun K "check_word" "check_word" sChkW f fd) (GO : FnOk P w K mg base CX0 2 fO fdO ["board", "value"] (spIsW K C none)) (DO : Df K mg "is_word" fO fdO ["board", "value"]) :
    FnOk P w K mg base CX0 3 f fd ["board", "word"] (spChkW C) := by
  refine F.ok scCW (fun vs H Q E h => ?_) (fun cdv A outer s H vs Q E hr h => ?_)
  · obtain ⟨p, l, s, n, rfl, _⟩ := h
    rfl
  · obtain ⟨p, l, z, n, rfl, hb, hw, q⟩ := h
    have n6 := hb.2.2.2
    refine ⟨_, pss_one (ps_if (pt_not (pt_val (pe_call GO hr (by rfl) DO.mg DO.kp DO.b .nil pass0 (pa_cons (pv 0) (pa_cons (pv 1) pa_nil))))) (pss_one ps_never) pss_nil), ?_⟩
    refine ⟨_, rfl, _, rfl, p, l, n, _, rfl, hb, .inl ⟨z, rfl, by have := hw.1; omega, fun H1 s1 => ⟨_, rfl, ?_⟩⟩⟩
    rw [decide_eq_true (show Wd ((none : Option (List Nat)).getD l) n z from hw)]
    exact iteF (q H1 s1)
end
end Gm

/-! can_come as lists of codes -/
namespace Gm
def lm (g t wd : List Nat) : List Nat := ((g.zip t).filter fun p => decide (p.2 ∈ wd)).map (·.1)
def ordB : List (Nat × Nat) → List Nat → Bool
  | [], _ => true
  | (a, m) :: r, u => if m = 49 ∧ a ∈ u then false else ordB r (if m = 48 then u ++ [a] else u)
def fillB : List Nat → List Nat → List Nat → Bool
  | [], o, _ => o.isEmpty
  | g :: gs, o, s => if gs.length + 1 < o.length then false else (o.any fun c => !decide (c = g) && fillB gs (o.erase c) s) || (s.any (fun c => !decide (c = g)) && fillB gs o s)
def spare (l used : List Nat) : List Nat := l.filter fun c => !decide (c ∈ used)
def comeB (l g t : List Nat) : Bool := ordB (g.zip t) [] && fillB (lm g t [48, 49]) (lm g t [49]) (spare l (lm g t [48]))
end Gm

/-! which marks can come: comeB tells whether a word gives them -/
namespace Gm
theorem lm_cons (a m : Nat) (g t wd : List Nat) : lm (a :: g) (m :: t) wd = if m ∈ wd then a :: lm g t wd else lm g t wd := by
  unfold lm
  rw [List.zip_cons_cons, List.filter_cons]
  by_cases h : m ∈ wd <;> simp [h]
theorem un_cons (a b : Nat) (g w : List Nat) : un (a :: g) (b :: w) = if a = b then un g w else b :: un g w := by
  unfold un
  rw [List.zip_cons_cons, List.filter_cons]
  by_cases h : a = b <;> simp [h]
theorem cnt_cons (a b : Nat) (l : List Nat) : (b :: l).count a = l.count a + if b = a then 1 else 0 := by
  rw [List.count_cons]
  by_cases h : b = a <;> simp [h]
theorem cnt_erase (a b : Nat) (l : List Nat) : (l.erase b).count a = l.count a - if b = a then 1 else 0 := by
  rw [List.count_erase]
  by_cases h : b = a <;> simp [h]
theorem mem_cnt {a : Nat} {l : List Nat} : a ∈ l ↔ 0 < l.count a := List.count_pos_iff.symm
def Hits : List Nat → List Nat → List Nat → Prop
  | [], [], [] => True
  | a :: g, b :: w, m :: t => (m = 50 ↔ a = b) ∧ (m = 48 ∨ m = 49 ∨ m = 50) ∧ Hits g w t
  | _, _, _ => False
theorem ord_zero : ∀ (g t : List Nat) (U : List Nat) (a : Nat), ordB (g.zip t) U = true → a ∈ U → (lm g t [49]).count a = 0
  | [], t, U, a, _, _ => by simp [lm]
  | b :: g, [], U, a, _, _ => by simp [lm]
  | b :: g, m :: t, U, a, h, ha => by
    rw [List.zip_cons_cons, ordB] at h
    by_cases c : m = 49 ∧ b ∈ U
    · rw [if_pos c] at h; cases h
    · rw [if_neg c] at h
      have ih := ord_zero g t _ a h (by split <;> simp [ha])
      rw [lm_cons]
      by_cases c2 : m ∈ [49]
      · rw [if_pos c2, cnt_cons, ih]
        have : m = 49 := by simpa using c2
        have : ¬ b = a := fun e => c ⟨this, e ▸ ha⟩
        simp [this]
      · rw [if_neg c2]; exact ih
theorem go_of : ∀ (g w t u U : List Nat), Hits g w t → ordB (g.zip t) U = true → (∀ a, (lm g t [49]).count a ≤ u.count a) → (∀ a, a ∈ lm g t [48] → u.count a = (lm g t [49]).count a) → go (g.zip w) u = t
  | [], [], [], _, _, _, _, _, _ => rfl
  | a :: g, b :: w, m :: t, u, U, hh, ho, h1, h2 => by
    obtain ⟨hm, hd, hh⟩ := hh
    rw [List.zip_cons_cons, ordB] at ho
    by_cases c : m = 49 ∧ a ∈ U
    · rw [if_pos c] at ho; cases ho
    rw [if_neg c] at ho
    rw [List.zip_cons_cons, go]
    by_cases e : a = b
    · have m50 := hm.mpr e
      subst m50
      rw [if_pos e]
      refine congrArg _ (go_of g w t u _ hh ho (fun x => ?_) fun x hx => ?_)
      · have := h1 x
        rw [lm_cons, if_neg (by decide)] at this
        exact this
      · have := h2 x (by rw [lm_cons, if_neg (by decide)]; exact hx)
        rw [lm_cons, if_neg (by decide)] at this
        exact this
    · rw [if_neg e]
      have n50 : ¬ m = 50 := fun z => e (hm.mp z)
      by_cases m49 : m = 49
      · subst m49
        have ha := h1 a
        rw [lm_cons, if_pos (by decide), cnt_cons, if_pos rfl] at ha
        have hu : a ∈ u := mem_cnt.mpr (by omega)
        rw [if_pos hu]
        refine congrArg _ (go_of g w t (u.erase a) _ hh ho (fun x => ?_) fun x hx => ?_)
        · have := h1 x
          rw [lm_cons, if_pos (by decide), cnt_cons] at this
          rw [cnt_erase]
          omega
        · have := h2 x (by rw [lm_cons, if_neg (by decide)]; exact hx)
          rw [lm_cons, if_pos (by decide), cnt_cons] at this
          rw [cnt_erase]
          omega
      · have m48 : m = 48 := by omega
        subst m48
        rw [if_pos rfl] at ho
        have z := ord_zero g t _ a ho (by simp)
        have h2a := h2 a (by rw [lm_cons, if_pos (by decide)]; exact List.mem_cons_self)
        rw [lm_cons, if_neg (by decide), z] at h2a
        have hu : ¬ a ∈ u := fun q => by have := mem_cnt.mp q; omega
        rw [if_neg hu]
        refine congrArg _ (go_of g w t u _ hh ho (fun x => ?_) fun x hx => ?_)
        · have := h1 x
          rw [lm_cons, if_neg (by decide)] at this
          exact this
        · have := h2 x (by rw [lm_cons, if_pos (by decide)]; exact List.mem_cons_of_mem _ hx)
          rw [lm_cons, if_neg (by decide)] at this
          exact this
theorem of_go : ∀ (g w u U : List Nat), g.length = w.length → (∀ a, a ∈ U → ¬ a ∈ u) → Hits g w (go (g.zip w) u) ∧ ordB (g.zip (go (g.zip w) u)) U = true ∧ (∀ a, (lm g (go (g.zip w) u) [49]).count a ≤ u.count a) ∧
    (∀ a, a ∈ lm g (go (g.zip w) u) [48] → u.count a = (lm g (go (g.zip w) u) [49]).count a)
  | [], [], u, U, _, _ => ⟨trivial, rfl, fun a => by simp [lm], fun a h => by simp [lm] at h⟩
  | a :: g, b :: w, u, U, hl, hU => by
    have hl' : g.length = w.length := by simpa using hl
    rw [List.zip_cons_cons, go]
    by_cases e : a = b
    · rw [if_pos e]
      obtain ⟨i1, i2, i3, i4⟩ := of_go g w u U hl' hU
      refine ⟨⟨by simp [e], by simp, i1⟩, ?_, ?_, ?_⟩
      · rw [List.zip_cons_cons, ordB, if_neg (fun q => absurd q.1 (by decide)), if_neg (by decide)]
        exact i2
      · intro x; rw [lm_cons, if_neg (by decide)]; exact i3 x
      · intro x hx; rw [lm_cons, if_neg (by decide)] at hx ⊢; exact i4 x hx
    · rw [if_neg e]
      by_cases hu : a ∈ u
      · rw [if_pos hu]
        have hU2 : ∀ x, x ∈ U → ¬ x ∈ u.erase a := fun x hx q => hU x hx (List.mem_of_mem_erase q)
        obtain ⟨i1, i2, i3, i4⟩ := of_go g w (u.erase a) U hl' hU2
        have ca := mem_cnt.mp hu
        refine ⟨⟨by simp [e], by simp, i1⟩, ?_, ?_, ?_⟩
        · rw [List.zip_cons_cons, ordB, if_neg (fun q => hU a q.2 hu), if_neg (by decide)]
          exact i2
        · intro x
          have := i3 x
          rw [cnt_erase] at this
          rw [lm_cons, if_pos (by decide), cnt_cons]
          by_cases q : a = x
          · subst q; simp only [if_true] at this ⊢; omega
          · simp only [q, if_false] at this ⊢; omega
        · intro x hx
          rw [lm_cons, if_neg (by decide)] at hx
          have := i4 x hx
          rw [cnt_erase] at this
          rw [lm_cons, if_pos (by decide), cnt_cons]
          by_cases q : a = x
          · subst q; simp only [if_true] at this ⊢; omega
          · simp only [q, if_false] at this ⊢; omega
      · rw [if_neg hu]
        have hU2 : ∀ x, x ∈ U ++ [a] → ¬ x ∈ u := fun x hx => by
          rcases List.mem_append.mp hx with q | q
          · exact hU x q
          · rw [List.mem_singleton.mp q]; exact hu
        obtain ⟨i1, i2, i3, i4⟩ := of_go g w u (U ++ [a]) hl' hU2
        refine ⟨⟨by simp [e], by simp, i1⟩, ?_, ?_, ?_⟩
        · rw [List.zip_cons_cons, ordB, if_neg (by simp), if_pos rfl]
          exact i2
        · intro x; rw [lm_cons, if_neg (by decide)]; exact i3 x
        · intro x hx
          rw [lm_cons, if_pos (by decide)] at hx
          rw [lm_cons, if_neg (by decide)]
          rcases List.mem_cons.mp hx with q | q
          · subst q
            have z := ord_zero g _ _ x i2 (by simp)
            have : u.count x = 0 := by
              have : ¬ 0 < u.count x := fun z => hu (mem_cnt.mpr z)
              omega
            omega
          · exact i4 x q
/-! ### the gaps are filled -/
def Ne2 : List Nat → List Nat → Prop
  | [], [] => True
  | y :: ys, g :: gs => y ≠ g ∧ Ne2 ys gs
  | _, _ => False
theorem ne2_len : ∀ (ys gs : List Nat), Ne2 ys gs → ys.length = gs.length
  | [], [], _ => rfl
  | y :: ys, g :: gs, h => by rw [List.length_cons, List.length_cons, ne2_len ys gs h.2]
theorem len_of_cnt : ∀ (o ys : List Nat), (∀ a, o.count a ≤ ys.count a) → o.length ≤ ys.length
  | [], ys, _ => Nat.zero_le _
  | a :: o, ys, h => by
    have ha := h a
    rw [cnt_cons, if_pos rfl] at ha
    have hm : a ∈ ys := mem_cnt.mpr (by omega)
    have ih := len_of_cnt o (ys.erase a) fun x => by
      have := h x
      rw [cnt_cons] at this
      rw [cnt_erase]
      omega
    rw [List.length_erase_of_mem hm] at ih
    have := List.length_pos_of_mem hm
    rw [List.length_cons]
    omega
theorem fill_of : ∀ (gs o s ys : List Nat), Ne2 ys gs → (∀ a, o.count a ≤ ys.count a) → (∀ a, ¬ a ∈ s → ys.count a = o.count a) → fillB gs o s = true
  | [], o, s, [], _, h1, _ => by
    have : o.length ≤ 0 := len_of_cnt o [] h1
    rw [fillB, List.length_eq_zero_iff.mp (Nat.le_zero.mp this)]
    rfl
  | g :: gs, o, s, y :: ys, hn, h1, h2 => by
    have hl := len_of_cnt o _ h1
    have hy := ne2_len _ _ hn.2
    rw [List.length_cons] at hl
    rw [fillB, if_neg (by omega), Bool.or_eq_true]
    by_cases ho : y ∈ o
    · refine .inl (List.any_eq_true.mpr ⟨y, ho, ?_⟩)
      have co := mem_cnt.mp ho
      rw [fill_of gs (o.erase y) s ys hn.2 (fun a => ?_) fun a ha => ?_]
      · simp [hn.1]
      · have := h1 a
        rw [cnt_cons] at this
        rw [cnt_erase]
        omega
      · have := h2 a ha
        rw [cnt_cons] at this
        rw [cnt_erase]
        omega
    · have co : o.count y = 0 := by
        have : ¬ 0 < o.count y := fun z => ho (mem_cnt.mpr z)
        omega
      have hs : y ∈ s := by
        refine Decidable.byContradiction fun q => ?_
        have := h2 y q
        rw [cnt_cons, if_pos rfl] at this
        omega
      refine .inr ?_
      rw [Bool.and_eq_true]
      refine ⟨List.any_eq_true.mpr ⟨y, hs, by simp [hn.1]⟩, fill_of gs o s ys hn.2 (fun a => ?_) fun a ha => ?_⟩
      · have := h1 a
        rw [cnt_cons] at this
        by_cases q : y = a
        · subst q; omega
        · simp only [q, if_false] at this; omega
      · have := h2 a ha
        rw [cnt_cons] at this
        have q : ¬ y = a := fun e => ha (e ▸ hs)
        simp only [q, if_false] at this
        omega
theorem of_fill : ∀ (gs o s : List Nat), fillB gs o s = true → ∃ ys, Ne2 ys gs ∧ (∀ a, o.count a ≤ ys.count a) ∧ (∀ a, ¬ a ∈ s → ys.count a = o.count a)
  | [], o, s, h => by
    have : o = [] := by simpa [fillB] using h
    subst this
    exact ⟨[], trivial, fun a => Nat.le_refl _, fun a _ => rfl⟩
  | g :: gs, o, s, h => by
    rw [fillB] at h
    by_cases hl : gs.length + 1 < o.length
    · rw [if_pos hl] at h; cases h
    rw [if_neg hl, Bool.or_eq_true] at h
    rcases h with h | h
    · obtain ⟨c, hc, h⟩ := List.any_eq_true.mp h
      rw [Bool.and_eq_true] at h
      have hcg : c ≠ g := by simpa using h.1
      obtain ⟨ys, y1, y2, y3⟩ := of_fill gs (o.erase c) s h.2
      have co := mem_cnt.mp hc
      refine ⟨c :: ys, ⟨hcg, y1⟩, fun a => ?_, fun a ha => ?_⟩
      · have := y2 a
        rw [cnt_erase] at this
        rw [cnt_cons]
        by_cases q : c = a
        · subst q; simp only [if_true] at this ⊢; omega
        · simp only [q, if_false] at this ⊢; omega
      · have := y3 a ha
        rw [cnt_erase] at this
        rw [cnt_cons]
        by_cases q : c = a
        · subst q; simp only [if_true] at this ⊢; omega
        · simp only [q, if_false] at this ⊢; omega
    · rw [Bool.and_eq_true] at h
      obtain ⟨c, hc, hcg⟩ := List.any_eq_true.mp h.1
      have hcg : c ≠ g := by simpa using hcg
      obtain ⟨ys, y1, y2, y3⟩ := of_fill gs o s h.2
      refine ⟨c :: ys, ⟨hcg, y1⟩, fun a => ?_, fun a ha => ?_⟩
      · have := y2 a
        rw [cnt_cons]
        omega
      · have := y3 a ha
        rw [cnt_cons]
        have q : ¬ c = a := fun e => ha (e ▸ hc)
        simp only [q, if_false]
        omega
/-! ### words from fillings -/
def weave : List Nat → List Nat → List Nat → List Nat
  | [], _, _ => []
  | _ :: _, [], _ => []
  | a :: g, m :: t, ys => if m = 50 then a :: weave g t ys else ys.headD 0 :: weave g t ys.tail
def Marks (t : List Nat) : Prop := ∀ m ∈ t, m = 48 ∨ m = 49 ∨ m = 50
theorem weave_ok : ∀ (g t ys : List Nat), g.length = t.length → Marks t → Ne2 ys (lm g t [48, 49]) → Hits g (weave g t ys) t ∧ un g (weave g t ys) = ys ∧ (∀ c ∈ weave g t ys, c ∈ g ∨ c ∈ ys) ∧ (weave g t ys).length = g.length
  | [], [], ys, _, _, h => by
    cases ys with
    | nil => exact ⟨trivial, rfl, fun c hc => (by cases hc), rfl⟩
    | cons y ys => exact h.elim
  | a :: g, m :: t, ys, hl, hm, h => by
    have hl' : g.length = t.length := by simpa using hl
    have hm' : Marks t := fun x hx => hm x (List.mem_cons_of_mem _ hx)
    rw [lm_cons] at h
    by_cases e : m = 50
    · subst e
      rw [if_neg (by decide)] at h
      obtain ⟨i1, i2, i3, i4⟩ := weave_ok g t ys hl' hm' h
      rw [weave, if_pos rfl]
      refine ⟨⟨by simp, by simp, i1⟩, by rw [un_cons, if_pos rfl]; exact i2, fun c hc => ?_, by rw [List.length_cons, i4]; rfl⟩
      rcases List.mem_cons.mp hc with q | q
      · exact .inl (by rw [q]; exact List.mem_cons_self)
      · exact (i3 c q).elim (fun z => .inl (List.mem_cons_of_mem _ z)) .inr
    · have h4 : m ∈ [48, 49] := by
        rcases hm m List.mem_cons_self with q | q | q
        · simp [q]
        · simp [q]
        · exact absurd q e
      rw [if_pos h4] at h
      cases ys with
      | nil => exact h.elim
      | cons y ys =>
        obtain ⟨i1, i2, i3, i4⟩ := weave_ok g t ys hl' hm' h.2
        rw [weave, if_neg e, List.headD_cons, List.tail_cons]
        have ne : ¬ a = y := fun q => h.1 q.symm
        refine ⟨⟨⟨fun q => absurd q e, fun q => absurd q ne⟩, hm m List.mem_cons_self, i1⟩, by rw [un_cons, if_neg ne, i2], fun c hc => ?_, by show (weave g t ys).length + 1 = g.length + 1; rw [i4]⟩
        rcases List.mem_cons.mp hc with q | q
        · exact .inr (by rw [q]; exact List.mem_cons_self)
        · exact (i3 c q).elim (fun z => .inl (List.mem_cons_of_mem _ z)) fun z => .inr (List.mem_cons_of_mem _ z)
theorem hits_ne2 : ∀ (g w t : List Nat), Hits g w t → Ne2 (un g w) (lm g t [48, 49])
  | [], [], [], _ => trivial
  | a :: g, b :: w, m :: t, ⟨h1, h2, h3⟩ => by
    rw [un_cons, lm_cons]
    by_cases e : a = b
    · have := h1.mpr e
      subst this
      rw [if_pos e, if_neg (by decide)]
      exact hits_ne2 g w t h3
    · have n : ¬ m = 50 := fun q => e (h1.mp q)
      have h4 : m ∈ [48, 49] := by
        rcases h2 with q | q | q
        · simp [q]
        · simp [q]
        · exact absurd q n
      rw [if_neg e, if_pos h4]
      exact ⟨fun q => e q.symm, hits_ne2 g w t h3⟩
theorem un_sub : ∀ (g w : List Nat) (c : Nat), c ∈ un g w → c ∈ w := fun g w c h => by
  unfold un at h
  obtain ⟨p, hp, rfl⟩ := List.mem_map.mp h
  exact (List.of_mem_zip (List.mem_filter.mp hp).1).2
theorem lm_sub : ∀ (g t wd : List Nat) (c : Nat), c ∈ lm g t wd → c ∈ g := fun g t wd c h => by
  unfold lm at h
  obtain ⟨p, hp, rfl⟩ := List.mem_map.mp h
  exact (List.of_mem_zip (List.mem_filter.mp hp).1).1
theorem mem_spare {l used : List Nat} {c : Nat} : c ∈ spare l used ↔ c ∈ l ∧ ¬ c ∈ used := by
  unfold spare
  rw [List.mem_filter]
  simp
/-- can_come tells it: some word of the letters l gets the guess g the marks t -/
theorem come_iff {l g t : List Nat} (hl : g.length = t.length) (hm : Marks t) (hg : ∀ c ∈ g, c ∈ l) : comeB l g t = true ↔ ∃ w, w.length = g.length ∧ (∀ c ∈ w, c ∈ l) ∧ mk g w = t := by
  constructor
  · intro h
    unfold comeB at h
    rw [Bool.and_eq_true] at h
    obtain ⟨ys, y1, y2, y3⟩ := of_fill _ _ _ h.2
    obtain ⟨w1, w2, w3, w4⟩ := weave_ok g t ys hl hm y1
    refine ⟨weave g t ys, w4, fun c hc => ?_, ?_⟩
    · rcases w3 c hc with q | q
      · exact hg c q
      · by_cases hs : c ∈ spare l (lm g t [48])
        · exact (mem_spare.mp hs).1
        · have := y3 c hs
          have cy := mem_cnt.mp q
          exact hg c (lm_sub g t [49] c (mem_cnt.mpr (by omega)))
    · unfold mk
      rw [w2]
      exact go_of g _ t ys [] w1 h.1 y2 fun a ha => y3 a fun q => (mem_spare.mp q).2 ha
  · rintro ⟨w, hw, hwl, rfl⟩
    obtain ⟨i1, i2, i3, i4⟩ := of_go g w (un g w) [] hw.symm fun a ha => by cases ha
    unfold comeB
    rw [Bool.and_eq_true]
    refine ⟨i2, fill_of _ _ _ (un g w) (hits_ne2 g w _ i1) i3 fun a ha => ?_⟩
    by_cases hz : a ∈ lm g (go (g.zip w) (un g w)) [48]
    · exact i4 a hz
    · have hal : ¬ a ∈ l := fun q => ha (mem_spare.mpr ⟨q, hz⟩)
      have c0 : (un g w).count a = 0 := by
        have : ¬ 0 < (un g w).count a := fun z => hal (hwl a (un_sub g w a (mem_cnt.mpr z)))
        omega
      have := i3 a
      show (un g w).count a = (lm g (go (g.zip w) (un g w)) [49]).count a
      omega
theorem hits_marks : ∀ (g w t : List Nat), Hits g w t → Marks t
  | [], [], [], _ => fun m hm => (by cases hm)
  | a :: g, b :: w, m :: t, ⟨_, h2, h3⟩ => fun x hx => by
    rcases List.mem_cons.mp hx with q | q
    · rw [q]; exact h2
    · exact hits_marks g w t h3 x q
theorem mk_marks {g w : List Nat} (h : g.length = w.length) : Marks (mk g w) := hits_marks g w _ (of_go g w (un g w) [] h fun a ha => by cases ha).1
theorem mk_len {g w : List Nat} (h : g.length = w.length) : (mk g w).length = g.length := by
  unfold mk
  rw [go_length, List.length_zip]
  omega
theorem hits_all : ∀ (g w t : List Nat), Hits g w t → (t = List.replicate t.length 50 ↔ g = w)
  | [], [], [], _ => by simp
  | a :: g, b :: w, m :: t, ⟨h1, _, h3⟩ => by
    have ih := hits_all g w t h3
    rw [List.length_cons, List.replicate_succ, List.cons.injEq, List.cons.injEq, ih, h1]
/-- marks 2 alone: the word itself -/
theorem mk_all {g w : List Nat} (h : g.length = w.length) : mk g w = List.replicate g.length 50 ↔ g = w := by
  have := hits_all g w _ (of_go g w (un g w) [] h fun a ha => by cases ha).1
  have hl : (mk g w).length = g.length := mk_len h
  unfold mk at hl ⊢
  rw [hl] at this
  exact this
end Gm

/-! the marks as the law works them out, place by place -/
namespace Gm
abbrev PL := List (Nat × Nat)
def us (a : Nat) (z : PL) : Nat := (z.filter fun p => decide (p.1 = a) && !decide (p.2 = 48)).length
def hs (a : Nat) (z : PL) : Nat := (z.filter fun p => decide (p.1 = a) && decide (p.1 = p.2)).length
def hitL (g w : List Nat) : List Nat := (g.zip w).map fun p => if p.1 = p.2 then 50 else 48
theorem us_cons (a x y : Nat) (z : PL) : us a ((x, y) :: z) = us a z + if x = a ∧ ¬ y = 48 then 1 else 0 := by
  unfold us
  rw [List.filter_cons]
  by_cases h1 : x = a <;> by_cases h2 : y = 48 <;> simp [h1, h2]
theorem hs_cons (a x y : Nat) (z : PL) : hs a ((x, y) :: z) = hs a z + if x = a ∧ x = y then 1 else 0 := by
  unfold hs
  rw [List.filter_cons]
  by_cases h1 : x = a <;> by_cases h2 : x = y <;> simp_all
theorem us_app (a : Nat) (z z' : PL) : us a (z ++ z') = us a z + us a z' := by
  unfold us
  rw [List.filter_append, List.length_append]
theorem hitL_cons (a b : Nat) (g w : List Nat) : hitL (a :: g) (b :: w) = (if a = b then 50 else 48) :: hitL g w := rfl
theorem us_hit : ∀ (a : Nat) (g w : List Nat), us a (g.zip (hitL g w)) = hs a (g.zip w)
  | a, [], w => by simp [us, hs]
  | a, b :: g, [] => by simp [us, hs, hitL]
  | a, b :: g, c :: w => by
    rw [hitL_cons, List.zip_cons_cons, List.zip_cons_cons, us_cons, hs_cons, us_hit a g w]
    by_cases h1 : b = a <;> by_cases h2 : b = c <;> simp_all
/-- what is used at step k -/
theorem us_mix : ∀ (a : Nat) (g w m : List Nat) (k : Nat), g.length = w.length → g.length = m.length → us a (g.zip (m.take k ++ (hitL g w).drop k)) = us a ((g.zip m).take k) + hs a ((g.zip w).drop k)
  | a, g, w, m, 0, _, _ => by
    rw [List.take_zero, List.nil_append, List.drop_zero, us_hit, List.take_zero, List.drop_zero]
    show _ = 0 + _
    omega
  | a, [], w, m, k + 1, _, _ => by simp [us, hs]
  | a, b :: g, [], m, k + 1, h, _ => by simp at h
  | a, b :: g, c :: w, [], k + 1, _, h => by simp at h
  | a, b :: g, c :: w, x :: m, k + 1, h1, h2 => by
    have ih := us_mix a g w m k (by simpa using h1) (by simpa using h2)
    rw [hitL_cons, List.take_succ_cons, List.drop_succ_cons, List.cons_append, List.zip_cons_cons, us_cons, ih, List.zip_cons_cons, List.zip_cons_cons, List.take_succ_cons, List.drop_succ_cons, us_cons]
    omega
theorem count_split : ∀ (a : Nat) (g w : List Nat), g.length = w.length → w.count a = hs a (g.zip w) + (un g w).count a
  | a, [], [], _ => rfl
  | a, b :: g, c :: w, h => by
    have ih := count_split a g w (by simpa using h)
    rw [List.zip_cons_cons, hs_cons, un_cons, cnt_cons, ih]
    by_cases e : b = c
    · subst e
      rw [if_pos rfl]
      by_cases q : b = a
      · rw [if_pos q, if_pos ⟨q, rfl⟩]
        omega
      · rw [if_neg q, if_neg (fun z => q z.1)]
        omega
    · rw [if_neg e, cnt_cons, if_neg (show ¬ (b = a ∧ b = c) from fun z => e z.2)]
      omega
/-- what stands between two steps: W a the copies of a in the hidden word -/
def Mid (g w : List Nat) (k : Nat) (u : List Nat) : Prop := (∀ a, w.count a = us a ((g.zip (mk g w)).take k) + hs a ((g.zip w).drop k) + u.count a) ∧ go ((g.zip w).drop k) u = (mk g w).drop k
theorem mid_start {g w : List Nat} (h : g.length = w.length) : Mid g w 0 (un g w) := by
  refine ⟨fun a => ?_, rfl⟩
  have := count_split a g w h
  rw [List.take_zero, List.drop_zero]
  show _ = 0 + _ + _
  omega
/-- step k: a the guess's letter there, b the hidden one's -/
theorem mid_step {g w u : List Nat} {k a b : Nat} (hl : g.length = w.length) (ha : g[k]? = some a) (hb : w[k]? = some b) (M : Mid g w k u) :
    (a = b → (mk g w)[k]? = some 50 ∧ Mid g w (k + 1) u) ∧
    (¬ a = b → us a ((g.zip (mk g w)).take k) + hs a ((g.zip w).drop k) < w.count a → (mk g w)[k]? = some 49 ∧ Mid g w (k + 1) (u.erase a)) ∧
    (¬ a = b → ¬ us a ((g.zip (mk g w)).take k) + hs a ((g.zip w).drop k) < w.count a → (mk g w)[k]? = some 48 ∧ Mid g w (k + 1) u) := by
  obtain ⟨h1, h2⟩ := M
  have hz := zip_at ha hb
  have hk : k < g.length := (List.getElem?_eq_some_iff.mp ha).1
  have hml : (mk g w).length = g.length := mk_len hl
  have hmk : (mk g w)[k]? = some (mk g w)[k] := List.getElem?_eq_getElem (by omega)
  have hzm := zip_at ha hmk
  rw [drop_at hz, drop_at hmk] at h2
  have tk : (g.zip (mk g w)).take (k + 1) = (g.zip (mk g w)).take k ++ [(a, (mk g w)[k])] := by
    have hlt := (List.getElem?_eq_some_iff.mp hzm).1
    rw [List.take_succ_eq_append_getElem hlt, (List.getElem?_eq_some_iff.mp hzm).2]
  have cnt : ∀ x, us x ((g.zip (mk g w)).take (k + 1)) = us x ((g.zip (mk g w)).take k) + if a = x ∧ ¬ (mk g w)[k] = 48 then 1 else 0 := fun x => by
    rw [tk, us_app, us_cons]
    show _ + (0 + _) = _
    rw [Nat.zero_add]
  have hsd : ∀ x, hs x ((g.zip w).drop k) = hs x ((g.zip w).drop (k + 1)) + if a = x ∧ a = b then 1 else 0 := fun x => by
    rw [drop_at hz, hs_cons]
  have ca := h1 a
  refine ⟨fun e => ?_, fun e q => ?_, fun e q => ?_⟩
  · rw [go, if_pos e] at h2
    obtain ⟨e1, e2⟩ := List.cons.inj h2
    refine ⟨by rw [hmk, ← e1], fun x => ?_, e2⟩
    have := h1 x
    rw [cnt x, ← e1]
    rw [hsd x] at this
    by_cases z : a = x
    · rw [if_pos ⟨z, e⟩] at this
      rw [if_pos ⟨z, by decide⟩]
      omega
    · rw [if_neg (fun q => z q.1)] at this
      rw [if_neg (fun q => z q.1)]
      omega
  · have hu : a ∈ u := mem_cnt.mpr (by omega)
    rw [go, if_neg e, if_pos hu] at h2
    obtain ⟨e1, e2⟩ := List.cons.inj h2
    refine ⟨by rw [hmk, ← e1], fun x => ?_, e2⟩
    have := h1 x
    rw [cnt x, ← e1, cnt_erase]
    rw [hsd x, if_neg (fun q => e q.2)] at this
    have cu := mem_cnt.mp hu
    by_cases z : a = x
    · subst z
      rw [if_pos ⟨rfl, by decide⟩, if_pos rfl]
      omega
    · rw [if_neg (fun q => z q.1), if_neg z]
      omega
  · have hu : ¬ a ∈ u := fun z => by have := mem_cnt.mp z; omega
    rw [go, if_neg e, if_neg hu] at h2
    obtain ⟨e1, e2⟩ := List.cons.inj h2
    refine ⟨by rw [hmk, ← e1], fun x => ?_, e2⟩
    have := h1 x
    rw [cnt x, ← e1, if_neg (fun q => q.2 rfl)]
    rw [hsd x, if_neg (fun q => e q.2)] at this
    omega
end Gm

/-! all words of a length -/
namespace Gm
def wds (l : List Nat) : Nat → List (List Nat)
  | 0 => [[]]
  | n + 1 => (wds l n).flatMap fun w => l.map fun c => w ++ [c]
theorem flat_len (xs : List (List Nat)) (l : List Nat) : (xs.flatMap fun w => l.map fun c => w ++ [c]).length = xs.length * l.length := by
  induction xs with
  | nil => simp
  | cons a xs ih => rw [List.flatMap_cons, List.length_append, ih, List.length_map, List.length_cons, Nat.add_mul]; omega
theorem wds_len (l : List Nat) : ∀ n, (wds l n).length = l.length ^ n
  | 0 => rfl
  | n + 1 => by rw [wds, flat_len, wds_len l n, Nat.pow_succ]
theorem wds_le {l : List Nat} (h : l.length ≤ 4) {n : Nat} (hn : n ≤ 4) : (wds l n).length ≤ 256 := by
  rw [wds_len]
  have h1 : l.length ^ n ≤ 4 ^ n := Nat.pow_le_pow_left h n
  have h2 : 4 ^ n ≤ 4 ^ 4 := Nat.pow_le_pow_right (by omega) hn
  exact Nat.le_trans h1 h2
theorem mem_wds (l : List Nat) : ∀ (n : Nat) (w : List Nat), w ∈ wds l n ↔ w.length = n ∧ ∀ c ∈ w, c ∈ l
  | 0, w => by
    show w ∈ [[]] ↔ _
    rw [List.mem_singleton]
    constructor
    · rintro rfl
      exact ⟨rfl, fun c h => by cases h⟩
    · rintro ⟨h, _⟩
      exact List.length_eq_zero_iff.mp h
  | n + 1, w => by
    show w ∈ (wds l n).flatMap _ ↔ _
    rw [List.mem_flatMap]
    constructor
    · rintro ⟨u, hu, hw⟩
      obtain ⟨c, hc, rfl⟩ := List.mem_map.mp hw
      obtain ⟨h1, h2⟩ := (mem_wds l n u).mp hu
      refine ⟨by rw [List.length_append, h1]; rfl, fun a ha => ?_⟩
      rcases List.mem_append.mp ha with h | h
      · exact h2 a h
      · rw [List.mem_singleton.mp h]; exact hc
    · rintro ⟨h1, h2⟩
      have hne : w ≠ [] := fun e => by rw [e] at h1; cases h1
      refine ⟨w.dropLast, (mem_wds l n _).mpr ⟨by rw [List.length_dropLast, h1]; rfl, fun c hc => h2 c ((List.dropLast_sublist w).subset hc)⟩, List.mem_map.mpr ⟨w.getLast hne, h2 _ (List.getLast_mem hne), List.dropLast_concat_getLast hne⟩⟩
/-- can_come against the list of all marks -/
theorem come_mem {l g t : List Nat} (hm : Marks t) (hl : g.length = t.length) (hg : ∀ c ∈ g, c ∈ l) : comeB l g t = decide (t ∈ (wds l g.length).map fun w => mk g w) := by
  rw [Bool.eq_iff_iff, come_iff hl hm hg, decide_eq_true_iff, List.mem_map]
  constructor
  · rintro ⟨w, h1, h2, h3⟩
    exact ⟨w, (mem_wds l _ w).mpr ⟨h1, h2⟩, h3⟩
  · rintro ⟨w, h1, h3⟩
    obtain ⟨h1, h2⟩ := (mem_wds l _ w).mp h1
    exact ⟨w, h1, h2, h3⟩
end Gm

/-! the checker: claims about what is possible -/
namespace Gm
open PySem L2
abbrev sIsRow : Stmt := top 18
abbrev sIsF : Stmt := top 30
abbrev sIsL : Stmt := top 31
abbrev sHasF : Stmt := top 32
abbrev sTupOf : Stmt := top 37
abbrev sShowQ : Stmt := top 39
abbrev sShowI : Stmt := top 42
abbrev sHolds : Stmt := top 36
abbrev Row := List Nat × List Nat
def RowAt (H : Hp) (a : Addr) (r : Row) : Prop := H a = some (.tup [.str (tx r.1), .str (tx r.2)])
def RowOk (l : List Nat) (n : Int) (r : Row) : Prop := Wd l n r.1 ∧ Wd [48, 49, 50] n r.2
/-- a fact about a place (neg: not), or about the number of a letter (most) -/
inductive Fact
  | pl (neg : Bool) (i c : Nat)
  | nm (most : Bool) (c m : Nat)
def factV : Fact → List V
  | .pl false i c => [.str (Str.ofString "at"), .int (i : Nat), .str (one c)]
  | .pl true i c => [.str (Str.ofString "not"), .int (i : Nat), .str (one c)]
  | .nm false c m => [.str (Str.ofString "least"), .str (one c), .int (m : Nat)]
  | .nm true c m => [.str (Str.ofString "most"), .str (one c), .int (m : Nat)]
def FactAt (H : Hp) (a : Addr) (f : Fact) : Prop := H a = some (.tup (factV f))
def FactOk (l : List Nat) (n : Int) : Fact → Prop
  | .pl _ i c => (i : Int) < n ∧ c ∈ l
  | .nm _ c m => c ∈ l ∧ (m : Int) ≤ n
def hasF (w : List Nat) : Fact → Bool
  | .pl false i c => decide (w[i]? = some c)
  | .pl true i c => !decide (w[i]? = some c)
  | .nm false c m => decide (m ≤ w.count c)
  | .nm true c m => decide (w.count c ≤ m)
/-- at these addresses stand these things -/
inductive Ats {α : Type} (R : Addr → α → Prop) : List V → List α → Prop
  | nil : Ats R [] []
  | cons {a : Addr} {x : α} {vs : List V} {xs : List α} : R a x → Ats R vs xs → Ats R (.ref a :: vs) (x :: xs)
section
variable {α : Type} {R S : Addr → α → Prop} {vs us : List V} {xs ys : List α}
theorem Ats.imp (h : Ats R vs xs) (k : ∀ a x, R a x → S a x) : Ats S vs xs := by
  induction h with
  | nil => exact .nil
  | cons a _ ih => exact .cons (k _ _ a) ih
theorem Ats.len (h : Ats R vs xs) : vs.length = xs.length := by
  induction h with
  | nil => rfl
  | cons _ _ ih => rw [List.length_cons, List.length_cons, ih]
theorem Ats.app (h : Ats R vs xs) (k : Ats R us ys) : Ats R (vs ++ us) (xs ++ ys) := by
  induction h with
  | nil => exact k
  | cons a _ ih => exact .cons a ih
theorem Ats.get (h : Ats R vs xs) : ∀ {i : Nat} {v : V}, vs[i]? = some v → ∃ a x, v = .ref a ∧ xs[i]? = some x ∧ R a x := by
  induction h with
  | nil =>
    intro i v e
    cases e
  | @cons a x vs xs ha _ ih =>
    intro i v e
    cases i with
    | zero =>
      cases e
      exact ⟨a, x, rfl, rfl, ha⟩
    | succ i => exact ih (by simpa using e)
end
theorem rows_same {H H' : Hp} {vs : List V} {rs : List Row} (h : Ats (RowAt H) vs rs) (s : Same H H') : Ats (RowAt H') vs rs := h.imp fun _ _ e => s _ _ e
theorem facts_same {H H' : Hp} {vs : List V} {fs : List Fact} (h : Ats (FactAt H) vs fs) (s : Same H H') : Ats (FactAt H') vs fs := h.imp fun _ _ e => s _ _ e
/-- a paper: a text or another thing -/
inductive Sheet (K : PySem.W.Frag) (H : Hp) : V → Option (List Nat) → Prop
  | txt {z : List Nat} : z.length ≤ 1000 → Sheet K H (.str (tx z)) (some z)
  | oth {v : V} {t : Value} : (∀ H', Same H H' → TyX K H' v t) → PySem.W.kitOne K t (.type "str") = some false → Sheet K H v none
theorem Sheet.same {K : PySem.W.Frag} {H H' : Hp} {v : V} {o : Option (List Nat)} (h : Sheet K H v o) (s : Same H H') : Sheet K H' v o := by
  cases h with
  | txt a => exact .txt a
  | oth t k => exact .oth (fun H2 s2 => t H2 fun b o e => s2 _ _ (s _ _ e)) k
def possB (l : List Nat) (n : Int) (rows : List Row) (fs : List Fact) : Option (List Nat) → Bool
  | some z => decide (Wd l n z) && (rows.all (fun r => decide (mk r.1 z = r.2)) && fs.all (hasF z))
  | none => false
/-- a def may be left open behind what never comes -/
theorem pss_no {X : Cx} {st : List Stmt} : PSs X st (fun _ _ _ => False) := ⟨fun _ _ _ _ _ _ h => h.elim⟩
theorem made_same3 {H H' : Hp} {x dx C : Addr} (hx : H x = none) (hd : H dx = none) (b : But x (upd (upd H dx (.own x)) x (.ins C dx [])) H') : Same H H' := fun a o e => by
  have n1 : a ≠ x := ne_of_none e hx
  exact b a o n1 (by rw [upd_ne n1, upd_ne (ne_of_none e hd)]; exact e)
theorem take_snoc2 {α : Type} {xs : List α} {i : Nat} {x : α} (h : xs[i]? = some x) : xs.take (i + 1) = xs.take i ++ [x] := by
  rw [List.take_succ_eq_append_getElem (List.getElem?_eq_some_iff.mp h).1, (List.getElem?_eq_some_iff.mp h).2]
def spIsRow (C : Addr) : Sp := fun vs H Q _ => ∃ (p a : Addr) (l : List Nat) (n : Int) (r : Row), vs = [.ref p, .ref a] ∧ Bd C H p l n ∧ RowAt H a r ∧ RowOk l n r ∧ ∀ H', Same H H' → Q (.bl true) H'
def spIsL (C : Addr) : Sp := fun vs H Q _ => ∃ (p : Addr) (l : List Nat) (n : Int) (c : Nat), vs = [.ref p, .str (one c)] ∧ Bd C H p l n ∧ c ∈ l ∧ ∀ H', Same H H' → Q (.bl true) H'
def spIsF (C : Addr) : Sp := fun vs H Q _ => ∃ (p a : Addr) (l : List Nat) (n : Int) (f : Fact), vs = [.ref p, .ref a] ∧ Bd C H p l n ∧ FactAt H a f ∧ FactOk l n f ∧ ∀ H', Same H H' → Q (.bl true) H'
def spHasF : Sp := fun vs H Q _ => ∃ (a : Addr) (l w : List Nat) (n : Int) (f : Fact), vs = [.str (tx w), .ref a] ∧ FactAt H a f ∧ FactOk l n f ∧ (w.length : Int) = n ∧ n ≤ 6 ∧ ∀ H', Same H H' → Q (.bl (hasF w f)) H'
/-- is_tuple_of of rows or of facts, all of them fine -/
def spTupP {α : Type} (C fW : Addr) (At : Hp → Addr → α → Prop) (Ok : List Nat → Int → α → Prop) : Sp := fun vs H Q _ => ∃ (p a : Addr) (l : List Nat) (n m : Int) (us : List V) (ws : List α), vs = [.ref p, .ref a, .int m, .ref fW] ∧ Bd C H p l n ∧ H a = some (.tup us) ∧ Ats (At H) us ws ∧ (ws.length : Int) ≤ m ∧ m ≤ 1000 ∧ (∀ z ∈ ws, Ok l n z) ∧ ∀ H', Same H H' → Q (.bl true) H'
def spShowQ (K : PySem.W.Frag) (C : Addr) : Sp := fun vs H Q _ => ∃ (p r e : Addr) (l : List Nat) (n : Int) (us ws : List V) (rows : List Row) (fs : List Fact) (v : V) (o : Option (List Nat)), vs = [.ref p, .ref r, .ref e, v] ∧ Bd C H p l n ∧ H r = some (.tup us) ∧ Ats (RowAt H) us rows ∧ H e = some (.tup ws) ∧ Ats (FactAt H) ws fs ∧ rows.length ≤ 20 ∧ fs.length ≤ 4 ∧
  (∀ x ∈ rows, RowOk l n x) ∧ (∀ x ∈ fs, FactOk l n x) ∧ Sheet K H v o ∧ ∀ H', Same H H' → Q (.bl (possB l n rows fs o)) H'
def spHoldsQ (K : PySem.W.Frag) : Sp := fun vs H Q _ => ∃ (c r e : Addr) (im : Bool) (l : List Nat) (n : Int) (us ws : List V) (rows : List Row) (fs : List Fact) (v : V) (o : Option (List Nat)), vs = [.ref c, v] ∧ H c = some (.tup [.str (Str.ofString (if im then "impossible" else "possible")), .str (tx l), .int n, .ref r, .ref e]) ∧ Alph (tx l) ∧ 1 ≤ n ∧ n ≤ 6 ∧
  H r = some (.tup us) ∧ Ats (RowAt H) us rows ∧ H e = some (.tup ws) ∧ Ats (FactAt H) ws fs ∧ rows.length ≤ 20 ∧ fs.length ≤ 4 ∧ (∀ x ∈ rows, RowOk l n x) ∧ (∀ x ∈ fs, FactOk l n x) ∧ Sheet K H v o ∧ (im = true → ∃ z, o = some z) ∧ ∀ H', Same H H' → Q (.bl (!im && possB l n rows fs o)) H'
theorem cnt_tx (w : List Nat) (a : Nat) : Txt.count (tx w) (one a) = (w.count a : Nat) := by
  rw [PyProof.Rows.count_cnt]
  show PyProof.Rows.cnt a w = _
  induction w with
  | nil => rfl
  | cons b w ih =>
    rw [PyProof.Rows.cnt_cons, ih, cnt_cons]
    by_cases h : b = a <;> simp [h] <;> omega
section
variable {P : Program} {w : World} {K : PySem.W.Frag} {mg : Str → Option Value} {base : Heap}
theorem scIR : FnScope ["board", "value"] ["board", "value"] (defScope sIsRow) := ⟨rfl, rfl, rfl, by decide +kernel, rfl, by decide +kernel, by decide +kernel⟩
theorem ok_isRow {f C fW fM : Addr} {fd fdW fdM : FuncData} (F : Fun K "is_row" "is_row" sIsRow f fd) (T : TxW mg) (tt : mg "tuple" = none) (GW : FnOk P w K mg base CX0 2 fW fdW ["board", "value"] (spIsW K C none)) (DW : Df K mg "is_word" fW fdW ["board", "value"])
    (GM : FnOk P w K mg base CX0 2 fM fdM ["board", "value"] (spIsW K C (some [48, 49, 50]))) (DM : Df K mg "are_marks" fM fdM ["board", "value"]) : FnOk P w K mg base CX0 3 f fd ["board", "value"] (spIsRow C) := by
  refine F.ok scIR (fun vs H Q E h => ?_) (fun cdv A outer s H vs Q E hr h => ?_)
  · obtain ⟨p, a, l, n, r, rfl, _⟩ := h
    rfl
  · obtain ⟨p, a, l, n, r, rfl, hb, ha, ok, q⟩ := h
    have n6 := hb.2.2.2
    have l1 := ok.1.1
    have l2 := ok.2.1
    refine ⟨_, pss_cons (ps_if (PW.pt (pw_or (pt_not (pt_val (pe_callB call_isi (by rfl) T.isi (by decide +kernel) (pa_cons (pv 1) (pa_cons (pe_bltn (v := .ty "tuple") (by rfl) tt (by decide +kernel) rfl) pa_nil)))))
        (pw_or1 (pt_cmpR op_ne (pe_callB call_len_seq (by rfl) T.len PySem.boot_len (pa_cons (pv 1) pa_nil)) pe_int (nomark _))))) (pss_one (ps_ret pe_bl)) pss_nil)
      (pss_one (ps_ret (pe_and (pe_call GW hr (by rfl) DW.mg DW.kp DW.b .nil pass0 (pa_cons (pv 0) (pa_cons (pe_ix ix_tup (pv 1) pe_int (fun _ _ => rfl)) pa_nil)))
        (pe_one (pe_call GM hr (by rfl) DM.mg DM.kp DM.b .nil pass0 (pa_cons (pv 0) (pa_cons (pe_ix ix_tup (pv 1) pe_int (fun _ _ => rfl)) pa_nil))))))), ?_⟩
    refine ⟨_, rfl, _, _, _, _, _, rfl, .ty "tuple", .base (.tup ha), kit_ty (r := true) (by decide +kernel), _, rfl, iteF ?_⟩
    refine ⟨_, rfl, a, _, rfl, .inr (SqT.of ha), rfl, _, rfl, iteF ?_⟩
    refine ⟨_, rfl, _, rfl, a, _, _, _, rfl, rfl, SqT.of ha, rfl, p, l, n, _, rfl, hb, .inl ⟨r.1, rfl, by omega, fun H1 s1 => ⟨_, rfl, ?_⟩⟩⟩
    rw [decide_eq_true (show Wd ((none : Option (List Nat)).getD l) n r.1 from ok.1)]
    refine iteT ⟨_, rfl, _, rfl, a, _, _, _, rfl, rfl, SqT.of (s1 _ _ ha), rfl, p, l, n, _, rfl, hb.same s1, .inl ⟨r.2, rfl, by omega, fun H2 s2 => ?_⟩⟩
    rw [decide_eq_true (show Wd ((some [48, 49, 50] : Option (List Nat)).getD l) n r.2 from ok.2)]
    exact q H2 fun b o e => s2 _ _ (s1 _ _ e)
theorem scIL : FnScope ["board", "value"] ["board", "value"] (defScope sIsL) := ⟨rfl, rfl, rfl, by decide +kernel, rfl, by decide +kernel, by decide +kernel⟩
theorem ok_isL {f C fO : Addr} {fd fdO : FuncData} (F : Fun K "is_letter" "is_letter" sIsL f fd) (TC : TxC K mg C) (GO : FnOk P w K mg base CX0 1 fO fdO ["value", "characters", "length"] (spOver K)) (DO : Df K mg "is_text_over" fO fdO ["value", "characters", "length"]) :
    FnOk P w K mg base CX0 2 f fd ["board", "value"] (spIsL C) := by
  refine F.ok scIL (fun vs H Q E h => ?_) (fun cdv A outer s H vs Q E hr h => ?_)
  · obtain ⟨p, l, n, c, rfl, _⟩ := h
    rfl
  · obtain ⟨p, l, n, c, rfl, ⟨⟨dx, hp⟩, l26, n1, n6⟩, hc, q⟩ := h
    refine ⟨_, pss_one (ps_ret (pe_call GO hr (by rfl) DO.mg DO.kp DO.b .nil pass0 (pa_cons (pv 1) (pa_cons (pe_fld (pv 0) rfl) (pa_cons pe_int pa_nil))))), ?_⟩
    refine ⟨_, rfl, _, rfl, p, C, dx, _, _, rfl, hp, TC.cl, TC.nL, bf_letters _ _, _, _, _, rfl, .inl ⟨[c], rfl, by (show 1 ≤ 1000; decide), fun H' s => ?_⟩⟩
    rw [decide_eq_true (show ((([c] : List Nat).length : Nat) : Int) = 1 ∧ ∀ x ∈ [c], x ∈ l from ⟨rfl, fun x hx => by rw [List.mem_singleton.mp hx]; exact hc⟩)]
    exact q H' s
abbrev nIf : List Str := ["board", "value", "kind", "first", "second"]
theorem scIf : FnScope nIf ["board", "value"] (defScope sIsF) := ⟨rfl, rfl, rfl, by decide +kernel, rfl, by decide +kernel, by decide +kernel⟩
theorem ok_isF {f C fL fW : Addr} {fd fdL fdW : FuncData} (F : Fun K "is_fact" "is_fact" sIsF f fd) (T : TxW mg) (tt : mg "tuple" = none) (TC : TxC K mg C) (GL : FnOk P w K mg base CX0 2 fL fdL ["board", "value"] (spIsL C)) (DL : Df K mg "is_letter" fL fdL ["board", "value"])
    (GW : FnOk P w K mg base CX0 1 fW fdW ["value", "least", "most"] (spWithin K)) (DW : Df K mg "is_integer_within" fW fdW ["value", "least", "most"]) : FnOk P w K mg base CX0 3 f fd ["board", "value"] (spIsF C) := by
  refine F.ok scIf (fun vs H Q E h => ?_) (fun cdv A outer s H vs Q E hr h => ?_)
  · obtain ⟨p, a, l, n, fc, rfl, _⟩ := h
    rfl
  · obtain ⟨p, a, l, n, fc, rfl, hb, ha, ok, q⟩ := h
    have nd := scIf.nd
    have hr1 : Room 1 _ := hr.mono (by decide)
    refine ⟨_, pss_cons (ps_if (PW.pt (pw_or (pt_not (pt_val (pe_callB call_isi (by rfl) T.isi (by decide +kernel) (pa_cons (pv 1) (pa_cons (pe_bltn (v := .ty "tuple") (by rfl) tt (by decide +kernel) rfl) pa_nil)))))
        (pw_or1 (pt_cmpR op_ne (pe_callB call_len_seq (by rfl) T.len PySem.boot_len (pa_cons (pv 1) pa_nil)) pe_int (nomark _))))) (pss_one (ps_ret pe_bl)) pss_nil)
      (pss_cons (ps_asg (pv 1) (pg_tup (by rfl) (pgs_cons (pg_name (i := 2) nd rfl (Or.inl rfl)) (pgs_cons (pg_name (i := 3) nd rfl (Or.inl rfl)) (pgs_cons (pg_name (i := 4) nd rfl (Or.inl rfl)) pgs_nil)))))
      (pss_cons (ps_if (pt_not (pt_val (pe_callB call_isi (by rfl) T.isi (by decide +kernel) (pa_cons (pv 2) (pa_cons (pe_bltn (v := .ty "str") (by rfl) T.str (by decide +kernel) rfl) pa_nil))))) (pss_one (ps_ret pe_bl)) pss_nil)
      (pss_cons (ps_if (pt_cmpR op_in_seq (pv 2) (pe_tup (pa_cons pe_str (pa_cons pe_str pa_nil))) rfl) (pss_one (ps_ret (pe_and (pe_call GW hr1 (by rfl) DW.mg DW.kp DW.b .nil pass0 (pa_cons (pv 3) (pa_cons pe_int (pa_cons (pe_op op_sub (pe_fld (pv 0) rfl) pe_int) pa_nil))))
        (pe_one (pe_call GL hr (by rfl) DL.mg DL.kp DL.b .nil pass0 (pa_cons (pv 0) (pa_cons (pv 4) pa_nil))))))) pss_nil)
      (pss_cons (ps_if (pt_cmpR op_in_seq (pv 2) (pe_tup (pa_cons pe_str (pa_cons pe_str pa_nil))) rfl) (pss_one (ps_ret (pe_and (pe_call GL hr (by rfl) DL.mg DL.kp DL.b .nil pass0 (pa_cons (pv 0) (pa_cons (pv 3) pa_nil)))
        (pe_one (pe_call GW hr1 (by rfl) DW.mg DW.kp DW.b .nil pass0 (pa_cons (pv 4) (pa_cons pe_int (pa_cons (pe_fld (pv 0) rfl) pa_nil)))))))) pss_nil)
      (pss_one (ps_ret pe_bl)))))), ?_⟩
    obtain ⟨dx, hp⟩ := hb.1
    rcases fc with ⟨neg, i, c⟩ | ⟨most, c, m⟩
    · cases neg with
      | false =>
        have ha : H a = some (.tup [.str (Str.ofString "at"), .int (i : Nat), .str (one c)]) := ha
        refine ⟨_, rfl, _, _, _, _, _, rfl, .ty "tuple", .base (.tup ha), kit_ty (r := true) (by decide +kernel), _, rfl, iteF ?_⟩
        refine ⟨_, rfl, a, _, rfl, .inr (SqT.of ha), rfl, _, rfl, iteF ?_⟩
        refine ⟨_, rfl, a, _, rfl, SqT.of ha, rfl, _, _, rfl, _, _, rfl, _, _, rfl, rfl, ?_⟩
        refine ⟨_, rfl, _, _, _, _, _, rfl, .ty "str", .base (.str _), kit_ty (r := true) (by decide +kernel), _, rfl, iteF ?_⟩
        refine ⟨_, rfl, by show 2 ≤ sizeLine; decide, fun T1 z1 => ⟨T1, _, rfl, .inr (SqT.of upd_same), rfl, rfl, _, rfl, ?_⟩⟩
        have s1 := same_upd (o := .tup [.str (Str.ofString "at"), .str (Str.ofString "not")]) z1
        refine iteT ⟨_, rfl, _, rfl, p, C, dx, _, _, rfl, s1 _ _ hp, TC.cl, TC.nN, bf_length _ _, _, _, rfl, rfl, _, _, _, rfl, .inl ⟨_, rfl, _, rfl, ?_⟩⟩
        rw [decide_eq_true (show (0 : Int) ≤ (i : Nat) ∧ ((i : Nat) : Int) ≤ n - 1 from ⟨by omega, by have := ok.1; omega⟩)]
        exact iteT ⟨_, rfl, _, rfl, p, l, n, c, rfl, hb.same s1, ok.2, fun H' s' => q H' (s1.trans s')⟩
      | true =>
        have ha : H a = some (.tup [.str (Str.ofString "not"), .int (i : Nat), .str (one c)]) := ha
        refine ⟨_, rfl, _, _, _, _, _, rfl, .ty "tuple", .base (.tup ha), kit_ty (r := true) (by decide +kernel), _, rfl, iteF ?_⟩
        refine ⟨_, rfl, a, _, rfl, .inr (SqT.of ha), rfl, _, rfl, iteF ?_⟩
        refine ⟨_, rfl, a, _, rfl, SqT.of ha, rfl, _, _, rfl, _, _, rfl, _, _, rfl, rfl, ?_⟩
        refine ⟨_, rfl, _, _, _, _, _, rfl, .ty "str", .base (.str _), kit_ty (r := true) (by decide +kernel), _, rfl, iteF ?_⟩
        refine ⟨_, rfl, by show 2 ≤ sizeLine; decide, fun T1 z1 => ⟨T1, _, rfl, .inr (SqT.of upd_same), rfl, rfl, _, rfl, ?_⟩⟩
        have s1 := same_upd (o := .tup [.str (Str.ofString "at"), .str (Str.ofString "not")]) z1
        refine iteT ⟨_, rfl, _, rfl, p, C, dx, _, _, rfl, s1 _ _ hp, TC.cl, TC.nN, bf_length _ _, _, _, rfl, rfl, _, _, _, rfl, .inl ⟨_, rfl, _, rfl, ?_⟩⟩
        rw [decide_eq_true (show (0 : Int) ≤ (i : Nat) ∧ ((i : Nat) : Int) ≤ n - 1 from ⟨by omega, by have := ok.1; omega⟩)]
        exact iteT ⟨_, rfl, _, rfl, p, l, n, c, rfl, hb.same s1, ok.2, fun H' s' => q H' (s1.trans s')⟩
    · cases most with
      | false =>
        have ha : H a = some (.tup [.str (Str.ofString "least"), .str (one c), .int (m : Nat)]) := ha
        refine ⟨_, rfl, _, _, _, _, _, rfl, .ty "tuple", .base (.tup ha), kit_ty (r := true) (by decide +kernel), _, rfl, iteF ?_⟩
        refine ⟨_, rfl, a, _, rfl, .inr (SqT.of ha), rfl, _, rfl, iteF ?_⟩
        refine ⟨_, rfl, a, _, rfl, SqT.of ha, rfl, _, _, rfl, _, _, rfl, _, _, rfl, rfl, ?_⟩
        refine ⟨_, rfl, _, _, _, _, _, rfl, .ty "str", .base (.str _), kit_ty (r := true) (by decide +kernel), _, rfl, iteF ?_⟩
        refine ⟨_, rfl, by show 2 ≤ sizeLine; decide, fun T1 z1 => ⟨T1, _, rfl, .inr (SqT.of upd_same), rfl, rfl, _, rfl, ?_⟩⟩
        have s1 := same_upd (o := .tup [.str (Str.ofString "at"), .str (Str.ofString "not")]) z1
        refine iteF ?_
        refine ⟨_, rfl, by show 2 ≤ sizeLine; decide, fun T2 z2 => ⟨T2, _, rfl, .inr (SqT.of upd_same), rfl, rfl, _, rfl, ?_⟩⟩
        have s2 := s1.trans (same_upd (o := .tup [.str (Str.ofString "least"), .str (Str.ofString "most")]) z2)
        refine iteT ⟨_, rfl, _, rfl, p, l, n, c, rfl, hb.same s2, ok.1, fun H3 s3 => ⟨_, rfl, iteT ?_⟩⟩
        have s4 := s2.trans s3
        refine ⟨_, rfl, _, rfl, p, C, dx, _, _, rfl, s4 _ _ hp, TC.cl, TC.nN, bf_length _ _, _, _, _, rfl, .inl ⟨_, rfl, ?_⟩⟩
        rw [decide_eq_true (show (0 : Int) ≤ (m : Nat) ∧ ((m : Nat) : Int) ≤ n from ⟨by omega, ok.2⟩)]
        exact q _ s4
      | true =>
        have ha : H a = some (.tup [.str (Str.ofString "most"), .str (one c), .int (m : Nat)]) := ha
        refine ⟨_, rfl, _, _, _, _, _, rfl, .ty "tuple", .base (.tup ha), kit_ty (r := true) (by decide +kernel), _, rfl, iteF ?_⟩
        refine ⟨_, rfl, a, _, rfl, .inr (SqT.of ha), rfl, _, rfl, iteF ?_⟩
        refine ⟨_, rfl, a, _, rfl, SqT.of ha, rfl, _, _, rfl, _, _, rfl, _, _, rfl, rfl, ?_⟩
        refine ⟨_, rfl, _, _, _, _, _, rfl, .ty "str", .base (.str _), kit_ty (r := true) (by decide +kernel), _, rfl, iteF ?_⟩
        refine ⟨_, rfl, by show 2 ≤ sizeLine; decide, fun T1 z1 => ⟨T1, _, rfl, .inr (SqT.of upd_same), rfl, rfl, _, rfl, ?_⟩⟩
        have s1 := same_upd (o := .tup [.str (Str.ofString "at"), .str (Str.ofString "not")]) z1
        refine iteF ?_
        refine ⟨_, rfl, by show 2 ≤ sizeLine; decide, fun T2 z2 => ⟨T2, _, rfl, .inr (SqT.of upd_same), rfl, rfl, _, rfl, ?_⟩⟩
        have s2 := s1.trans (same_upd (o := .tup [.str (Str.ofString "least"), .str (Str.ofString "most")]) z2)
        refine iteT ⟨_, rfl, _, rfl, p, l, n, c, rfl, hb.same s2, ok.1, fun H3 s3 => ⟨_, rfl, iteT ?_⟩⟩
        have s4 := s2.trans s3
        refine ⟨_, rfl, _, rfl, p, C, dx, _, _, rfl, s4 _ _ hp, TC.cl, TC.nN, bf_length _ _, _, _, _, rfl, .inl ⟨_, rfl, ?_⟩⟩
        rw [decide_eq_true (show (0 : Int) ≤ (m : Nat) ∧ ((m : Nat) : Int) ≤ n from ⟨by omega, ok.2⟩)]
        exact q _ s4
abbrev nHf : List Str := ["word", "fact", "kind", "first", "second"]
theorem scHf : FnScope nHf ["word", "fact"] (defScope sHasF) := ⟨rfl, rfl, rfl, by decide +kernel, rfl, by decide +kernel, by decide +kernel⟩
theorem ok_hasF {f : Addr} {fd : FuncData} (F : Fun K "has_fact" "has_fact" sHasF f fd) : FnOk P w K mg base CX0 1 f fd ["word", "fact"] spHasF := by
  refine F.ok scHf (fun vs H Q E h => ?_) (fun cdv A outer s H vs Q E hr h => ?_)
  · obtain ⟨a, l, z, n, fc, rfl, _⟩ := h
    rfl
  · obtain ⟨a, l, z, n, fc, rfl, ha, ok, hz, n6, q⟩ := h
    have nd := scHf.nd
    have hline : sizeLine = 16777216 := sizeLine_eq
    refine ⟨_, pss_cons (ps_asg (pv 1) (pg_tup (by rfl) (pgs_cons (pg_name (i := 2) nd rfl (Or.inl rfl)) (pgs_cons (pg_name (i := 3) nd rfl (Or.inl rfl)) (pgs_cons (pg_name (i := 4) nd rfl (Or.inl rfl)) pgs_nil)))))
      (pss_cons (ps_if (pt_cmpR op_eq (pv 2) pe_str (nomark _)) (pss_one (ps_ret (pe_cmpR op_eq (pe_ix ix_str (pv 0) (pv 3) (fun _ _ => rfl)) (pv 4) (nomark _)))) pss_nil)
      (pss_cons (ps_if (pt_cmpR op_eq (pv 2) pe_str (nomark _)) (pss_one (ps_ret (pe_cmpR op_ne (pe_ix ix_str (pv 0) (pv 3) (fun _ _ => rfl)) (pv 4) (nomark _)))) pss_nil)
      (pss_cons (ps_if (pt_cmpR op_eq (pv 2) pe_str (nomark _)) (pss_one (ps_ret (pe_cmpR op_ge (pe_m1 PySem.F.slot_str_count PySem.F.type_str_count mt_count (pv 0) (pv 3)) (pv 4) (nomark _)))) pss_nil)
      (pss_one (ps_ret (pe_cmpR op_le (pe_m1 PySem.F.slot_str_count PySem.F.type_str_count mt_count (pv 0) (pv 3)) (pv 4) (nomark _))))))), ?_⟩
    rcases fc with ⟨neg, i, c⟩ | ⟨most, c, m⟩
    · have hi : i < z.length := by have := ok.1; omega
      cases neg with
      | false =>
        have ha : H a = some (.tup [.str (Str.ofString "at"), .int (i : Nat), .str (one c)]) := ha
        refine ⟨_, rfl, a, _, rfl, SqT.of ha, rfl, _, _, rfl, _, _, rfl, _, _, rfl, rfl, ?_⟩
        refine ⟨_, rfl, rfl, _, rfl, iteT ?_⟩
        refine ⟨_, rfl, _, rfl, tx z, _, z[i]'hi, rfl, rfl, by rw [tx_len]; omega, atI_nat (List.getElem?_eq_getElem hi), _, rfl, rfl, ?_⟩
        have e : decide (V.str (one (z[i]'hi)) = V.str (one c)) = decide (z[i]? = some c) := decide_eq_decide.mpr ⟨fun h => by rw [List.getElem?_eq_getElem hi, ones_inj (V.str.inj h)], fun h => by rw [List.getElem?_eq_getElem hi] at h; rw [Option.some.inj h]⟩
        show Q (.bl (decide (V.str (one (z[i]'hi)) = V.str (one c)))) H
        rw [e]
        exact q _ (Same.refl H)
      | true =>
        have ha : H a = some (.tup [.str (Str.ofString "not"), .int (i : Nat), .str (one c)]) := ha
        refine ⟨_, rfl, a, _, rfl, SqT.of ha, rfl, _, _, rfl, _, _, rfl, _, _, rfl, rfl, ?_⟩
        refine ⟨_, rfl, rfl, _, rfl, iteF ?_⟩
        refine ⟨_, rfl, rfl, _, rfl, iteT ?_⟩
        refine ⟨_, rfl, _, rfl, tx z, _, z[i]'hi, rfl, rfl, by rw [tx_len]; omega, atI_nat (List.getElem?_eq_getElem hi), _, rfl, rfl, ?_⟩
        have e : decide (V.str (one (z[i]'hi)) = V.str (one c)) = decide (z[i]? = some c) := decide_eq_decide.mpr ⟨fun h => by rw [List.getElem?_eq_getElem hi, ones_inj (V.str.inj h)], fun h => by rw [List.getElem?_eq_getElem hi] at h; rw [Option.some.inj h]⟩
        show Q (.bl (!decide (V.str (one (z[i]'hi)) = V.str (one c)))) H
        rw [e]
        exact q _ (Same.refl H)
    · cases most with
      | false =>
        have ha : H a = some (.tup [.str (Str.ofString "least"), .str (one c), .int (m : Nat)]) := ha
        refine ⟨_, rfl, a, _, rfl, SqT.of ha, rfl, _, _, rfl, _, _, rfl, _, _, rfl, rfl, ?_⟩
        refine ⟨_, rfl, rfl, _, rfl, iteF ?_⟩
        refine ⟨_, rfl, rfl, _, rfl, iteF ?_⟩
        refine ⟨_, rfl, rfl, _, rfl, iteT ?_⟩
        refine ⟨_, rfl, ⟨_, rfl⟩, _, rfl, _, _, rfl, rfl, _, rfl, _, _, rfl, rfl, ?_⟩
        rw [cnt_tx]
        have e : decide (((m : Nat) : Int) ≤ ((z.count c : Nat) : Int)) = decide (m ≤ z.count c) := decide_eq_decide.mpr (by omega)
        show Q (.bl (decide (((m : Nat) : Int) ≤ ((z.count c : Nat) : Int)))) H
        rw [e]
        exact q _ (Same.refl H)
      | true =>
        have ha : H a = some (.tup [.str (Str.ofString "most"), .str (one c), .int (m : Nat)]) := ha
        refine ⟨_, rfl, a, _, rfl, SqT.of ha, rfl, _, _, rfl, _, _, rfl, _, _, rfl, rfl, ?_⟩
        refine ⟨_, rfl, rfl, _, rfl, iteF ?_⟩
        refine ⟨_, rfl, rfl, _, rfl, iteF ?_⟩
        refine ⟨_, rfl, rfl, _, rfl, iteF ?_⟩
        refine ⟨_, rfl, ⟨_, rfl⟩, _, rfl, _, _, rfl, rfl, _, rfl, _, _, rfl, rfl, ?_⟩
        rw [cnt_tx]
        have e : decide (((z.count c : Nat) : Int) ≤ ((m : Nat) : Int)) = decide (z.count c ≤ m) := decide_eq_decide.mpr (by omega)
        show Q (.bl (decide (((z.count c : Nat) : Int) ≤ ((m : Nat) : Int)))) H
        rw [e]
        exact q _ (Same.refl H)
theorem scTo : FnScope ["board", "value", "most", "is_part", "part"] ["board", "value", "most", "is_part"] (defScope sTupOf) := ⟨rfl, rfl, rfl, by decide +kernel, rfl, by decide +kernel, by decide +kernel⟩
abbrev nTo : List Str := ["board", "value", "most", "is_part", "part"]
theorem ok_tupP {α : Type} {At : Hp → Addr → α → Prop} {Ok : List Nat → Int → α → Prop} {f C fW : Addr} {fd fdW : FuncData} {spW : Sp} (F : Fun K "is_tuple_of" "is_tuple_of" sTupOf f fd) (T : TxW mg) (tt : mg "tuple" = none) (tall : mg "all" = none)
    (atS : ∀ {H H' : Hp} {a : Addr} {x : α}, At H a x → Same H H' → At H' a x) (spW_of : ∀ {H : Hp} {Q : VK} {E : XK} {p a : Addr} {l : List Nat} {n : Int} {x : α}, Bd C H p l n → At H a x → Ok l n x → (∀ H', Same H H' → Q (.bl true) H') → spW [.ref p, .ref a] H Q E)
    (GW : FnOk P w K mg base CX0 3 fW fdW ["board", "value"] spW) (kW : PySem.W.keepIn K (.ref fW) = true) (bW : Binds K fdW ["board", "value"] []) :
    FnOk P w K mg base CX0 4 f fd ["board", "value", "most", "is_part"] (spTupP C fW At Ok) := by
  refine F.ok scTo (fun vs H Q E h => ?_) (fun cdv A outer s H vs Q E hr h => ?_)
  · obtain ⟨p, a, l, n, m, us, ws, rfl, _⟩ := h
    rfl
  · obtain ⟨p, a, l, n, m, us, ws, rfl, hb, ha, hA, hm, m1000, hw, q⟩ := h
    have nd := scTo.nd
    have hline : sizeLine = 16777216 := sizeLine_eq
    have lv := hA.len
    refine ⟨_, pss_cons (ps_if (PW.pt (pw_or (pt_not (pt_val (pe_callB call_isi (by rfl) T.isi (by decide +kernel) (pa_cons (pv 1) (pa_cons (pe_bltn (v := .ty "tuple") (by rfl) tt (by decide +kernel) rfl) pa_nil)))))
        (pw_or1 (pt_cmpR op_gt (pe_callB call_len_seq (by rfl) T.len PySem.boot_len (pa_cons (pv 1) pa_nil)) (pv 2) (nomark _))))) (pss_one (ps_ret pe_bl)) pss_nil)
      (pss_one (ps_ret (pe_callB (cr_all rfl) (by rfl) tall (by decide +kernel) (pa_cons
        (pe_lc (own := [("part", 4)]) (g := gName 4) (by rfl) nd (pi_tup (pv 1)) (blkOk_by (own := [("part", 4)]) (N := nTo) (sc := defScope sTupOf) (by decide +kernel))
          (fun _ _ _ _ _ => pg_name (i := 4) nd rfl (Or.inl rfl)) (fun _ _ _ _ _ => pts_nil)
          (fun _ _ _ _ _ => pe_callL (i := 3) GW hr (by rfl) (by first | exact Or.inr (Or.inr rfl) | exact Or.inr (Or.inl rfl) | exact Or.inl rfl) kW bW .nil pass0 (pa_cons (pv 0) (pa_cons (pv 4) pa_nil)))) pa_nil)))), ?_⟩
    refine ⟨_, rfl, _, _, _, _, _, rfl, .ty "tuple", .base (.tup ha), kit_ty (r := true) (by decide +kernel), _, rfl, iteF ?_⟩
    refine ⟨_, rfl, a, _, rfl, .inr (SqT.of ha), _, rfl, _, _, rfl, rfl, _, rfl, ?_⟩
    rw [lv, decide_eq_false (show ¬ ((ws.length : Nat) : Int) > m by omega)]
    refine iteF ⟨_, rfl, a, rfl, ⟨_, SqT.of ha⟩, fun D hD => ?_⟩
    refine lc_it walk_tup (fun i H' => Same H H' ∧ H' D = some (.lst ((List.replicate i true).map V.bl))) ⟨same_upd hD, upd_same⟩ (fun i H' _ hh => SqT.of (hh.1 _ _ ha)) ?_ ?_
    · rintro i x H2 H3 hi ⟨sm, hDi⟩ ⟨rfl, hx⟩
      obtain ⟨b, z, rfl, hz, hat⟩ := hA.get hx
      refine ⟨rfl, rfl, _, rfl, _, rfl, spW_of (hb.same sm) (atS hat sm) (hw z (List.mem_of_getElem? hz)) fun H4 s4 => ?_⟩
      refine ⟨_, s4 _ _ hDi, by rw [List.length_map, List.length_replicate]; omega, fun b o e => ?_, ?_⟩
      · rw [upd_ne (ne_of_none e hD)]
        exact s4 _ _ (sm _ _ e)
      · rw [upd_same, List.replicate_succ', List.map_append]
        rfl
    · rintro H2 ⟨sm, hD2⟩
      refine ⟨D, _, rfl, SqL.of hD2, ?_⟩
      rw [List.all_replicate]
      simp only [id, if_true, ite_self]
      exact q _ sm
abbrev nSq : List Str := ["board", "rows", "facts", "paper", "guess", "told", "fits", "fact"]
theorem scSq : FnScope nSq ["board", "rows", "facts", "paper"] (defScope sShowQ) := ⟨rfl, rfl, rfl, by decide +kernel, rfl, by decide +kernel, by decide +kernel⟩
theorem ok_showQ {f C fW fM fF : Addr} {fd fdW fdM fdF : FuncData} (F : Fun K "shows_possible" "shows_possible" sShowQ f fd) (tall : mg "all" = none) (GW : FnOk P w K mg base CX0 2 fW fdW ["board", "value"] (spIsW K C none)) (DW : Df K mg "is_word" fW fdW ["board", "value"])
    (GM : FnOk P w K mg base CX0 1 fM fdM ["guess", "word"] spMarksOf) (DM : Df K mg "marks_of" fM fdM ["guess", "word"]) (GF : FnOk P w K mg base CX0 1 fF fdF ["word", "fact"] spHasF) (DF : Df K mg "has_fact" fF fdF ["word", "fact"]) :
    FnOk P w K mg base CX0 3 f fd ["board", "rows", "facts", "paper"] (spShowQ K C) := by
  refine F.ok scSq (fun vs H Q E h => ?_) (fun cdv A outer s H vs Q E hr h => ?_)
  · obtain ⟨p, r, e_, l, n, us, ws, rows, fs, v, o, rfl, _⟩ := h
    rfl
  · obtain ⟨p, r, e_, l, n, us, ws, rows, fs, v, o, rfl, hb, hr_, hR, he_, hE, r20, f4, ro, fo, hs, q⟩ := h
    have nd := scSq.nd
    have hline : sizeLine = 16777216 := sizeLine_eq
    have hr1 : Room 1 _ := hr.mono (by decide)
    have n6 := hb.2.2.2
    refine ⟨_, pss_cons (ps_if (pt_not (pt_val (pe_call GW hr (by rfl) DW.mg DW.kp DW.b .nil pass0 (pa_cons (pv 0) (pa_cons (pv 3) pa_nil))))) (pss_one (ps_ret pe_bl)) pss_nil)
      (pss_cons (ps_set (i := 6) nd rfl (Or.inl rfl) (pe_callB (cr_all rfl) (by rfl) tall (by decide +kernel) (pa_cons
        (pe_lc (own := [("guess", 4), ("told", 5)]) (g := gTup K 2 (gCons (gName 4) (gCons (gName 5) gNil))) (by rfl) nd (pi_tup (pv 1)) (blkOk_by (own := [("guess", 4), ("told", 5)]) (N := nSq) (sc := defScope sShowQ) (by decide +kernel))
          (fun _ _ _ _ _ => by exact pg_tup (by rfl) (pgs_cons (pg_name (i := 4) nd rfl (Or.inl rfl)) (pgs_cons (pg_name (i := 5) nd rfl (Or.inl rfl)) pgs_nil))) (fun _ _ _ _ _ => pts_nil)
          (fun _ _ _ _ _ => pe_cmpR op_eq (pe_call GM hr1 (by rfl) DM.mg DM.kp DM.b .nil pass0 (pa_cons (pv 4) (pa_cons (pv 3) pa_nil))) (pv 5) (nomark _))) pa_nil)))
      (pss_one (ps_ret (pe_and (pv 6) (pe_one (pe_callB (cr_all rfl) (by rfl) tall (by decide +kernel) (pa_cons
        (pe_lc (own := [("fact", 7)]) (g := gName 7) (by rfl) nd (pi_tup (pv 2)) (blkOk_by (own := [("fact", 7)]) (N := nSq) (sc := defScope sShowQ) (by decide +kernel))
          (fun _ _ _ _ _ => pg_name (i := 7) nd rfl (Or.inl rfl)) (fun _ _ _ _ _ => pts_nil)
          (fun _ _ _ _ _ => pe_call GF hr1 (by rfl) DF.mg DF.kp DF.b .nil pass0 (pa_cons (pv 3) (pa_cons (pv 7) pa_nil)))) pa_nil))))))), ?_⟩
    cases hs with
    | oth t k => exact ⟨_, rfl, _, rfl, p, l, n, _, rfl, hb, .inr ⟨_, t _ (Same.refl H), k, _, rfl, iteT (q _ (Same.refl H))⟩⟩
    | @txt z lz =>
      have q' : ∀ H', Same H H' → Q (.bl (decide (Wd l n z) && (rows.all (fun r => decide (mk r.1 z = r.2)) && fs.all (hasF z)))) H' := q
      refine ⟨_, rfl, _, rfl, p, l, n, _, rfl, hb, .inl ⟨z, rfl, lz, fun H1 s1 => ⟨_, rfl, ?_⟩⟩⟩
      show if (!decide (Wd l n z)) = true then _ else _
      refine ite2 (fun h => ?_) (fun h => ?_)
      · have hz : decide (Wd l n z) = false := by simpa using h
        rw [hz] at q'
        exact q' _ s1
      · have hz : decide (Wd l n z) = true := by simpa using h
        have wz := (of_decide_eq_true hz).1
        rw [hz] at q'
        have lR := hR.len
        refine ⟨_, rfl, r, rfl, ⟨_, SqT.of (s1 _ _ hr_)⟩, fun D hD => ?_⟩
        refine lc_it walk_tup (fun i H' => Same H1 H' ∧ H' D = some (.lst (((rows.take i).map fun r => decide (mk r.1 z = r.2)).map V.bl))) ⟨same_upd hD, upd_same⟩ (fun i H' _ hh => SqT.of (hh.1 _ _ (s1 _ _ hr_))) ?_ ?_
        · rintro i x H2 H3 hi ⟨sm, hDi⟩ ⟨rfl, hx⟩
          obtain ⟨a, rw_, rfl, hrow, ha⟩ := hR.get hx
          have ha2 := sm _ _ (s1 _ _ ha)
          have rk := ro _ (List.mem_of_getElem? hrow)
          have g1 := rk.1.1
          refine ⟨a, _, rfl, SqT.of ha2, rfl, _, _, rfl, _, _, rfl, rfl, rfl, ?_⟩
          refine ⟨_, rfl, _, rfl, rw_.1, z, rfl, by omega, by omega, fun H4 s4 => ⟨_, rfl, rfl, ?_⟩⟩
          refine ⟨_, s4 _ _ hDi, by rw [List.length_map, List.length_map, List.length_take]; omega, fun c o e => ?_, ?_⟩
          · rw [upd_ne (ne_of_none e hD)]
            exact s4 _ _ (sm _ _ e)
          · have e2 : decide (V.str (tx (mk rw_.1 z)) = V.str (tx rw_.2)) = decide (mk rw_.1 z = rw_.2) := decide_eq_decide.mpr ⟨fun e => by
              have := congrArg (fun s : Str => s.cps.toList) (V.str.inj e)
              simpa using this, fun e => by rw [e]⟩
            rw [upd_same, take_snoc2 hrow, List.map_append, List.map_append]
            show some (HO.lst (_ ++ [V.bl _])) = some (HO.lst (_ ++ [V.bl _]))
            rw [e2]
        rintro H2 ⟨s2, hD2⟩
        refine ⟨D, _, rfl, SqL.of hD2, ?_⟩
        have e : ((rows.take us.length).map fun r => decide (mk r.1 z = r.2)).all id = rows.all fun r => decide (mk r.1 z = r.2) := by
          rw [lR, List.take_length, List.all_map]
          rfl
        rw [e]
        have s12 := s1.trans s2
        refine ⟨_, rfl, ?_⟩
        refine ⟨_, rfl, ?_⟩
        refine ite2 (fun h => ?_) (fun h => ?_)
        · rw [h] at q'
          have lE := hE.len
          refine ⟨_, rfl, e_, rfl, ⟨_, SqT.of (s12 _ _ he_)⟩, fun D' hD' => ?_⟩
          refine lc_it walk_tup (fun i H' => Same H2 H' ∧ H' D' = some (.lst (((fs.take i).map (hasF z)).map V.bl))) ⟨same_upd hD', upd_same⟩ (fun i H' _ hh => SqT.of (hh.1 _ _ (s12 _ _ he_))) ?_ ?_
          · rintro i x H4 H3 hi ⟨sm, hDi⟩ ⟨rfl, hx⟩
            obtain ⟨a, fc, rfl, hfc, ha⟩ := hE.get hx
            refine ⟨rfl, _, rfl, _, rfl, a, l, z, n, fc, rfl, sm _ _ (s12 _ _ ha), fo _ (List.mem_of_getElem? hfc), wz, n6, fun H5 s5 => ?_⟩
            refine ⟨_, s5 _ _ hDi, by rw [List.length_map, List.length_map, List.length_take]; omega, fun c o e => ?_, ?_⟩
            · rw [upd_ne (ne_of_none e hD')]
              exact s5 _ _ (sm _ _ e)
            · rw [upd_same, take_snoc2 hfc, List.map_append, List.map_append]
              rfl
          rintro H3 ⟨s3, hD3⟩
          refine ⟨D', _, rfl, SqL.of hD3, ?_⟩
          have e : ((fs.take ws.length).map (hasF z)).all id = fs.all (hasF z) := by
            rw [lE, List.take_length, List.all_map]
            rfl
          rw [e]
          exact q' _ (s12.trans s3)
        · rw [Bool.eq_false_iff.mpr h] at q'
          exact q' _ s12
def spShowI : Sp := fun vs H Q _ => ∃ (p r e : Addr) (z : List Nat), vs = [.ref p, .ref r, .ref e, .str (tx z)] ∧ Q (.bl false) H
abbrev nSi : List Str := ["board", "rows", "facts", "paper", "kind", "named", "bounds"]
theorem scSi : FnScope nSi ["board", "rows", "facts", "paper"] (defScope sShowI) := ⟨rfl, rfl, rfl, by decide +kernel, rfl, by decide +kernel, by decide +kernel⟩
theorem ok_showI {f : Addr} {fd : FuncData} (F : Fun K "shows_impossible" "shows_impossible" sShowI f fd) (T : TxW mg) (tt : mg "tuple" = none) : FnOk P w K mg base CX0 1 f fd ["board", "rows", "facts", "paper"] spShowI := by
  refine F.ok scSi (fun vs H Q E h => ?_) (fun cdv A outer s H vs Q E hr h => ?_)
  · obtain ⟨p, r, e, z, rfl, _⟩ := h
    rfl
  · obtain ⟨p, r, e, z, rfl, q⟩ := h
    refine ⟨_, pss_cons (ps_if (PW.pt (pw_or (pt_not (pt_val (pe_callB call_isi (by rfl) T.isi (by decide +kernel) (pa_cons (pv 3) (pa_cons (pe_bltn (v := .ty "tuple") (by rfl) tt (by decide +kernel) rfl) pa_nil)))))
        (pw_or (pt_cmpR op_ne (pe_callB call_len_seq (by rfl) T.len PySem.boot_len (pa_cons (pv 3) pa_nil)) pe_int (nomark _))
        (pw_or1 (pt_not (pt_val (pe_callB call_isi (by rfl) T.isi (by decide +kernel) (pa_cons (pe_ix ix_tup (pv 3) pe_int (fun _ _ => rfl)) (pa_cons (pe_bltn (v := .ty "str") (by rfl) T.str (by decide +kernel) rfl) pa_nil))))))))) (pss_one (ps_ret pe_bl)) pss_nil) pss_no, ?_⟩
    exact ⟨_, rfl, _, _, _, _, _, rfl, .ty "tuple", .base (.str _), kit_ty (r := false) (by decide +kernel), _, rfl, iteT q⟩
abbrev nHo : List Str := ["claim", "paper", "kind", "letters", "length", "first", "second", "board"]
theorem scHo : FnScope nHo ["claim", "paper"] (defScope sHolds) := ⟨rfl, rfl, rfl, by decide +kernel, rfl, by decide +kernel, by decide +kernel⟩
theorem ok_holdsQ {f C fA fW fB fT fR fF fS fI : Addr} {fd fdA fdW fdB fdT fdS fdI : FuncData} (F : Fun K "holds" "holds" sHolds f fd) (T : TxW mg) (tt : mg "tuple" = none) (TC : TxC K mg C) (tL : ∃ t, mg "MOST_LENGTH" = some (.int 6 t)) (tR : ∃ t, mg "MOST_ROWS" = some (.int 20 t)) (tF : ∃ t, mg "MOST_FACTS" = some (.int 4 t)) (mR : mg "is_row" = some (.ref fR)) (mF : mg "is_fact" = some (.ref fF))
    (GA : FnOk P w K mg base CX0 1 fA fdA ["letters"] (spAlpha K)) (DA : Df K mg "is_alphabet" fA fdA ["letters"]) (GW : FnOk P w K mg base CX0 1 fW fdW ["value", "least", "most"] (spWithin K)) (DW : Df K mg "is_integer_within" fW fdW ["value", "least", "most"])
    (GB : FnOk P w K mg base CX0 2 fB fdB ["self", "letters", "length"] (spInit C)) (MB : Mk K C fB) (bB : Binds K fdB ["self", "letters", "length"] [])
    (GTR : FnOk P w K mg base CX0 4 fT fdT ["board", "value", "most", "is_part"] (spTupP C fR RowAt RowOk)) (GTF : FnOk P w K mg base CX0 4 fT fdT ["board", "value", "most", "is_part"] (spTupP C fF FactAt FactOk)) (DT : Df K mg "is_tuple_of" fT fdT ["board", "value", "most", "is_part"])
    (GS : FnOk P w K mg base CX0 3 fS fdS ["board", "rows", "facts", "paper"] (spShowQ K C)) (DS : Df K mg "shows_possible" fS fdS ["board", "rows", "facts", "paper"])
    (GI : FnOk P w K mg base CX0 1 fI fdI ["board", "rows", "facts", "paper"] spShowI) (DI : Df K mg "shows_impossible" fI fdI ["board", "rows", "facts", "paper"]) :
    FnOk P w K mg base CX0 5 f fd ["claim", "paper"] (spHoldsQ K) := by
  refine F.ok scHo (fun vs H Q E h => ?_) (fun cdv A outer s H vs Q E hr h => ?_)
  · obtain ⟨c, r, e, im, l, n, us, ws, rows, fs, v, o, rfl, _⟩ := h
    rfl
  · obtain ⟨c, r, e, im, l, n, us, ws, rows, fs, v, o, rfl, hc, hA, n1, n6, hr_, hR, he_, hE, r20, f4, ro, fo, hs, hi, q⟩ := h
    have nd := scHo.nd
    have hline : sizeLine = 16777216 := sizeLine_eq
    have hr3 : Room 3 _ := hr.mono (by decide)
    have hr1 : Room 1 _ := hr.mono (by decide)
    have l26 := hA.2.1
    rw [tx_len] at l26
    obtain ⟨t6, m6⟩ := tL
    obtain ⟨t20, m20⟩ := tR
    obtain ⟨t4, m4⟩ := tF
    refine ⟨_, pss_cons (ps_if (PW.pt (pw_or (pt_not (pt_val (pe_callB call_isi (by rfl) T.isi (by decide +kernel) (pa_cons (pv 0) (pa_cons (pe_bltn (v := .ty "tuple") (by rfl) tt (by decide +kernel) rfl) pa_nil)))))
        (pw_or1 (pt_cmpR op_ne (pe_callB call_len_seq (by rfl) T.len PySem.boot_len (pa_cons (pv 0) pa_nil)) pe_int (nomark _))))) (pss_one (ps_ret pe_bl)) pss_nil)
      (pss_cons (ps_asg (pv 0) (pg_tup (by rfl) (pgs_cons (pg_name (i := 2) nd rfl (Or.inl rfl)) (pgs_cons (pg_name (i := 3) nd rfl (Or.inl rfl)) (pgs_cons (pg_name (i := 4) nd rfl (Or.inl rfl)) (pgs_cons (pg_name (i := 5) nd rfl (Or.inl rfl)) (pgs_cons (pg_name (i := 6) nd rfl (Or.inl rfl)) pgs_nil)))))))
      (pss_cons (ps_if (PW.pt (pw_or (pt_not (pt_val (pe_call GA hr1 (by rfl) DA.mg DA.kp DA.b .nil pass0 (pa_cons (pv 3) pa_nil))))
        (pw_or1 (pt_not (pt_val (pe_call GW hr1 (by rfl) DW.mg DW.kp DW.b .nil pass0 (pa_cons (pv 4) (pa_cons pe_int (pa_cons (pe_glob (v := .int 6) (by rfl) m6 ⟨_, rfl⟩) pa_nil))))))))) (pss_one (ps_ret pe_bl)) pss_nil)
      (pss_cons (ps_set (i := 7) nd rfl (Or.inl rfl) (pe_make MB GB hr3 (by rfl) TC.mgC bB .nil pass0 (pa_cons (pv 3) (pa_cons (pv 4) pa_nil))))
      (pss_cons (ps_if (pt_not (pt_val (pe_callB call_isi (by rfl) T.isi (by decide +kernel) (pa_cons (pv 2) (pa_cons (pe_bltn (v := .ty "str") (by rfl) T.str (by decide +kernel) rfl) pa_nil))))) (pss_one (ps_ret pe_bl)) pss_nil)
      (pss_cons (ps_if (pt_cmpR op_eq (pv 2) pe_str (nomark _)) (pss_one ps_never) pss_nil)
      (pss_cons (ps_if (PW.pt (pw_or (pt_not (pt_val (pe_call GTR hr (by rfl) DT.mg DT.kp DT.b .nil pass0 (pa_cons (pv 7) (pa_cons (pv 5) (pa_cons (pe_glob (v := .int 20) (by rfl) m20 ⟨_, rfl⟩) (pa_cons (pe_glob (v := .ref fR) (by rfl) mR rfl) pa_nil)))))))
        (pw_or1 (pt_not (pt_val (pe_call GTF hr (by rfl) DT.mg DT.kp DT.b .nil pass0 (pa_cons (pv 7) (pa_cons (pv 6) (pa_cons (pe_glob (v := .int 4) (by rfl) m4 ⟨_, rfl⟩) (pa_cons (pe_glob (v := .ref fF) (by rfl) mF rfl) pa_nil)))))))))) (pss_one (ps_ret pe_bl)) pss_nil)
      (pss_cons (ps_if (pt_cmpR op_eq (pv 2) pe_str (nomark _)) (pss_one (ps_ret (pe_call GS hr3 (by rfl) DS.mg DS.kp DS.b .nil pass0 (pa_cons (pv 7) (pa_cons (pv 5) (pa_cons (pv 6) (pa_cons (pv 1) pa_nil))))))) pss_nil)
      (pss_one (ps_ret (pe_and (pe_cmpR op_eq (pv 2) pe_str (nomark _)) (pe_one (pe_call GI hr1 (by rfl) DI.mg DI.kp DI.b .nil pass0 (pa_cons (pv 7) (pa_cons (pv 5) (pa_cons (pv 6) (pa_cons (pv 1) pa_nil)))))))))))))))), ?_⟩
    cases im with
    | false =>
      have hc : H c = some (.tup [.str (Str.ofString "possible"), .str (tx l), .int n, .ref r, .ref e]) := hc
      refine ⟨_, rfl, _, _, _, _, _, rfl, .ty "tuple", .base (.tup hc), kit_ty (r := true) (by decide +kernel), _, rfl, iteF ?_⟩
      refine ⟨_, rfl, c, _, rfl, .inr (SqT.of hc), rfl, _, rfl, iteF ?_⟩
      refine ⟨_, rfl, c, _, rfl, SqT.of hc, rfl, _, _, rfl, _, _, rfl, _, _, rfl, _, _, rfl, _, _, rfl, rfl, ?_⟩
      refine ⟨_, rfl, _, rfl, .inl ⟨_, rfl, by rw [tx_len]; omega, fun H1 s1 => ⟨_, rfl, ?_⟩⟩⟩
      rw [decide_eq_true hA]
      refine iteF ⟨_, rfl, _, _, _, rfl, .inl ⟨n, rfl, _, rfl, ?_⟩⟩
      rw [decide_eq_true (show 1 ≤ n ∧ n ≤ 6 from ⟨n1, n6⟩)]
      refine iteF ?_
      refine ⟨_, rfl, _, rfl, fun x dx hx hdx ne => ⟨x, dx, tx l, n, rfl, hA, n1, n6, upd_same, fun H2 b2 B2 => ⟨rfl, ?_⟩⟩⟩
      have s2 := s1.trans (made_same3 hx hdx b2)
      have bd : Bd C H2 x l n := ⟨B2, l26, n1, n6⟩
      refine ⟨_, rfl, _, _, _, _, _, rfl, .ty "str", .base (.str _), kit_ty (r := true) (by decide +kernel), _, rfl, iteF ?_⟩
      refine ⟨_, rfl, rfl, _, rfl, iteF ?_⟩
      refine ⟨_, rfl, _, rfl, x, r, l, n, 20, us, rows, rfl, bd, s2 _ _ hr_, rows_same hR s2, by omega, by decide, ro, fun H3 s3 => ⟨_, rfl, iteF ?_⟩⟩
      have s23 := s2.trans s3
      refine ⟨_, rfl, _, rfl, x, e, l, n, 4, ws, fs, rfl, bd.same s3, s23 _ _ he_, facts_same hE s23, by omega, by decide, fo, fun H4 s4 => ⟨_, rfl, iteF ?_⟩⟩
      have s24 := s23.trans s4
      refine ⟨_, rfl, rfl, _, rfl, iteT ?_⟩
      exact ⟨_, rfl, _, rfl, _, rfl, _, rfl, x, r, e, l, n, us, ws, rows, fs, v, o, rfl, bd.same (s3.trans s4), s24 _ _ hr_, rows_same hR s24, s24 _ _ he_, facts_same hE s24, r20, f4, ro, fo, hs.same s24, fun H5 s5 => q _ (s24.trans s5)⟩
    | true =>
      have hc : H c = some (.tup [.str (Str.ofString "impossible"), .str (tx l), .int n, .ref r, .ref e]) := hc
      refine ⟨_, rfl, _, _, _, _, _, rfl, .ty "tuple", .base (.tup hc), kit_ty (r := true) (by decide +kernel), _, rfl, iteF ?_⟩
      refine ⟨_, rfl, c, _, rfl, .inr (SqT.of hc), rfl, _, rfl, iteF ?_⟩
      refine ⟨_, rfl, c, _, rfl, SqT.of hc, rfl, _, _, rfl, _, _, rfl, _, _, rfl, _, _, rfl, _, _, rfl, rfl, ?_⟩
      refine ⟨_, rfl, _, rfl, .inl ⟨_, rfl, by rw [tx_len]; omega, fun H1 s1 => ⟨_, rfl, ?_⟩⟩⟩
      rw [decide_eq_true hA]
      refine iteF ⟨_, rfl, _, _, _, rfl, .inl ⟨n, rfl, _, rfl, ?_⟩⟩
      rw [decide_eq_true (show 1 ≤ n ∧ n ≤ 6 from ⟨n1, n6⟩)]
      refine iteF ?_
      refine ⟨_, rfl, _, rfl, fun x dx hx hdx ne => ⟨x, dx, tx l, n, rfl, hA, n1, n6, upd_same, fun H2 b2 B2 => ⟨rfl, ?_⟩⟩⟩
      have s2 := s1.trans (made_same3 hx hdx b2)
      have bd : Bd C H2 x l n := ⟨B2, l26, n1, n6⟩
      refine ⟨_, rfl, _, _, _, _, _, rfl, .ty "str", .base (.str _), kit_ty (r := true) (by decide +kernel), _, rfl, iteF ?_⟩
      refine ⟨_, rfl, rfl, _, rfl, iteF ?_⟩
      refine ⟨_, rfl, _, rfl, x, r, l, n, 20, us, rows, rfl, bd, s2 _ _ hr_, rows_same hR s2, by omega, by decide, ro, fun H3 s3 => ⟨_, rfl, iteF ?_⟩⟩
      have s23 := s2.trans s3
      refine ⟨_, rfl, _, rfl, x, e, l, n, 4, ws, fs, rfl, bd.same s3, s23 _ _ he_, facts_same hE s23, by omega, by decide, fo, fun H4 s4 => ⟨_, rfl, iteF ?_⟩⟩
      have s24 := s23.trans s4
      refine ⟨_, rfl, rfl, _, rfl, iteF ?_⟩
      refine ⟨_, rfl, rfl, _, rfl, iteT ?_⟩
      obtain ⟨z, rfl⟩ := hi rfl
      cases hs with
      | txt lz => exact ⟨_, rfl, _, rfl, _, rfl, _, rfl, x, r, e, z, rfl, q _ s24⟩
end
end Gm

/-! the third book's draws: one of a text, alphabets, words -/
namespace Gm
open PySem L2
abbrev sOne : Stmt := top 50
abbrev sSigns : Stmt := top 51
abbrev sText : Stmt := top 52
structure TxS (mg : Str → Option Value) : Prop where
  len : mg "len" = none
  range : mg "range" = none
def spSigns : Sp := fun vs H Q _ => ∃ (p : Addr) (lo hi : Int), vs = [.ref p, .int lo, .int hi] ∧ BowlAt H p ∧ 2 ≤ lo ∧ lo ≤ hi ∧ hi ≤ 26 ∧
  ∀ H' l, Stir p H H' → Alph (tx l) → lo ≤ l.length → l.length ≤ hi → Q (.str (tx l)) H'
def spOne : Sp := fun vs H Q _ => ∃ (p : Addr) (l : List Nat), vs = [.ref p, .str (tx l)] ∧ BowlAt H p ∧ 0 < l.length ∧ l.length ≤ 1000 ∧ ∀ H' c, Stir p H H' → c ∈ l → Q (.str (one c)) H'
def spText : Sp := fun vs H Q _ => ∃ (p : Addr) (l : List Nat) (n : Int), vs = [.ref p, .str (tx l), .int n] ∧ BowlAt H p ∧ 0 < l.length ∧ l.length ≤ 1000 ∧ 0 ≤ n ∧ n ≤ 6 ∧
  ∀ H' ws, Stir p H H' → ws.length = n.toNat → (∀ c ∈ ws, c ∈ l) → Q (.str (tx ws)) H'
section
variable {P : Program} {w : World} {K : PySem.W.Frag} {mg : Str → Option Value} {base : Heap}
abbrev nSg : List Str := ["_law_well_here", "_law_least", "_law_most", "_law_many", "_law_rest", "_law_turn", "_law_at"]
theorem scSg : FnScope nSg ["_law_well_here", "_law_least", "_law_most"] (defScope sSigns) := ⟨rfl, rfl, rfl, by decide +kernel, rfl, by decide +kernel, by decide +kernel⟩
theorem ok_signs {f fD : Addr} {fd fdD : FuncData} (F : Fun K "_law_signs" "_law_signs" sSigns f fd) (T : TxS mg) (GD : FnOk P w K mg base CX0 1 fD fdD ["_law_well_here", "_law_many"] spDip) (DD : Df K mg "_law_draw" fD fdD ["_law_well_here", "_law_many"]) :
    FnOk P w K mg base CX0 2 f fd ["_law_well_here", "_law_least", "_law_most"] spSigns := by
  refine F.ok scSg (fun vs H Q E h => ?_) (fun cdv A outer s H vs Q E hr h => ?_)
  · obtain ⟨p, lo, hi, rfl, _⟩ := h
    rfl
  · obtain ⟨p, lo, hi, rfl, hp, h2, hlh, h26, q⟩ := h
    have nd := scSg.nd
    have hline : sizeLine = 16777216 := sizeLine_eq
    refine ⟨_, pss_cons (ps_par (i := 3) (j := 4) (by rfl) nd rfl rfl (by decide) rfl rfl
        (pa_cons (pe_op op_add (pv 1) (pe_call GD hr (by rfl) DD.mg DD.kp DD.b .nil pass0 (pa_cons (pv 0) (pa_cons (pe_op op_add (pe_op op_sub (pv 2) (pv 1)) pe_int) pa_nil)))) (pa_cons pe_str pa_nil)) (by rfl))
      (pss_cons (ps_if (pt_cmpR op_eq (pe_call GD hr (by rfl) DD.mg DD.kp DD.b .nil pass0 (pa_cons (pv 0) (pa_cons pe_int pa_nil))) pe_int (nomark _))
        (pss_one (ps_ret (pe_slice sl_str (pv 4) po_none (po_some (pv 3))))) pss_nil)
      (pss_cons (ps_for PassesOwn.never rfl (pi_range1 (by rfl) T.range (pa_cons (pe_op op_sub pe_int (pv 3)) pa_nil)) (pg_name (i := 5) nd rfl (Or.inl rfl))
        (pss_cons (ps_set (i := 6) nd rfl (Or.inl rfl) (pe_call GD hr (by rfl) DD.mg DD.kp DD.b .nil pass0 (pa_cons (pv 0) (pa_cons (pe_callB call_len_str (by rfl) T.len PySem.boot_len (pa_cons (pv 4) pa_nil)) pa_nil))))
        (pss_one (ps_set (i := 4) nd rfl (Or.inl rfl) (pe_op op_add_str (pe_slice sl_str (pv 4) po_none (po_some (pv 6))) (pe_slice sl_str (pv 4) (po_some (pe_op op_add (pv 6) pe_int)) po_none))))))
      (pss_one (ps_ret (pv 4))))), ?_⟩
    refine ⟨_, rfl, _, rfl, _, rfl, _, rfl, _, _, rfl, rfl, _, _, rfl, rfl, p, _, rfl, hp, by omega, by omega, fun H1 d R1 d0 d1 => ?_⟩
    refine ⟨_, _, rfl, rfl, _, _, rfl, ?_⟩
    obtain ⟨m, hm⟩ : ∃ m : Nat, lo + d = (m : Int) := ⟨(lo + d).toNat, by omega⟩
    refine ⟨_, rfl, p, _, rfl, R1.2, by decide, by decide, fun H3 e R3 e0 e1 => ⟨rfl, _, rfl, ite2 (fun h => ?_) (fun h => ?_)⟩⟩
    · refine ⟨_, rfl, _, rfl, _, rfl, lowTxt, rfl, by have : lowTxt.length = 26 := rfl; omega, ?_⟩
      have hz : lowTxt.length = 26 := rfl
      have ec : cutS lowTxt none (some (lo + d)) = tx (low.take m) := by
        rw [hm]
        exact cut_pre lowTxt m (by omega)
      show Q (.str (cutS lowTxt none (some (lo + d)))) H3
      rw [ec]
      have ln : (low.take m).length = m := by rw [List.length_take, low_len]; omega
      exact q _ _ (R1.trans R3) (alph_take ⟨m, by omega⟩ (by show 2 ≤ m; omega)) (by rw [ln]; omega) (by rw [ln]; omega)
    · refine ⟨_, rfl, _, _, rfl, rfl, _, rfl, by omega, by omega, for_range (n := (26 - (lo + d)).toNat) (fun i σ H' => ∃ (lf : List Nat) (v5 v6 : Option V), σ = [some (.ref p), some (.int lo), some (.int hi), some (.int (lo + d)), some (.str (tx lf)), v5, v6] ∧ Stir p H H' ∧
        lf.Sublist low ∧ lf.length + i = 26) ⟨low, none, none, rfl, R1.trans R3, List.Sublist.refl _, low_len⟩ ?_ ?_⟩
      · rintro i σ H' hi' ⟨lf, v5, v6, rfl, R, sl, hlen⟩
        have tl : (tx lf).length = lf.length := tx_len lf
        refine ⟨_, rfl, _, rfl, _, rfl, by omega, p, _, rfl, R.2, by omega, by omega, fun H4 a R4 a0 a1 => ?_⟩
        obtain ⟨j, rfl⟩ := Int.eq_ofNat_of_zero_le a0
        have hj : j < lf.length := by omega
        refine ⟨_, rfl, _, rfl, _, rfl, tx lf, rfl, by omega, _, rfl, _, rfl, _, _, rfl, rfl, _, rfl, tx lf, rfl, by omega, _, _, rfl, rfl, ?_⟩
        have e1 : cutS (tx lf) none (some ((j : Nat) : Int)) = tx (lf.take j) := cut_pre _ _ (by omega)
        have e2 : cutS (tx lf) (some (((j : Nat) : Int) + 1)) none = tx (lf.drop (j + 1)) := cut_suf _ (j + 1) (by omega)
        have e3 : tx (lf.take j) ++ tx (lf.drop (j + 1)) = tx (lf.eraseIdx j) := by rw [List.eraseIdx_eq_take_drop_succ]; exact TL.ext_tl (TL.tl_append _ _)
        show (cutS (tx lf) none (some ((j : Nat) : Int))).length + (cutS (tx lf) (some (((j : Nat) : Int) + 1)) none).length ≤ sizeLine ∧ _
        rw [e1, e2]
        refine ⟨by rw [tx_len, tx_len, List.length_take, List.length_drop]; omega, lf.eraseIdx j, some (.int (0 + (i : Nat))), some (.int (j : Nat)), by rw [← e3]; rfl, R.trans R4, (List.eraseIdx_sublist lf j).trans sl, by rw [List.length_eraseIdx_of_lt hj]; omega⟩
      · rintro σ H' ⟨lf, v5, v6, rfl, R, sl, hlen⟩
        exact ⟨_, rfl, q _ _ R (alph_of (low_sorted.sublist sl) (fun c hc => sl.subset hc) (by omega) (by omega)) (by omega) (by omega)⟩
theorem scOf : FnScope ["_law_well_here", "_law_things"] ["_law_well_here", "_law_things"] (defScope sOne) := ⟨rfl, rfl, rfl, by decide +kernel, rfl, by decide +kernel, by decide +kernel⟩
theorem ok_one {f fD : Addr} {fd fdD : FuncData} (F : Fun K "_law_one" "_law_one" sOne f fd) (T : TxS mg) (GD : FnOk P w K mg base CX0 1 fD fdD ["_law_well_here", "_law_many"] spDip) (DD : Df K mg "_law_draw" fD fdD ["_law_well_here", "_law_many"]) :
    FnOk P w K mg base CX0 2 f fd ["_law_well_here", "_law_things"] spOne := by
  refine F.ok scOf (fun vs H Q E h => ?_) (fun cdv A outer s H vs Q E hr h => ?_)
  · obtain ⟨p, l, rfl, _⟩ := h
    rfl
  · obtain ⟨p, l, rfl, hp, l0, l1, q⟩ := h
    have hline : sizeLine = 16777216 := sizeLine_eq
    have tl : (tx l).length = l.length := tx_len l
    refine ⟨_, pss_one (ps_ret (pe_ix ix_str (pv 1) (pe_call GD hr (by rfl) DD.mg DD.kp DD.b .nil pass0 (pa_cons (pv 0) (pa_cons (pe_callB call_len_str (by rfl) T.len PySem.boot_len (pa_cons (pv 1) pa_nil)) pa_nil))) (fun _ _ => rfl))), ?_⟩
    refine ⟨_, rfl, _, rfl, _, rfl, _, rfl, by omega, p, _, rfl, hp, by omega, by omega, fun H1 d R d0 d1 => ?_⟩
    obtain ⟨j, rfl⟩ := Int.eq_ofNat_of_zero_le d0
    have hj : j < l.length := by omega
    exact ⟨tx l, _, l[j], rfl, rfl, by omega, atI_nat (List.getElem?_eq_getElem hj), q H1 _ R (List.getElem_mem hj)⟩
abbrev nW : List Str := ["_law_well_here", "_law_signs_here", "_law_size", "_law_few", "_law_k"]
theorem scWd : FnScope nW ["_law_well_here", "_law_signs_here", "_law_size"] (defScope sText) := ⟨rfl, rfl, rfl, by decide +kernel, rfl, by decide +kernel, by decide +kernel⟩
theorem ok_text {f fD fO : Addr} {fd fdD fdO : FuncData} (F : Fun K "_law_text" "_law_text" sText f fd) (T : TxS mg) (GD : FnOk P w K mg base CX0 1 fD fdD ["_law_well_here", "_law_many"] spDip) (DD : Df K mg "_law_draw" fD fdD ["_law_well_here", "_law_many"])
    (GO : FnOk P w K mg base CX0 2 fO fdO ["_law_well_here", "_law_things"] spOne) (DO : Df K mg "_law_one" fO fdO ["_law_well_here", "_law_things"]) :
    FnOk P w K mg base CX0 3 f fd ["_law_well_here", "_law_signs_here", "_law_size"] spText := by
  refine F.ok scWd (fun vs H Q E h => ?_) (fun cdv A outer s H vs Q E hr h => ?_)
  · obtain ⟨p, l, n, rfl, _⟩ := h
    rfl
  · obtain ⟨p, l, n, rfl, hp, l0, l1, n0, n6, q⟩ := h
    have nd := scWd.nd
    have hr1 : Room 1 _ := hr.mono (by decide)
    have hline : sizeLine = 16777216 := sizeLine_eq
    refine ⟨_, pss_cons (ps_set (i := 3) nd rfl (Or.inr rfl) (pv 1))
      (C8.pss_cut (ps_if (pt_cmpR op_eq (pe_call GD hr1 (by rfl) DD.mg DD.kp DD.b .nil pass0 (pa_cons (pv 0) (pa_cons pe_int pa_nil))) pe_int (nomark _))
        (pss_one (ps_set (i := 3) nd rfl (Or.inr rfl) (pe_op op_add_str (pe_call GO hr (by rfl) DO.mg DO.kp DO.b .nil pass0 (pa_cons (pv 0) (pa_cons (pv 1) pa_nil))) (pe_call GO hr (by rfl) DO.mg DO.kp DO.b .nil pass0 (pa_cons (pv 0) (pa_cons (pv 1) pa_nil)))))) pss_nil)
      (pss_one (ps_ret (pe_join pe_str (pe_lc (own := [("_law_k", 4)]) (g := gName 4) (by rfl) nd (pi_range1 (by rfl) T.range (pa_cons (pv 2) pa_nil)) (blkOk_by (own := [("_law_k", 4)]) (N := nW) (sc := defScope sText) (by decide +kernel))
        (fun _ _ _ _ _ => pg_name (i := 4) nd rfl (Or.inl rfl)) (fun _ _ _ _ _ => pts_nil)
        (fun _ _ _ _ _ => pe_call GO hr (by rfl) DO.mg DO.kp DO.b .nil pass0 (pa_cons (pv 0) (pa_cons (pv 3) pa_nil)))))))), ?_⟩
    refine ⟨_, rfl, fun σ' H' => ∃ zs : List Nat, σ' = [some (.ref p), some (.str (tx l)), some (.int n), some (.str (tx zs)), none] ∧ Stir p H H' ∧ 0 < zs.length ∧ zs.length ≤ 1000 ∧ ∀ c ∈ zs, c ∈ l, ?_, ?_⟩
    · refine ⟨_, rfl, p, _, rfl, hp, by decide, by decide, fun H1 d R d0 d1 => ⟨rfl, _, rfl, ?_⟩⟩
      refine ite2 (fun h => ?_) (fun h => ?_)
      · refine ⟨_, rfl, _, rfl, p, l, rfl, R.2, l0, l1, fun H2 a R2 ha => ?_⟩
        refine ⟨_, rfl, _, rfl, p, l, rfl, R2.2, l0, l1, fun H3 b R3 hb => ?_⟩
        refine ⟨_, _, rfl, rfl, by show 1 + 1 ≤ sizeLine; omega, [a, b], ?_, (R.trans R2).trans R3, by show 0 < 2; omega, by show 2 ≤ 1000; omega, fun c hc => ?_⟩
        · have e : one a ++ one b = tx [a, b] := TL.ext_tl (TL.tl_append _ _)
          rw [← e]
          rfl
        · simp only [List.mem_cons, List.not_mem_nil, or_false] at hc
          rcases hc with rfl | rfl
          · exact ha
          · exact hb
      · exact ⟨l, rfl, R, l0, l1, fun c hc => hc⟩
    · rintro σ' H' ⟨zs, rfl, R, z0, z1, hz⟩
      refine ⟨⟨_, rfl⟩, _, rfl, n, rfl, by omega, by omega, fun D hD => ?_⟩
      refine lc_range (lo := 0) (n := n.toNat) (fun i H2 => ∃ ws : List Nat, Stir p H H2 ∧ (∀ b o, b ≠ p → b ≠ D → H' b = some o → H2 b = some o) ∧ H2 D = some (.lst (ws.map fun c => V.str (one c))) ∧ ws.length = i ∧ ∀ c ∈ ws, c ∈ l)
        ⟨[], R.same (same_upd hD), fun b o _ n2 e => by rw [upd_ne n2]; exact e, upd_same, rfl, fun c hc => by cases hc⟩ ?_ ?_
      · rintro i H2 hi ⟨ws, R2, k2, h2, hw, hl⟩
        have nDp : D ≠ p := by
          obtain ⟨x, y, z, e⟩ := R.2
          exact fun q => by rw [q, e] at hD; cases hD
        refine ⟨rfl, ⟨_, rfl, _, rfl, p, zs, rfl, R2.2, z0, z1, fun H3 c R3 hc => ⟨_, R3.1 D _ nDp h2, by rw [List.length_map]; omega, ws ++ [c], ?_, fun b o n1 n2 e => ?_, ?_, by rw [List.length_append, hw]; rfl, fun a ha => ?_⟩⟩⟩
        · refine ⟨fun b o n e => ?_, ?_⟩
          · rw [upd_ne]
            · exact R3.1 b o n (R2.1 b o n e)
            · intro q
              have := R.1 b o n e
              rw [q, hD] at this
              cases this
          · obtain ⟨x, y, z, e⟩ := R3.2
            exact ⟨x, y, z, by rw [upd_ne nDp.symm]; exact e⟩
        · rw [upd_ne n2]
          exact R3.1 b o n1 (k2 b o n1 n2 e)
        · rw [upd_same, List.map_append]
          rfl
        · rcases List.mem_append.mp ha with ha | ha
          · exact hl a ha
          · rw [List.mem_singleton.mp ha]
            exact hz c hc
      · rintro H2 ⟨ws, R2, k2, h2, hw, hl⟩
        refine ⟨_, D, ws.map one, rfl, rfl, .inl (SqL.of (by rw [List.map_map]; exact h2)), ?_, ?_⟩
        · rw [sum_one, List.length_map]
          show ws.length + ws.length * 0 ≤ 16777216
          omega
        · show Q (.str (Txt.join (Str.ofString "") (ws.map one))) H2
          rw [join_one]
          exact q H2 ws R2 hw hl
end
end Gm

/-! marks by ranks: the third book's way to work a reply out -/
namespace Gm
def PR (a : Nat) (p : Nat × Nat) : Bool := decide (p.1 = a) && !decide (a = p.2)
def PF (a : Nat) (p : Nat × Nat) : Bool := decide (p.2 = a) && !decide (a = p.1)
theorem go_rank : ∀ (ps : List (Nat × Nat)) (u : List Nat) (k a b : Nat), ps[k]? = some (a, b) → (go ps u)[k]? = some (if a = b then 50 else if (ps.take (k + 1)).countP (PR a) ≤ u.count a then 49 else 48)
  | [], _, _, _, _, h => by simp at h
  | (c, d) :: r, u, 0, a, b, h => by
    obtain ⟨rfl, rfl⟩ : c = a ∧ d = b := by simpa using h
    rw [go]
    by_cases e : c = d
    · rw [if_pos e, if_pos e]
      rfl
    · rw [if_neg e, if_neg e]
      have n1 : (List.take (0 + 1) ((c, d) :: r)).countP (PR c) = 1 := by simp [PR, e]
      rw [n1]
      by_cases m : c ∈ u
      · rw [if_pos m, if_pos (show 1 ≤ u.count c from mem_cnt.mp m)]
        rfl
      · rw [if_neg m, if_neg (fun z : 1 ≤ u.count c => m (mem_cnt.mpr z))]
        rfl
  | (c, d) :: r, u, k + 1, a, b, h => by
    have h : r[k]? = some (a, b) := by simpa using h
    rw [go, List.take_succ_cons, List.countP_cons]
    by_cases e : c = d
    · rw [if_pos e]
      have n0 : PR a (c, d) = false := by
        subst e
        unfold PR
        by_cases q : c = a <;> simp [q] 
      rw [n0, List.getElem?_cons_succ, go_rank r u k a b h]
      rfl
    · rw [if_neg e]
      by_cases ab : a = b
      · by_cases m : c ∈ u
        · rw [if_pos m, List.getElem?_cons_succ, go_rank r _ k a b h, if_pos ab, if_pos ab]
        · rw [if_neg m, List.getElem?_cons_succ, go_rank r _ k a b h, if_pos ab, if_pos ab]
      have pos : 0 < (r.take (k + 1)).countP (PR a) := List.countP_pos_iff.mpr ⟨(a, b), List.mem_of_getElem? (i := k) (by rw [List.getElem?_take_of_lt (by omega)]; exact h), by simp [PR, ab]⟩
      by_cases m : c ∈ u
      · rw [if_pos m, List.getElem?_cons_succ, go_rank r _ k a b h, if_neg ab, if_neg ab, cnt_erase]
        have mc := mem_cnt.mp m
        by_cases q : c = a
        · subst q
          have n1 : PR c (c, d) = true := by simp [PR, e]
          rw [n1, if_pos rfl, if_pos rfl]
          by_cases z : (r.take (k + 1)).countP (PR c) + 1 ≤ u.count c
          · rw [if_pos z, if_pos (by omega)]
          · rw [if_neg z, if_neg (by omega)]
        · have n1 : PR a (c, d) = false := by simp [PR, q]
          rw [n1, if_neg q]
          rfl
      · rw [if_neg m, List.getElem?_cons_succ, go_rank r _ k a b h, if_neg ab, if_neg ab]
        by_cases q : c = a
        · subst q
          have c0 : ¬ 0 < u.count c := fun z => m (mem_cnt.mpr z)
          rw [if_neg (by omega), if_neg (by omega)]
        · have n1 : PR a (c, d) = false := by simp [PR, q]
          rw [n1]
          rfl
theorem un_cnt (a : Nat) : ∀ g w : List Nat, (un g w).count a = (g.zip w).countP (PF a)
  | [], _ => rfl
  | _ :: _, [] => rfl
  | c :: g, d :: w => by
    rw [un_cons, List.zip_cons_cons, List.countP_cons, ← un_cnt a g w]
    by_cases e : c = d
    · rw [if_pos e]
      have n0 : PF a (c, d) = false := by
        subst e
        unfold PF
        by_cases q : c = a <;> simp [q]
      rw [n0]
      rfl
    · rw [if_neg e, cnt_cons]
      by_cases q : d = a
      · subst q
        have : ¬ d = c := fun z => e z.symm
        simp [PF, this]
      · simp [PF, q]
theorem mk_rank {g w : List Nat} {k a b : Nat} (h : (g.zip w)[k]? = some (a, b)) : (mk g w)[k]? = some (if a = b then 50 else if ((g.zip w).take (k + 1)).countP (PR a) ≤ (g.zip w).countP (PF a) then 49 else 48) := by
  unfold mk
  rw [go_rank _ _ k a b h, un_cnt]
end Gm

/-! the third book's reply: marks by ranks -/
namespace Gm
open PySem L2
abbrev sReply : Stmt := top 54
theorem take_snoc1 {α : Type} {xs : List α} {i : Nat} {x : α} (h : xs[i]? = some x) : xs.take (i + 1) = xs.take i ++ [x] := by
  rw [List.take_succ_eq_append_getElem (List.getElem?_eq_some_iff.mp h).1, (List.getElem?_eq_some_iff.mp h).2]
theorem cntP_snoc {ps : List (Nat × Nat)} {j : Nat} {x : Nat × Nat} (p : Nat × Nat → Bool) (h : ps[j]? = some x) : (ps.take (j + 1)).countP p = (ps.take j).countP p + if p x = true then 1 else 0 := by
  rw [take_snoc1 h, List.countP_append, List.countP_singleton]
section
variable {P : Program} {w : World} {K : PySem.W.Frag} {mg : Str → Option Value} {base : Heap}
abbrev nRp : List Str := ["_law_asked", "_law_hidden", "_law_found", "_law_k", "_law_own", "_law_mark", "_law_rank", "_law_free", "_law_j"]
theorem scRp : FnScope nRp ["_law_asked", "_law_hidden"] (defScope sReply) := ⟨rfl, rfl, rfl, by decide +kernel, rfl, by decide +kernel, by decide +kernel⟩
theorem ok_reply {f : Addr} {fd : FuncData} (F : Fun K "_law_reply" "_law_reply" sReply f fd) (len : mg "len" = none) (range : mg "range" = none) : FnOk P w K mg base CX0 1 f fd ["_law_asked", "_law_hidden"] spMarksOf := by
  refine F.ok scRp (fun vs H Q E h => ?_) (fun cdv A outer s H vs Q E hr h => ?_)
  · obtain ⟨g, w, rfl, _⟩ := h
    rfl
  · obtain ⟨g, w', rfl, hl, h6, q⟩ := h
    have nd := scRp.nd
    have hline : sizeLine = 16777216 := sizeLine_eq
    refine ⟨_, pss_cons (ps_set (i := 2) nd rfl (Or.inl rfl) pe_str)
      (pss_cons (ps_for PassesOwn.never rfl (pi_range1 (by rfl) range (pa_cons (pe_callB call_len_str (by rfl) len PySem.boot_len (pa_cons (pv 0) pa_nil)) pa_nil)) (pg_name (i := 3) nd rfl (Or.inl rfl))
        (pss_cons (ps_asg (pe_tup (pa_cons (pe_ix ix_str (pv 0) (pv 3) (fun _ _ => rfl)) (pa_cons pe_str pa_nil))) (pg_tup (by rfl) (pgs_cons (pg_name (i := 4) nd rfl (Or.inr rfl)) (pgs_cons (pg_name (i := 5) nd rfl (Or.inl rfl)) pgs_nil))))
        (pss_cons (ps_if (pt_cmpR op_ne (pe_ix ix_str (pv 1) (pv 3) (fun _ _ => rfl)) (pv 4) (nomark _))
          (pss_cons (ps_set (i := 6) nd rfl (Or.inl rfl) (pe_callB call_len_seq (by rfl) len PySem.boot_len (pa_cons (pe_lc (own := [("_law_j", 8)]) (g := gName 8) (by rfl) nd
              (pi_range1 (by rfl) range (pa_cons (pe_op op_add (pv 3) pe_int) pa_nil)) (blkOk_by (own := [("_law_j", 8)]) (N := nRp) (sc := defScope sReply) (by decide +kernel))
              (fun _ _ _ _ _ => pg_name (i := 8) nd rfl (Or.inl rfl))
              (fun _ _ _ _ _ => pts_one (pt_chain op_eq op_ne (pe_ix ix_str (pv 0) (pv 8) (fun _ _ => rfl)) (pv 4) (pe_ix ix_str (pv 1) (pv 8) (fun _ _ => rfl))))
              (fun _ _ _ _ _ => pv 8)) pa_nil)))
          (pss_cons (ps_set (i := 7) nd rfl (Or.inl rfl) (pe_callB call_len_seq (by rfl) len PySem.boot_len (pa_cons (pe_lc (own := [("_law_j", 8)]) (g := gName 8) (by rfl) nd
              (pi_range1 (by rfl) range (pa_cons (pe_callB call_len_str (by rfl) len PySem.boot_len (pa_cons (pv 1) pa_nil)) pa_nil)) (blkOk_by (own := [("_law_j", 8)]) (N := nRp) (sc := defScope sReply) (by decide +kernel))
              (fun _ _ _ _ _ => pg_name (i := 8) nd rfl (Or.inl rfl))
              (fun _ _ _ _ _ => pts_one (pt_chain op_eq op_ne (pe_ix ix_str (pv 1) (pv 8) (fun _ _ => rfl)) (pv 4) (pe_ix ix_str (pv 0) (pv 8) (fun _ _ => rfl))))
              (fun _ _ _ _ _ => pv 8)) pa_nil)))
          (pss_one (ps_set (i := 5) nd rfl (Or.inl rfl) (pe_ifExp (pt_cmpR op_le (pv 6) (pv 7) (nomark _)) pe_str pe_str))))) pss_nil)
        (pss_one (ps_set (i := 2) nd rfl (Or.inl rfl) (pe_op op_add_str (pv 2) (pv 5)))))))
      (pss_one (ps_ret (pv 2)))), ?_⟩
    have tg : (tx g).length = g.length := tx_len g
    have tw : (tx w').length = w'.length := tx_len w'
    have zl : (g.zip w').length = g.length := by rw [List.length_zip]; omega
    have ml : (mk g w').length = g.length := mk_len hl
    refine ⟨_, rfl, _, rfl, by omega, _, rfl, by omega, by omega, for_range (n := g.length) (fun i σ H' => ∃ v3 v4 v5 v6 v7 : Option V, σ = [some (.str (tx g)), some (.str (tx w')), some (.str (tx ((mk g w').take i))), v3, v4, v5, v6, v7, none] ∧ Same H H') ⟨_, _, _, _, _, rfl, Same.refl H⟩ ?_ ?_⟩
    · rintro i σ H1 hi ⟨v3, v4, v5, v6, v7, rfl, sm⟩
      rw [show (0 : Int) + (i : Nat) = (i : Nat) from Int.zero_add _]
      have hw : i < w'.length := by omega
      have hz : (g.zip w')[i]? = some (g[i], w'[i]) := zip_at (List.getElem?_eq_getElem hi) (List.getElem?_eq_getElem hw)
      have tk : (mk g w').take (i + 1) = (mk g w').take i ++ [if g[i] = w'[i] then 50 else if ((g.zip w').take (i + 1)).countP (PR g[i]) ≤ (g.zip w').countP (PF g[i]) then 49 else 48] := take_snoc1 (mk_rank hz)
      refine ⟨_, rfl, _, rfl, tx g, _, g[i], rfl, rfl, by omega, atI_nat (List.getElem?_eq_getElem hi), by show 2 ≤ sizeLine; decide, fun T zT => ?_⟩
      have s1 := sm.trans (same_upd (o := .tup [.str (one g[i]), .str (Str.ofString "2")]) zT)
      refine ⟨T, _, rfl, SqT.of upd_same, rfl, _, _, rfl, _, _, rfl, rfl, ?_⟩
      generalize upd H1 T (.tup [.str (one g[i]), .str (Str.ofString "2")]) = H2 at s1
      refine ⟨_, rfl, _, rfl, tx w', _, w'[i], rfl, rfl, by omega, atI_nat (List.getElem?_eq_getElem hw), _, rfl, rfl, _, rfl, ?_⟩
      have e2 : decide (V.str (one w'[i]) = V.str (one g[i])) = decide (g[i] = w'[i]) := decide_eq_decide.mpr ⟨fun e => (ones_inj (V.str.inj e)).symm, fun e => by rw [e]⟩
      rw [e2]
      have le : ((mk g w').take i).length ≤ 6 := by rw [List.length_take]; omega
      refine ite2 (fun h => ?_) (fun h => ?_)
      · have ne : ¬ g[i] = w'[i] := fun e => by rw [decide_eq_true e] at h; cases h
        rw [if_neg ne] at tk
        refine ⟨_, rfl, _, _, rfl, rfl, _, rfl, by omega, by omega, fun D hD => ?_⟩
        refine lc_range (lo := 0) (n := i + 1) (fun j H' => Same H2 H' ∧ ∃ xs, H' D = some (.lst xs) ∧ xs.length = ((g.zip w').take j).countP (PR g[i])) ⟨same_upd hD, [], upd_same, rfl⟩ ?_ ?_
        · rintro j H4 hj ⟨s4, xs, hx, lx⟩
          have hj1 : j < g.length := by omega
          have hj2 : j < w'.length := by omega
          have hzj : (g.zip w')[j]? = some (g[j], w'[j]) := zip_at (List.getElem?_eq_getElem hj1) (List.getElem?_eq_getElem hj2)
          have cs := cntP_snoc (PR g[i]) hzj
          have le : ((g.zip w').take j).countP (PR g[i]) ≤ 6 := Nat.le_trans List.countP_le_length (by rw [List.length_take]; omega)
          rw [show (0 : Int) + (j : Nat) = (j : Nat) from Int.zero_add _]
          refine ⟨rfl, ?_⟩
          refine ⟨_, rfl, _, rfl, tx g, _, g[j], rfl, rfl, by omega, atI_nat (List.getElem?_eq_getElem _), _, rfl, rfl, _, rfl, ?_⟩
          have d1 : decide (V.str (one g[j]) = V.str (one g[i])) = decide (g[j] = g[i]) := decide_eq_decide.mpr ⟨fun e => ones_inj (V.str.inj e), fun e => by rw [e]⟩
          have d2 : decide (V.str (one g[i]) = V.str (one w'[j])) = decide (g[i] = w'[j]) := decide_eq_decide.mpr ⟨fun e => ones_inj (V.str.inj e), fun e => by rw [e]⟩
          have px : PR g[i] (g[j], w'[j]) = (decide (g[j] = g[i]) && !decide (g[i] = w'[j])) := rfl
          rw [d1]
          refine ite2 (fun h => ?_) (fun h => ?_)
          · refine ⟨_, rfl, _, rfl, tx w', _, w'[j], rfl, rfl, by omega, atI_nat (List.getElem?_eq_getElem _), rfl, _, rfl, ?_⟩
            rw [d2]
            refine ite2 (fun h' => ?_) (fun h' => ?_)
            · rw [px, h, h'] at cs
              refine ⟨_, rfl, xs, hx, by omega, fun b o e => ?_, _, upd_same, by rw [List.length_append, lx, cs]; rfl⟩
              rw [upd_ne (ne_of_none e hD)]
              exact s4 b o e
            · have h' := Bool.eq_false_iff.mpr h'
              rw [px, h, h'] at cs
              exact ⟨s4, xs, hx, by rw [lx, cs]; rfl⟩
          · have h := Bool.eq_false_iff.mpr h
            rw [px, h] at cs
            exact ⟨_, rfl, iteF ⟨s4, xs, hx, by rw [lx, cs]; rfl⟩⟩
        rintro H3 ⟨s3, xss3, hx3, lx3⟩
        refine ⟨D, _, rfl, .inl (SqL.of hx3), ?_⟩
        refine ⟨_, rfl, _, rfl, by omega, _, rfl, by omega, by omega, fun D2 hD2 => ?_⟩
        refine lc_range (lo := 0) (n := w'.length) (fun j H' => Same H3 H' ∧ ∃ xs, H' D2 = some (.lst xs) ∧ xs.length = ((g.zip w').take j).countP (PF g[i])) ⟨same_upd hD2, [], upd_same, rfl⟩ ?_ ?_
        · rintro j H4 hj ⟨s4, xs, hx, lx⟩
          have hj1 : j < g.length := by omega
          have hj2 : j < w'.length := by omega
          have hzj : (g.zip w')[j]? = some (g[j], w'[j]) := zip_at (List.getElem?_eq_getElem hj1) (List.getElem?_eq_getElem hj2)
          have cs := cntP_snoc (PF g[i]) hzj
          have le : ((g.zip w').take j).countP (PF g[i]) ≤ 6 := Nat.le_trans List.countP_le_length (by rw [List.length_take]; omega)
          rw [show (0 : Int) + (j : Nat) = (j : Nat) from Int.zero_add _]
          refine ⟨rfl, ?_⟩
          refine ⟨_, rfl, _, rfl, tx w', _, w'[j], rfl, rfl, by omega, atI_nat (List.getElem?_eq_getElem _), _, rfl, rfl, _, rfl, ?_⟩
          have d1 : decide (V.str (one w'[j]) = V.str (one g[i])) = decide (w'[j] = g[i]) := decide_eq_decide.mpr ⟨fun e => ones_inj (V.str.inj e), fun e => by rw [e]⟩
          have d2 : decide (V.str (one g[i]) = V.str (one g[j])) = decide (g[i] = g[j]) := decide_eq_decide.mpr ⟨fun e => ones_inj (V.str.inj e), fun e => by rw [e]⟩
          have px : PF g[i] (g[j], w'[j]) = (decide (w'[j] = g[i]) && !decide (g[i] = g[j])) := rfl
          rw [d1]
          refine ite2 (fun h => ?_) (fun h => ?_)
          · refine ⟨_, rfl, _, rfl, tx g, _, g[j], rfl, rfl, by omega, atI_nat (List.getElem?_eq_getElem _), rfl, _, rfl, ?_⟩
            rw [d2]
            refine ite2 (fun h' => ?_) (fun h' => ?_)
            · rw [px, h, h'] at cs
              refine ⟨_, rfl, xs, hx, by omega, fun b o e => ?_, _, upd_same, by rw [List.length_append, lx, cs]; rfl⟩
              rw [upd_ne (ne_of_none e hD2)]
              exact s4 b o e
            · have h' := Bool.eq_false_iff.mpr h'
              rw [px, h, h'] at cs
              exact ⟨s4, xs, hx, by rw [lx, cs]; rfl⟩
          · have h := Bool.eq_false_iff.mpr h
            rw [px, h] at cs
            exact ⟨_, rfl, iteF ⟨s4, xs, hx, by rw [lx, cs]; rfl⟩⟩
        rintro H5 ⟨s5, xss5, hx5, lx5⟩
        refine ⟨D2, _, rfl, .inl (SqL.of hx5), ?_⟩
        have tkz : (g.zip w').take w'.length = g.zip w' := List.take_of_length_le (by omega)
        rw [tkz] at lx5
        have s15 := s1.trans (s3.trans s5)
        refine ⟨_, rfl, _, rfl, _, _, rfl, rfl, _, rfl, ?_⟩
        refine ite2 (fun h' => ?_) (fun h' => ?_)
        · have hc : ((g.zip w').take (i + 1)).countP (PR g[i]) ≤ (g.zip w').countP (PF g[i]) := by
            have := of_decide_eq_true h'
            omega
          rw [if_pos hc] at tk
          have et : tx ((mk g w').take (i + 1)) = tx ((mk g w').take i) ++ Str.ofString "1" := by
            rw [tk, ← tx_app]
            rfl
          rw [et]
          exact ⟨_, rfl, _, rfl, _, _, rfl, rfl, by rw [tx_len]; show _ + 1 ≤ sizeLine; omega, _, _, _, _, _, rfl, s15⟩
        · have hc : ¬ ((g.zip w').take (i + 1)).countP (PR g[i]) ≤ (g.zip w').countP (PF g[i]) := fun c => h' (decide_eq_true (by omega))
          rw [if_neg hc] at tk
          have et : tx ((mk g w').take (i + 1)) = tx ((mk g w').take i) ++ Str.ofString "0" := by
            rw [tk, ← tx_app]
            rfl
          rw [et]
          exact ⟨_, rfl, _, rfl, _, _, rfl, rfl, by rw [tx_len]; show _ + 1 ≤ sizeLine; omega, _, _, _, _, _, rfl, s15⟩
      · have eq : g[i] = w'[i] := by
          refine Decidable.byContradiction fun e => h ?_
          rw [decide_eq_false e]
          rfl
        rw [if_pos eq] at tk
        have et : tx ((mk g w').take (i + 1)) = tx ((mk g w').take i) ++ Str.ofString "2" := by
          rw [tk, ← tx_app]
          rfl
        rw [et]
        exact ⟨_, rfl, _, rfl, _, _, rfl, rfl, by rw [tx_len]; show _ + 1 ≤ sizeLine; omega, _, _, _, _, _, rfl, s1⟩
    · rintro σ H1 ⟨v3, v4, v5, v6, v7, rfl, sm⟩
      refine ⟨_, rfl, ?_⟩
      have e : (mk g w').take g.length = mk g w' := List.take_of_length_le (by omega)
      rw [e]
      exact q _ sm
end
end Gm

/-! k71: all words, drawn facts, what is due -/
namespace Gm
open PySem L2
abbrev sEvery : Stmt := top 53
abbrev sTruth : Stmt := top 55
abbrev sHas : Stmt := top 56
abbrev sDue : Stmt := top 57
abbrev txs (ws : List (List Nat)) : List V := ws.map fun w => .str (tx w)
theorem txs_app (a b : List (List Nat)) : txs (a ++ b) = txs a ++ txs b := List.map_append
theorem txs_get {ws : List (List Nat)} {i : Nat} {x : V} (h : (txs ws)[i]? = some x) : ∃ z, x = .str (tx z) ∧ ws[i]? = some z := by
  rw [List.getElem?_map] at h
  obtain ⟨w, hw, rfl⟩ := Option.map_eq_some_iff.mp h
  exact ⟨w, rfl, hw⟩
theorem take_snoc {α : Type} {xs : List α} {i : Nat} {x : α} (h : xs[i]? = some x) : xs.take (i + 1) = xs.take i ++ [x] := by
  rw [List.take_succ_eq_append_getElem (List.getElem?_eq_some_iff.mp h).1, (List.getElem?_eq_some_iff.mp h).2]
def spEvery : Sp := fun vs H Q _ => ∃ (l : List Nat) (n : Int), vs = [.str (tx l), .int n] ∧ 0 < l.length ∧ 0 ≤ n ∧ n ≤ 6 ∧ l.length ^ n.toNat ≤ 256 ∧ ∀ H' D, Same H H' → H D = none → H' D = some (.lst (txs (wds l n.toNat))) → Q (.ref D) H'
def spTruth : Sp := fun vs H Q _ => ∃ (p : Addr) (l : List Nat) (n : Int), vs = [.ref p, .str (tx l), .int n] ∧ BowlAt H p ∧ 0 < l.length ∧ l.length ≤ 26 ∧ 1 ≤ n ∧ n ≤ 6 ∧ ∀ H' a f, Stir p H H' → FactAt H' a f → FactOk l n f → Q (.ref a) H'
def spDue (K : PySem.W.Frag) : Sp := fun vs H Q _ => ∃ (A B : Addr) (l : List Nat) (n : Int) (us ws : List V) (rows : List Row) (fs : List Fact) (v : V) (o : Option (List Nat)), vs = [.str (tx l), .int n, .ref A, .ref B, v] ∧ n ≤ 6 ∧ H A = some (.lst us) ∧ Ats (RowAt H) us rows ∧ H B = some (.lst ws) ∧ Ats (FactAt H) ws fs ∧ rows.length ≤ 20 ∧ fs.length ≤ 20 ∧
  (∀ x ∈ rows, RowOk l n x) ∧ (∀ x ∈ fs, FactOk l n x) ∧ Sheet K H v o ∧ ∀ H', Same H H' → Q (.bl (possB l n rows fs o)) H'
section
variable {P : Program} {w : World} {K : PySem.W.Frag} {mg : Str → Option Value} {base : Heap}
abbrev nWo : List Str := ["_law_signs_here", "_law_size", "_law_found", "_law_turn", "_law_longer", "_law_begun", "_law_sign"]
theorem scWo : FnScope nWo ["_law_signs_here", "_law_size"] (defScope sEvery) := ⟨rfl, rfl, rfl, by decide +kernel, rfl, by decide +kernel, by decide +kernel⟩
theorem ok_every {f : Addr} {fd : FuncData} (F : Fun K "_law_every" "_law_every" sEvery f fd) (range : mg "range" = none) : FnOk P w K mg base CX0 1 f fd ["_law_signs_here", "_law_size"] spEvery := by
  refine F.ok scWo (fun vs H Q E h => ?_) (fun cdv A outer s H vs Q E hr h => ?_)
  · obtain ⟨l, n, rfl, _⟩ := h
    rfl
  · obtain ⟨l, n, rfl, l0, n0, n6, l256, q⟩ := h
    have nd := scWo.nd
    have hline : sizeLine = 16777216 := sizeLine_eq
    have wl : ∀ k, k ≤ n.toNat → (wds l k).length ≤ 256 := fun k hk => by
      rw [wds_len]
      exact Nat.le_trans (Nat.pow_le_pow_right l0 hk) l256
    refine ⟨_, pss_cons (ps_set (i := 2) nd rfl (Or.inl rfl) (pe_lst (pa_cons pe_str pa_nil)))
      (pss_cons (ps_for PassesOwn.never rfl (pi_range1 (by rfl) range (pa_cons (pv 1) pa_nil)) (pg_name (i := 3) nd rfl (Or.inl rfl))
        (pss_cons (ps_set (i := 4) nd rfl (Or.inl rfl) (pe_lst pa_nil))
        (pss_cons (ps_for PassesOwn.never rfl (pi_list (pv 2)) (pg_name (i := 5) nd rfl (Or.inr rfl))
          (pss_one (ps_expr (pe_bm PySem.F.plainAttrs_list PySem.F.slot_list_extend PySem.F.type_list_extend mt_extend (pv 4) (pa_cons (pe_lc (own := [("_law_sign", 6)]) (g := gName 6) (by rfl) nd (pi_str (pv 0)) (blkOk_by (own := [("_law_sign", 6)]) (N := nWo) (sc := defScope sEvery) (by decide +kernel))
            (fun _ _ _ _ _ => pg_name (i := 6) nd rfl (Or.inl rfl)) (fun _ _ _ _ _ => pts_nil) (fun _ _ _ _ _ => pe_op op_add_str (pv 5) (pv 6))) pa_nil)))))
        (pss_one (ps_set (i := 2) nd rfl (Or.inl rfl) (pv 4))))))
      (pss_one (ps_ret (pv 2)))), ?_⟩
    refine ⟨by show 1 ≤ sizeLine; omega, fun D0 hD0 => ?_⟩
    refine ⟨_, rfl, n, rfl, by omega, by omega, for_range (n := n.toNat) (fun k σ H' => ∃ (D : Addr) (v3 v4 v5 : Option V), σ = [some (.str (tx l)), some (.int n), some (.ref D), v3, v4, v5, none] ∧ Same H H' ∧ H D = none ∧ H' D = some (.lst (txs (wds l k))))
      ⟨D0, _, _, _, rfl, same_upd hD0, hD0, upd_same⟩ ?_ ?_⟩
    · rintro k σ H1 hk ⟨D, v3, v4, v5, rfl, s1, nD, hD⟩
      have wl0 := wl k (by omega)
      have wl1 := wl (k + 1) (by omega)
      have wl1' : (wds l k).length * l.length ≤ 256 := by rw [wds, flat_len] at wl1; exact wl1
      refine ⟨Nat.zero_le _, fun L0 hL0 => ?_⟩
      have nDL : D ≠ L0 := ne_of_none hD hL0
      have zL0 : H L0 = none := s1.free hL0
      refine ⟨_, rfl, D, rfl, ⟨_, SqL.of ((upd_ne nDL).trans hD)⟩, for_list (xs := txs (wds l k)) (fun i σ H' => ∃ (v5 : Option V), σ = [some (.str (tx l)), some (.int n), some (.ref D), some (.int (0 + (k : Nat))), some (.ref L0), v5, none] ∧ Same H H' ∧ H' D = some (.lst (txs (wds l k))) ∧
        H' L0 = some (.lst (txs (((wds l k).take i).flatMap fun w => l.map fun c => w ++ [c])))) ⟨_, rfl, s1.trans (same_upd hL0), (upd_ne nDL).trans hD, upd_same⟩ (fun i σ H' _ h => ?_) ?_ ?_⟩
      · obtain ⟨_, _, _, h, _⟩ := h
        exact SqL.of h
      · rintro i x σ H2 hx ⟨v5, rfl, s2, hD2, hL2⟩
        obtain ⟨u, rfl, hu⟩ := txs_get hx
        have hi : i < (wds l k).length := (List.getElem?_eq_some_iff.mp hu).1
        have hw := ((mem_wds l k _).mp (List.mem_of_getElem? hu)).1
        refine ⟨_, rfl, .inl ⟨rfl, _, SqL.of hL2⟩, _, rfl, tx l, rfl, fun Dc hDc => ?_⟩
        have nLDc : L0 ≠ Dc := ne_of_none hL2 hDc
        have l256' : l.length ≤ 256 := Nat.le_trans (Nat.le_mul_of_pos_left _ (by omega)) wl1'
        refine lc_it (walk_str (z := tx l)) (fun j H' => Same H2 H' ∧ H' Dc = some (.lst (txs ((l.take j).map fun c => u ++ [c])))) ⟨same_upd hDc, upd_same⟩ (fun _ _ _ _ => trivial) ?_ ?_
        · rintro j y H3 H4 hj ⟨s3, hDj⟩ ⟨rfl, c, hc, rfl⟩
          have hc' := tx_at hc
          have hj' : j < l.length := (List.getElem?_eq_some_iff.mp hc').1
          refine ⟨rfl, _, rfl, _, rfl, _, _, rfl, rfl, ?_, _, hDj, ?_, fun b o e => ?_, ?_⟩
          · rw [tx_len]
            show u.length + 1 ≤ sizeLine
            omega
          · rw [List.length_map, List.length_map, List.length_take]
            omega
          · rw [upd_ne (ne_of_none e hDc)]
            exact s3 b o e
          · have e2 : l.take (j + 1) = l.take j ++ [c] := by rw [List.take_succ_eq_append_getElem hj', (List.getElem?_eq_some_iff.mp hc').2]
            rw [upd_same, e2, List.map_append, txs_app, List.map_cons, List.map_nil]
            have e3 : tx u ++ (⟨#[c]⟩ : Str) = tx (u ++ [c]) := tx_app u [c]
            rw [e3]
            rfl
        · rintro H3 ⟨s3, hDc3⟩
          rw [tx_size, List.take_length] at hDc3
          have hL3 := s3 _ _ hL2
          refine ⟨L0, Dc, _, _, rfl, rfl, hL3, hDc3, ?_, _, rfl, fun b o e => ?_, ?_, ?_⟩
          · rw [List.length_map, List.length_map, List.length_map, flat_len, List.length_take]
            have : min i (wds l k).length * l.length ≤ (wds l k).length * l.length := Nat.mul_le_mul_right _ (Nat.min_le_right _ _)
            omega
          · rw [upd_ne (ne_of_none e zL0)]
            exact s3 _ _ (s2 _ _ e)
          · rw [upd_ne nDL]
            exact s3 _ _ hD2
          · rw [upd_same, take_snoc hu, List.flatMap_append, txs_app]
            simp
      · rintro σ H2 ⟨v5, rfl, s2, hD2, hL2⟩
        rw [List.length_map, List.take_length] at hL2
        exact ⟨_, rfl, L0, _, _, _, rfl, s2, zL0, hL2⟩
    · rintro σ H1 ⟨D, v3, v4, v5, rfl, s1, nD, hD⟩
      exact ⟨_, rfl, q H1 D s1 nD hD⟩
abbrev nTr : List Str := ["_law_well_here", "_law_signs_here", "_law_size", "_law_way"]
theorem scTr : FnScope nTr ["_law_well_here", "_law_signs_here", "_law_size"] (defScope sTruth) := ⟨rfl, rfl, rfl, by decide +kernel, rfl, by decide +kernel, by decide +kernel⟩
theorem ok_truth {f fD fO : Addr} {fd fdD fdO : FuncData} (F : Fun K "_law_truth" "_law_truth" sTruth f fd) (GD : FnOk P w K mg base CX0 1 fD fdD ["_law_well_here", "_law_many"] spDip) (DD : Df K mg "_law_draw" fD fdD ["_law_well_here", "_law_many"])
    (GO : FnOk P w K mg base CX0 2 fO fdO ["_law_well_here", "_law_things"] spOne) (DO : Df K mg "_law_one" fO fdO ["_law_well_here", "_law_things"]) : FnOk P w K mg base CX0 3 f fd ["_law_well_here", "_law_signs_here", "_law_size"] spTruth := by
  refine F.ok scTr (fun vs H Q E h => ?_) (fun cdv A outer s H vs Q E hr h => ?_)
  · obtain ⟨p, l, n, rfl, _⟩ := h
    rfl
  · obtain ⟨p, l, n, rfl, hp, l0, l26, n1, n6, q⟩ := h
    have nd := scTr.nd
    have hr1 : Room 1 _ := hr.mono (by decide)
    refine ⟨_, pss_cons (ps_set (i := 3) nd rfl (Or.inl rfl) (pe_call GD hr1 (by rfl) DD.mg DD.kp DD.b .nil pass0 (pa_cons (pv 0) (pa_cons pe_int pa_nil))))
      (pss_cons (ps_if (pt_cmpR op_lt (pv 3) pe_int (nomark _)) (pss_one (ps_ret (pe_tup (pa_cons (pe_ix ix_list (pe_lst (pa_cons pe_str (pa_cons pe_str pa_nil))) (pv 3) (fun _ _ => rfl)) (pa_cons (pe_call GD hr1 (by rfl) DD.mg DD.kp DD.b .nil pass0 (pa_cons (pv 0) (pa_cons (pv 2) pa_nil)))
          (pa_cons (pe_call GO hr (by rfl) DO.mg DO.kp DO.b .nil pass0 (pa_cons (pv 0) (pa_cons (pv 1) pa_nil))) pa_nil)))))) pss_nil)
      (pss_one (ps_ret (pe_tup (pa_cons (pe_ix ix_list (pe_lst (pa_cons pe_str (pa_cons pe_str pa_nil))) (pe_op op_sub (pv 3) pe_int) (fun _ _ => rfl)) (pa_cons (pe_call GO hr (by rfl) DO.mg DO.kp DO.b .nil pass0 (pa_cons (pv 0) (pa_cons (pv 1) pa_nil)))
          (pa_cons (pe_call GD hr1 (by rfl) DD.mg DD.kp DD.b .nil pass0 (pa_cons (pv 0) (pa_cons (pe_op op_add (pv 2) pe_int) pa_nil))) pa_nil))))))), ?_⟩
    refine ⟨_, rfl, p, 4, rfl, hp, by decide, by decide, fun H1 way R1 w0 w4 => ?_⟩
    refine ⟨_, rfl, _, _, rfl, rfl, _, rfl, ite2 (fun h => ?_) (fun h => ?_)⟩
    · have hw : way < 2 := of_decide_eq_true h
      refine ⟨by show 2 ≤ sizeLine; decide, fun L zL => ?_⟩
      have RL := R1.same (same_upd (o := .lst [.str (Str.ofString "at"), .str (Str.ofString "not")]) zL)
      obtain ⟨neg, hat⟩ : ∃ neg : Bool, atI [V.str (Str.ofString "at"), V.str (Str.ofString "not")] way = some (.str (Str.ofString (if neg then "not" else "at"))) := by
        have : way = 0 ∨ way = 1 := by omega
        rcases this with rfl | rfl
        · exact ⟨false, rfl⟩
        · exact ⟨true, rfl⟩
      refine ⟨_, rfl, L, _, _, _, rfl, rfl, SqL.of upd_same, hat, ?_⟩
      refine ⟨_, rfl, _, rfl, p, n, rfl, RL.2, by omega, by omega, fun H2 i R2 i0 i1 => ?_⟩
      refine ⟨_, rfl, _, rfl, p, l, rfl, R2.2, l0, by omega, fun H3 c R3 hc => ⟨by show 3 ≤ sizeLine; decide, fun T zT => ?_⟩⟩
      obtain ⟨j, rfl⟩ := Int.eq_ofNat_of_zero_le i0
      refine q _ T (.pl neg j c) (((RL.trans R2).trans R3).same (same_upd zT)) ?_ ⟨i1, hc⟩
      cases neg <;> exact upd_same
    · have hw : ¬ way < 2 := fun c => h (decide_eq_true c)
      refine ⟨by show 2 ≤ sizeLine; decide, fun L zL => ?_⟩
      have RL := R1.same (same_upd (o := .lst [.str (Str.ofString "least"), .str (Str.ofString "most")]) zL)
      obtain ⟨most, hat⟩ : ∃ most : Bool, atI [V.str (Str.ofString "least"), V.str (Str.ofString "most")] (way - 2) = some (.str (Str.ofString (if most then "most" else "least"))) := by
        have : way = 2 ∨ way = 3 := by omega
        rcases this with rfl | rfl
        · exact ⟨false, rfl⟩
        · exact ⟨true, rfl⟩
      refine ⟨_, rfl, _, _, rfl, rfl, L, _, _, _, rfl, rfl, SqL.of upd_same, hat, ?_⟩
      refine ⟨_, rfl, _, rfl, p, l, rfl, RL.2, l0, by omega, fun H2 c R2 hc => ?_⟩
      refine ⟨_, rfl, _, rfl, _, _, rfl, rfl, p, n + 1, rfl, R2.2, by omega, by omega, fun H3 i R3 i0 i1 => ⟨by show 3 ≤ sizeLine; decide, fun T zT => ?_⟩⟩
      obtain ⟨j, rfl⟩ := Int.eq_ofNat_of_zero_le i0
      refine q _ T (.nm most c j) (((RL.trans R2).trans R3).same (same_upd zT)) ?_ ⟨hc, by omega⟩
      cases most <;> exact upd_same
abbrev nHs : List Str := ["_law_one_here", "_law_bit", "_law_many"]
theorem scHs : FnScope nHs ["_law_one_here", "_law_bit"] (defScope sHas) := ⟨rfl, rfl, rfl, by decide +kernel, rfl, by decide +kernel, by decide +kernel⟩
theorem ok_has {f : Addr} {fd : FuncData} (F : Fun K "_law_has" "_law_has" sHas f fd) : FnOk P w K mg base CX0 1 f fd ["_law_one_here", "_law_bit"] spHasF := by
  refine F.ok scHs (fun vs H Q E h => ?_) (fun cdv A outer s H vs Q E hr h => ?_)
  · obtain ⟨a, l, z, n, fc, rfl, _⟩ := h
    rfl
  · obtain ⟨a, l, z, n, fc, rfl, ha, ok, hz, n6, q⟩ := h
    have nd := scHs.nd
    have hline : sizeLine = 16777216 := sizeLine_eq
    refine ⟨_, pss_cons (ps_if (pt_cmpR op_in_seq (pe_ix ix_tup (pv 1) pe_int (fun _ _ => rfl)) (pe_lst (pa_cons pe_str (pa_cons pe_str pa_nil))) rfl) (pss_one (ps_ret (pe_cmpR op_eq (pe_cmpR op_eq (pe_ix ix_str (pv 0) (pe_ix ix_tup (pv 1) pe_int (fun _ _ => rfl)) (fun _ _ => rfl)) (pe_ix ix_tup (pv 1) pe_int (fun _ _ => rfl)) (nomark _))
        (pe_cmpR op_eq (pe_ix ix_tup (pv 1) pe_int (fun _ _ => rfl)) pe_str (nomark _)) (nomark _)))) pss_nil)
      (pss_cons (ps_set (i := 2) nd rfl (Or.inl rfl) (pe_m1 PySem.F.slot_str_count PySem.F.type_str_count mt_count (pv 0) (pe_ix ix_tup (pv 1) pe_int (fun _ _ => rfl))))
      (pss_one (ps_ret (pe_ifExp (pt_cmpR op_eq (pe_ix ix_tup (pv 1) pe_int (fun _ _ => rfl)) pe_str (nomark _)) (pe_cmpR op_ge (pv 2) (pe_ix ix_tup (pv 1) pe_int (fun _ _ => rfl)) (nomark _)) (pe_cmpR op_le (pv 2) (pe_ix ix_tup (pv 1) pe_int (fun _ _ => rfl)) (nomark _)))))), ?_⟩
    rcases fc with ⟨neg, i, c⟩ | ⟨most, c, m⟩
    · have hi : i < z.length := by have := ok.1; omega
      cases neg with
      | false =>
        have ha : H a = some (.tup [.str (Str.ofString "at"), .int (i : Nat), .str (one c)]) := ha
        refine ⟨_, rfl, a, _, _, _, rfl, rfl, SqT.of ha, rfl, by show 2 ≤ sizeLine; decide, fun L zL => ⟨L, _, rfl, .inl (SqL.of upd_same), rfl, rfl, _, rfl, ?_⟩⟩
        have sL := same_upd (o := .lst [.str (Str.ofString "at"), .str (Str.ofString "not")]) zL
        have ha := sL _ _ ha
        refine iteT ⟨_, rfl, _, rfl, a, _, _, _, rfl, rfl, SqT.of ha, rfl, tx z, _, z[i]'hi, rfl, rfl, by rw [tx_len]; omega, atI_nat (List.getElem?_eq_getElem hi), _, rfl, a, _, _, _, rfl, rfl, SqT.of ha, rfl, rfl, _, rfl, a, _, _, _, rfl, rfl, SqT.of ha, rfl, rfl, rfl, ?_⟩
        have e : decide (V.str (one (z[i]'hi)) = V.str (one c)) = decide (z[i]? = some c) := decide_eq_decide.mpr ⟨fun h => by rw [List.getElem?_eq_getElem hi, ones_inj (V.str.inj h)], fun h => by rw [List.getElem?_eq_getElem hi] at h; rw [Option.some.inj h]⟩
        show Q (.bl (decide (V.bl (decide (V.str (one (z[i]'hi)) = V.str (one c))) = V.bl (decide (V.str (Str.ofString "at") = V.str (Str.ofString "at")))))) _
        rw [e, show decide (V.str (Str.ofString "at") = V.str (Str.ofString "at")) = true by decide +kernel]
        have q' := q _ sL
        have e2 : decide (V.bl (decide (z[i]? = some c)) = V.bl true) = decide (z[i]? = some c) := by
          generalize decide (z[i]? = some c) = b
          cases b <;> rfl
        rw [e2]
        exact q'
      | true =>
        have ha : H a = some (.tup [.str (Str.ofString "not"), .int (i : Nat), .str (one c)]) := ha
        refine ⟨_, rfl, a, _, _, _, rfl, rfl, SqT.of ha, rfl, by show 2 ≤ sizeLine; decide, fun L zL => ⟨L, _, rfl, .inl (SqL.of upd_same), rfl, rfl, _, rfl, ?_⟩⟩
        have sL := same_upd (o := .lst [.str (Str.ofString "at"), .str (Str.ofString "not")]) zL
        have ha := sL _ _ ha
        refine iteT ⟨_, rfl, _, rfl, a, _, _, _, rfl, rfl, SqT.of ha, rfl, tx z, _, z[i]'hi, rfl, rfl, by rw [tx_len]; omega, atI_nat (List.getElem?_eq_getElem hi), _, rfl, a, _, _, _, rfl, rfl, SqT.of ha, rfl, rfl, _, rfl, a, _, _, _, rfl, rfl, SqT.of ha, rfl, rfl, rfl, ?_⟩
        have e : decide (V.str (one (z[i]'hi)) = V.str (one c)) = decide (z[i]? = some c) := decide_eq_decide.mpr ⟨fun h => by rw [List.getElem?_eq_getElem hi, ones_inj (V.str.inj h)], fun h => by rw [List.getElem?_eq_getElem hi] at h; rw [Option.some.inj h]⟩
        show Q (.bl (decide (V.bl (decide (V.str (one (z[i]'hi)) = V.str (one c))) = V.bl (decide (V.str (Str.ofString "not") = V.str (Str.ofString "at")))))) _
        rw [e, show decide (V.str (Str.ofString "not") = V.str (Str.ofString "at")) = false by decide +kernel]
        have q' := q _ sL
        have e2 : decide (V.bl (decide (z[i]? = some c)) = V.bl false) = !decide (z[i]? = some c) := by
          generalize decide (z[i]? = some c) = b
          cases b <;> rfl
        rw [e2]
        exact q'
    · cases most with
      | false =>
        have ha : H a = some (.tup [.str (Str.ofString "least"), .str (one c), .int (m : Nat)]) := ha
        refine ⟨_, rfl, a, _, _, _, rfl, rfl, SqT.of ha, rfl, by show 2 ≤ sizeLine; decide, fun L zL => ⟨L, _, rfl, .inl (SqL.of upd_same), rfl, rfl, _, rfl, ?_⟩⟩
        have sL := same_upd (o := .lst [.str (Str.ofString "at"), .str (Str.ofString "not")]) zL
        have ha := sL _ _ ha
        refine iteF ⟨_, rfl, ⟨_, rfl⟩, _, rfl, a, _, _, _, rfl, rfl, SqT.of ha, rfl, _, _, rfl, rfl, ?_⟩
        refine ⟨_, rfl, a, _, _, _, rfl, rfl, SqT.of ha, rfl, rfl, _, rfl, iteT ?_⟩
        refine ⟨_, rfl, _, rfl, a, _, _, _, rfl, rfl, SqT.of ha, rfl, _, _, rfl, rfl, ?_⟩
        have e : decide (((m : Nat) : Int) ≤ Txt.count (tx z) (one c)) = decide (m ≤ z.count c) := by
          rw [cnt_tx]
          exact decide_eq_decide.mpr (by omega)
        show Q (.bl (decide (((m : Nat) : Int) ≤ Txt.count (tx z) (one c)))) _
        rw [e]
        exact q _ sL
      | true =>
        have ha : H a = some (.tup [.str (Str.ofString "most"), .str (one c), .int (m : Nat)]) := ha
        refine ⟨_, rfl, a, _, _, _, rfl, rfl, SqT.of ha, rfl, by show 2 ≤ sizeLine; decide, fun L zL => ⟨L, _, rfl, .inl (SqL.of upd_same), rfl, rfl, _, rfl, ?_⟩⟩
        have sL := same_upd (o := .lst [.str (Str.ofString "at"), .str (Str.ofString "not")]) zL
        have ha := sL _ _ ha
        refine iteF ⟨_, rfl, ⟨_, rfl⟩, _, rfl, a, _, _, _, rfl, rfl, SqT.of ha, rfl, _, _, rfl, rfl, ?_⟩
        refine ⟨_, rfl, a, _, _, _, rfl, rfl, SqT.of ha, rfl, rfl, _, rfl, iteF ?_⟩
        refine ⟨_, rfl, _, rfl, a, _, _, _, rfl, rfl, SqT.of ha, rfl, _, _, rfl, rfl, ?_⟩
        have e : decide (Txt.count (tx z) (one c) ≤ ((m : Nat) : Int)) = decide (z.count c ≤ m) := by
          rw [cnt_tx]
          exact decide_eq_decide.mpr (by omega)
        show Q (.bl (decide (Txt.count (tx z) (one c) ≤ ((m : Nat) : Int)))) _
        rw [e]
        exact q _ sL
abbrev nDu : List Str := ["_law_signs_here", "_law_size", "_law_some", "_law_bits", "_law_sheet", "_law_sign", "_law_asked", "_law_seen", "_law_bit"]
theorem scDu : FnScope nDu ["_law_signs_here", "_law_size", "_law_some", "_law_bits", "_law_sheet"] (defScope sDue) := ⟨rfl, rfl, rfl, by decide +kernel, rfl, by decide +kernel, by decide +kernel⟩
theorem ok_due {f fM fH : Addr} {fd fdM fdH : FuncData} (F : Fun K "_law_due" "_law_due" sDue f fd) (T : TxW mg) (tall : mg "all" = none) (GM : FnOk P w K mg base CX0 1 fM fdM ["_law_asked", "_law_hidden"] spMarksOf) (DM : Df K mg "_law_reply" fM fdM ["_law_asked", "_law_hidden"])
    (GH : FnOk P w K mg base CX0 1 fH fdH ["_law_one_here", "_law_bit"] spHasF) (DH : Df K mg "_law_has" fH fdH ["_law_one_here", "_law_bit"]) : FnOk P w K mg base CX0 2 f fd ["_law_signs_here", "_law_size", "_law_some", "_law_bits", "_law_sheet"] (spDue K) := by
  refine F.ok scDu (fun vs H Q E h => ?_) (fun cdv A outer s H vs Q E hr h => ?_)
  · obtain ⟨A, B, l, n, us, ws, rows, fs, v, o, rfl, _⟩ := h
    rfl
  · obtain ⟨A, B, l, n, us, ws, rows, fs, v, o, rfl, n6, hA, hR, hB, hE, r20, f4, ro, fo, hs, q⟩ := h
    have nd := scDu.nd
    have hline : sizeLine = 16777216 := sizeLine_eq
    refine ⟨_, pss_cons (ps_if (PW.pt (pw_or (pt_not (pt_val (pe_callB call_isi (by rfl) T.isi (by decide +kernel) (pa_cons (pv 4) (pa_cons (pe_bltn (v := .ty "str") (by rfl) T.str (by decide +kernel) rfl) pa_nil)))))
        (pw_or (pt_cmpR op_ne (pe_callB call_len_str (by rfl) T.len PySem.boot_len (pa_cons (pv 4) pa_nil)) (pv 1) (nomark _))
        (pw_or1 (pt_not (pt_val (pe_callB (cr_all rfl) (by rfl) tall (by decide +kernel) (pa_cons
          (pe_lc (own := [("_law_sign", 5)]) (g := gName 5) (by rfl) nd (pi_str (pv 4)) (blkOk_by (own := [("_law_sign", 5)]) (N := nDu) (sc := defScope sDue) (by decide +kernel))
            (fun _ _ _ _ _ => pg_name (i := 5) nd rfl (Or.inl rfl)) (fun _ _ _ _ _ => pts_nil) (fun _ _ _ _ _ => pe_cmpR op_in_sign (pv 5) (pv 0) rfl)) pa_nil)))))))) (pss_one (ps_ret pe_bl)) pss_nil)
      (pss_cons (ps_if (pt_not (pt_val (pe_callB (cr_all rfl) (by rfl) tall (by decide +kernel) (pa_cons
          (pe_lc (own := [("_law_asked", 6), ("_law_seen", 7)]) (g := gTup K 2 (gCons (gName 6) (gCons (gName 7) gNil))) (by rfl) nd (pi_list (pv 2)) (blkOk_by (own := [("_law_asked", 6), ("_law_seen", 7)]) (N := nDu) (sc := defScope sDue) (by decide +kernel))
            (fun _ _ _ _ _ => by exact pg_tup (by rfl) (pgs_cons (pg_name (i := 6) nd rfl (Or.inl rfl)) (pgs_cons (pg_name (i := 7) nd rfl (Or.inl rfl)) pgs_nil))) (fun _ _ _ _ _ => pts_nil)
            (fun _ _ _ _ _ => pe_cmpR op_eq (pe_call GM hr (by rfl) DM.mg DM.kp DM.b .nil pass0 (pa_cons (pv 6) (pa_cons (pv 4) pa_nil))) (pv 7) (nomark _))) pa_nil)))) (pss_one (ps_ret pe_bl)) pss_nil)
      (pss_one (ps_ret (pe_callB (cr_all rfl) (by rfl) tall (by decide +kernel) (pa_cons
          (pe_lc (own := [("_law_bit", 8)]) (g := gName 8) (by rfl) nd (pi_list (pv 3)) (blkOk_by (own := [("_law_bit", 8)]) (N := nDu) (sc := defScope sDue) (by decide +kernel))
            (fun _ _ _ _ _ => pg_name (i := 8) nd rfl (Or.inl rfl)) (fun _ _ _ _ _ => pts_nil)
            (fun _ _ _ _ _ => pe_call GH hr (by rfl) DH.mg DH.kp DH.b .nil pass0 (pa_cons (pv 4) (pa_cons (pv 8) pa_nil)))) pa_nil))))), ?_⟩
    cases hs with
    | oth t k => exact ⟨_, rfl, _, _, _, _, _, rfl, .ty "str", t _ (Same.refl H), k, _, rfl, iteT (q _ (Same.refl H))⟩
    | @txt z lz =>
      have q' : ∀ H', Same H H' → Q (.bl (decide (Wd l n z) && (rows.all (fun r => decide (mk r.1 z = r.2)) && fs.all (hasF z)))) H' := q
      have zl : (tx z).length = z.length := tx_len z
      refine ⟨_, rfl, _, _, _, _, _, rfl, .ty "str", .base (.str _), kit_ty (r := true) (by decide +kernel), _, rfl, iteF ?_⟩
      refine ⟨_, rfl, _, rfl, by omega, _, rfl, rfl, _, rfl, ?_⟩
      have ei : decide (V.int ((tx z).length : Nat) = V.int n) = decide ((z.length : Int) = n) := decide_eq_decide.mpr ⟨fun e => by rw [← zl]; exact V.int.inj e, fun e => by rw [zl, e]⟩
      rw [ei]
      refine ite2 (fun h => ?_) (fun h => ?_)
      · have hn : ¬ (z.length : Int) = n := fun e => by rw [decide_eq_true e] at h; cases h
        rw [decide_eq_false (fun w : Wd l n z => hn w.1)] at q'
        exact q' _ (Same.refl H)
      have hn : (z.length : Int) = n := by
        refine Decidable.byContradiction fun c => h ?_
        rw [decide_eq_false c]
        rfl
      refine ⟨_, rfl, tx z, rfl, fun D hD => ?_⟩
      refine lc_it (walk_str (z := tx z)) (fun i H' => Same H H' ∧ H' D = some (.lst (((z.take i).map fun c => decide (c ∈ l)).map V.bl))) ⟨same_upd hD, upd_same⟩ (fun _ _ _ _ => trivial) ?_ ?_
      · rintro i x H1 H2 hi ⟨sm, hDi⟩ ⟨rfl, c, hc, rfl⟩
        have hc' := tx_at hc
        refine ⟨rfl, ⟨_, rfl, _, rfl, c, tx l, rfl, rfl, _, hDi, ?_, fun b o q => ?_, ?_⟩⟩
        · rw [List.length_map, List.length_map, List.length_take]
          omega
        · rw [upd_ne (ne_of_none q hD)]
          exact sm b o q
        · rw [upd_same, take_snoc hc', List.map_append, List.map_append, in_tx]
          rfl
      rintro H1 ⟨s1, hD1⟩
      refine ⟨D, _, rfl, SqL.of hD1, ?_⟩
      have e : ((z.take (tx z).cps.size).map fun c => decide (c ∈ l)).all id = decide (Wd l n z) := by
        rw [tx_size, List.take_length, List.all_map, Bool.eq_iff_iff, List.all_eq_true, decide_eq_true_iff]
        exact ⟨fun h => ⟨hn, fun c hc => of_decide_eq_true (h c hc)⟩, fun h c hc => decide_eq_true (h.2 c hc)⟩
      rw [e]
      refine ⟨_, rfl, ?_⟩
      show if (!decide (Wd l n z)) = true then _ else _
      refine ite2 (fun h => ?_) (fun h => ?_)
      · have hz : decide (Wd l n z) = false := by simpa using h
        rw [hz] at q'
        exact q' _ s1
      have hz : decide (Wd l n z) = true := by simpa using h
      have wz := (of_decide_eq_true hz).1
      rw [hz] at q'
      have lR := hR.len
      refine ⟨_, rfl, A, rfl, ⟨_, SqL.of (s1 _ _ hA)⟩, fun D2 hD2 => ?_⟩
      refine lc_it walk_list (fun i H' => Same H1 H' ∧ H' D2 = some (.lst (((rows.take i).map fun r => decide (mk r.1 z = r.2)).map V.bl))) ⟨same_upd hD2, upd_same⟩ (fun i H' _ hh => SqL.of (hh.1 _ _ (s1 _ _ hA))) ?_ ?_
      · rintro i x H2 H3 hi ⟨sm, hDi⟩ ⟨rfl, hx⟩
        obtain ⟨a, rw_, rfl, hrow, ha⟩ := hR.get hx
        have ha2 := sm _ _ (s1 _ _ ha)
        have rk := ro _ (List.mem_of_getElem? hrow)
        have g1 := rk.1.1
        refine ⟨a, _, rfl, SqT.of ha2, rfl, _, _, rfl, _, _, rfl, rfl, rfl, ?_⟩
        refine ⟨_, rfl, _, rfl, rw_.1, z, rfl, by omega, by omega, fun H4 s4 => ⟨_, rfl, rfl, ?_⟩⟩
        refine ⟨_, s4 _ _ hDi, by rw [List.length_map, List.length_map, List.length_take]; omega, fun c o e => ?_, ?_⟩
        · rw [upd_ne (ne_of_none e hD2)]
          exact s4 _ _ (sm _ _ e)
        · have e2 : decide (V.str (tx (mk rw_.1 z)) = V.str (tx rw_.2)) = decide (mk rw_.1 z = rw_.2) := decide_eq_decide.mpr ⟨fun e => by
            have := congrArg (fun s : Str => s.cps.toList) (V.str.inj e)
            simpa using this, fun e => by rw [e]⟩
          rw [upd_same, take_snoc hrow, List.map_append, List.map_append]
          show some (HO.lst (_ ++ [V.bl _])) = some (HO.lst (_ ++ [V.bl _]))
          rw [e2]
      rintro H2 ⟨s2, hD2'⟩
      refine ⟨D2, _, rfl, SqL.of hD2', ?_⟩
      have e : ((rows.take us.length).map fun r => decide (mk r.1 z = r.2)).all id = rows.all fun r => decide (mk r.1 z = r.2) := by
        rw [lR, List.take_length, List.all_map]
        rfl
      rw [e]
      have s12 := s1.trans s2
      refine ⟨_, rfl, ?_⟩
      refine ite2 (fun h => ?_) (fun h => ?_)
      · have hr0 : (rows.all fun r => decide (mk r.1 z = r.2)) = false := by simpa using h
        rw [hr0] at q'
        exact q' _ s12
      have hr1 : (rows.all fun r => decide (mk r.1 z = r.2)) = true := by simpa using h
      rw [hr1] at q'
      have lE := hE.len
      refine ⟨_, rfl, B, rfl, ⟨_, SqL.of (s12 _ _ hB)⟩, fun D3 hD3 => ?_⟩
      refine lc_it walk_list (fun i H' => Same H2 H' ∧ H' D3 = some (.lst (((fs.take i).map (hasF z)).map V.bl))) ⟨same_upd hD3, upd_same⟩ (fun i H' _ hh => SqL.of (hh.1 _ _ (s12 _ _ hB))) ?_ ?_
      · rintro i x H4 H3 hi ⟨sm, hDi⟩ ⟨rfl, hx⟩
        obtain ⟨a, fc, rfl, hfc, ha⟩ := hE.get hx
        refine ⟨rfl, _, rfl, _, rfl, a, l, z, n, fc, rfl, sm _ _ (s12 _ _ ha), fo _ (List.mem_of_getElem? hfc), wz, n6, fun H5 s5 => ?_⟩
        refine ⟨_, s5 _ _ hDi, by rw [List.length_map, List.length_map, List.length_take]; omega, fun c o e => ?_, ?_⟩
        · rw [upd_ne (ne_of_none e hD3)]
          exact s5 _ _ (sm _ _ e)
        · rw [upd_same, take_snoc hfc, List.map_append, List.map_append]
          rfl
      rintro H3 ⟨s3, hD3'⟩
      refine ⟨D3, _, rfl, SqL.of hD3', ?_⟩
      have e : ((fs.take ws.length).map (hasF z)).all id = fs.all (hasF z) := by
        rw [lE, List.take_length, List.all_map]
        rfl
      rw [e]
      exact q' _ (s12.trans s3)
end
end Gm

/-! defs that are called where nothing is being shown, so that they may ask for the repr of lists -/
namespace L2
open PySem PySem.Spec PyProof.Rows
/-- FnOk for calls where no repr is under way -/
structure FnG (P : Program) (w : World) (K : PySem.W.Frag) (mg : Str → Option Value) (base : Heap) (CX : CXT) (k : Nat) (f : Addr) (fd : FuncData) (ps : List Str) (sp : Sp) : Prop where
  many : ∀ {vs H Q E}, sp vs H Q E → vs.length = ps.length
  goes : ∀ {A : Around} {outer : List Env} {s : Shared} {H : Hp} {args : Args} {us : List Value} {vs : List V} {Q : VK} {E : XK}, A.guards = some [] → Room k A → Env0 P w K mg base A outer s H →
    BindsTo s fd args (ps.zip us) → Vals vs us → sp vs H Q E → codeAny (model P w) A (.call (.ref f) args) (CR CX outer P w H s Q E) s
theorem FnOk.toG {P : Program} {w : World} {K : PySem.W.Frag} {mg : Str → Option Value} {base : Heap} {CX : CXT} {k : Nat} {f : Addr} {fd : FuncData} {ps : List Str} {sp : Sp} (F : FnOk P w K mg base CX k f fd ps sp) : FnG P w K mg base CX k f fd ps sp :=
  ⟨fun h => F.len _ _ _ _ h, fun _ hr e b r h => F.run _ _ _ _ _ _ _ _ _ hr e b r h⟩
theorem Fun.okG {P : Program} {w : World} {K : PySem.W.Frag} {mg : Str → Option Value} {base : Heap} {x qual : Str} {st : Stmt} {f : Addr} {fd : FuncData} {N ps : List Str} {k : Nat} {sp : Sp} (F : Fun K x qual st f fd) (S : FnScope N ps (defScope st))
    (many : ∀ vs H Q E, sp vs H Q E → vs.length = ps.length)
    (body : ∀ (cdv : Value) (A : Around) (outer : List Env) (s : Shared) (H : Hp) (vs : List V) (Q : VK) (E : XK), A.guards = some [] → Room k (A.deeper (envOfC qual (defScope st) s.heap.objs.size f cdv)) → sp vs H Q E →
      ∃ t, PSs (cxOf CX0 P w K mg base N qual (defScope st) f cdv A outer s H E).nox (defBody st) t ∧ t { nx := fun _ H' => Q .non H', rt := Q } (start N vs) H) : FnG P w K mg base CX0 (k + 1) f fd ps sp := by
  obtain ⟨oc, od, kV, doc, pm, an, cdv, ct, osl, rfl, lk, hcd⟩ := F.ex
  refine ⟨fun h => many _ _ _ _ h, fun {A outer s H args us vs Q E} g hr e b r h => ?_⟩
  refine LamX.run_ofS lk hcd S hr e b r (many _ _ _ _ h) fun hr' => ?_
  obtain ⟨t, ht, q⟩ := body cdv A outer s H vs Q E g hr' h
  exact ⟨t, ht.nox, q⟩
section
variable {X : Cx} {CX : CXT} {k : Nat} {f : Addr} {fd : FuncData} {ps : List Str} {sp : Sp} {E : XK} {x : Str} {p pos : Pos} {e : Expr} {es : List Expr} {t : TA}
theorem pe_callG (F : FnG X.prog X.w X.K X.mg X.base CX k f fd ps sp) (g : X.A.guards = some []) (hr : Room k X.A) (hg : Gl X x) (hm : X.mg x = some (.ref f)) (hk : PySem.W.keepIn X.K (.ref f) = true) (hb : Binds X.K fd ps []) (hx : Passes CX X E) (ha : PA X (e :: es) t)
    (hdb : (x == ("__debug__" : Str)) = false := by decide) (he : starEach (e :: es) X.env = (false, eval e X.env) :: starEach es X.env := by rfl) (hpl : (backTo pos (starEach es X.env)).any (·.1) = false := by rfl) :
    PE X (.Call (.Name x p) (e :: es) [] pos) (tCall sp [] E t) := by
  constructor
  intro pins s σ H Q I h
  apply wpAny_Call_Name_kw
  apply ld_glob I hg hm _ hdb
  refine PySem.W.callWith_K (h₀ := X.base) I.ok.mod.kin hk (thn (ha.run pos pins s σ H _ I h) fun us s1 hh => ?_) he hpl
  obtain ⟨vs, H1, I1, r, q⟩ := hh
  refine ⟨I1.kIn, wpAny_call (codeAny_mono (F.goes g hr I1.env0 (us := us) ?_ r (by simpa using q)) fun r s' hq => ?_)⟩
  · have hl : (us ++ []).length = ps.length := by
      rw [List.append_nil, ← r.length]
      exact F.many (by simpa using q)
    simpa using hb s1 us I1.kIn hl
  · match r, hq with
    | .error e, hq => exact hx pins σ H1 s1 e s' I1 hq
    | .ok (.ret u), hq => exact I1.after hq
end
/-! ### repr of data -/
mutual
/-- as Dp, with the empty dict besides -/
inductive Dq (K : PySem.W.Frag) (H : Hp) : V → PyData → Prop
  | non : Dq K H .non .none
  | bl (b : Bool) : Dq K H (.bl b) (.bool b)
  | int (i : Int) : Dq K H (.int i) (.int i)
  | str (x : Str) : Dq K H (.str x) (.str x)
  | lst {a : Addr} {xs : List V} {ds : List PyData} : SqL K H a xs → DqAll K H xs ds → Dq K H (.ref a) (.list ds)
  | tup {a : Addr} {xs : List V} {ds : List PyData} : SqT K H a xs → DqAll K H xs ds → Dq K H (.ref a) (.tuple ds)
  | dic {a : Addr} : H a = some (.dK []) → Dq K H (.ref a) (.dict [])
inductive DqAll (K : PySem.W.Frag) (H : Hp) : List V → List PyData → Prop
  | nil : DqAll K H [] []
  | cons {v : V} {vs : List V} {d : PyData} {ds : List PyData} : Dq K H v d → DqAll K H vs ds → DqAll K H (v :: vs) (d :: ds)
end
section
variable {X : Cx} {pins : List (Addr × Obj)} {σ : St} {H : Hp} {s : Shared}
theorem no_mods {a : Addr} {o : Obj} {vs : Array Value} {n : Nat} {h : Heap} {mm : Str → Option Value} (hm : h.Ns sysModules mm) (ho : h.get? a = some o) (hd : o.data = .seq vs n) : sysModules ≠ a := fun z => by
  obtain ⟨o', es, ep, e, d, _⟩ := hm
  rw [z, ho] at e
  cases e
  rw [hd] at d
  cases d
mutual
theorem Dq.reads {mm : Str → Option Value} (hm : s.heap.Ns sysModules mm) (I : Inv X pins σ H s) : ∀ (d : PyData) (v : V) (u : Value), Dq X.K H v d → RelV v u → ∃ as, Reads s.heap u d as ∧ sysModules ∉ as
  | .none, _, _, h, r => by
    cases h; cases r
    exact ⟨_, .none, List.not_mem_nil⟩
  | .bool b, _, _, h, r => by
    cases h; cases r
    exact ⟨_, .bool b, List.not_mem_nil⟩
  | .int i, _, _, h, r => by
    cases h; obtain ⟨t, rfl⟩ := r
    exact ⟨_, .int i t, List.not_mem_nil⟩
  | .str x, _, _, h, r => by
    cases h; obtain ⟨t, rfl⟩ := r
    exact ⟨_, .str x t, List.not_mem_nil⟩
  | .list ds, _, _, h, r => by
    cases h with
    | lst hs ha =>
      cases r
      obtain ⟨its, rv, ⟨o, n, ho, hc, _, hd⟩, _⟩ := I.list hs
      obtain ⟨as, hr, nm⟩ := Dq.readsAll hm I ds _ its ha rv
      refine ⟨_, .list ho hc hd hr, fun z => ?_⟩
      rcases List.mem_cons.mp z with z | z
      · exact no_mods hm ho hd z
      · exact nm z
  | .tuple ds, _, _, h, r => by
    cases h with
    | tup hs ha =>
      cases r
      obtain ⟨its, rv, ⟨o, ho, hc, n, hd⟩, _⟩ := I.tuple hs
      obtain ⟨as, hr, nm⟩ := Dq.readsAll hm I ds _ its ha rv
      exact ⟨_, .tuple ho hc hd hr, nm⟩
  | .dict ks, _, _, h, r => by
    cases h with
    | dic e =>
      cases r
      obtain ⟨_, nd, vs, kv, dd⟩ := dk_of I.hok e
      cases kv
      obtain ⟨o, es, ep, ho, hx, hd, _, he, _⟩ := dd
      have e0 : es.toList = [] := by cases hl : es.toList with | nil => rfl | cons a b => (rw [hl] at he; cases he)
      refine ⟨_, .dict (as := []) (bs := []) ho hx.1 hd (by rw [e0]; exact .nil) (by rw [e0]; exact .nil), fun z => ?_⟩
      rcases List.mem_cons.mp z with z | z
      · rw [← z] at nd
        simp at nd
      · simp at z
theorem Dq.readsAll {mm : Str → Option Value} (hm : s.heap.Ns sysModules mm) (I : Inv X pins σ H s) : ∀ (ds : List PyData) (vs : List V) (us : List Value), DqAll X.K H vs ds → Vals vs us → ∃ as, ReadsAll s.heap us ds as ∧ sysModules ∉ as
  | [], _, _, h, r => by
    cases h; cases r
    exact ⟨_, .nil, List.not_mem_nil⟩
  | d :: ds, _, _, h, r => by
    cases h with
    | cons h1 h2 =>
      cases r with
      | cons r1 r2 =>
        obtain ⟨as, q1, n1⟩ := Dq.reads hm I d _ _ h1 r1
        obtain ⟨bs, q2, n2⟩ := Dq.readsAll hm I ds _ _ h2 r2
        exact ⟨_, .cons q1 q2, fun z => (List.mem_append.mp z).elim n1 n2⟩
end
/-- what repr wants of data: it can be shown, in so much room -/
structure Sh (d : PyData) (n m : Nat) : Prop where
  ok : d.showable = true
  long : d.shown.length ≤ n
  deep : d.depth ≤ m
theorem call_reprD (g : X.A.guards = some []) (hu : X.A.units + 64 < cLine) (hm : ∃ mm, X.base.Ns sysModules mm) :
    CallR X (.builtin "repr") (fun xs H Q => ∃ (a : Addr) (d : PyData), xs = [.ref a] ∧ Dq X.K H (.ref a) d ∧ Sh d 16777216 60 ∧ Q (.str d.shown) H) := by
  intro pins s σ H xs us Q I r h
  obtain ⟨a, d, rfl, hd, hs, q⟩ := h
  obtain ⟨mm, hm⟩ := hm
  cases r with
  | cons r1 r2 =>
    cases r2
    cases r1
    obtain ⟨as, rd, nm⟩ := Dq.reads (hm.keeps I.bk) I d _ _ hd rfl
    refine repr_of_reads' rd hs.ok (fun _ => nm) g ?_ (fun _ _ e => e) (fun h' u tk k => ?_) ?_
    · have := hs.deep
      omega
    · exact ⟨.str d.shown, H, I.kept (t' := tk) k, ⟨_, rfl⟩, q⟩
    · rw [sizeLine_eq]
      exact hs.long
end
end L2

/-! several except clauses, each with a name -/
namespace L2
open PySem PySem.Spec PyProof.Rows
abbrev Clause := Value × Nat × (Addr → Value → Option Addr → TS)
/-- ends behind a suite: the clause's name is gone -/
def endsGone (D : Ends) (i : Nat) : Ends := { nx := fun σ H => D.nx (σ.set i none) H, rt := D.rt, bk := fun σ H => D.bk (σ.set i none) H, ct := fun σ H => D.ct (σ.set i none) H }
def wNamed (K : PySem.W.Frag) (Wo : WX) (D : Ends) : List Clause → WX
  | [] => Wo
  | k :: r => fun cl d σ H => ∃ b, PySem.W.exmOne K cl k.1 = some b ∧ (b = true → ∀ a, H a = none → k.2.2 a cl d (endsGone D k.2.1) (σ.set k.2.1 (some (.ref a))) H) ∧ (b = false → wNamed K Wo D r cl d σ H)
def wLen (n : Nat) (W : WX) : WX := fun cl d σ H => σ.length = n → W cl d σ H
structure ClauseOk (X : Cx) (x n : Str) (suite : List Stmt) (k : Clause) : Prop where
  names : Names X x k.1
  at_ : X.N[k.2.1]? = some n
  loc : X.env.kindOf n = some .local
  run : ∀ (a : Addr) (o : Obj) (cl : Value) (d : Option Addr) (pn : List (Addr × Obj)), Zc cl d o → (∃ vs, o.data = .fields vs) → PSs (X.suite a ((a, o) :: pn)) suite (k.2.2 a cl d)
inductive NamedOk (X : Cx) : List ExceptHandler → List Clause → Prop
  | nil : NamedOk X [] []
  | cons {x n : Str} {k : Clause} {b : Stmt} {su : List Stmt} {p1 p2 : Pos} {hd : List ExceptHandler} {l : List Clause} (ok : ClauseOk X x n (b :: su) k) (r : NamedOk X hd l) : NamedOk X (.ExceptHandler (some (.Name x p1)) (some n) (b :: su) p2 :: hd) (k :: l)
section
variable {X : Cx} {hd0 : ExceptHandler} {hds : List ExceptHandler} {l : List Clause} {pos : Pos} {body : List Stmt} {tb : WX → TS} {Wo : WX} {pins : List (Addr × Obj)} {σ : L2.St} {H : Hp} {D : Ends}
/-- try: body, then except C as n: .. clauses, each by a name of its own -/
theorem ps_try_named (st : X.stack = X.env :: X.outer) (fr : X.env.frame = some X.env.locals) (nd : X.N.Nodup) (take : Takes X Wo)
    (run : ∀ (W : WX) (pn : List (Addr × Obj)) (xe : Value → Shared → Prop), Takes (X.tr pn xe) W → PassesOwn (model X.prog X.w) X.A X.env xe → PSs (X.tr pn xe) body (tb W)) (all : NamedOk X (hd0 :: hds) l) :
    PS X (.Try body (hd0 :: hds) [] [] pos) (fun D σ H => tb (wLen X.N.length (wNamed X.K Wo D l)) D σ H) := by
  constructor
  intro pins s σ H D I h
  have okX := I.ok
  have frs_eq : X.A.frames = some (X.env :: X.outer) := okX.frames.trans (congrArg some st)
  apply wpAny_Try_except
  refine wpAny_mono ((run (wLen X.N.length (wNamed X.K Wo D l)) (X.pn ++ pins) (fun e r1 => wpAny (model X.prog X.w) X.A (noteFrame e X.env) (fun _ r2 => wpAny (model X.prog X.w) X.A (setFlight e none) (fun _ r3 => wpAny (model X.prog X.w) X.A (handleBy e X.env (hd0 :: hds)) (SP X pins D) X.xe r3) X.xe r2) X.xe r1) (fun u s' x => ?_) PassesOwn.looking).run [] s σ H D (I.toTry _) h) (fun f s1 e => ?_) (fun _ _ z => z)
  · obtain ⟨a, B, sI, ps', τ, G, cl, d, rfl, J0, nb, up, sk, ga, eo, ag, wish⟩ := x
    have J : Inv X pins τ G sI := J0.ofTry okX
    rw [st] at sk
    show wpAny (model X.prog X.w) X.A (noteFrame (.ref a) X.env) _ _ _
    refine Sky.land Zc.steady frs_eq fr sk fun g3 dn up3 => ?_
    have J3 : Inv X pins τ G { s' with heap := g3 } := J.landed nb dn.1 (up.trans up3) eo ag
    obtain ⟨o3, v3, ho, zo, fo⟩ := dn.there
    have off : a ∉ frs (X.env :: X.outer) := fun m => by
      obtain ⟨_, o', ho', no⟩ := dn.2.2.1.mem m
      exact no _ ((Option.some.inj (ho.symm.trans ho')) ▸ fo)
    have aL : a ≠ X.env.locals := fun z => off (List.mem_filterMap.mpr ⟨X.env, List.mem_cons_self, z ▸ fr⟩)
    have aF : a ∉ X.fs := fun m => by
      obtain ⟨e, i, q⟩ := List.mem_filterMap.mp m
      exact off (List.mem_filterMap.mpr ⟨e, List.mem_cons_of_mem _ i, q⟩)
    have S3 := J3.suite ho fo ga aL aF
    have each : ∀ {hd : List ExceptHandler} {l : List Clause}, NamedOk X hd l → wNamed X.K Wo D l cl d τ G → wpAny (model X.prog X.w) X.A (handleBy (.ref a) X.env hd) (SP X pins D) X.xe { s' with heap := g3 } := by
      intro hd l m
      induction m with
      | nil =>
        intro wish
        apply wpAny_handleBy_nil
        obtain ⟨k1, k2, k3, oe, vs, T, oT, t', e1, e2, e3, e4, e5⟩ := id dn
        unfold PySem.passOn
        refine wpAny_bind (wpAny_field e1 e3 e4 ?_)
        rw [if_neg (show ¬ ((Value.ref T == Value.none) = true) from by simp)]
        have out : wpAny (model X.prog X.w) X.A (setFlight (.ref a) X.env.frame) (fun _ r => wpAny (model X.prog X.w) X.A (throw (.ref a) : Sem Flow) (SP X pins D) X.xe r) X.xe { s' with heap := g3 } := by
          rw [fr]
          exact HandSPX.setFlight_upZ dn fun g4 k4 up4 => wpAny_throw (take _ _ ⟨a, B, sI, pins, τ, G, cl, d, rfl, J, nb, (up.trans up3).trans up4, .inr (.inr (st ▸ k4)), ga, eo, ag, wish⟩)
        first | exact wpAny_bind (wpAny_pure (wpAny_bind out)) | exact wpAny_bind out
      | @cons x n k b su p1 p2 hd2 l2 C m2 ih =>
        intro wish
        obtain ⟨v, isK, yes, no⟩ := wish
        refine wpAny_handleBy_cons (codeAny_handlers_test ?_) nofun
        have tyA : PySem.W.Looks (model X.prog X.w) g3 (typeOf (.ref a)) cl := fun A Q E r k q => wpAny_typeOf_ref (k _ _ ho) (zo.1.symm ▸ q)
        have ans := PySem.W.exm_one (M := model X.prog X.w) (J3.kIn) tyA isK
        have reads : ∀ {Q E : Value → Shared → Prop}, Q k.1 { s' with heap := g3 } → wpAny (model X.prog X.w) (X.A.mark (some (.ref a))) (eval (.Name x p1) X.env) Q E { s' with heap := g3 } := fun {Q E} q => by
          rcases C.names with ⟨n1, n2, n3 | ⟨n3, n4, n5⟩⟩
          · exact ld_glob (X := X.suite a ((a, o3) :: (X.pn ++ pins))) S3 n1 n3 q n2
          · exact ld_blt (X := X.suite a ((a, o3) :: (X.pn ++ pins))) S3 n1 n3 n4 q n5 n2
        refine reads (ans.here ?_)
        cases v with
        | false => exact ih (no rfl)
        | true =>
          apply codeAny_handlers_suite_as
          refine HandSPX.lands_againZ dn fun g4 dn4 up4 => ?_
          have J4 : Inv X pins τ G { s' with heap := g4 } := J.landed nb dn4.1 ((up.trans up3).trans up4) eo ag
          obtain ⟨o4, v4, h4, z4, f4⟩ := dn4.there
          refine store_ok (X := X.suite a ((a, o4) :: (X.pn ++ pins))) (v := .ref a) (J4.suite h4 f4 ga aL aF) nd C.at_ (.inl C.loc) rfl (fun s5 S5 => ?_) (.inr C.loc)
          refine wpAny_mono ((C.run a o4 cl d (X.pn ++ pins) z4 ⟨_, f4⟩).run [] s5 _ G _ S5 (yes rfl a ga)) (fun f s6 e => ?_) (fun _ _ z => z.elim)
          have bye : ∀ {σ6 : L2.St} {H6 : Hp} {Q : Shared → Prop}, Inv (X.suite a ((a, o4) :: (X.pn ++ pins))) [] σ6 H6 s6 → (∀ s7, Inv X pins (σ6.set k.2.1 none) H6 s7 → Q s7) →
              wpAny (model X.prog X.w) X.A (do bindName X.env n .none; unbindBehindTheSuite X.env n p2) (fun _ s7 => Q s7) X.xe s6 := fun S6 q => gone_ok (S6.unsuite okX) nd C.at_ C.loc q
          cases f with
          | ret u =>
            obtain ⟨v6, σ6, H6, S6, r6, q6⟩ := e
            exact bye S6 fun s7 J7 => ⟨_, _, _, J7, r6, q6⟩
          | _ =>
            obtain ⟨σ6, H6, S6, q6⟩ := e
            exact bye S6 fun s7 J7 => ⟨_, _, J7, q6⟩
    exact each all (wish J.len)
  · cases f with
    | next =>
      obtain ⟨τ, G, J, q⟩ := e
      exact wpAny_execs_nil ⟨τ, G, J.ofTry okX, q⟩
    | ret u =>
      obtain ⟨v, τ, G, J, r, q⟩ := e
      exact ⟨v, τ, G, J.ofTry okX, r, q⟩
    | _ =>
      obtain ⟨τ, G, J, q⟩ := e
      exact ⟨τ, G, J.ofTry okX, q⟩
end
end L2

/-! error classes of the program that keep their argument: made, raised, caught, asked for their class -/
namespace L2
open PySem PySem.Spec PyProof.Rows
/-- what stands of an error class C with the field f; its __init__ at fI -/
structure ErrC (K : PySem.W.Frag) (mg : Str → Option Value) (x f : Str) (C fI : Addr) : Prop where
  gC : mg x = some (.ref C)
  ox : OexC K C
  no : PySem.W.findIn K (.ref C) f = some none
  iC : PySem.W.findIn K (.ref C) "__init__" = some (some (.ref fI))
  tI : PySem.W.typeIn K (.ref fI) = some (.type "function")
  ga : PySem.W.findIn K (.ref C) "__getattribute__" = some (some (.builtin "BaseException.__getattribute__"))
  gg : PySem.W.findIn K (.ref C) "__getattr__" = some none
  hd : PySem.W.hasDictIn K C = true
  ac : PySem.W.findIn K (.ref C) "__class__" = some (some (.builtin "object.__class__"))
  gt : PySem.W.specialIn K (.builtin "object.__class__") "__get__" = some (some (.builtin "getset_descriptor.__get__"))
  tk : PySem.W.takesIn K (.builtin "object.__class__") = some true
  ob : PySem.W.mroIn K C (.type "object") = some true
theorem ErrC.xf {K : PySem.W.Frag} {mg : Str → Option Value} {x f : Str} {C fI : Addr} (T : ErrC K mg x f C fI) : XfC K C := ⟨T.ga, T.gg, T.ox.exC, T.hd⟩
theorem ErrC.cl {K : PySem.W.Frag} {mg : Str → Option Value} {x f : Str} {C fI : Addr} (T : ErrC K mg x f C fI) : (PySem.W.clsIn K C).isSome = true := by
  obtain ⟨cd, hc, _⟩ := PySem.W.any_some T.hd
  rw [hc]
  rfl
def spErr (C : Addr) (f : Str) : Sp := fun vs H Q _ => ∃ (a : Addr) (v : V), vs = [.ref a, v] ∧ H a = some (exo a C none) ∧ ∀ dx, H dx = none → dx ≠ a → Q .non (upd (upd H dx (exd dx [(f, v)])) a (exo a C (some dx)))
theorem ok_err {P : Program} {w : World} {K : PySem.W.Frag} {mg : Str → Option Value} {base : Heap} {qual f x par : Str} {st : Stmt} {fI C : Addr} {fd : FuncData} {p1 p2 p3 p4 : Pos} (F : Fun K "__init__" qual st fI fd) (T : ErrC K mg x f C fI)
    (hB : defBody st = [.Assign [.Attribute (.Name "self" p1) f p2] (.Name par p3) p4]) (S : FnScope ["self", par] ["self", par] (defScope st)) (v0 : Vis (defScope st) "self") (v1 : Vis (defScope st) par)
    (d0 : (par == ("__debug__" : Str)) = false := by decide) (d1 : (par == ("__classdict__" : Str)) = false := by decide) : FnOk P w K mg base CX0 1 fI fd ["self", par] (spErr C f) := by
  refine F.ok S (fun vs H Q E h => ?_) (fun cdv A outer s H vs Q E hr h => ?_)
  · obtain ⟨a, v, rfl, _⟩ := h
    rfl
  · obtain ⟨a, v, rfl, e, q⟩ := h
    rw [hB]
    refine ⟨_, pss_one (ps_ost (pe_var (i := 0) rfl v0 (by decide) (by decide)) (pe_var (i := 1) rfl v1 d0 d1)), ?_⟩
    exact ⟨_, rfl, _, rfl, a, C, rfl, T.ox, T.no, .inl ⟨e, fun dx n ne => q dx n ne⟩⟩
theorem mkErr {C : Addr} {f : Str} {v : V} {H1 : Hp} {Q : XK} (h : ∀ H' d, Same H1 H' → H1 d = none → H' d = some (.xd [(f, v)]) → Q (.ref C) (some d) H') :
    [v].length ≤ 1000 ∧ ∀ a, H1 a = none → spErr C f (.ref a :: ([v] ++ [])) (upd H1 a (exo a C none))
      (fun u H2 => u = .non ∧ ∃ (d : Addr) (fs : List (Str × V)), H2 a = some (exo a C (some d)) ∧ H2 d = some (exd d fs) ∧ H1 d = none ∧ Q (.ref C) (some d) (upd (del H2 a) d (.xd fs))) (fun _ _ _ => False) := by
  refine ⟨(by decide : 1 ≤ 1000), fun a na => ⟨a, v, rfl, upd_same, fun dx nd ne => ⟨rfl, dx, [(f, v)], upd_same, (upd_ne ne).trans upd_same, ?_, ?_⟩⟩⟩
  · rwa [upd_ne ne] at nd
  · rw [upd_ne ne] at nd
    refine h _ dx (fun b o e => ?_) nd upd_same
    have n1 : b ≠ a := ne_of_none e na
    have n2 : b ≠ dx := ne_of_none e nd
    rw [upd_ne n2, del_ne n1, upd_ne n1, upd_ne n2, upd_ne n1]
    exact e
/-- isinstance(e, c) of the caught error with its dict -/
def rIsX (K : PySem.W.Frag) (D a : Addr) (cls : Value) (d : Option Addr) : List V → Hp → VK → Prop := fun xs H Q =>
  ∃ (c : V) (cv : Value) (b : Bool) (dd : Addr) (fs : List (Str × V)), xs = [.ref a, c] ∧ ClsV c cv ∧ cls = .ref D ∧ d = some dd ∧ H dd = some (.xd fs) ∧ PySem.W.kitOne K (.ref D) cv = some b ∧ Q (.bl b) H
theorem call_isX {X : Cx} {a D fI : Addr} {x f : Str} {oe : Obj} {cls : Value} {d : Option Addr} {pn : List (Addr × Obj)} (T : ErrC X.K X.mg x f D fI) (hz : Zc cls d oe) (hf : ∃ vs, oe.data = .fields vs) :
    CallR (X.suite a ((a, oe) :: pn)) (.builtin "isinstance") (rIsX X.K D a cls d) := by
  intro pins s σ H xs us Q I r h
  obtain ⟨c, cv, b, dd, fs, rfl, k, rfl, rfl, hd, e, q⟩ := h
  cases r with
  | cons rx rr =>
    cases rr with
    | cons rt rr =>
      cases rr
      cases rx
      have ec := k.eq rt
      subst ec
      obtain ⟨hget, _⟩ := I.pin (a, oe) (List.mem_append_left _ List.mem_cons_self)
      obtain ⟨vs, hv⟩ := hf
      have hx : ObjOk X.prog X.w H s.heap dd (.xd fs) := I.hok dd _ hd
      obtain ⟨mA, hns, _⟩ := hx
      obtain ⟨od, ho, _⟩ := lookIn_ns hns
      have J : PySem.W.InstAt s.heap a oe D (some od) := ⟨hget, hz.1, by unfold PySem.W.notCls; rw [hv] <;> rfl, by rw [hz.2]; exact ho⟩
      exact PySem.W.kia_one (PySem.W.kitx_exc T.cl T.ga T.gg T.ox.exC T.ac T.gt T.tk T.ob) I.kIn J e (fun z => nomatch z) fun tk => ⟨.bl b, H, I.kept (t' := tk) fun _ _ z => z, rfl, q⟩
theorem TyX.same {K : PySem.W.Frag} {H H' : Hp} {v : V} {t : Value} (ty : TyX K H v t) (s : Same H H') : TyX K H' v t := by
  cases ty with
  | base b =>
    cases b with
    | non => exact .base .non
    | bl y => exact .base (.bl y)
    | int i => exact .base (.int i)
    | str y => exact .base (.str y)
    | flt y => exact .base (.flt y)
    | lst e => exact .base (.lst (s _ _ e))
    | frz e => exact .base (.frz (s _ _ e))
    | tup e => exact .base (.tup (s _ _ e))
    | dK e => exact .base (.dK (s _ _ e))
    | dT e => exact .base (.dT (s _ _ e))
    | ins e cl ha hn htk hm => exact .base (.ins (s _ _ e) cl ha hn htk hm)
  | byt b => exact .byt b
  | set e => exact .set (s _ _ e)
  | kList e c => exact .kList e c
  | kTuple e c => exact .kTuple e c
  | kDict e c => exact .kDict e c
  | fTuple e => exact .fTuple (s _ _ e)
  | fDict e => exact .fDict (s _ _ e)
end L2

/-! error classes over any built-in error: made, raised, caught, asked for their class (X0 has those over ValueError) -/
namespace PySem.HandSPX
open PySem PySem.W PySem.Calls PyProof.Rows Builtin Builtin.ObjectAttr
theorem passAE (self : Value) : refuseLoop self "__setattr__" [.type "ArithmeticError", .type "Exception", .type "BaseException", .type "object"] = pure () := by kernel_rfl
theorem passLE (self : Value) : refuseLoop self "__setattr__" [.type "LookupError", .type "Exception", .type "BaseException", .type "object"] = pure () := by kernel_rfl
section
variable {prog : Program} {w : World} {A : Around} {R : Result → Shared → Prop} {hp : Heap} {g : Array GenState} {dr : Drawn} {tk0 : Nat} {os : OsState}
/-- the first attribute of an error, whatever built-in error its class is over -/
theorem gm_store {K : W.Frag} {nm : Str} {tk : Tok} {v : Value} {x C : Addr} {fv : Array Value} {cd : ClassData} (X : K.In hp) (hx : hp.get? x = some { cls := .ref C, data := .fields fv }) (hcd : W.clsIn K C = some cd)
    (full : cd.mro.isEmpty = false) (hob : cd.mro.contains (.type "object") = true) (pass : refuseLoop (.ref x) "__setattr__" cd.mro = pure ()) (hh : cd.hasDict = true) (ha : W.findIn K (.ref C) nm = some none)
    (done : ∀ h1 tk1 dx, (∀ b o, b ≠ x → hp.get? b = some o → h1.get? b = some o) → hp.objs.size ≤ dx → dx ≠ x → h1.get? x = some { cls := .ref C, dict := some dx, data := .fields fv } → h1.Ns1 dx (fun y => if y = nm then some v else none) → R (.ok (.ret .none)) ⟨h1, g, dr, tk1, os⟩) :
    codeAny (model prog w) A (.call (.builtin "object.__setattr__") ⟨[.ref x, .str nm tk, v], []⟩) R ⟨hp, g, dr, tk0, os⟩ := by
  have J : W.InstAt hp x { cls := .ref C, data := .fields fv } C none := ⟨hx, rfl, rfl, trivial⟩
  have S := F.store_object
  have off : x ≠ hp.objs.size := Nat.ne_of_lt (Heap.lt_size hx)
  have mroO : W.mroIn K C (.type "object") = some true := by
    unfold W.mroIn
    rw [hcd, Option.bind_some, if_neg (by rw [full]; decide), hob]
  have isO : W.Looks (model prog w) hp (isInstance (.ref x) (.type "object")) true := J.type.andThen (W.looks_mroIn X mroO)
  refine codeAny_call_builtin S.slot.plain S.entry (@W.check_slot (model prog w) _ _ ⟨hp, g, dr, tk0, os⟩ "object.__setattr__" "object" "__setattr__" (.ref x) [.str nm tk, v] [] _ S.kind S.split isO (S.args (.ref x) (.str nm tk) v) ?_)
  have look : W.Looks (model prog w) hp (classData C) cd := W.looks_clsIn X hcd
  have order : W.Looks (model prog w) hp (mroOf (.ref C)) cd.mro := look.andThen .now
  have none3 : W.Looks (model prog w) hp (storeTaker? none) none := .now
  rw [W.osa_eq, refuse_eq]
  refine wpAny_bind <| wpAny_bind <| J.type.at <| wpAny_bind <| order.at ?_
  rw [pass]
  refine wpAny_pure <| wpAny_bind <| J.type.at <| wpAny_bind <| (W.looks_findIn X ha).at <| wpAny_bind <| none3.at ?_
  show wpAny _ _ (storeInOwnDict (.ref x) (.ref C) (.str nm tk) nm v false) _ _ _
  obtain ⟨c1, c2, c3, c4, c5, c6, c7, c8, c9, c10, c11⟩ := cd
  dsimp only at hh
  subst hh
  unfold storeInOwnDict ownDictForStores
  repeat (first | (with_reducible refine store_in_new ?_ ?_) | (with_reducible refine wpAny_loadPart_at hx ?_) | (with_reducible refine look.at ?_) | wp_step)
  · exact ⟨_, #[], _, (Heap.get?_update_ne _ _ _ _ off.symm).trans (Heap.get?_push_at rfl rfl), rfl, (fun e he => absurd he (by simp)), fun _ => rfl⟩
  intro h1 tk1 hn1 same
  have hx1 : (hp.push { cls := .type "dict", data := .dict #[] }).get? x = some { cls := .ref C, data := .fields fv } := Heap.get?_push_of_some _ hx
  refine done h1 tk1 hp.objs.size (fun b o nb e => ?_) (Nat.le_refl _) off.symm ?_ hn1
  · exact (same.2 b (Nat.ne_of_lt (Heap.lt_size e))).trans ((Heap.get?_update_ne _ _ _ _ nb).trans (Heap.get?_push_of_some _ e))
  · exact (same.2 x off).trans (Heap.get?_update_self _ hx1 rfl)
end
end PySem.HandSPX
namespace L2
open PySem PySem.Spec PyProof.Rows
/-- what the written part says of an error class over some built-in error -/
structure OexB (K : PySem.W.Frag) (C : Addr) : Prop where
  cls : ∃ (nm q : Str) (N : Addr) (bs bm sub bmB : List Value) (sn : List Str) (ab : Bool) (col : Option Bool) (dd : Option Addr) (k0 k1 k2 k3 k5 : Option Value) (B newId initId : String),
    K.lookup C = some (excClassObj nm q C N bs bm true sn sub ab col dd k0 k1 k2 k3 k5 newId) ∧ ExcBaseFacts B newId initId bmB ∧ (∀ Y : String, bm.contains (.type Y) = bmB.contains (.type Y)) ∧ (∀ self : Value, refuseLoop self "__setattr__" bm = pure ()) ∧ bmB.contains (.type "object") = true
  sa : PySem.W.findIn K (.ref C) "__setattr__" = some (some (.builtin "object.__setattr__"))
  exC : PySem.W.subIn K (.ref C) (.type "BaseException") = some true
  tyC : PySem.W.typeIn K (.ref C) = some (.type "type")
  kC : PySem.W.keepIn K (.ref C) = true
theorem OexC.toB {K : PySem.W.Frag} {C : Addr} (T : OexC K C) : OexB K C := by
  obtain ⟨nm, q, N, bs, bm, sn, sub, ab, col, dd, k0, k1, k2, k3, k5, hC, hbm⟩ := T.cls
  exact ⟨⟨nm, q, N, bs, bm, sub, _, sn, ab, col, dd, k0, k1, k2, k3, k5, _, _, _, hC, PySem.F.excBase_ValueError, fun Y => PySem.HandSPX.refsVE_contains Y bm hbm, fun self => PySem.HandSPX.refsVE_pass self bm hbm, by decide +kernel⟩, T.sa, T.exC, T.tyC, T.kC⟩
section
variable {X : Cx} {pins : List (Addr × Obj)} {σ : St} {H : Hp} {s : Shared} {a C : Addr} {f : Str} {y : V} {u : Value} {Q : Unit → Shared → Prop} {E : Value → Shared → Prop} {A : Around}
theorem gm_first (T : OexB X.K C) (I : Inv X pins σ H s) (e : H a = some (exo a C none)) (hno : PySem.W.findIn X.K (.ref C) f = some none) (ry : RelV y u)
    (h : ∀ dx s', H dx = none → dx ≠ a → Inv X pins σ (upd (upd H dx (exd dx [(f, y)])) a (exo a C (some dx))) s' → Q () s') : wpAny (model X.prog X.w) A (setAttr (.ref a) f u) Q E s := by
  obtain ⟨nm, q, N, bs, bm, sub, bmB, sn, ab, col, dd, k0, k1, k2, k3, k5, B, n1, n2, hC, FB, has, pass, ob⟩ := T.cls
  have hcl : PySem.W.clsIn X.K C = some { name := nm, bases := bs, mro := .ref C :: bm, ns := N, qualname := q, hasDict := true, slotNames := sn, subclasses := sub, abstract := ab, collection := col, hasDel := false } := by
    unfold PySem.W.clsIn
    rw [hC] <;> rfl
  obtain ⟨t1, ho⟩ := exo_at I.hok e
  obtain ⟨hp, g, d, t, os⟩ := s
  refine PySem.W.set_plain I.kIn (od := none) (ox := { cls := .ref C, dict := none, data := .fields #[.ref t1, .none, .none, .none, .bool false, .none] }) ⟨ho, rfl, rfl, trivial⟩ T.sa ?_
  refine PySem.HandSPX.gm_store I.kIn ho hcl rfl (show (Value.ref C :: bm).contains (.type "object") = true from by rw [List.contains_cons, has, ob, Bool.or_true]) ((PySem.refuseLoop_ref _ _ C bm).trans (pass _)) rfl hno fun h' tk' dx k dn dne hx hn => ?_
  have hnd : H dx = none := I.hok.fresh dn
  have nd : ∀ {b : Addr} {o : Obj}, hp.get? b = some o → b ≠ dx := fun {b o} z => Nat.ne_of_lt (Nat.lt_of_lt_of_le (Heap.lt_size z) dn)
  have na : ∀ {b : Addr}, H b = none → b ≠ a := fun {b} n z => by
    rw [z, e] at n
    cases n
  have U : Un X.fs [] H (upd (upd H dx (exd dx [(f, y)])) a (exo a C (some dx))) hp h' := by
    constructor
    · intro b o z n _ _
      exact k b o (na n) z
    · intro b o z n _ _
      exact ⟨o.slots, k b o (na n) z⟩
    · intro b o z n _
      rw [upd_ne (na n), upd_ne (nd z)]
      exact n
    · intro b o z _
      by_cases hb : b = a
      · rw [hb]
        exact ⟨_, hx⟩
      · exact ⟨o, k b o hb z⟩
    · intro b xs z
      rw [upd_ne (at_ne e z exo_tup), upd_ne (ne_of_none z hnd)]
      exact z
    · intro b o v z
      rw [upd_ne (at_ne e z exo_frz), upd_ne (ne_of_none z hnd)]
      exact z
    · intro b ps z
      refine ⟨#[], ?_⟩
      rw [upd_ne (at_ne e z exo_tbl), upd_ne (ne_of_none z hnd), z]
      simp
  refine h dx _ hnd dne (I.un (t' := tk') U fun b o z => ?_)
  by_cases hb : b = a
  · subst hb
    rw [upd_same] at z
    cases z
    exact exo_ok hx
  rw [upd_ne hb] at z
  by_cases hd : b = dx
  · subst hd
    rw [upd_same] at z
    cases z
    exact exd_ok hn (relO_put (fs := []) ry fun _ => True.intro)
  rw [upd_ne hd] at z
  refine (I.hok b o z).stay (fun c v hc y => k c v ?_ y) (fun c hc => ?_) (fun c xs hc => ?_)
  · rcases hc with hc | hc
    · rw [hc]
      exact hb
    · exact at_ne e hc exo_own
  · rw [upd_ne (at_ne e hc exo_own), upd_ne (ne_of_none hc hnd)]
    exact hc
  · rw [upd_ne (at_ne e hc exo_tup), upd_ne (ne_of_none hc hnd)]
    exact hc
end
/-- self.f = e, the first attribute of an error -/
def tOstB (K : PySem.W.Frag) (f : Str) (to te : TE) : TS := fun D σ H => te σ H fun y H1 => to σ H1 fun x H2 => ∃ a C : Addr, x = .ref a ∧ OexB K C ∧ PySem.W.findIn K (.ref C) f = some none ∧
  H2 a = some (exo a C none) ∧ ∀ dx, H2 dx = none → dx ≠ a → D.nx σ (upd (upd H2 dx (exd dx [(f, y)])) a (exo a C (some dx)))
section
variable {X : Cx} {o e : Expr} {es : List Expr} {to te : TE} {ta : TA} {f : Str} {p p' pos : Pos}
theorem ps_ostB (ho : PE X o to) (he : PE X e te) (hs : swapsWith e (some (.Attribute o f p')) pos.line X.env = pure false := by rfl) : PS X (.Assign [.Attribute o f p'] e pos) (tOstB X.K f to te) := by
  constructor
  intro pins s σ H D I h
  refine plainObj_wpAny_Assign_Attribute (thn (he.run pins s σ H _ I h) fun v s1 h1 => ?_) hs
  obtain ⟨y, H1, I1, r1, q1⟩ := h1
  refine thn (ho.run pins s1 σ H1 _ I1 q1) fun u s2 h2 => ?_
  obtain ⟨x, H2, I2, r2, a, C, rfl, T, hno, ea, q⟩ := h2
  obtain rfl : u = Value.ref a := r2
  exact gm_first T I2 ea hno r1 fun dx s' n ne J => ⟨σ, _, J, q dx n ne⟩
theorem pmk_oexB {CX : CXT} {x : Str} {C fI : Addr} {k : Nat} {fd : FuncData} {ps : List Str} {sp : Sp} (T : OexB X.K C) (iC : PySem.W.findIn X.K (.ref C) "__init__" = some (some (.ref fI))) (tI : PySem.W.typeIn X.K (.ref fI) = some (.type "function"))
    (F1 : FnOk X.prog X.w X.K X.mg X.base CX k fI fd ps sp) (hr : Room (k + 1) X.A) (hb : Binds X.K fd ps []) (hx : Passes CX X (fun _ _ _ => False)) (hg : Gl X x) (hm : X.mg x = some (.ref C)) (ha : PA X (e :: es) ta)
    (hdb : (x == ("__debug__" : Str)) = false := by decide) (he : starEach (e :: es) X.env = (false, eval e X.env) :: starEach es X.env := by rfl) (hpl : (backTo pos (starEach es X.env)).any (·.1) = false := by rfl) :
    PMk X (.Call (.Name x p) (e :: es) [] pos) (tMkO C sp [] ta) := by
  intro pins s σ H Q I h
  obtain ⟨nm, q, N, bs, bm, sub, bmB, sn, ab, col, dd, k0, k1, k2, k3, k5, B, n1, n2, hC, FB, has, pass, ob⟩ := T.cls
  refine wpAny_Call_Name_kw (ld_glob I hg hm ?_ hdb)
  refine PySem.W.callWith_K (h₀ := X.base) I.ok.mod.kin T.kC (thn (ha.run pos pins s σ H _ I h) fun us s1 h1 => ?_) he hpl
  obtain ⟨vs, H1, I1, r1, hz, q1⟩ := h1
  refine ⟨I1.kIn, ?_⟩
  show wpAny _ _ (call (.ref C) us) _ _ _
  obtain ⟨hp, g, dr, tk, os⟩ := s1
  obtain ⟨top, etop⟩ : ∃ z, z = hp.objs.size + 1 := ⟨_, rfl⟩
  have hsz : hp.objs.size ≤ top := etop ▸ Nat.le_succ _
  have hq := q1 top (I1.hok.fresh hsz)
  have kk : ∀ b o, hp.get? b = some o → ((hp.push (PySem.W.kdv_tup us)).push (PySem.HandSPX.excO C hp.objs.size)).get? b = some o := fun b o z => Heap.get?_push_of_some _ (Heap.get?_push_of_some _ z)
  have hget : ((hp.push (PySem.W.kdv_tup us)).push (PySem.HandSPX.excO C hp.objs.size)).get? top = some (PySem.HandSPX.excO C hp.objs.size) := by
    rw [etop]
    heap_get
  have I2 : Inv X pins σ (upd H1 top (exo top C none)) ⟨(hp.push (PySem.W.kdv_tup us)).push (PySem.HandSPX.excO C hp.objs.size), g, dr, tk, os⟩ := I1.laid (t' := tk) kk hsz (exo_ok hget)
  have r2 : Vals (V.ref top :: (vs ++ [])) (Value.ref top :: (us ++ [])) := .cons rfl (r1.append .nil)
  have hl : (Value.ref top :: us ++ []).length = ps.length := by
    have z := r2.length
    rw [F1.len _ _ _ _ hq] at z
    exact z.symm
  have hus : us.length ≤ sizeLine := by
    rw [← Paired.length r1, sizeLine_eq]
    omega
  have bound : BindsTo ⟨(hp.push (PySem.W.kdv_tup us)).push (PySem.HandSPX.excO C hp.objs.size), g, dr, tk, os⟩ fd ⟨Value.ref top :: us, []⟩ (ps.zip (Value.ref top :: us ++ [])) := hb _ (Value.ref top :: us) I2.kIn hl
  have run := F1.run _ X.stack _ _ ⟨Value.ref top :: us, []⟩ (Value.ref top :: us ++ []) _ _ (fun _ _ _ => False) (hr.make C us []) (I2.env0.make C us []) bound r2 hq
  subst etop
  refine wpAny_call (PySem.HandSPX.call_own FB has (I1.kIn _ _ hC) (PySem.W.looks_findIn I1.kIn iC) (fun self => PySem.W.bind_fn I1.kIn self tI) hus (codeAny_mono run fun r s' hq' => ?_))
  match r, hq' with
  | .error er, hq' => exact hx pins σ _ _ er s' I2 hq'
  | .ok (.ret u), hq' =>
    obtain ⟨v, H2, os2, bare2, un2, hok2, rv, ev, d, fs, ea, ed, hd1, q2⟩ := hq'
    subst ev
    obtain ⟨h2, g2, d2, t2, os'⟩ := s'
    exact ⟨rv, mk_end (raises_own T.exC T.tyC) I1 hsz kk un2 hok2 os2 bare2 ea ed hd1 q2⟩
end
/-- an error class with one attribute, over any built-in error -/
structure ErrB (K : PySem.W.Frag) (mg : Str → Option Value) (x f : Str) (C fI : Addr) : Prop where
  gC : mg x = some (.ref C)
  ox : OexB K C
  no : PySem.W.findIn K (.ref C) f = some none
  iC : PySem.W.findIn K (.ref C) "__init__" = some (some (.ref fI))
  tI : PySem.W.typeIn K (.ref fI) = some (.type "function")
  ga : PySem.W.findIn K (.ref C) "__getattribute__" = some (some (.builtin "BaseException.__getattribute__"))
  gg : PySem.W.findIn K (.ref C) "__getattr__" = some none
  hd : PySem.W.hasDictIn K C = true
  ac : PySem.W.findIn K (.ref C) "__class__" = some (some (.builtin "object.__class__"))
  gt : PySem.W.specialIn K (.builtin "object.__class__") "__get__" = some (some (.builtin "getset_descriptor.__get__"))
  tk : PySem.W.takesIn K (.builtin "object.__class__") = some true
  ob : PySem.W.mroIn K C (.type "object") = some true
section
variable {K : PySem.W.Frag} {mg : Str → Option Value} {x f : Str} {C fI : Addr}
theorem ErrC.toB (T : ErrC K mg x f C fI) : ErrB K mg x f C fI := ⟨T.gC, T.ox.toB, T.no, T.iC, T.tI, T.ga, T.gg, T.hd, T.ac, T.gt, T.tk, T.ob⟩
theorem ErrB.xf (T : ErrB K mg x f C fI) : XfC K C := ⟨T.ga, T.gg, T.ox.exC, T.hd⟩
theorem ErrB.cl (T : ErrB K mg x f C fI) : (PySem.W.clsIn K C).isSome = true := by
  obtain ⟨cd, hc, _⟩ := PySem.W.any_some T.hd
  rw [hc]
  rfl
end
theorem ok_errB {P : Program} {w : World} {K : PySem.W.Frag} {mg : Str → Option Value} {base : Heap} {qual f x par : Str} {st : Stmt} {fI C : Addr} {fd : FuncData} {p1 p2 p3 p4 : Pos} (F : Fun K "__init__" qual st fI fd) (T : ErrB K mg x f C fI)
    (hB : defBody st = [.Assign [.Attribute (.Name "self" p1) f p2] (.Name par p3) p4]) (S : FnScope ["self", par] ["self", par] (defScope st)) (v0 : Vis (defScope st) "self") (v1 : Vis (defScope st) par)
    (d0 : (par == ("__debug__" : Str)) = false := by decide) (d1 : (par == ("__classdict__" : Str)) = false := by decide) : FnOk P w K mg base CX0 1 fI fd ["self", par] (spErr C f) := by
  refine F.ok S (fun vs H Q E h => ?_) (fun cdv A outer s H vs Q E hr h => ?_)
  · obtain ⟨a, v, rfl, _⟩ := h
    rfl
  · obtain ⟨a, v, rfl, e, q⟩ := h
    rw [hB]
    refine ⟨_, pss_one (ps_ostB (pe_var (i := 0) rfl v0 (by decide) (by decide)) (pe_var (i := 1) rfl v1 d0 d1)), ?_⟩
    exact ⟨_, rfl, _, rfl, a, C, rfl, T.ox, T.no, e, fun dx n ne => q dx n ne⟩
theorem call_isXB {X : Cx} {a D fI : Addr} {x f : Str} {oe : Obj} {cls : Value} {d : Option Addr} {pn : List (Addr × Obj)} (T : ErrB X.K X.mg x f D fI) (hz : Zc cls d oe) (hf : ∃ vs, oe.data = .fields vs) :
    CallR (X.suite a ((a, oe) :: pn)) (.builtin "isinstance") (rIsX X.K D a cls d) := by
  intro pins s σ H xs us Q I r h
  obtain ⟨c, cv, b, dd, fs, rfl, k, rfl, rfl, hd, e, q⟩ := h
  cases r with
  | cons rx rr =>
    cases rr with
    | cons rt rr =>
      cases rr
      cases rx
      have ec := k.eq rt
      subst ec
      obtain ⟨hget, _⟩ := I.pin (a, oe) (List.mem_append_left _ List.mem_cons_self)
      obtain ⟨vs, hv⟩ := hf
      have hx : ObjOk X.prog X.w H s.heap dd (.xd fs) := I.hok dd _ hd
      obtain ⟨mA, hns, _⟩ := hx
      obtain ⟨od, ho, _⟩ := lookIn_ns hns
      have J : PySem.W.InstAt s.heap a oe D (some od) := ⟨hget, hz.1, by unfold PySem.W.notCls; rw [hv] <;> rfl, by rw [hz.2]; exact ho⟩
      exact PySem.W.kia_one (PySem.W.kitx_exc T.cl T.ga T.gg T.ox.exC T.ac T.gt T.tk T.ob) I.kIn J e (fun z => nomatch z) fun tk => ⟨.bl b, H, I.kept (t' := tk) fun _ _ z => z, rfl, q⟩
end L2

/-! errors as values: made by position and by keyword, asked for their class, read -/
namespace PySem.HandSPX
open PySem PySem.W PySem.Calls PyProof.Rows Builtin Builtin.ObjectAttr
section
variable {M : Model} {A : Around} {E : Value → Shared → Prop} {h : Heap} {g : Array GenState} {d : Drawn} {t : Nat} {os : OsState}
variable {nm q : Str} {C N : Addr} {bs bm bmB : List Value} {hdct : Bool} {sn : List Str} {sub : List Value} {ab : Bool} {col : Option Bool} {dd : Option Addr} {k0 k1 k2 k3 k5 : Option Value} {B newId initId : String}
theorem gm_checkKw (F : ExcBaseFacts B newId initId bmB) (hT : ∀ X : String, bm.contains (.type X) = bmB.contains (.type X)) {kw : List (Str × Value)} {Q : Unit → Shared → Prop}
    (hC : h.get? C = some (excClassObj nm q C N bs bm hdct sn sub ab col dd k0 k1 k2 k3 k5 newId)) (hq : Q () ⟨h, g, d, t, os⟩) : wpAny M A (checkBuiltinCall newId ⟨[.ref C], kw⟩) Q E ⟨h, g, d, t, os⟩ := by
  have inB : (Value.ref C :: bm).contains (.type B) = true := by rw [List.contains_cons, hT, F.hasB, Bool.or_true]
  have st := F.noStar
  simp only [checkBuiltinCall, F.newKind, F.newSplit, F.newRow]
  repeat (first | (refine wpAny_loadPart_at hC ?_) | ((refine wpAny_isSubtype_exc hC ?_); rw [inB]) | (refine wpAny_staticBase_exc hC ?_) | (refine wpAny_madeBy_exc hC ?_) | (simp only [bne_self_eq_false, Bool.false_eq_true, if_false]) | wp_step)
  exact hq
end
section
variable {prog : Program} {w : World} {A : Around} {E : Value → Shared → Prop} {R : Result → Shared → Prop} {h : Heap} {g : Array GenState} {d : Drawn} {t : Nat} {os : OsState}
variable {nm q : Str} {C N : Addr} {bs bm bmB : List Value} {hdct : Bool} {sn : List Str} {sub : List Value} {ab : Bool} {col : Option Bool} {dd : Option Addr} {k0 k1 k2 k3 k5 : Option Value} {B newId initId : String}
theorem gm_newKw (F : ExcBaseFacts B newId initId bmB) (hT : ∀ X : String, bm.contains (.type X) = bmB.contains (.type X)) {kw : List (Str × Value)}
    (hC : h.get? C = some (excClassObj nm q C N bs bm hdct sn sub ab col dd k0 k1 k2 k3 k5 newId))
    (hq : R (.ok (.ret (.ref (h.objs.size + 1)))) ⟨(h.push { cls := .type "tuple", data := .seq ([] : List Value).toArray }).push { cls := .ref C, data := .fields #[.ref h.objs.size, .none, .none, .none, .bool false, .none] }, g, d, t, os⟩) :
    codeAny (model prog w) A (.builtin newId ⟨[.ref C], kw⟩) R ⟨h, g, d, t, os⟩ := by
  have en := F.ends
  have inB : (Value.ref C :: bm).contains (.type B) = true := by rw [List.contains_cons, hT, F.hasB, Bool.or_true]
  have inA : (Value.ref C :: bm).contains (.type "AttributeError") = false := by rw [List.contains_cons, hT, F.noAttr] <;> rfl
  have inN : (Value.ref C :: bm).contains (.type "NameError") = false := by rw [List.contains_cons, hT, F.noName] <;> rfl
  refine codeAny_builtinAt F.entry ?_
  unfold Builtin.«BaseException.__new__»
  refine wpAt_bind ?_
  show wpAt _ _ _ (stack >>= _) _ _ _
  refine wpAt_bind (wpAt_stack fun p below => wpAt_of_wpAny ?_)
  wp_walk
  refine wpAt_of_wpAny ?_
  rw [F.owner]
  have hrest : ([] : List Value).length ≤ sizeLine := Nat.zero_le _
  repeat (first | (with_reducible refine wpAny_madeHere_exc F.canon hC ?_) | (with_reducible refine wpAny_loadPart_at hC ?_) | ((with_reducible refine wpAny_isSubtype_exc hC ?_); first | rw [inB] | rw [inA] | rw [inN]) | wp_step)
  show R _ _
  rw [Heap.size_push]
  exact hq
theorem gm_checkType {M : Model} {kw : List (Str × Value)} {Q : Unit → Shared → Prop} (hC : h.get? C = some (excClassObj nm q C N bs bm hdct sn sub ab col dd k0 k1 k2 k3 k5 newId)) (hq : Q () ⟨h, g, d, t, os⟩) :
    wpAny M A (checkBuiltinCall "type.__call__" ⟨[.ref C], kw⟩) Q E ⟨h, g, d, t, os⟩ := by
  have f3 := tc_sub
  have isT : (⟨h, g, d, t, os⟩ : Shared).TypeIs (.ref C) "type" := ⟨_, hC, rfl⟩
  simp only [checkBuiltinCall, tc_kind, tc_split]
  repeat (any_goals (first | assumption | (with_reducible refine wpAny_loadPart_at hC ?_) | (with_reducible refine wpAny_onRaise ?_) | (with_reducible refine wpAny_map ?_) | wp_step))
theorem gm_typeKw (F : ExcBaseFacts B newId initId bmB) (hT : ∀ X : String, bm.contains (.type X) = bmB.contains (.type X)) {kw : List (Str × Value)} {fI : Addr} {Q : Fin → Shared → Prop}
    (hC : h.get? C = some (excClassObj nm q C N bs bm hdct sn sub ab col dd k0 k1 k2 k3 k5 newId))
    (hi : W.Looks (model prog w) h (typeLookup (.ref C) "__init__") (some (.ref fI))) (hb : ∀ self, W.Looks (model prog w) h (bindSpecial (.ref fI) self) (.ref fI, [self]))
    (hq : codeAny (model prog w) A (.call (.ref fI) ⟨[.ref (h.objs.size + 1)], kw⟩)
      (fun r s' => match r with | .ok (.ret v) => v = .none ∧ Q (.done (.ret (.ref (h.objs.size + 1)))) s' | .ok _ => False | .error e => E e s')
      ⟨(h.push (W.kdv_tup [])).push (excO C h.objs.size), g, d, t, os⟩) :
    wpAny (model prog w) A (Builtin.«type.__call__» ⟨[.ref C], kw⟩) Q E ⟨h, g, d, t, os⟩ := by
  repeat (first | (with_reducible refine wpAny_loadPart_at hC ?_) | (with_reducible refine wpAny_madeBy_exc hC ?_) | wp_step)
  refine codeAny_call_builtin_code (Code.quiet_builtin _ F.quiet) (gm_checkKw F hT hC ?_)
  refine gm_newKw F hT hC ?_
  show wpAny _ _ _ _ _ _
  have k : ∀ b o, h.get? b = some o → ((h.push (W.kdv_tup [])).push (excO C h.objs.size)).get? b = some o := fun b o z => Heap.get?_push_of_some _ (Heap.get?_push_of_some _ z)
  have hC1 := k _ _ hC
  have at1 : ((h.push (W.kdv_tup [])).push (excO C h.objs.size)).get? (h.objs.size + 1) = some (excO C h.objs.size) := by heap_get
  have inC : (Value.ref C :: bm).contains (.ref C) = true := by simp
  have i1 := hi.keeps k
  have b1 := (hb (.ref (h.objs.size + 1))).keeps k
  unfold isInstance
  repeat (first | (with_reducible refine wpAny_loadPart_at at1 ?_) | ((with_reducible refine wpAny_isSubtype_exc hC1 ?_); rw [inC]) | wp_step)
  show wpAny _ _ (typeLookup (.ref C) _) _ _ _
  refine i1.at ?_
  refine wpAny_holding (wpAny_bind (b1.at ?_))
  refine wpAny_bind (wpAny_call (codeAny_mono hq fun r s' z => ?_))
  match r, z with
  | .error e, z => exact z
  | .ok (.ret v), z =>
    obtain ⟨rfl, z⟩ := z
    first
      | exact wpAny_pure (wpAny_pure z)
      | (wp_walk; exact z)
theorem gm_callKw (F : ExcBaseFacts B newId initId bmB) (hT : ∀ X : String, bm.contains (.type X) = bmB.contains (.type X)) {kw : List (Str × Value)} {fI : Addr}
    (hC : h.get? C = some (excClassObj nm q C N bs bm hdct sn sub ab col dd k0 k1 k2 k3 k5 newId))
    (hi : W.Looks (model prog w) h (typeLookup (.ref C) "__init__") (some (.ref fI))) (hb : ∀ self, W.Looks (model prog w) h (bindSpecial (.ref fI) self) (.ref fI, [self]))
    (hq : codeAny (model prog w) (A.under (.builtin "type.__call__" ⟨[.ref C], kw⟩)) (.call (.ref fI) ⟨[.ref (h.objs.size + 1)], kw⟩) (W.InitBack (h.objs.size + 1) R) ⟨(h.push (W.kdv_tup [])).push (excO C h.objs.size), g, d, t, os⟩) :
    codeAny (model prog w) A (.call (.ref C) ⟨[], kw⟩) R ⟨h, g, d, t, os⟩ := by
  have f1 := tc_lookup
  have f2 := tc_bind (.ref C)
  have isT : (⟨h, g, d, t, os⟩ : Shared).TypeIs (.ref C) "type" := ⟨_, hC, rfl⟩
  refine codeAny_of_tree ?_
  show wpAny _ _ (callAny (.ref C) _) _ _ _
  repeat (any_goals (first | assumption | (with_reducible refine wpAny_loadPart_at hC ?_) | wp_step))
  refine ⟨rfl, ?_⟩
  refine codeAny_call_builtin_at (Code.quiet_builtin _ (by decide +kernel)) entry_typeCall (gm_checkType hC (gm_typeKw F hT hC hi hb ?_))
  refine codeAny_mono hq fun r s' z => ?_
  rcases r with e | (v | _ | _ | _) <;> exact z
end
end PySem.HandSPX

/-! errors as values: made by position and by keyword, asked for their class, read -/
namespace L2
open PySem PySem.Spec PyProof.Rows
/-- C(e, ..), as a value -/
def tMkV (C : Addr) (sp : Sp) (ta : TA) : TE := fun σ H Q => ta σ H fun vs H1 => vs.length ≤ 1000 ∧ ∀ a, H1 a = none → sp (.ref a :: (vs ++ [])) (upd H1 a (exo a C none)) (fun v H2 => v = .non ∧ Q (.ref a) H2) (fun _ _ _ => False)
/-- C(k = v), as a value -/
def tMkVK (C : Addr) (m : Nat) (sp : Sp) (gV : List V → List V → List V) (tk : TA) : TE := fun σ H Q => tk σ H fun zs H1 => zs.length = m ∧ ∀ a, H1 a = none → sp (gV [.ref a] zs) (upd H1 a (exo a C none)) (fun v H2 => v = .non ∧ Q (.ref a) H2) (fun _ _ _ => False)
section
variable {X : Cx} {CX : CXT} {x : Str} {C fI : Addr} {k : Nat} {fd : FuncData} {ps ks : List Str} {sp : Sp} {e : Expr} {es : List Expr} {kws : List Keyword} {ta tk : TA} {p pos : Pos} {g : List Value → List Value → List Value} {gV : List V → List V → List V}
theorem pe_mkV (T : OexB X.K C) (iC : PySem.W.findIn X.K (.ref C) "__init__" = some (some (.ref fI))) (tI : PySem.W.typeIn X.K (.ref fI) = some (.type "function"))
    (F1 : FnOk X.prog X.w X.K X.mg X.base CX k fI fd ps sp) (hr : Room (k + 1) X.A) (hb : Binds X.K fd ps []) (hx : Passes CX X (fun _ _ _ => False)) (hg : Gl X x) (hm : X.mg x = some (.ref C)) (ha : PA X (e :: es) ta)
    (hdb : (x == ("__debug__" : Str)) = false := by decide) (he : starEach (e :: es) X.env = (false, eval e X.env) :: starEach es X.env := by rfl) (hpl : (backTo pos (starEach es X.env)).any (·.1) = false := by rfl) :
    PE X (.Call (.Name x p) (e :: es) [] pos) (tMkV C sp ta) := by
  refine ⟨fun pins s σ H Q I h => ?_⟩
  obtain ⟨nm, q, N, bs, bm, sub, bmB, sn, ab, col, dd, k0, k1, k2, k3, k5, B, n1, n2, hC, FB, has, pass, ob⟩ := T.cls
  refine wpAny_Call_Name_kw (ld_glob I hg hm ?_ hdb)
  refine PySem.W.callWith_K (h₀ := X.base) I.ok.mod.kin T.kC (thn (ha.run pos pins s σ H _ I h) fun us s1 h1 => ?_) he hpl
  obtain ⟨vs, H1, I1, r1, hz, q1⟩ := h1
  refine ⟨I1.kIn, ?_⟩
  show wpAny _ _ (call (.ref C) us) _ _ _
  obtain ⟨hp, gg, dr, tk0, os⟩ := s1
  have hsz : hp.objs.size ≤ hp.objs.size + 1 := Nat.le_succ _
  have hq := q1 (hp.objs.size + 1) (I1.hok.fresh hsz)
  have kk : ∀ b o, hp.get? b = some o → ((hp.push (PySem.W.kdv_tup us)).push (PySem.HandSPX.excO C hp.objs.size)).get? b = some o := fun b o z => Heap.get?_push_of_some _ (Heap.get?_push_of_some _ z)
  have hget : ((hp.push (PySem.W.kdv_tup us)).push (PySem.HandSPX.excO C hp.objs.size)).get? (hp.objs.size + 1) = some (PySem.HandSPX.excO C hp.objs.size) := by heap_get
  have I2 : Inv X pins σ (upd H1 (hp.objs.size + 1) (exo (hp.objs.size + 1) C none)) ⟨(hp.push (PySem.W.kdv_tup us)).push (PySem.HandSPX.excO C hp.objs.size), gg, dr, tk0, os⟩ := I1.laid (t' := tk0) kk hsz (exo_ok hget)
  have r2 : Vals (V.ref (hp.objs.size + 1) :: (vs ++ [])) (Value.ref (hp.objs.size + 1) :: (us ++ [])) := .cons rfl (r1.append .nil)
  have hl : (Value.ref (hp.objs.size + 1) :: us ++ []).length = ps.length := by
    have z := r2.length
    rw [F1.len _ _ _ _ hq] at z
    exact z.symm
  have hus : us.length ≤ sizeLine := by
    rw [← Paired.length r1, sizeLine_eq]
    omega
  have bound : BindsTo ⟨(hp.push (PySem.W.kdv_tup us)).push (PySem.HandSPX.excO C hp.objs.size), gg, dr, tk0, os⟩ fd ⟨Value.ref (hp.objs.size + 1) :: us, []⟩ (ps.zip (Value.ref (hp.objs.size + 1) :: us ++ [])) := hb _ (Value.ref (hp.objs.size + 1) :: us) I2.kIn hl
  have run := F1.run _ X.stack _ _ ⟨Value.ref (hp.objs.size + 1) :: us, []⟩ (Value.ref (hp.objs.size + 1) :: us ++ []) _ _ (fun _ _ _ => False) (hr.make C us []) (I2.env0.make C us []) bound r2 hq
  refine wpAny_call (PySem.HandSPX.call_own FB has (I1.kIn _ _ hC) (PySem.W.looks_findIn I1.kIn iC) (fun self => PySem.W.bind_fn I1.kIn self tI) hus (codeAny_mono run fun r s' hq' => ?_))
  match r, hq' with
  | .error er, hq' => exact hx pins σ _ _ er s' I2 hq'
  | .ok (.ret u), hq' =>
    obtain ⟨v, H', I3, rv, ev, q3⟩ := I2.after hq'
    subst ev
    exact ⟨rv, ⟨V.ref (hp.objs.size + 1), H', I3, rfl, q3⟩⟩
theorem pe_mkVK (T : OexB X.K C) (iC : PySem.W.findIn X.K (.ref C) "__init__" = some (some (.ref fI))) (tI : PySem.W.typeIn X.K (.ref fI) = some (.type "function"))
    (F1 : FnOk X.prog X.w X.K X.mg X.base CX k fI fd ps sp) (hr : Room (k + 1) X.A) (hb : KBn X.K fd ps 1 ks g gV) (hx : Passes CX X (fun _ _ _ => False)) (hg : Gl X x) (hm : X.mg x = some (.ref C)) (hkw : PK X kws tk)
    (hall : (backToKw pos (keywordEach kws X.env)).all (·.1.isSome) = true := by rfl) (hks : (backToKw pos (keywordEach kws X.env)).filterMap (·.1) = ks := by rfl) (hdb : (x == ("__debug__" : Str)) = false := by decide)
    (hpl : ((backTo pos (starEach [] X.env)).any (·.1) || (backToKw pos (keywordEach kws X.env)).any (·.1.isNone)) = false := by rfl) :
    PE X (.Call (.Name x p) [] kws pos) (tMkVK C ks.length sp gV tk) := by
  refine ⟨fun pins s σ H Q I h => ?_⟩
  obtain ⟨nm, q, N, bs, bm, sub, bmB, sn, ab, col, dd, k0, k1, k2, k3, k5, B, n1, n2, hC, FB, has, pass, ob⟩ := T.cls
  refine wpAny_Call_Name_kw (ld_glob I hg hm ?_ hdb)
  refine PySem.W.callWith_KW0 (h₀ := X.base) I.ok.mod.kin T.kC hall ?_ hpl
  refine thn (hkw.run pos pins s σ H _ I h) fun ws s1 ⟨zs, H1, I1, rz, l1, q1⟩ => ⟨I1.kIn, ?_⟩
  rw [hks]
  show wpAny _ _ (call (.ref C) [] (ks.zip ws)) _ _ _
  obtain ⟨hp, gg, dr, tk0, os⟩ := s1
  have hsz : hp.objs.size ≤ hp.objs.size + 1 := Nat.le_succ _
  have hq := q1 (hp.objs.size + 1) (I1.hok.fresh hsz)
  have kk : ∀ b o, hp.get? b = some o → ((hp.push (PySem.W.kdv_tup [])).push (PySem.HandSPX.excO C hp.objs.size)).get? b = some o := fun b o z => Heap.get?_push_of_some _ (Heap.get?_push_of_some _ z)
  have hget : ((hp.push (PySem.W.kdv_tup [])).push (PySem.HandSPX.excO C hp.objs.size)).get? (hp.objs.size + 1) = some (PySem.HandSPX.excO C hp.objs.size) := by heap_get
  have I2 : Inv X pins σ (upd H1 (hp.objs.size + 1) (exo (hp.objs.size + 1) C none)) ⟨(hp.push (PySem.W.kdv_tup [])).push (PySem.HandSPX.excO C hp.objs.size), gg, dr, tk0, os⟩ := I1.laid (t' := tk0) kk hsz (exo_ok hget)
  have r1 : Vals [V.ref (hp.objs.size + 1)] [Value.ref (hp.objs.size + 1)] := .cons rfl .nil
  have r2 := hb.rel r1 rz
  have bound := hb.to _ [Value.ref (hp.objs.size + 1)] ws I2.kIn rfl (rz.length.symm.trans l1)
  have run := F1.run _ X.stack _ _ ⟨[Value.ref (hp.objs.size + 1)], ks.zip ws⟩ (g [Value.ref (hp.objs.size + 1)] ws) _ _ (fun _ _ _ => False) (hr.make C [] (ks.zip ws)) (I2.env0.make C [] (ks.zip ws)) bound r2 hq
  refine wpAny_call (PySem.HandSPX.gm_callKw FB has (I1.kIn _ _ hC) (PySem.W.looks_findIn I1.kIn iC) (fun self => PySem.W.bind_fn I1.kIn self tI) (codeAny_mono run fun r s' hq' => ?_))
  match r, hq' with
  | .error er, hq' => exact hx pins σ _ _ er s' I2 hq'
  | .ok (.ret u), hq' =>
    obtain ⟨v, H', I3, rv, ev, q3⟩ := I2.after hq'
    subst ev
    exact ⟨rv, ⟨V.ref (hp.objs.size + 1), H', I3, rfl, q3⟩⟩
/-- C(), a class without own __init__ -/
theorem pe_mkV0 {bmB : List Value} {B newId initId : String} (F : ExcBaseFacts B newId initId bmB) (q : PySem.W.excIn X.K C bmB newId = true) (gC : X.mg x = some (.ref C)) (kC : PySem.W.keepIn X.K (.ref C) = true) (hg : Gl X x)
    (hdb : (x == ("__debug__" : Str)) = false := by decide) :
    PE X (.Call (.Name x p) [] [] pos) (fun σ H Q => ∀ a, H a = none → Q (.ref a) (upd H a (ExO (.ref C) a))) := by
  refine ⟨fun pins s σ H Q I h => ?_⟩
  refine wpAny_Call_Name_kw (ld_glob I hg gC ?_ hdb)
  refine PySem.W.callWith_K0 (I.tok _).kIn kC ?_
  show wpAny _ _ (call (.ref C) []) _ _ _
  obtain ⟨bm, N, nm, qn, bs, hdct, sn, sub, ab, col, dd, k0, k1, k2, k3, k5, mN, hC, hN, hni, T⟩ := exc_obj (I.tok _).kIn q
  refine wpAny_call_exc_subT F T hC hN hni (fun h' a hm => ?_) (Nat.zero_le _)
  have hn : H a = none := I.hok.gone hm.new
  obtain ⟨t, ht, _, _⟩ := hm.there
  exact ⟨.ref a, upd H a (ExO (.ref C) a), I.laidN hm.keeps hm.new hn (exO_ok ht ⟨rfl, rfl⟩ rfl rfl rfl (show 4 < 6 by decide)), rfl, h a hn⟩
end
/-- at a stands an error of the class C with these attributes -/
def ErAt (H : Hp) (a C : Addr) (fs : List (Str × V)) : Prop := (fs = [] ∧ H a = some (ExO (.ref C) a)) ∨ ∃ dx, H a = some (exo a C (some dx)) ∧ H dx = some (exd dx fs)
/-- what a class of errors has for its instances to be asked and read -/
structure ErI (K : PySem.W.Frag) (C : Addr) : Prop where
  cl : (PySem.W.clsIn K C).isSome = true
  ga : PySem.W.findIn K (.ref C) "__getattribute__" = some (some (.builtin "BaseException.__getattribute__"))
  gg : PySem.W.findIn K (.ref C) "__getattr__" = some none
  ex : PySem.W.subIn K (.ref C) (.type "BaseException") = some true
  hd : PySem.W.hasDictIn K C = true
  ac : PySem.W.findIn K (.ref C) "__class__" = some (some (.builtin "object.__class__"))
  gt : PySem.W.specialIn K (.builtin "object.__class__") "__get__" = some (some (.builtin "getset_descriptor.__get__"))
  tk : PySem.W.takesIn K (.builtin "object.__class__") = some true
  ob : PySem.W.mroIn K C (.type "object") = some true
theorem ErrB.erI {K : PySem.W.Frag} {mg : Str → Option Value} {x f : Str} {C fI : Addr} (T : ErrB K mg x f C fI) : ErI K C := ⟨T.cl, T.ga, T.gg, T.ox.exC, T.hd, T.ac, T.gt, T.tk, T.ob⟩
section
variable {X : Cx} {pins : List (Addr × Obj)} {σ : St} {H : Hp} {s : Shared} {a C : Addr} {fs : List (Str × V)}
theorem er_inst (I : Inv X pins σ H s) (h : ErAt H a C fs) : ∃ (oe : Obj) (od : Option Obj), PySem.W.InstAt s.heap a oe C od ∧ ∀ f v, fs.lookup f = some v → ∃ o u, od = some o ∧ PySem.W.lookIn f o = some (some u) ∧ RelV v u := by
  rcases h with ⟨rfl, e⟩ | ⟨dx, e, ed⟩
  · obtain ⟨⟨oe, vs, ho, hz, hd, _⟩, _, _⟩ := I.hok a _ e
    obtain ⟨oc, od, oda, osl⟩ := oe
    obtain ⟨h1, h2⟩ := hz
    dsimp only at h1 h2 hd
    subst h1 h2 hd
    exact ⟨_, none, ⟨ho, rfl, rfl, trivial⟩, fun f v z => nomatch z⟩
  · obtain ⟨t1, ho⟩ := exo_at I.hok e
    obtain ⟨mA, hns, rel⟩ := exd_at I.hok ed
    obtain ⟨od, ho2, hl⟩ := lookIn_ns hns
    refine ⟨_, some od, ⟨ho, rfl, rfl, ho2⟩, fun f v z => ?_⟩
    obtain ⟨u, hu, ru⟩ := RelO.some_of (v := v) (o := mA f) (by rw [← z]; exact rel f)
    exact ⟨od, u, rfl, by rw [hl, hu], ru⟩
/-- isinstance(e, c) of an error that is held -/
def rErI (K : PySem.W.Frag) : List V → Hp → VK → Prop := fun xs H Q =>
  ∃ (a C : Addr) (fs : List (Str × V)) (c : V) (cv : Value) (b : Bool), xs = [.ref a, c] ∧ ErAt H a C fs ∧ ErI K C ∧ ClsV c cv ∧ PySem.W.kitOne K (.ref C) cv = some b ∧ Q (.bl b) H
theorem call_erI : CallR X (.builtin "isinstance") (rErI X.K) := by
  intro pins s σ H xs us Q I r h
  obtain ⟨a, C, fs, c, cv, b, rfl, hat, T, k, e, q⟩ := h
  cases r with
  | cons rx rr =>
    cases rr with
    | cons rt rr =>
      cases rr
      cases rx
      have ec := k.eq rt
      subst ec
      obtain ⟨oe, od, J, _⟩ := er_inst I hat
      exact PySem.W.kia_one (PySem.W.kitx_exc T.cl T.ga T.gg T.ex T.ac T.gt T.tk T.ob) I.kIn J e (fun z => nomatch z) fun tk => ⟨.bl b, H, I.kept (t' := tk) fun _ _ z => z, rfl, q⟩
/-- e.f of an error that is held -/
def tErF (K : PySem.W.Frag) (f : Str) (te : TE) : TE := fun σ H Q => te σ H fun x H1 => ∃ (a C : Addr) (fs : List (Str × V)) (v : V), x = .ref a ∧ ErAt H1 a C fs ∧ ErI K C ∧ PySem.W.findIn K (.ref C) f = some none ∧ fs.lookup f = some v ∧ Q v H1
theorem pe_erF {e : Expr} {te : TE} {pos : Pos} {n : Str} (he : PE X e te) (hb : attributeBase e n X.env (eval e X.env) = eval e X.env := by rfl) : PE X (.Attribute e n pos) (tErF X.K n te) := by
  refine ⟨fun pins s σ H Q I h => ?_⟩
  refine attr_of hb (thn (he.run pins s σ H _ I h) fun u s1 hh => ?_)
  obtain ⟨x, H1, I1, rx, a, C, fs, v, ex, hat, T, hno, l, q⟩ := hh
  subst ex
  obtain rfl : u = Value.ref a := rx
  obtain ⟨oe, od, J, hl⟩ := er_inst I1 hat
  obtain ⟨o, u, rfl, hu, ru⟩ := hl n v l
  exact PySem.HandSPX.exc_get I1.kIn J T.ga T.gg T.ex (PySem.W.findObj_own T.hd hno rfl hu) (handed_of ru) ⟨v, H1, I1.tok _, ru, q⟩
end
end L2

/-! lists of errors, lists of answers of isinstance, how often True stands in a list -/
namespace L2
open PySem PySem.Spec PyProof.Rows
theorem ErAt.same {H H' : Hp} {a C : Addr} {fs : List (Str × V)} (h : ErAt H a C fs) (s : Same H H') : ErAt H' a C fs := by
  rcases h with ⟨rfl, e⟩ | ⟨dx, e, ed⟩
  · exact .inl ⟨rfl, s _ _ e⟩
  · exact .inr ⟨dx, s _ _ e, s _ _ ed⟩
/-- at these places stand errors of these classes, all with the one attribute's value v -/
inductive Ers (H : Hp) (v : V) : List Addr → List (Addr × Str) → Prop
  | nil : Ers H v [] []
  | cons {a C : Addr} {f : Str} {as : List Addr} {L : List (Addr × Str)} : ErAt H a C [(f, v)] → Ers H v as L → Ers H v (a :: as) ((C, f) :: L)
section
variable {H H' : Hp} {v : V} {as bs : List Addr} {L L' : List (Addr × Str)}
theorem Ers.same (h : Ers H v as L) (s : Same H H') : Ers H' v as L := by
  induction h with
  | nil => exact .nil
  | cons a _ ih => exact .cons (a.same s) ih
theorem Ers.app (h : Ers H v as L) (k : Ers H v bs L') : Ers H v (as ++ bs) (L ++ L') := by
  induction h with
  | nil => exact k
  | cons a _ ih => exact .cons a ih
theorem Ers.length (h : Ers H v as L) : as.length = L.length := by
  induction h with
  | nil => rfl
  | cons _ _ ih => rw [List.length_cons, List.length_cons, ih]
theorem Ers.get (h : Ers H v as L) {i : Nat} {a : Addr} (e : as[i]? = some a) : ∃ C f, (C, f) ∈ L ∧ ErAt H a C [(f, v)] := by
  induction h generalizing i with
  | nil => simp at e
  | @cons b C f as L x _ ih =>
    cases i with
    | zero =>
      simp at e
      subst e
      exact ⟨C, f, List.mem_cons_self, x⟩
    | succ i =>
      obtain ⟨C', f', m, y⟩ := ih (i := i) (by simpa using e)
      exact ⟨C', f', List.mem_cons_of_mem _ m, y⟩
end
theorem mkE {C : Addr} {f : Str} {v : V} {H1 : Hp} {Q : VK} (h : ∀ H' a, Same H1 H' → ErAt H' a C [(f, v)] → Q (.ref a) H') : ∀ a, H1 a = none → spErr C f [.ref a, v] (upd H1 a (exo a C none)) (fun u H2 => u = .non ∧ Q (.ref a) H2) (fun _ _ _ => False) := by
  intro a na
  refine ⟨a, v, rfl, upd_same, fun dx nd ne => ⟨rfl, ?_⟩⟩
  rw [upd_ne ne] at nd
  refine h _ a (fun b o e => ?_) (.inr ⟨dx, upd_same, (upd_ne ne).trans upd_same⟩)
  have n1 := ne_of_none e na
  have n2 := ne_of_none e nd
  rw [upd_ne n1, upd_ne n2, upd_ne n1]
  exact e
/-- C(x), x the local i -/
def tMk1 (i : Nat) (C : Addr) (f : Str) : TE := fun σ H Q => ∃ v, σ[i]? = some (some v) ∧ ∀ H' a, Same H H' → ErAt H' a C [(f, v)] → Q (.ref a) H'
def tMks (i : Nat) (L : List (Addr × Str)) : TA := fun σ H Q => ∃ v, σ[i]? = some (some v) ∧ ∀ H' as, Same H H' → Ers H' v as L → Q (as.map V.ref) H'
/-- [C(x), ..] -/
def tMkL (i : Nat) (L : List (Addr × Str)) : TE := fun σ H Q => ∃ v, σ[i]? = some (some v) ∧ ∀ H' as p, Same H H' → H p = none → H' p = some (.lst (as.map V.ref)) → Ers H' v as L → Q (.ref p) H'
/-- l + [C(x), ..], l the local j -/
def tMkC (j i : Nat) (L : List (Addr × Str)) : TE := fun σ H Q => ∃ v p as0 L0, σ[i]? = some (some v) ∧ σ[j]? = some (some (.ref p)) ∧ H p = some (.lst (as0.map V.ref)) ∧ Ers H v as0 L0 ∧ L0.length ≤ 1000 ∧
  ∀ H' as q, Same H H' → H q = none → H' q = some (.lst (as.map V.ref)) → Ers H' v as (L0 ++ L) → Q (.ref q) H'
theorem same_upd0 {H : Hp} {a : Addr} {o : HO} (n : H a = none) : Same H (upd H a o) := fun b u e => by rw [upd_ne (ne_of_none e n)]; exact e
theorem Same.thru {A B C : Hp} (x : Same A B) (y : Same B C) : Same A C := fun b o e => y _ _ (x _ _ e)
theorem sfree {A B : Hp} (x : Same A B) {p : Addr} (n : B p = none) : A p = none := by
  cases e : A p with
  | none => rfl
  | some o =>
    have := x _ _ e
    rw [n] at this
    cases this
section
variable {X : Cx} {i j : Nat} {x f n par : Str} {C fI : Addr} {fd : FuncData} {p1 p pos : Pos} {e e2 : Expr} {es : List Expr} {L : List (Addr × Str)}
theorem pe_mk1 (T : ErrB X.K X.mg x f C fI) (F1 : FnOk X.prog X.w X.K X.mg X.base CX0 1 fI fd ["self", par] (spErr C f)) (hr : Room 2 X.A) (hb : Binds X.K fd ["self", par] []) (hg : Gl X x) (hv : PE X (.Name n p1) (tVar i)) (hdb : (x == ("__debug__" : Str)) = false := by decide) :
    PE X (.Call (.Name x p) [.Name n p1] [] pos) (tMk1 i C f) := by
  refine ⟨fun pins s σ H Q I ⟨v, hi, q⟩ => ?_⟩
  refine (pe_mkV T.ox T.iC T.tI F1 hr hb pass0 hg T.gC (pa_cons hv pa_nil) hdb).run pins s σ H Q I ?_
  exact ⟨v, hi, (by show 1 ≤ 1000; decide), mkE fun H' a s' h => q H' a s' h⟩
theorem pe_mkK1 {g : List Value → List Value → List Value} (T : ErrB X.K X.mg x f C fI) (F1 : FnOk X.prog X.w X.K X.mg X.base CX0 1 fI fd ["self", par] (spErr C f)) (hr : Room 2 X.A) {gV : List V → List V → List V} (gv : ∀ a v, gV [.ref a] [v] = [.ref a, v]) (hb : KBn X.K fd ["self", par] 1 [par] g gV) (hg : Gl X x) (hv : PE X (.Name n p1) (tVar i)) (kp : Pos)
    (hall : (backToKw pos (keywordEach [⟨some par, .Name n p1, kp⟩] X.env)).all (·.1.isSome) = true := by rfl) (hks : (backToKw pos (keywordEach [⟨some par, .Name n p1, kp⟩] X.env)).filterMap (·.1) = [par] := by rfl) (hdb : (x == ("__debug__" : Str)) = false := by decide)
    (hpl : ((backTo pos (starEach [] X.env)).any (·.1) || (backToKw pos (keywordEach [⟨some par, .Name n p1, kp⟩] X.env)).any (·.1.isNone)) = false := by rfl) :
    PE X (.Call (.Name x p) [] [⟨some par, .Name n p1, kp⟩] pos) (tMk1 i C f) := by
  refine ⟨fun pins s σ H Q I ⟨v, hi, q⟩ => ?_⟩
  refine (pe_mkVK T.ox T.iC T.tI F1 hr hb pass0 hg T.gC (pk_cons hv pk_nil) hall hks hdb hpl).run pins s σ H Q I ?_
  refine ⟨v, hi, rfl, ?_⟩
  intro a na
  show spErr C f (gV [.ref a] [v]) _ _ _
  rw [gv]
  exact mkE (fun H' a s' h => q H' a s' h) a na
theorem pa_mk0 : PA X [] (tMks i []) := ⟨fun pos pins s σ H Q I ⟨v, hi, q⟩ => (pa_nil).run pos pins s σ H Q I (q H [] (fun _ _ e => e) .nil)⟩
theorem pa_mk (h : PE X e (tMk1 i C f)) (hs : PA X es (tMks i L)) (hst : starEach (e :: es) X.env = (false, eval e X.env) :: starEach es X.env := by rfl) : PA X (e :: es) (tMks i ((C, f) :: L)) :=
  ⟨fun pos pins s σ H Q I ⟨v, hi, q⟩ => (pa_cons h hs hst).run pos pins s σ H Q I ⟨v, hi, fun H1 a s1 h1 => ⟨v, hi, fun H2 as s2 h2 => q H2 (a :: as) (s1.thru s2) (.cons (h1.same s2) h2)⟩⟩⟩
theorem pe_mkL (hs : PA X es (tMks i L)) (hL : L.length ≤ 1000 := by decide) : PE X (.List es pos) (tMkL i L) :=
  ⟨fun pins s σ H Q I ⟨v, hi, q⟩ => (pe_lst hs).run pins s σ H Q I ⟨v, hi, fun H1 as s1 h1 => ⟨by rw [List.length_map, h1.length, sizeLine_eq]; omega, fun p np => q _ as p (s1.thru (same_upd0 np)) (sfree s1 np) upd_same (h1.same (same_upd0 np))⟩⟩⟩
theorem pe_mkC (ha : PE X e (tVar j)) (hs : PE X e2 (tMkL i L)) (hL : L.length ≤ 1000 := by decide) : PE X (.BinOp e .Add e2 pos) (tMkC j i L) :=
  ⟨fun pins s σ H Q I ⟨v, p, as0, L0, hi, hj, hp, h0, hn, q⟩ => (pe_op op_cat ha hs).run pins s σ H Q I
    ⟨.ref p, hj, v, hi, fun H1 as r s1 n1 hr h1 => ⟨p, r, _, _, rfl, rfl, s1 _ _ hp, hr, by rw [List.length_map, List.length_map, h0.length, h1.length, sizeLine_eq]; omega, fun z nz => q _ (as0 ++ as) z (s1.thru (same_upd0 nz)) (sfree s1 nz) (by rw [upd_same, List.map_append]) (((h0.same s1).app h1).same (same_upd0 nz))⟩⟩⟩
end
/-! isinstance(e, c), .. -/
def Kit (K : PySem.W.Frag) (C : Addr) (f : V → Bool) (ts : List V) : Prop := ∀ t ∈ ts, ∃ cv, ClsV t cv ∧ PySem.W.kitOne K (.ref C) cv = some (f t)
def tI1 (K : PySem.W.Frag) (i : Nat) (t : V) : TE := fun σ H Q => ∃ a C fs f, σ[i]? = some (some (.ref a)) ∧ ErAt H a C fs ∧ ErI K C ∧ Kit K C f [t] ∧ Q (.bl (f t)) H
def tIs (K : PySem.W.Frag) (i : Nat) (ts : List V) : TA := fun σ H Q => ∃ a C fs f, σ[i]? = some (some (.ref a)) ∧ ErAt H a C fs ∧ ErI K C ∧ Kit K C f ts ∧ Q (ts.map fun t => .bl (f t)) H
def tIL (K : PySem.W.Frag) (i : Nat) (ts : List V) : TE := fun σ H Q => ∃ a C fs f, σ[i]? = some (some (.ref a)) ∧ ErAt H a C fs ∧ ErI K C ∧ Kit K C f ts ∧ ∀ p, H p = none → Q (.ref p) (upd H p (.lst (ts.map fun t => .bl (f t))))
def tIC (K : PySem.W.Frag) (j i : Nat) (ts : List V) : TE := fun σ H Q => ∃ a C fs f p xs, σ[i]? = some (some (.ref a)) ∧ σ[j]? = some (some (.ref p)) ∧ H p = some (.lst xs) ∧ xs.length ≤ 1000 ∧ ErAt H a C fs ∧ ErI K C ∧ Kit K C f ts ∧
  ∀ H' q, Same H H' → H q = none → H' q = some (.lst (xs ++ ts.map fun t => .bl (f t))) → Q (.ref q) H'
section
variable {X : Cx} {i j : Nat} {n : Str} {p p1 pos : Pos} {e e2 : Expr} {es : List Expr} {t : V} {ts : List V}
theorem pe_i1 (hg : Gl X "isinstance") (hm : X.mg "isinstance" = none) (hv : PE X (.Name n p1) (tVar i)) (ht : PE X e (tC t)) (hst : starEach [e] X.env = (false, eval e X.env) :: starEach [] X.env := by rfl) : PE X (.Call (.Name "isinstance" p) [.Name n p1, e] [] pos) (tI1 X.K i t) :=
  ⟨fun pins s σ H Q I ⟨a, C, fs, f, hi, h, T, k, q⟩ => (pe_callB call_erI hg hm (by decide +kernel) (pa_cons hv (pa_cons ht pa_nil hst) (by rfl)) (hpl := by rw [hst]; rfl)).run pins s σ H Q I
    (by
      obtain ⟨cv, k1, k2⟩ := k t (List.mem_singleton.mpr rfl)
      exact ⟨_, hi, a, C, fs, t, cv, f t, rfl, h, T, k1, k2, q⟩)⟩
theorem pa_i0 : PA X [] (tIs X.K i []) := ⟨fun pos pins s σ H Q I ⟨a, C, fs, f, hi, h, T, k, q⟩ => (pa_nil).run pos pins s σ H Q I q⟩
theorem pa_i (h : PE X e (tI1 X.K i t)) (hs : PA X es (tIs X.K i ts)) (hst : starEach (e :: es) X.env = (false, eval e X.env) :: starEach es X.env := by rfl) : PA X (e :: es) (tIs X.K i (t :: ts)) :=
  ⟨fun pos pins s σ H Q I ⟨a, C, fs, f, hi, he, T, k, q⟩ => (pa_cons h hs hst).run pos pins s σ H Q I
    ⟨a, C, fs, f, hi, he, T, fun t' m => k t' (List.mem_cons.mpr (.inl (List.mem_singleton.mp m))), a, C, fs, f, hi, he, T, fun t' m => k t' (List.mem_cons_of_mem _ m), q⟩⟩
theorem pe_iL (hs : PA X es (tIs X.K i ts)) (hL : ts.length ≤ 1000 := by decide) : PE X (.List es pos) (tIL X.K i ts) :=
  ⟨fun pins s σ H Q I ⟨a, C, fs, f, hi, he, T, k, q⟩ => (pe_lst hs).run pins s σ H Q I ⟨a, C, fs, f, hi, he, T, k, by rw [List.length_map, sizeLine_eq]; omega, fun p np => q p np⟩⟩
theorem pe_iC (ha : PE X e (tVar j)) (hs : PE X e2 (tIL X.K i ts)) (hL : ts.length ≤ 1000 := by decide) : PE X (.BinOp e .Add e2 pos) (tIC X.K j i ts) :=
  ⟨fun pins s σ H Q I ⟨a, C, fs, f, p, xs, hi, hj, hp, hn, he, T, k, q⟩ => (pe_op op_cat ha hs).run pins s σ H Q I
    ⟨.ref p, hj, a, C, fs, f, hi, he, T, k, fun r nr => ⟨p, r, _, _, rfl, rfl, same_upd0 nr _ _ hp, upd_same, by rw [List.length_map, sizeLine_eq]; omega, fun z nz => q _ z ((same_upd0 nr).thru (same_upd0 nz)) (sfree (same_upd0 nr) nz) upd_same⟩⟩⟩
end
/-! l.count(True) -/
def eqT (v : Value) : Bool := match v with
  | .bool b => b
  | _ => false
theorem bools_of {bs : List Bool} : ∀ {us : List Value}, Vals (bs.map V.bl) us → us = bs.map Value.bool := by
  induction bs with
  | nil => intro us r; cases r; rfl
  | cons b bs ih =>
    intro us r
    cases r with
    | cons a r =>
      have h := ih r
      have h2 : _ = Value.bool b := a
      rw [h, h2]
      rfl
def rCntT (K : PySem.W.Frag) : V → List V → Hp → VK → Prop := fun x xs H Q => ∃ (p : Addr) (bs : List Bool), x = .ref p ∧ xs = [.bl true] ∧ SqL K H p (bs.map V.bl) ∧ Q (.int (bs.count true : Nat)) H
theorem mt_countT {X : Cx} : MtR X "list.count" (rCntT X.K) := by
  intro pins s σ H x xs v us Q I rx rxs h
  obtain ⟨p, bs, rfl, rfl, hs, q⟩ := h
  cases rx
  obtain ⟨u, rfl, ru⟩ := rxs.one
  obtain rfl : u = Value.bool true := ru
  obtain ⟨its, rv, ⟨⟨cls, dd, data, sl⟩, n, ho, hc, hdn, hd⟩, hlen⟩ := I.list hs
  simp only at hc hd
  subst hc hd
  have hi := bools_of rv
  refine call_meets PySem.F.slot_list_count ⟨_, ho, rfl⟩ PySem.F.entry_list_count (PySem.F.args_list_count_2 _ _)
    (SeqAt.list_countAt p its.toArray n dd sl (.bool true) eqT) ⟨ho, fun y hy => ?_, ?_⟩
  · have m : y ∈ its := by simpa using hy
    rw [hi] at m
    obtain ⟨b, _, rfl⟩ := List.mem_map.mp m
    have e : eqT (.bool b) = (b == true) := by cases b <;> rfl
    rw [e]
    exact SeqAt.EqAt.bool_bool b true
  · have ec : its.toArray.toList.countP eqT = bs.count true := by
      rw [List.toList_toArray, hi, List.countP_map]
      refine List.countP_congr fun b _ => ?_
      cases b <;> simp [eqT]
    refine ⟨.int (bs.count true : Nat), H, I.tok _, ⟨s.toks, ?_⟩, q⟩
    show Value.int ((its.toArray.toList.countP eqT : Nat) : Int) s.toks = Value.int ((bs.count true : Nat) : Int) s.toks
    rw [ec]
end L2

/-! things of any kind, as menus hold them -/
namespace L2
open PySem PySem.Spec PyProof.Rows
inductive Flat : V → PyData → Prop
  | non : Flat .non .none
  | bl (b : Bool) : Flat (.bl b) (.bool b)
  | int (i : Int) : Flat (.int i) (.int i)
  | str (x : Str) : Flat (.str x) (.str x)
inductive Flats : List V → List PyData → Prop
  | nil : Flats [] []
  | cons {v : V} {vs : List V} {d : PyData} {ds : List PyData} : Flat v d → Flats vs ds → Flats (v :: vs) (d :: ds)
/-- a thing that is not at p: its value, its data, its kind -/
inductive Thing (p : Addr) (H : Hp) : V → PyData → String → Prop
  | non : Thing p H .non .none "NoneType"
  | bl (b : Bool) : Thing p H (.bl b) (.bool b) "bool"
  | int (i : Int) : Thing p H (.int i) (.int i) "int"
  | str (x : Str) : Thing p H (.str x) (.str x) "str"
  | tup {a : Addr} {xs : List V} {ds : List PyData} : a ≠ p → H a = some (.tup xs) → Flats xs ds → Thing p H (.ref a) (.tuple ds) "tuple"
  | lst {a : Addr} {xs : List V} {ds : List PyData} : a ≠ p → H a = some (.lst xs) → Flats xs ds → Thing p H (.ref a) (.list ds) "list"
  | dic {a : Addr} : a ≠ p → H a = some (.dK []) → Thing p H (.ref a) (.dict []) "dict"
theorem Flat.dq {K : PySem.W.Frag} {H : Hp} {v : V} {d : PyData} (h : Flat v d) : Dq K H v d := by
  cases h with
  | non => exact .non
  | bl b => exact .bl b
  | int i => exact .int i
  | str x => exact .str x
theorem Flats.dq {K : PySem.W.Frag} {H : Hp} {vs : List V} {ds : List PyData} (h : Flats vs ds) : DqAll K H vs ds := by
  induction h with
  | nil => exact .nil
  | cons a _ ih => exact .cons a.dq ih
section
variable {K : PySem.W.Frag} {p : Addr} {H H' : Hp} {v : V} {d : PyData} {t : String}
/-- all but p and the tables of code objects stands as it stood -/
def Kp (p : Addr) (H H' : Hp) : Prop := ∀ b o, b ≠ p → (∀ ps, o ≠ .tbl ps) → H b = some o → H' b = some o
theorem Kp.refl : Kp p H H := fun _ _ _ _ e => e
theorem Kp.trans {H1 H2 H3 : Hp} (a : Kp p H1 H2) (b : Kp p H2 H3) : Kp p H1 H3 := fun c o n t e => b c o n t (a c o n t e)
theorem Kp.of (s : Same H H') : Kp p H H' := fun b o _ _ e => s b o e
theorem Kp.ext (s : LamX.ExtN H H') : Kp p H H' := fun b o _ t e => s b o e t
theorem Kp.but (s : ∀ b o, b ≠ p → H b = some o → H' b = some o) : Kp p H H' := fun b o n _ e => s b o n e
theorem Kp.new {q : Addr} {o : HO} (s : Kp p H H') (n : H q = none) : Kp p H (upd H' q o) := fun b u nb t e => by rw [upd_ne (ne_of_none e n)]; exact s b u nb t e
theorem Thing.keep (h : Thing p H v d t) (k : Kp p H H') : Thing p H' v d t := by
  cases h with
  | non => exact .non
  | bl b => exact .bl b
  | int i => exact .int i
  | str x => exact .str x
  | tup n e f => exact .tup n (k _ _ n (fun _ z => by cases z) e) f
  | lst n e f => exact .lst n (k _ _ n (fun _ z => by cases z) e) f
  | dic n e => exact .dic n (k _ _ n (fun _ z => by cases z) e)
theorem Thing.same (h : Thing p H v d t) (s : Same H H') : Thing p H' v d t := h.keep (.of s)
theorem Thing.ty (h : Thing p H v d t) : TyX K H v (.type t) := by
  cases h with
  | non => exact .base .non
  | bl b => exact .base (.bl b)
  | int i => exact .base (.int i)
  | str x => exact .base (.str x)
  | tup n e f => exact .base (.tup e)
  | lst n e f => exact .base (.lst e)
  | dic n e => exact .base (.dK e)
theorem Thing.dq (h : Thing p H v d t) : Dq K H v d := by
  cases h with
  | non => exact .non
  | bl b => exact .bl b
  | int i => exact .int i
  | str x => exact .str x
  | tup n e f => exact .tup (SqT.of e) f.dq
  | lst n e f => exact .lst (SqL.of e) f.dq
  | dic n e => exact .dic e
end
theorem Thing.free (h : Thing p H v d t) {q : Addr} (n : H q = none) : v ≠ .ref q := fun z => by
  cases h with
  | tup _ e f => cases z; rw [n] at e; cases e
  | lst _ e f => cases z; rw [n] at e; cases e
  | dic _ e => cases z; rw [n] at e; cases e
  | _ => cases z
/-! sizes of what repr shows -/
structure ShAll (ds : List PyData) (n m : Nat) : Prop where
  ok : PyData.showableAll ds = true
  long : ((PyData.shownAll ds).map (·.length)).sum + 2 * ds.length ≤ n
  deep : PyData.depthAll ds ≤ m
theorem ShAll.nil {m : Nat} : ShAll [] 0 m := ⟨by simp [PyData.showableAll], by simp [PyData.shownAll], by simp [PyData.depthAll]⟩
theorem ShAll.cons {d : PyData} {ds : List PyData} {n k m : Nat} (h : Sh d n m) (hs : ShAll ds k m) : ShAll (d :: ds) (n + 2 + k) m := by
  refine ⟨?_, ?_, ?_⟩
  · simp only [PyData.showableAll, h.ok, hs.ok, Bool.and_self]
  · have a := h.long
    have b := hs.long
    simp only [PyData.shownAll, List.map_cons, List.sum_cons, List.length_cons]
    omega
  · have a := h.deep
    have b := hs.deep
    simp only [PyData.depthAll]
    omega
theorem Sh.lst {ds : List PyData} {n m : Nat} (h : ShAll ds n m) : Sh (.list ds) (n + 3) (m + 1) := by
  refine ⟨?_, ?_, ?_⟩
  · simp only [PyData.showable, h.ok]
  · have a := h.long
    have b := listText_len_le (PyData.shownAll ds)
    rw [PyData.shownAll_length] at b
    simp only [PyData.shown]
    omega
  · have a := h.deep
    simp only [PyData.depth]
    omega
theorem Sh.tup {ds : List PyData} {n m : Nat} (h : ShAll ds n m) : Sh (.tuple ds) (n + 3) (m + 1) := by
  refine ⟨?_, ?_, ?_⟩
  · simp only [PyData.showable, h.ok]
  · have a := h.long
    have b := tupleText_len_le (PyData.shownAll ds)
    rw [PyData.shownAll_length] at b
    simp only [PyData.shown]
    omega
  · have a := h.deep
    simp only [PyData.depth]
    omega
theorem Sh.le {d : PyData} {n n' m m' : Nat} (h : Sh d n m) (hn : n ≤ n') (hm : m ≤ m') : Sh d n' m' := ⟨h.ok, Nat.le_trans h.long hn, Nat.le_trans h.deep hm⟩
theorem Sh.bl (b : Bool) {m : Nat} : Sh (.bool b) 5 m := ⟨by simp only [PyData.showable], by cases b <;> (simp only [PyData.shown]; decide), by simp only [PyData.depth]; omega⟩
theorem Sh.non {m : Nat} : Sh .none 4 m := ⟨by simp only [PyData.showable], by simp only [PyData.shown]; decide, by simp only [PyData.depth]; omega⟩
theorem Sh.str (x : Str) {n m : Nat} (h : (reprText x).length ≤ n) : Sh (.str x) n m := ⟨by simp only [PyData.showable], by simp only [PyData.shown]; exact h, by simp only [PyData.depth]; omega⟩
theorem Sh.int (i : Int) {n m : Nat} (h : i.natAbs.log2 < 1920) (h2 : ((toString i : String) : Str).length ≤ n) : Sh (.int i) n m := ⟨by simp only [PyData.showable]; exact decide_eq_true h, by simp only [PyData.shown]; exact h2, by simp only [PyData.depth]; omega⟩
theorem Sh.dic {m : Nat} : Sh (.dict []) 10 (m + 1) := ⟨by simp only [PyData.showable, PyData.showableKv], by simp only [PyData.shown, PyData.shownKv]; decide +kernel, by simp only [PyData.depth, PyData.depthKv]; omega⟩
/-- an item of a menu: a thing that can be shown, of which C holds -/
def Item (p : Addr) (H : Hp) (C : V → Prop) (v : V) : Prop := ∃ d t, Thing p H v d t ∧ Sh d 300 2 ∧ C v
section
variable {p : Addr} {H H' : Hp} {C : V → Prop}
theorem Item.keep {v : V} (h : Item p H C v) (k : Kp p H H') : Item p H' C v := let ⟨d, t, a, b, c⟩ := h; ⟨d, t, a.keep k, b, c⟩
theorem item_non (c : C .non) : Item p H C .non := ⟨_, _, .non, (Sh.non (m := 0)).le (by decide) (by decide), c⟩
theorem item_bl (b : Bool) (c : C (.bl b)) : Item p H C (.bl b) := ⟨_, _, .bl b, (Sh.bl b).le (by decide) (Nat.le_refl _), c⟩
theorem item_int (i : Int) (h : i.natAbs.log2 < 1920) (h2 : ((toString i : String) : Str).length ≤ 300) (c : C (.int i)) : Item p H C (.int i) := ⟨_, _, .int i, .int i h h2, c⟩
theorem item_str (x : Str) (h : (reprText x).length ≤ 300) (c : C (.str x)) : Item p H C (.str x) := ⟨_, _, .str x, .str x h, c⟩
theorem item_dic {a : Addr} (n : a ≠ p) (e : H a = some (.dK [])) (c : C (.ref a)) : Item p H C (.ref a) := ⟨_, _, .dic n e, (Sh.dic (m := 0)).le (by decide) (by decide), c⟩
theorem item_tup {a : Addr} {xs : List V} {ds : List PyData} {k : Nat} (n : a ≠ p) (e : H a = some (.tup xs)) (f : Flats xs ds) (s : ShAll ds k 0) (hk : k + 3 ≤ 300) (c : C (.ref a)) : Item p H C (.ref a) := ⟨_, _, .tup n e f, (Sh.tup s).le hk (by decide), c⟩
theorem item_lst {a : Addr} {xs : List V} {ds : List PyData} {k : Nat} (n : a ≠ p) (e : H a = some (.lst xs)) (f : Flats xs ds) (s : ShAll ds k 0) (hk : k + 3 ≤ 300) (c : C (.ref a)) : Item p H C (.ref a) := ⟨_, _, .lst n e f, (Sh.lst s).le hk (by decide), c⟩
end
end L2

/-! the end of a law whose defs are FnG -/
namespace L2
open PySem PySem.Spec PyProof.Rows LamX
/-- what stands behind the top; cs: code objects with their tables -/
structure Ready (K : PySem.W.Frag) (mg mb : Str → Option Value) (z : Shared) (cs : List (Addr × Addr)) : Prop where
  kin : K.In z.heap
  glob : z.heap.Ns mainGlobals mg
  blt : z.heap.Ns builtinsNs mb
  boot : ∀ x : Str, x ≠ "__name__" → mb x = bootBuiltins x
  lim : z.heap.NoLimit
  mods : ∃ mm, z.heap.Ns sysModules mm
  gens : z.gens = #[]
  tabs : ∀ p ∈ cs, z.heap.get? p.2 = some { cls := .none, data := .fields #[] }
  tabK : ∀ p ∈ cs, K.lookup p.2 = none
  code : ∀ p ∈ cs, PySem.W.CodeHd z.heap p.1 p.2
  main : ∃ (bm : Addr) (ob : Obj), mg "__builtins__" = some (.ref bm) ∧ bm ≠ builtinsNs ∧ z.heap.get? bm = some ob ∧ ob.cls = .type "module" ∧ ob.dict = some builtinsNs ∧ ob.data = .plain
/-- the abstract heap at the law's entry: the tables, and the script if it is no object of the module -/
def hp0 (K : PySem.W.Frag) (cs : List (Addr × Addr)) (a : Addr) (o : Obj) (ns : List Int) : Hp := fun b =>
  if b ∈ cs.map (·.2) then some (.tbl #[]) else if b = a ∧ K.lookup a = none then some (.frz o (.lst (ns.map V.int))) else none
section
variable {P : Program} {w : World} {K : PySem.W.Frag} {mg mb : Str → Option Value} {z : Shared} {cs : List (Addr × Addr)} {a : Addr} {vs : List Value} {ns : List Int}
abbrev scr (vs : List Value) : Obj := { cls := .type "list", data := .seq vs.toArray }
theorem hp0_tab {o : Obj} {p : Addr × Addr} (m : p ∈ cs) : hp0 K cs a o ns p.2 = some (.tbl #[]) := if_pos (List.mem_map.mpr ⟨p, m, rfl⟩)
theorem hp0_of {o : Obj} {b : Addr} {u : HO} (e : hp0 K cs a o ns b = some u) : (∃ p ∈ cs, p.2 = b ∧ u = .tbl #[]) ∨ (b = a ∧ K.lookup a = none ∧ u = .frz o (.lst (ns.map V.int))) := by
  unfold hp0 at e
  split at e
  · rename_i m
    obtain ⟨p, hp, q⟩ := List.mem_map.mp m
    exact .inl ⟨p, hp, q, (Option.some.inj e).symm⟩
  · split at e
    · rename_i m
      exact .inr ⟨m.1, m.2, (Option.some.inj e).symm⟩
    · cases e
theorem Ready.quiet (R : Ready K mg mb z cs) (ha : z.heap.get? a = some (scr vs)) {b : Addr} {o : Obj} (e : z.heap.get? b = some o) (n1 : ∀ us n, o.data ≠ .seq us n) (n2 : o.data ≠ .fields #[]) : hp0 K cs a (scr vs) ns b = none := by
  cases q : hp0 K cs a (scr vs) ns b with
  | none => rfl
  | some u =>
    rcases hp0_of q with ⟨p, hp, rfl, _⟩ | ⟨rfl, _, _⟩
    · rw [R.tabs p hp] at e
      cases e
      exact absurd rfl n2
    · rw [ha] at e
      cases e
      exact absurd rfl (n1 _ _)
theorem Ready.hok (R : Ready K mg mb z cs) (ha : z.heap.get? a = some (scr vs)) (hi : IntsAre vs ns) (hl : ns.length ≤ sizeLine) : HOk P w (hp0 K cs a (scr vs) ns) z.heap := fun b u q => by
  rcases hp0_of q with ⟨p, hp, rfl, rfl⟩ | ⟨rfl, _, rfl⟩
  · exact R.tabs p hp
  · exact ⟨ha, by rw [List.length_map]; exact hl, vs, _, vals_ints hi, ha⟩
theorem Ready.seq (R : Ready K mg mb z cs) (ha : z.heap.get? a = some (scr vs)) (hi : IntsAre vs ns) (hl : ns.length ≤ sizeLine) : SqL K (hp0 K cs a (scr vs) ns) a (ns.map V.int) := by
  cases hk : K.lookup a with
  | some o =>
    have e := R.kin a o hk
    rw [ha] at e
    cases e
    have rv := vals_ints hi
    exact .inr ⟨_, vs.toArray, _, hk, rfl, rfl, rfl, by rw [List.size_toArray, hi.length]; exact hl, by simpa using rv⟩
  | none =>
    have nt : a ∉ cs.map (·.2) := fun m => by
      obtain ⟨p, hp, e⟩ := List.mem_map.mp m
      have q := R.tabs p hp
      rw [e, ha] at q
      have q' : Data.seq vs.toArray _ = Data.fields #[] := congrArg Obj.data (Option.some.inj q)
      cases q'
    exact .inl (.inr ⟨scr vs, (if_neg nt).trans (if_pos ⟨rfl, hk⟩)⟩)
theorem Ready.space (R : Ready K mg mb z cs) (ha : z.heap.get? a = some (scr vs)) {b : Addr} {m : Str → Option Value} (x : z.heap.Ns b m) : (hidT z.heap (hp0 K cs a (scr vs) ns)).Ns b m := by
  obtain ⟨o, es, ep, e, d, r⟩ := x
  refine ⟨o, es, ep, hidT_get e (R.quiet ha e (fun us n q => ?_) fun q => ?_), d, r⟩ <;> (rw [d] at q; cases q)
theorem Ready.mod (R : Ready K mg mb z cs) (ha : z.heap.get? a = some (scr vs)) : L2.Mod K mg (hidT z.heap (hp0 K cs a (scr vs) ns)) := by
  refine ⟨fun b o e => hidT_get (R.kin b o e) ?_, R.space ha R.glob, ⟨mb, R.space ha R.blt, R.boot⟩, ?_⟩
  · cases q : hp0 K cs a (scr vs) ns b with
    | none => rfl
    | some u =>
      rcases hp0_of q with ⟨p, hp, rfl, _⟩ | ⟨rfl, n, _⟩
      · have t := R.tabK p hp
        rw [e] at t
        cases t
      · rw [e] at n
        cases n
  · obtain ⟨mc, h1, h2⟩ := R.lim
    exact ⟨mc, R.space ha h1, h2⟩
theorem Ready.tabB (R : Ready K mg mb z cs) (ha : z.heap.get? a = some (scr vs)) {p : Addr × Addr} (hp : p ∈ cs) : TabB (hidT z.heap (hp0 K cs a (scr vs) ns)) mg p.1 p.2 := by
  have tp := R.tabs p hp
  obtain ⟨og, eg, epg, gg, gd, _⟩ := R.glob
  refine ⟨?_, ?_, fun q => ?_⟩
  · obtain ⟨o, us, file, tf, flags, tg, inF, text, tt, e1, r1, r2, r3, r⟩ := R.code p hp
    refine ⟨o, us, file, tf, flags, tg, inF, text, tt, hidT_get e1 (R.quiet ha e1 (fun us n q => ?_) fun q => ?_), r1, r2, r3, r⟩
    · rw [r2] at q
      cases q
    · rw [r2] at q
      cases q
      simp at r3
  · obtain ⟨bm, ob, b1, b2, b3, b4, b5, b6⟩ := R.main
    refine ⟨bm, ob, b1, b2, fun q => ?_, fun q => ?_, hidT_get b3 (R.quiet ha b3 (fun us n q => ?_) fun q => ?_), b4, b5, b6⟩
    · rw [q, gg] at b3
      cases b3
      rw [gd] at b6
      cases b6
    · rw [q, tp] at b3
      cases b3
      cases b6
    · rw [b6] at q
      cases q
    · rw [b6] at q
      cases q
  · rw [q, tp] at gg
    cases gg
    cases gd
theorem callG {k : Nat} {fa : Addr} {fd : FuncData} {x : Str} {sp : Sp} (R : Ready K mg mb z cs) (ha : z.heap.get? a = some (scr vs)) (hi : IntsAre vs ns) (hl : ns.length ≤ sizeLine) (hr : Room k callerA)
    (F : ∀ base : Heap, K.In base → base.Ns mainGlobals mg → (∃ mm, base.Ns sysModules mm) → (∀ p ∈ cs, TabB base mg p.1 p.2) → FnG P w K mg base CX0 k fa fd [x] sp) (hb : ∀ (s : Shared) (u : Value), BindsTo s fd ⟨[u], []⟩ [(x, u)])
    (hsp : ∀ H : Hp, (∀ p ∈ cs, H p.2 = some (.tbl #[])) → SqL K H a (ns.map V.int) → sp [.ref a] H (fun v _ => v = .bl true) fun _ _ _ => False) :
    codeAny (model P w) callerA (.call (.ref fa) ⟨[.ref a], []⟩) (fun r s' => r = .ok (.ret (.bool true)) ∧ OldK z.heap s'.heap ∧ s'.os = z.os ∧ AllBare s'.gens) z := by
  obtain ⟨H, eH⟩ : ∃ H, H = hp0 K cs a (scr vs) ns := ⟨_, rfl⟩
  have M := R.mod (ns := ns) ha
  have hok : HOk P w H z.heap := eH ▸ R.hok ha hi hl
  have tabH : ∀ p ∈ cs, H p.2 = some (.tbl #[]) := fun p hp => eH ▸ hp0_tab hp
  have G := F _ M.kin M.glob (R.mods.imp fun mm h => R.space (ns := ns) ha h) (fun p hp => R.tabB (ns := ns) ha hp)
  have e0 : Env0 P w K mg (hidT z.heap (hp0 K cs a (scr vs) ns)) callerA [] z H := ⟨rfl, M, fun b o e => eH ▸ of_hidT e, Nat.le_of_eq (hidT_size _ _), trivial, nofun, hok, .of_eq R.gens⟩
  refine codeAny_mono (G.goes (us := [.ref a]) (vs := [.ref a]) rfl hr e0 (hb z (.ref a)) (.cons rfl .nil) (hsp H tabH (eH ▸ R.seq ha hi hl))) fun r s' h => ?_
  match r, h with
  | .ok (.ret u), h =>
    obtain ⟨v, H', os, bare, un, hok', rv, q⟩ := h
    have q' : v = .bl true := q
    subst q'
    obtain rfl : u = Value.bool true := rv
    have kept : ∀ {b : Addr} {o : Obj}, (∀ p ∈ cs, p.2 ≠ b) → z.heap.get? b = some o → s'.heap.get? b = some o := fun {b o} nb e => by
      cases q : H b with
      | none => exact un.keep b o e q nofun (by simp)
      | some u =>
        rw [eH] at q
        rcases hp0_of q with ⟨p, hp, e2, _⟩ | ⟨_, _, rfl⟩
        · exact absurd e2 (nb p hp)
        · have z2 := un.frzs b _ _ (eH ▸ q)
          obtain ⟨e1, _⟩ := hok b _ (eH ▸ q)
          obtain ⟨e3, _⟩ := hok' b _ z2
          rw [e] at e1
          cases e1
          exact e3
    have grown : ∀ p ∈ cs, ∃ more : Array Value, s'.heap.get? p.2 = some { cls := .none, data := .fields more } := fun p hp => by
      obtain ⟨more, zz⟩ := un.tbls p.2 #[] (tabH p hp)
      exact ⟨_, hok' p.2 _ zz⟩
    refine ⟨rfl, ⟨fun b o e => ?_, fun b o e => ?_⟩, os, bare⟩
    · by_cases hm : ∃ p ∈ cs, p.2 = b
      · obtain ⟨p, hp, rfl⟩ := hm
        obtain ⟨more, hm⟩ := grown p hp
        have tp := R.tabs p hp
        rw [tp] at e
        cases e
        exact .inr (.inl ⟨((R.code p hp).tab tp).isCodeTable, rfl, #[], more, rfl, by rw [Array.empty_append]; exact hm⟩)
      · exact .inl (kept (fun p hp q => hm ⟨p, hp, q⟩) e)
    · by_cases hm : ∃ p ∈ cs, p.2 = b
      · obtain ⟨p, hp, rfl⟩ := hm
        obtain ⟨more, hm⟩ := grown p hp
        exact ⟨_, hm⟩
      · exact ⟨o, kept (fun p hp q => hm ⟨p, hp, q⟩) e⟩
/-- the goal that k_head leaves -/
theorem walkG {l : PySem.W.OpenLaw} {n k : Nat} {q : Program} {loose : List Str} {XP : (Str → Option Value) → Heap → Prop} {YP : World → Heap → Prop} {d : DefRec} {K : Params → PySem.W.Frag} {x : Str} {sp : PySem.W.Frag → Sp}
    (hn : l.most = some n) (hn2 : n ≤ sizeLine) (hdf : d.params.defaults = []) (hr : Room k callerA) (him : importsNone q = true) (hY : ∀ (w : World) (h : Heap), YP w h → (K w.params).In h)
    (F : ∀ (w : World) (mg : Str → Option Value) (fa : Addr) (h : Heap), (K w.params).In h → h.Ns mainGlobals mg → mg d.name = some (.ref fa) →
      (∀ d ∈ recsOf q, ∃ a o fd c P, mg d.name = some (.ref a) ∧ h.get? a = some o ∧ o.data = .func fd ∧ fd.code = .ref c ∧ h.IsCode c P #[] ∧ h.TableAt c P #[]) →
      ∃ (fd : FuncData) (cs : List (Addr × Addr)), (∀ p ∈ cs, h.get? p.2 = some { cls := .none, data := .fields #[] } ∧ (K w.params).lookup p.2 = none ∧ PySem.W.CodeHd h p.1 p.2) ∧ (∀ (s : Shared) (u : Value), BindsTo s fd ⟨[u], []⟩ [(x, u)]) ∧
        ∀ base : Heap, (K w.params).In base → base.Ns mainGlobals mg → (∃ mm, base.Ns sysModules mm) → (∀ p ∈ cs, TabB base mg p.1 p.2) → FnG l.prog w (K w.params) mg base CX0 k fa fd [x] (fun vs H Q E => (∀ p ∈ cs, H p.2 = some (.tbl #[])) ∧ sp (K w.params) vs H Q E))
    (hsp : ∀ (K : PySem.W.Frag) (H : Hp) (a : Addr) (ns : List Int), ns.length ≤ n → SqL K H a (ns.map V.int) → sp K [.ref a] H (fun v _ => v = .bl true) fun _ _ _ => False) :
    PySem.W.WalkO q loose XP YP l.row.toRowW d [] (fun f vs => PySem.call f vs) := by
  refine Att.attach_call hn hdf fun w s₀ s₁ mg mb fa o pm cd doc a vs ns G Y ho hd hcd hmg hobj hints hlen hg => ?_
  have KX := hY w _ Y
  obtain ⟨fd, cs, C, hb, hF⟩ := F w mg fa _ KX G.T.g hmg G.T.tab
  obtain ⟨mm, hm, _⟩ := (G.T.seer him).mods
  exact callG (cs := cs) ⟨KX, G.T.g, G.T.b, G.T.builtins, G.T.nolimit, ⟨mm, hm⟩, hg, fun p hp => (C p hp).1, fun p hp => (C p hp).2.1, fun p hp => (C p hp).2.2, G.T.bmain⟩ hobj hints (Nat.le_trans hlen hn2) hr hF hb fun H hT hS => ⟨hT, hsp _ H a ns hlen hS⟩
end
end L2

/-! lists, tuples and sums of lists, told by what stands after them -/
namespace L2
open PySem PySem.Spec PyProof.Rows
def rCatS : R2 := fun x y H Q => ∃ l b xs zs, x = .ref l ∧ y = .ref b ∧ H l = some (.lst xs) ∧ H b = some (.lst zs) ∧ xs.length + zs.length ≤ 1000 ∧ ∀ H3 p, Same H H3 → H3 p = some (.lst (xs ++ zs)) → Q (.ref p) H3
def tLstS (t : TA) : TE := fun σ H Q => t σ H fun xs H1 => xs.length ≤ 1000 ∧ ∀ H2 p, Same H1 H2 → H2 p = some (.lst xs) → Q (.ref p) H2
def tTupS (t : TA) : TE := fun σ H Q => t σ H fun xs H1 => xs.length ≤ 1000 ∧ ∀ H2 p, Same H1 H2 → H2 p = some (.tup xs) → Q (.ref p) H2
def rRepS : R2 := fun x y H Q => ∃ l v, ∃ n : Nat, x = .ref l ∧ y = .int (n : Nat) ∧ H l = some (.lst [v]) ∧ n ≤ 1000 ∧ ∀ H3 p, Same H H3 → H3 p = some (.lst (List.replicate n v)) → Q (.ref p) H3
section
variable {X : Cx} {a b : Expr} {ta tb : TE} {es : List Expr} {t : TA} {pos : Pos}
theorem pa_weak (h : PA X es t) : PA X es (fun σ H Q => ∃ R : List V → Hp → Prop, t σ H R ∧ ∀ v H', R v H' → Q v H') := ⟨fun pos pins s σ H Q I ⟨R, hr, k⟩ =>
  thn (h.run pos pins s σ H R I hr) fun u s' ⟨v, H', I', r, q⟩ => ⟨v, H', I', r, k _ _ q⟩⟩
theorem op_catS : OpR X (binaryOp .Add) rCatS := by
  intro pins s σ H x y v u Q I rx ry ⟨l, b, xs, zs, e1, e2, h1, h2, hz, q⟩
  exact op_cat pins s σ H x y v u Q I rx ry ⟨l, b, xs, zs, e1, e2, h1, h2, by rw [sizeLine_eq]; omega, fun p np => q _ p (same_upd0 np) upd_same⟩
theorem flat_rep (v : V) (n : Nat) : (List.replicate n [v]).flatten = List.replicate n v := by
  induction n with
  | zero => rfl
  | succ n ih => rw [List.replicate_succ, List.flatten_cons, ih, List.replicate_succ]; rfl
theorem op_repS : OpR X (binaryOp .Mult) rRepS := by
  intro pins s σ H x y v u Q I rx ry ⟨l, w, n, e1, e2, h1, hz, q⟩
  refine op_rep pins s σ H x y v u Q I rx ry ⟨l, _, _, e1, e2, h1, by omega, by omega, ?_, fun p np => ?_⟩
  · rw [sizeLine_eq]
    simp
    omega
  · refine q _ p (same_upd0 np) ?_
    rw [upd_same, Int.toNat_natCast, flat_rep]
theorem pe_lstS (hs : PA X es t) : PE X (.List es pos) (tLstS t) :=
  ⟨fun pins s σ H Q I h => (pe_lst (pa_weak hs)).run pins s σ H Q I ⟨_, h, fun xs H1 ⟨h1, q⟩ => ⟨by rw [sizeLine_eq]; omega, fun p np => q _ p (same_upd0 np) upd_same⟩⟩⟩
theorem pe_tupS {x1} (hs : PA X es t) : PE X (.Tuple es x1 pos) (tTupS t) :=
  ⟨fun pins s σ H Q I h => (pe_tup (pa_weak hs)).run pins s σ H Q I ⟨_, h, fun xs H1 ⟨h1, q⟩ => ⟨by rw [sizeLine_eq]; omega, fun p np => q _ p (same_upd0 np) upd_same⟩⟩⟩
end
/-- an error class without own __init__ -/
structure Mk0 (K : PySem.W.Frag) (mg : Str → Option Value) (x : Str) (C : Addr) : Prop where
  ex : ∃ (bmB : List Value) (B n1 n2 : String), ExcBaseFacts B n1 n2 bmB ∧ PySem.W.excIn K C bmB n1 = true
  gC : mg x = some (.ref C)
  kC : PySem.W.keepIn K (.ref C) = true
theorem pe_mkE0 {X : Cx} {x : Str} {C : Addr} {p pos : Pos} (T : Mk0 X.K X.mg x C) (hg : Gl X x) (hdb : (x == ("__debug__" : Str)) = false := by decide) :
    PE X (.Call (.Name x p) [] [] pos) (fun σ H Q => ∀ H' a, Same H H' → ErAt H' a C [] → Q (.ref a) H') := by
  obtain ⟨bmB, B, n1, n2, F, q⟩ := T.ex
  exact ⟨fun pins s σ H Q I h => (pe_mkV0 F q T.gC T.kC hg hdb).run pins s σ H Q I fun a na => h _ a (same_upd0 na) (.inl ⟨rfl, upd_same⟩)⟩
/-! data -/
theorem dq_rep {K : PySem.W.Frag} {H : Hp} {v : V} {d : PyData} (h : Dq K H v d) (n : Nat) : DqAll K H (List.replicate n v) (List.replicate n d) := by
  induction n with
  | zero => exact .nil
  | succ n ih => exact .cons h ih
theorem sh_rep {d : PyData} {n m : Nat} (h : Sh d n m) (k : Nat) : ShAll (List.replicate k d) (k * (n + 2)) m := by
  induction k with
  | zero => rw [Nat.zero_mul]; exact .nil
  | succ k ih =>
    rw [Nat.succ_mul, Nat.add_comm (k * (n + 2))]
    exact .cons h ih
end L2

/-! k71's right -/
namespace Gm
open PySem PySem.Spec PyProof.Rows L2
abbrev sRight : Stmt := top 58
def spRight : Sp := fun vs H Q _ => ∃ (p : Addr), vs = [.ref p] ∧ BowlAt H p ∧ ∀ H', Stir p H H' → Q (.bl true) H'
def gK {α : Type} : List α → List α → List α
  | [], [a, b] => [b, a]
  | _, _ => []
theorem sum_le : ∀ L : List Nat, (∀ x ∈ L, x ≤ 3) → L.sum ≤ 3 * L.length
  | [], _ => Nat.le_refl _
  | a :: L, h => by
    have := sum_le L fun x hx => h x (List.mem_cons_of_mem _ hx)
    have := h a List.mem_cons_self
    rw [List.sum_cons, List.length_cons]
    omega
theorem upper_one : ∀ c ∈ low, (Unicode.upperOf c).length ≤ 3 := by decide +kernel
theorem upper_len {h : List Nat} (hc : ∀ c ∈ h, c ∈ low) : (Txt.upper (tx h)).cps.toList.length ≤ 3 * h.length := by
  unfold Txt.upper placed
  rw [Array.length_toList, Array.size_flatten, ← Array.sum_toList]
  refine Nat.le_trans (sum_le _ fun x hx => ?_) (by simp)
  rw [Array.toList_map] at hx
  obtain ⟨a, ha, rfl⟩ := List.mem_map.mp hx
  rw [Array.mem_toList_iff] at ha
  obtain ⟨i, hi, rfl⟩ := Array.mem_mapIdx.mp ha
  have hi' : i < h.length := by simpa using hi
  have : (tx h).cps[i] = h[i] := by simp
  rw [List.size_toArray]
  refine upper_one _ ?_
  rw [this]
  exact hc _ (List.getElem_mem hi')
theorem upper_tx (h : List Nat) : Txt.upper (tx h) = tx (Txt.upper (tx h)).cps.toList := rfl
theorem ne_bowl {H : Hp} {p a : Addr} {o : HO} (hp : BowlAt H p) (h : H a = some o) (n : ∀ xs, o ≠ .lst xs) : a ≠ p := fun z => by
  obtain ⟨x, y, w, e⟩ := hp
  rw [z, e] at h
  exact n _ (Option.some.inj h).symm
theorem Stir.put {p D : Addr} {H H' : Hp} {o : HO} (R : Stir p H H') (n : H D = none) (ne : D ≠ p) : Stir p H (upd H' D o) := by
  refine ⟨fun b u nb e => ?_, ?_⟩
  · rw [upd_ne (ne_of_none e n)]
    exact R.1 b u nb e
  · obtain ⟨x, y, z, e⟩ := R.2
    exact ⟨x, y, z, (upd_ne ne.symm).trans e⟩
theorem BowlAt.ne {H : Hp} {p a : Addr} (h : BowlAt H p) (n : H a = none) : a ≠ p := fun e => by
  obtain ⟨x, y, z, q⟩ := h
  rw [e, q] at n
  cases n
theorem Stir.nil {p D : Addr} {H H' : Hp} (R : Stir p H H') (n : H' D = none) (ne : D ≠ p) : H D = none := by
  cases e : H D with
  | none => rfl
  | some o => rw [R.1 D o ne e] at n; cases n
theorem three_at {j : Nat} (h : j < 2) : ∃ m : Int, atI [V.int 3, V.int 26] ((j : Nat) : Int) = some (V.int m) ∧ 2 ≤ m ∧ m ≤ 26 := by
  match j, h with
  | 0, _ => exact ⟨3, rfl, by decide, by decide⟩
  | 1, _ => exact ⟨26, rfl, by decide, by decide⟩
/-- tuples stay -/
def KeepT (H H' : Hp) : Prop := ∀ a xs, H a = some (.tup xs) → H' a = some (.tup xs)
theorem KeepT.trans {A B D : Hp} (x : KeepT A B) (y : KeepT B D) : KeepT A D := fun a xs e => y _ _ (x _ _ e)
theorem Stir.tups {p : Addr} {H H' : Hp} (R : Stir p H H') (hp : BowlAt H p) : KeepT H H' := fun a xs e => R.1 a _ (ne_bowl hp e fun _ z => by cases z) e
theorem Same.tups {H H' : Hp} (s : Same H H') : KeepT H H' := fun a xs e => s _ _ e
theorem put_tups {H : Hp} {A : Addr} {us : List V} {o : HO} (h : H A = some (.lst us)) : KeepT H (upd H A o) := fun a xs e => by
  have n : a ≠ A := fun z => by rw [z, h] at e; cases e
  rw [upd_ne n]
  exact e
theorem rows_tups {H H' : Hp} {vs : List V} {rs : List Row} (h : Ats (RowAt H) vs rs) (k : KeepT H H') : Ats (RowAt H') vs rs := h.imp fun _ _ e => k _ _ e
theorem facts_tups {H H' : Hp} {vs : List V} {fs : List Fact} (h : Ats (FactAt H) vs fs) (k : KeepT H H') : Ats (FactAt H') vs fs := h.imp fun _ _ e => k _ _ e
theorem repr_ne {b c : Bool} (h : b = c) : (!decide (V.str (if b then "True" else "False") = V.str (if c then "True" else "False"))) = false := by subst h; simp
theorem sh2 (u v : Bool) : Sh (.list [.bool u, .bool v]) 16777216 60 := (Sh.lst (ShAll.cons (Sh.bl u (m := 0)) (ShAll.cons (Sh.bl v) ShAll.nil))).le (by decide) (by decide)
theorem mk_wd {g w : List Nat} {l : List Nat} {n : Int} (hg : Wd l n g) (hw : Wd l n w) : Wd [48, 49, 50] n (mk g w) := by
  have h1 := hg.1
  have h2 := hw.1
  have hl : g.length = w.length := by omega
  refine ⟨by rw [mk_len hl]; exact h1, fun c hc => ?_⟩
  have := mk_marks hl c hc
  simp only [List.mem_cons, List.not_mem_nil, or_false]
  exact this
theorem str_app_len (a b : Str) : (a ++ b).length = a.length + b.length := Array.size_append ..
theorem sheet_str {K : PySem.W.Frag} {H : Hp} (x : Str) (h : x.length ≤ 1000) : ∃ o, Sheet K H (.str x) o := ⟨some x.cps.toList, .txt (z := x.cps.toList) (by rw [Array.length_toList]; exact h)⟩
theorem alph_low {l : List Nat} (h : Alph (tx l)) : ∀ c ∈ l, c ∈ low := by
  have e : l = pick (tx l) := h.2.2
  rw [e]
  exact fun c hc => (List.mem_filter.mp hc).1
/-- what the top has written -/
structure TxR (mg : Str → Option Value) : Prop where
  S : TxS mg
  tup : mg "tuple" = none
  repr : mg "repr" = none
open PyProof.Rows in
theorem call_reprB {X : Cx} : CallR X (.builtin "repr") (fun xs H Q => ∃ b, xs = [.bl b] ∧ Q (.str (if b then "True" else "False")) H) := by
  intro pins s σ H xs us Q I r h
  obtain ⟨b, rfl, q⟩ := h
  obtain ⟨u, rfl, rx⟩ := vals1 r
  cases (show u = Value.bool b from rx)
  exact PySem.P.repr_of_bool ⟨.str _, H, I.tok _, ⟨_, rfl⟩, q⟩
section
variable {P : Program} {w : World} {K : PySem.W.Frag} {mg : Str → Option Value} {base : Heap}
abbrev nR : List Str := ["_law_well_here", "_law_signs_here", "_law_size", "_law_hidden", "_law_some", "_law_bits", "_law_turn", "_law_asked", "_law_other", "_law_bit", "_law_at", "_law_sign", "_law_sheets", "_law_said", "_law_never", "_law_sheet"]
theorem scR_ : FnScope nR ["_law_well_here"] (defScope sRight) := ⟨rfl, rfl, rfl, by decide +kernel, rfl, by decide +kernel, by decide +kernel⟩
theorem ok_right {f fS fD fT fO fP fF fA fE fU fH : Addr} {fd fdS fdD fdT fdO fdP fdF fdA fdE fdU fdH : FuncData} (F : Fun K "_law_right" "_law_right" sRight f fd) (T : TxR mg)
    (GS : FnOk P w K mg base L2.CX0 2 fS fdS ["_law_well_here", "_law_least", "_law_most"] spSigns) (DS : Df K mg "_law_signs" fS fdS ["_law_well_here", "_law_least", "_law_most"])
    (GD : FnOk P w K mg base L2.CX0 1 fD fdD ["_law_well_here", "_law_many"] spDip) (DD : Df K mg "_law_draw" fD fdD ["_law_well_here", "_law_many"])
    (GT : FnOk P w K mg base L2.CX0 3 fT fdT ["_law_well_here", "_law_signs_here", "_law_size"] spText) (DT : Df K mg "_law_text" fT fdT ["_law_well_here", "_law_signs_here", "_law_size"])
    (GO : FnOk P w K mg base L2.CX0 2 fO fdO ["_law_well_here", "_law_things"] spOne) (DO : Df K mg "_law_one" fO fdO ["_law_well_here", "_law_things"])
    (GRp : FnOk P w K mg base L2.CX0 1 fP fdP ["_law_asked", "_law_hidden"] spMarksOf) (DRp : Df K mg "_law_reply" fP fdP ["_law_asked", "_law_hidden"])
    (GTr : FnOk P w K mg base L2.CX0 3 fF fdF ["_law_well_here", "_law_signs_here", "_law_size"] spTruth) (DTr : Df K mg "_law_truth" fF fdF ["_law_well_here", "_law_signs_here", "_law_size"])
    (GHs : FnOk P w K mg base L2.CX0 1 fA fdA ["_law_one_here", "_law_bit"] spHasF) (DHs : Df K mg "_law_has" fA fdA ["_law_one_here", "_law_bit"])
    (GE : FnOk P w K mg base L2.CX0 1 fE fdE ["_law_signs_here", "_law_size"] spEvery) (DE : Df K mg "_law_every" fE fdE ["_law_signs_here", "_law_size"])
    (GDu : FnOk P w K mg base L2.CX0 2 fU fdU ["_law_signs_here", "_law_size", "_law_some", "_law_bits", "_law_sheet"] (spDue K)) (DDu : Df K mg "_law_due" fU fdU ["_law_signs_here", "_law_size", "_law_some", "_law_bits", "_law_sheet"])
    (GH : FnOk P w K mg base L2.CX0 5 fH fdH ["claim", "paper"] (spHoldsQ K)) (DH : Df K mg "holds" fH fdH ["claim", "paper"]) (kH : KBinds K fdH ["claim", "paper"] ["paper", "claim"] gK gK) (hM : ∃ mm, base.Ns sysModules mm) :
    FnG P w K mg base L2.CX0 6 f fd ["_law_well_here"] spRight := by
  refine F.okG scR_ (fun vs H Q E h => ?_) (fun cdv A outer s H vs Q E g hr h => ?_)
  · obtain ⟨p, rfl, _⟩ := h
    rfl
  · obtain ⟨p, rfl, hp, q⟩ := h
    have nd := scR_.nd
    have hline : sizeLine = 16777216 := sizeLine_eq
    have hr3 : Room 3 _ := hr.mono (by decide)
    have hr2 : Room 2 _ := hr.mono (by decide)
    have hr1 : Room 1 _ := hr.mono (by decide)
    refine ⟨_, pss_cons (ps_par (i := 1) (j := 2) (by rfl) nd rfl rfl (by decide) rfl rfl (pa_cons (pe_call GS hr2 (by rfl) DS.mg DS.kp DS.b .nil L2.pass0 (pa_cons (pv 0) (pa_cons pe_int (pa_cons (pe_ix ix_list (pe_lst (pa_cons pe_int (pa_cons pe_int pa_nil))) (pe_call GD hr1 (by rfl) DD.mg DD.kp DD.b .nil L2.pass0 (pa_cons (pv 0) (pa_cons pe_int pa_nil))) (fun _ _ => rfl)) pa_nil)))) (pa_cons (pe_op op_add pe_int (pe_call GD hr1 (by rfl) DD.mg DD.kp DD.b .nil L2.pass0 (pa_cons (pv 0) (pa_cons pe_int pa_nil)))) pa_nil)) (by rfl))
      (pss_cons (ps_set (i := 2) nd rfl (Or.inl rfl) (pe_ifExp (pt_cmpR op_gt (pe_callB call_len_str (by rfl) T.S.len PySem.boot_len (pa_cons (pv 1) pa_nil)) pe_int (nomark _)) (pv 2) (pe_op op_add pe_int (pe_op op_mod (pv 2) pe_int))))
      (pss_cons (ps_par3 (i := 3) (j := 4) (l := 5) (by rfl) nd rfl rfl rfl (by decide) (by decide) (by decide) rfl rfl rfl (pa_cons (pe_call GT hr3 (by rfl) DT.mg DT.kp DT.b .nil L2.pass0 (pa_cons (pv 0) (pa_cons (pv 1) (pa_cons (pv 2) pa_nil)))) (pa_cons (pe_lst pa_nil) (pa_cons (pe_lst pa_nil) pa_nil))) (by rfl))
      (pss_cons (ps_for PassesOwn.never rfl (pi_range1 (by rfl) T.S.range (pa_cons (pe_call GD hr1 (by rfl) DD.mg DD.kp DD.b .nil L2.pass0 (pa_cons (pv 0) (pa_cons pe_int pa_nil))) pa_nil)) (pg_name (i := 6) nd rfl (Or.inl rfl))
        (pss_cons (ps_par (i := 7) (j := 8) (by rfl) nd rfl rfl (by decide) rfl rfl (pa_cons (pe_call GT hr3 (by rfl) DT.mg DT.kp DT.b .nil L2.pass0 (pa_cons (pv 0) (pa_cons (pv 1) (pa_cons (pv 2) pa_nil)))) (pa_cons (pe_call GT hr3 (by rfl) DT.mg DT.kp DT.b .nil L2.pass0 (pa_cons (pv 0) (pa_cons (pv 1) (pa_cons (pv 2) pa_nil)))) pa_nil)) (by rfl))
        (pss_one (ps_expr (pe_bm PySem.F.plainAttrs_list PySem.F.slot_list_append PySem.F.type_list_append mt_append (pv 4) (pa_cons (pe_tupS (pa_cons (pv 7) (pa_cons (pe_call GRp hr1 (by rfl) DRp.mg DRp.kp DRp.b .nil L2.pass0 (pa_cons (pv 7) (pa_cons (pe_ifExp (pt_cmpR op_eq (pe_call GD hr1 (by rfl) DD.mg DD.kp DD.b .nil L2.pass0 (pa_cons (pv 0) (pa_cons pe_int pa_nil))) pe_int (nomark _)) (pv 8) (pv 3)) pa_nil))) pa_nil))) pa_nil))))))
      (pss_cons (ps_for PassesOwn.never rfl (pi_range1 (by rfl) T.S.range (pa_cons (pe_call GD hr1 (by rfl) DD.mg DD.kp DD.b .nil L2.pass0 (pa_cons (pv 0) (pa_cons pe_int pa_nil))) pa_nil)) (pg_name (i := 6) nd rfl (Or.inl rfl))
        (pss_cons (ps_set (i := 9) nd rfl (Or.inl rfl) (pe_call GTr hr3 (by rfl) DTr.mg DTr.kp DTr.b .nil L2.pass0 (pa_cons (pv 0) (pa_cons (pv 1) (pa_cons (pv 2) pa_nil)))))
        (pss_one (ps_if (PW.pt (pw_or (pt_val (pe_call GHs hr1 (by rfl) DHs.mg DHs.kp DHs.b .nil L2.pass0 (pa_cons (pv 3) (pa_cons (pv 9) pa_nil)))) (pw_or1 (pt_cmpR op_eq (pe_call GD hr1 (by rfl) DD.mg DD.kp DD.b .nil L2.pass0 (pa_cons (pv 0) (pa_cons pe_int pa_nil))) pe_int (nomark _))))) (pss_one (ps_expr (pe_bm PySem.F.plainAttrs_list PySem.F.slot_list_append PySem.F.type_list_append mt_append (pv 5) (pa_cons (pv 9) pa_nil)))) pss_nil))))
      (pss_cons (ps_par (i := 10) (j := 11) (by rfl) nd rfl rfl (by decide) rfl rfl (pa_cons (pe_call GD hr1 (by rfl) DD.mg DD.kp DD.b .nil L2.pass0 (pa_cons (pv 0) (pa_cons (pv 2) pa_nil))) (pa_cons (pe_call GO hr2 (by rfl) DO.mg DO.kp DO.b .nil L2.pass0 (pa_cons (pv 0) (pa_cons (pv 1) pa_nil))) pa_nil)) (by rfl))
      (pss_cons (ps_set (i := 12) nd rfl (Or.inl rfl) (pe_lst (pa_cons (pv 3) (pa_cons (pe_call GT hr3 (by rfl) DT.mg DT.kp DT.b .nil L2.pass0 (pa_cons (pv 0) (pa_cons (pv 1) (pa_cons (pv 2) pa_nil)))) (pa_cons (pe_op op_add_str (pe_op op_add_str (pe_slice sl_str (pv 3) po_none (po_some (pv 10))) (pv 11)) (pe_slice sl_str (pv 3) (po_some (pe_op op_add (pv 10) pe_int)) po_none)) (pa_cons (pe_op op_add_str (pv 3) (pv 11)) pa_nil))))))
      (pss_cons (ps_set (i := 12) nd rfl (Or.inl rfl) (pe_op op_cat (pv 12) (pe_lst (pa_cons (pe_slice sl_str (pv 3) (po_some pe_int) po_none) (pa_cons pe_non (pa_cons (pe_tupS (pa_cons (pv 3) pa_nil)) (pa_cons (pe_lst (pa_cons (pv 3) pa_nil)) (pa_cons pe_int (pa_cons pe_str (pa_cons (pe_upper (pv 3)) (pa_cons (pe_op op_add_str (pe_slice sl_str (pv 3) (po_some pe_int) po_none) pe_str) (pa_cons pe_dnewK (pa_cons pe_bl pa_nil)))))))))))))
      (pss_cons (ps_expr (pe_bm PySem.F.plainAttrs_list PySem.F.slot_list_append PySem.F.type_list_append mt_append (pv 12) (pa_cons (pe_tupS (pa_cons (pv 3) (pa_cons (pv 3) pa_nil))) pa_nil)))
      (C8.pss_cut (ps_if (pt_cmpR op_lt (pe_callB call_len_str (by rfl) T.S.len PySem.boot_len (pa_cons (pv 1) pa_nil)) pe_int (nomark _)) (pss_one (ps_set (i := 12) nd rfl (Or.inl rfl) (pe_op op_cat (pv 12) (pe_call GE hr1 (by rfl) DE.mg DE.kp DE.b .nil L2.pass0 (pa_cons (pv 1) (pa_cons (pv 2) pa_nil)))))) pss_nil)
      (pss_cons (ps_set (i := 13) nd rfl (Or.inl rfl) (pe_tupS (pa_cons pe_str (pa_cons (pv 1) (pa_cons (pv 2) (pa_cons (pe_callTy call_tuple_of (by rfl) T.tup (by decide +kernel) (pa_cons (pv 4) pa_nil)) (pa_cons (pe_callTy call_tuple_of (by rfl) T.tup (by decide +kernel) (pa_cons (pv 5) pa_nil)) pa_nil)))))))
      (pss_cons (ps_set (i := 14) nd rfl (Or.inl rfl) (pe_tupS (pa_cons pe_str (pa_cons (pv 1) (pa_cons (pv 2) (pa_cons (pe_callTy call_tuple_of (by rfl) T.tup (by decide +kernel) (pa_cons (pv 4) pa_nil)) (pa_cons (pe_callTy call_tuple_of (by rfl) T.tup (by decide +kernel) (pa_cons (pv 5) pa_nil)) pa_nil)))))))
      (pss_cons (ps_for PassesOwn.never rfl (pi_list (pv 12)) (pg_name (i := 15) nd rfl (Or.inl rfl))
        (pss_one (ps_if (pt_cmpR op_ne (pe_callB call_reprB (by rfl) T.repr (by decide +kernel) (pa_cons (pe_call GH hr (by rfl) DH.mg DH.kp DH.b .nil L2.pass0 (pa_cons (pv 13) (pa_cons (pv 15) pa_nil))) pa_nil)) (pe_callB call_reprB (by rfl) T.repr (by decide +kernel) (pa_cons (pe_call GDu hr2 (by rfl) DDu.mg DDu.kp DDu.b .nil L2.pass0 (pa_cons (pv 1) (pa_cons (pv 2) (pa_cons (pv 4) (pa_cons (pv 5) (pa_cons (pv 15) pa_nil)))))) pa_nil)) (nomark _)) (pss_one (ps_ret pe_bl)) pss_nil)))
      (pss_one (ps_ret (pe_cmpR op_eq (pe_callB (call_reprD g hr.units hM) (by rfl) T.repr (by decide +kernel) (pa_cons (pe_lst (pa_cons (pe_call GH hr (by rfl) DH.mg DH.kp DH.b .nil L2.pass0 (pa_cons (pv 14) (pa_cons (pv 3) pa_nil))) (pa_cons (pe_callK0 (ks := ["paper", "claim"]) GH hr (by rfl) DH.mg DH.kp kH L2.pass0 (pk_cons (pv 3) (pk_cons (pv 13) pk_nil))) pa_nil))) pa_nil)) (pe_callB (call_reprD g hr.units hM) (by rfl) T.repr (by decide +kernel) (pa_cons (pe_lst (pa_cons pe_bl (pa_cons (pe_call GH hr (by rfl) DH.mg DH.kp DH.b .nil L2.pass0 (pa_cons (pv 13) (pa_cons (pv 3) pa_nil))) pa_nil))) pa_nil)) (nomark _)))))))))))))))), ?_⟩
    refine ⟨_, rfl, by show 2 ≤ sizeLine; decide, fun L0 z0 => ?_⟩
    have n0p := hp.ne z0
    have R0 : Stir p H (upd H L0 (.lst [.int 3, .int 26])) := (Stir.refl hp).same (same_upd z0)
    refine ⟨_, rfl, p, 2, rfl, R0.2, by decide, by decide, fun H1 d R1 d0 d1 => ?_⟩
    obtain ⟨j, rfl⟩ := Int.eq_ofNat_of_zero_le d0
    obtain ⟨hi, hat, hi2, hi26⟩ := three_at (j := j) (by omega)
    refine ⟨L0, _, _, _, rfl, rfl, SqL.of (R1.1 _ _ n0p upd_same), hat, p, 2, hi, rfl, R1.2, by decide, hi2, hi26, fun H2 l R2 hA hlo hhi => ?_⟩
    refine ⟨_, rfl, p, 6, rfl, R2.2, by decide, by decide, fun H3 e R3 e0 e6 => ⟨_, _, rfl, rfl, _, _, rfl, ?_⟩⟩
    have R03 : Stir p H H3 := ((R0.trans R1).trans R2).trans R3
    have l0 : 0 < l.length := by omega
    have l26 : l.length ≤ 26 := by omega
    have tl : (tx l).length = l.length := tx_len l
    refine cutIfA (fun v => ∃ n : Int, v = .int n ∧ 1 ≤ n ∧ n ≤ 6 ∧ (l.length ≤ 3 → n ≤ 3)) ?_ (fun Q' c => ?_)
    rotate_left
    · refine ⟨_, rfl, _, rfl, by rw [tl]; omega, _, _, rfl, rfl, _, rfl, ite2 (fun h => ?_) (fun h => ?_)⟩
      · have h := of_decide_eq_true h
        rw [tl] at h
        exact ⟨_, rfl, c _ ⟨_, rfl, by omega, by omega, fun z => by omega⟩⟩
      · exact ⟨_, rfl, _, _, rfl, rfl, (show (0 : Int) < 3 by decide), _, _, rfl, rfl, c _ ⟨_, rfl, by omega, by omega, fun z => by omega⟩⟩
    rintro _ ⟨n, rfl, n1, n6, n3⟩
    refine ⟨_, rfl, _, rfl, _, rfl, p, l, n, rfl, R03.2, l0, by omega, by omega, n6, fun H4 h R4 hl hm => ?_⟩
    have R04 := R03.trans R4
    have wh : Wd l n h := ⟨by omega, hm⟩
    refine ⟨by show 0 ≤ sizeLine; decide, fun A zA => ⟨by show 0 ≤ sizeLine; decide, fun B zB => ⟨_, _, _, rfl, ?_⟩⟩⟩
    have nA := R04.2.ne zA
    have RA : Stir p H (upd H4 A (.lst [])) := R04.same (same_upd zA)
    have nB := RA.2.ne zB
    have RB : Stir p H (upd (upd H4 A (.lst [])) B (.lst [])) := RA.same (same_upd zB)
    have zA0 := R04.nil zA nA
    have zB0 := RA.nil zB nB
    have nAB : A ≠ B := fun z => by rw [← z, upd_same] at zB; cases zB
    have hA5 : upd (upd H4 A (.lst [])) B (.lst []) A = some (.lst []) := by rw [upd_ne nAB]; exact upd_same
    have hB5 : upd (upd H4 A (.lst [])) B (.lst []) B = some (.lst []) := upd_same
    generalize upd (upd H4 A (.lst [])) B (.lst []) = H5 at RB hA5 hB5
    refine ⟨_, rfl, p, 6, rfl, RB.2, by decide, by decide, fun H6 c R6 c0 c6 => ⟨c, rfl, by omega, by omega, ?_⟩⟩
    have R06 := RB.trans R6
    refine for_range (n := c.toNat) (fun i σ H' => ∃ (us : List V) (rows : List Row) (v6 v7 v8 : Option V), σ = [some (.ref p), some (.str (tx l)), some (.int n), some (.str (tx h)), some (.ref A), some (.ref B), v6, v7, v8, none, none, none, none, none, none, none] ∧ Stir p H H' ∧ H' A = some (.lst us) ∧ Ats (RowAt H') us rows ∧ rows.length = i ∧ (∀ x ∈ rows, RowOk l n x) ∧ H' B = some (.lst [])) ⟨[], [], none, none, none, rfl, R06, R6.1 _ _ nA hA5, .nil, rfl, (fun x hx => by cases hx), R6.1 _ _ nB hB5⟩ ?_ ?_
    · rintro i σ Ha hi ⟨us, rows, v6, v7, v8, rfl, Ka, hAa, hR, lr, ro, hBa⟩
      refine ⟨_, rfl, _, rfl, _, rfl, p, l, n, rfl, Ka.2, l0, by omega, by omega, n6, fun Hb x Kb xl xm => ?_⟩
      refine ⟨_, rfl, _, rfl, _, rfl, p, l, n, rfl, Kb.2, l0, by omega, by omega, n6, fun Hc y Kc yl ym => ⟨_, _, rfl, ?_⟩⟩
      have wx : Wd l n x := ⟨by omega, xm⟩
      have wy : Wd l n y := ⟨by omega, ym⟩
      have Kac := Kb.trans Kc
      have hAc := Kac.1 _ _ nA hAa
      refine ⟨_, rfl, .inl ⟨rfl, _, SqL.of hAc⟩, _, rfl, _, rfl, ?_⟩
      refine cutIf (fun v H' => ∃ z, v = .str (tx z) ∧ Wd l n z ∧ Stir p Hc H') ?_ (fun cc => ?_)
      rotate_left
      · refine ⟨_, rfl, p, 9, rfl, Kc.2, by decide, by decide, fun Hd k Kd k0 k9 => ⟨rfl, _, rfl, ite2 (fun hh => ?_) (fun hh => ?_)⟩⟩
        · exact ⟨_, rfl, cc _ _ ⟨y, rfl, wy, Kd⟩⟩
        · exact ⟨_, rfl, cc _ _ ⟨h, rfl, wh, Kd⟩⟩
      rintro _ Hd ⟨z, rfl, wz, Kd⟩
      have g1 := wx.1
      have g2 := wz.1
      refine ⟨x, z, rfl, by omega, by omega, fun He se => ⟨by show 2 ≤ 1000; decide, fun Hf T1 sf hT1 => ?_⟩⟩
      have Kaf := (Kac.trans Kd).same (se.trans sf)
      have hAf := Kaf.1 _ _ nA hAa
      have hBf := Kaf.1 _ _ nB hBa
      have lu := hR.len
      refine ⟨A, us, _, rfl, rfl, hAf, by omega, ?_⟩
      have row : RowOk l n (x, mk x z) := ⟨wx, mk_wd wx wz⟩
      refine ⟨us ++ [.ref T1], rows ++ [(x, mk x z)], _, _, _, rfl, (Ka.trans Kaf).put zA0 nA, upd_same, ?_, by rw [List.length_append, lr]; rfl, fun r hr => ?_, by rw [upd_ne nAB.symm]; exact hBf⟩
      · exact ((rows_tups hR (Kaf.tups Ka.2)).app (.cons (x := (x, mk x z)) hT1 .nil)).imp fun a r e => put_tups hAf a _ e
      · rcases List.mem_append.mp hr with hr | hr
        · exact ro r hr
        · rw [List.mem_singleton.mp hr]
          exact row
    rintro σ H7 ⟨us, rows, v6, v7, v8, rfl, R7, hA7, hR7, lr, ro, hB7⟩
    have r6 : rows.length ≤ 6 := by omega
    refine ⟨_, rfl, p, 5, rfl, R7.2, by decide, by decide, fun H8 c' R8 c0' c5' => ⟨c', rfl, by omega, by omega, ?_⟩⟩
    refine for_range (n := c'.toNat) (fun i σ H' => ∃ (ws : List V) (fs : List Fact) (v6 v9 : Option V), σ = [some (.ref p), some (.str (tx l)), some (.int n), some (.str (tx h)), some (.ref A), some (.ref B), v6, v7, v8, v9, none, none, none, none, none, none] ∧ Stir p H H' ∧ H' A = some (.lst us) ∧ Ats (RowAt H') us rows ∧ H' B = some (.lst ws) ∧ Ats (FactAt H') ws fs ∧ fs.length ≤ i ∧ (∀ x ∈ fs, FactOk l n x)) ⟨[], [], _, none, rfl, R7.trans R8, R8.1 _ _ nA hA7, rows_tups hR7 (R8.tups R7.2), R8.1 _ _ nB hB7, .nil, Nat.le_refl _, fun x hx => by cases hx⟩ ?_ ?_
    · rintro i σ Ha hi ⟨ws, fs, v6', v9, rfl, Ka, hAa, hR, hBa, hF, lf, fo⟩
      refine ⟨_, rfl, _, rfl, _, rfl, p, l, n, rfl, Ka.2, l0, l26, n1, n6, fun Hb a fc Kb ha ok => ?_⟩
      have hAb := Kb.1 _ _ nA hAa
      have hBb := Kb.1 _ _ nB hBa
      have hRb := rows_tups hR (Kb.tups Ka.2)
      have hFb := facts_tups hF (Kb.tups Ka.2)
      have done : ∀ Hx, Stir p Hb Hx → ∃ (ws : List V) (fs : List Fact) (v6 v9 : Option V), [some (V.ref p), some (.str (tx l)), some (.int n), some (.str (tx h)), some (.ref A), some (.ref B), some (.int (0 + (i : Nat))), v7, v8, some (.ref a), none, none, none, none, none, none] = [some (V.ref p), some (.str (tx l)), some (.int n), some (.str (tx h)), some (.ref A), some (.ref B), v6, v7, v8, v9, none, none, none, none, none, none] ∧ Stir p H Hx ∧ Hx A = some (.lst us) ∧ Ats (RowAt Hx) us rows ∧ Hx B = some (.lst ws) ∧ Ats (FactAt Hx) ws fs ∧ fs.length ≤ i + 1 ∧ (∀ x ∈ fs, FactOk l n x) := fun Hx Kx =>
        ⟨ws, fs, _, _, rfl, (Ka.trans Kb).trans Kx, Kx.1 _ _ nA hAb, rows_tups hRb (Kx.tups Kb.2), Kx.1 _ _ nB hBb, facts_tups hFb (Kx.tups Kb.2), by omega, fo⟩
      have add : ∀ Hx, Stir p Hb Hx → Hx B = some (.lst ws) ∧ ws.length < sizeLine ∧ ∃ (ws' : List V) (fs : List Fact) (v6 v9 : Option V), [some (V.ref p), some (.str (tx l)), some (.int n), some (.str (tx h)), some (.ref A), some (.ref B), some (.int (0 + (i : Nat))), v7, v8, some (.ref a), none, none, none, none, none, none] = [some (V.ref p), some (.str (tx l)), some (.int n), some (.str (tx h)), some (.ref A), some (.ref B), v6, v7, v8, v9, none, none, none, none, none, none] ∧ Stir p H (upd Hx B (.lst (ws ++ [.ref a]))) ∧ upd Hx B (.lst (ws ++ [.ref a])) A = some (.lst us) ∧ Ats (RowAt (upd Hx B (.lst (ws ++ [.ref a])))) us rows ∧ upd Hx B (.lst (ws ++ [.ref a])) B = some (.lst ws') ∧ Ats (FactAt (upd Hx B (.lst (ws ++ [.ref a])))) ws' fs ∧ fs.length ≤ i + 1 ∧ (∀ x ∈ fs, FactOk l n x) := fun Hx Kx => by
        have hBx := Kx.1 _ _ nB hBb
        have lw := hF.len
        have kt := put_tups (o := .lst (ws ++ [.ref a])) hBx
        refine ⟨hBx, by omega, ws ++ [.ref a], fs ++ [fc], _, _, rfl, ((Ka.trans Kb).trans Kx).put zB0 nB, by rw [upd_ne nAB]; exact Kx.1 _ _ nA hAb, rows_tups (rows_tups hRb (Kx.tups Kb.2)) kt, upd_same, ?_, by rw [List.length_append]; show _ + 1 ≤ _; omega, fun x hx => ?_⟩
        · exact facts_tups ((facts_tups hFb (Kx.tups Kb.2)).app (.cons (x := fc) (Kx.tups Kb.2 _ _ ha) .nil)) kt
        · rcases List.mem_append.mp hx with hx | hx
          · exact fo x hx
          · rw [List.mem_singleton.mp hx]
            exact ok
      refine ⟨_, rfl, _, rfl, a, l, h, n, fc, rfl, ha, ok, wh.1, n6, fun Hc sc => ⟨_, rfl, ?_⟩⟩
      have Kc := (Stir.refl Kb.2).same sc
      refine ite2 (fun hh => ?_) (fun hh => ?_)
      · obtain ⟨q1, q2, q3⟩ := add Hc Kc
        exact ⟨_, rfl, .inl ⟨rfl, _, SqL.of q1⟩, _, rfl, B, ws, _, rfl, rfl, q1, q2, q3⟩
      · refine ⟨_, rfl, p, 5, rfl, Kc.2, by decide, by decide, fun Hd k Kd k0 k5 => ⟨rfl, _, rfl, ite2 (fun hh => ?_) (fun hh => ?_)⟩⟩
        · obtain ⟨q1, q2, q3⟩ := add Hd (Kc.trans Kd)
          exact ⟨_, rfl, .inl ⟨rfl, _, SqL.of q1⟩, _, rfl, B, ws, _, rfl, rfl, q1, q2, q3⟩
        · exact done Hd (Kc.trans Kd)
    rintro σ H9 ⟨ws, fs, v6', v9, rfl, R9, hA9, hR9, hB9, hF9, lf, fo⟩
    have f4 : fs.length ≤ 4 := by omega
    refine ⟨_, rfl, _, rfl, p, n, rfl, R9.2, by omega, by omega, fun Ha at_ Ka a0 a1 => ?_⟩
    refine ⟨_, rfl, _, rfl, p, l, rfl, Ka.2, l0, by omega, fun Hb c Kb hc => ⟨_, _, rfl, ?_⟩⟩
    obtain ⟨j, rfl⟩ := Int.eq_ofNat_of_zero_le a0
    have h6 : h.length ≤ 6 := by have := wh.1; omega
    have hj : j < h.length := by have := wh.1; omega
    have th : (tx h).length = h.length := tx_len h
    refine ⟨_, rfl, _, rfl, _, rfl, _, rfl, p, l, n, rfl, Kb.2, l0, by omega, by omega, n6, fun Hc t Kc tl_ tm => ?_⟩
    have R10 := ((R9.trans Ka).trans Kb).trans Kc
    have K9c := (Ka.trans Kb).trans Kc
    have c1 : cutS (tx h) none (some ((j : Nat) : Int)) = tx (h.take j) := cut_pre _ _ (by omega)
    have c2 : cutS (tx h) (some (((j : Nat) : Int) + 1)) none = tx (h.drop (j + 1)) := cut_suf _ (j + 1) (by omega)
    have c3 : cutS (tx h) (some (1 : Int)) none = tx (h.drop 1) := cut_suf _ 1 (by omega)
    have u1 : (tx (h.take j)).length ≤ 6 := by rw [tx_len, List.length_take]; omega
    have u2 : (tx (h.drop (j + 1))).length ≤ 6 := by rw [tx_len, List.length_drop]; omega
    have u3 : (tx (h.drop 1)).length ≤ 6 := by rw [tx_len, List.length_drop]; omega
    refine ⟨_, rfl, _, rfl, _, rfl, tx h, rfl, by omega, _, rfl, _, _, rfl, rfl, by rw [c1]; show _ + 1 ≤ sizeLine; omega, _, rfl, _, rfl, _, _, rfl, rfl, _, rfl, tx h, rfl, by omega, _, _, rfl, rfl, ?_, ?_⟩
    · rw [c1, c2]
      show (tx (h.take j) ++ tx [c]).length + _ ≤ sizeLine
      rw [tx_app, tx_len, List.length_append, List.length_take]
      show _ + 1 + _ ≤ sizeLine
      omega
    refine ⟨_, rfl, _, rfl, _, _, rfl, rfl, by rw [th]; show _ + 1 ≤ sizeLine; omega, by show 4 ≤ sizeLine; decide, fun W0 zW0 => ?_⟩
    have W0f : upd Hc W0 (.lst [.str (tx h), .str (tx t), .str (cutS (tx h) none (some ((j : Nat) : Int)) ++ one c ++ cutS (tx h) (some (((j : Nat) : Int) + 1)) none), .str (tx h ++ one c)]) W0 = some (.lst [.str (tx h), .str (tx t), .str (cutS (tx h) none (some ((j : Nat) : Int)) ++ one c ++ cutS (tx h) (some (((j : Nat) : Int) + 1)) none), .str (tx h ++ one c)]) := upd_same
    have s0 := same_upd (o := .lst [.str (tx h), .str (tx t), .str (cutS (tx h) none (some ((j : Nat) : Int)) ++ one c ++ cutS (tx h) (some (((j : Nat) : Int) + 1)) none), .str (tx h ++ one c)]) zW0
    generalize upd Hc W0 (.lst [.str (tx h), .str (tx t), .str (cutS (tx h) none (some ((j : Nat) : Int)) ++ one c ++ cutS (tx h) (some (((j : Nat) : Int) + 1)) none), .str (tx h ++ one c)]) = H11 at s0 W0f
    have v3 : (cutS (tx h) (some (1 : Int)) none).length ≤ 6 := by rw [c3]; exact u3
    have v1 : (cutS (tx h) none (some ((j : Nat) : Int))).length ≤ 6 := by rw [c1]; exact u1
    have v2 : (cutS (tx h) (some (((j : Nat) : Int) + 1)) none).length ≤ 6 := by rw [c2]; exact u2
    have o1 : (one c).length = 1 := rfl
    have q1 : (Str.ofString "?").length = 1 := rfl
    have tt_ : (tx t).length = t.length := tx_len t
    have vu : (Txt.upper (tx h)).length ≤ 18 := by
      have := upper_len (h := h) fun c hc => alph_low hA c (hm c hc)
      rw [Array.length_toList] at this
      have e : (Txt.upper (tx h)).length = (Txt.upper (tx h)).cps.size := rfl
      omega
    refine ⟨_, rfl, _, rfl, _, rfl, tx h, rfl, by omega, _, rfl, by show 1 ≤ 1000; decide, fun Hd T1 t1 hT1 => ?_⟩
    refine ⟨_, rfl, by show 1 ≤ sizeLine; decide, fun L1 zL1 => ?_⟩
    have s1 := same_upd (o := .lst [.str (tx h)]) zL1
    refine ⟨_, rfl, ⟨_, rfl⟩, tx h, rfl, rfl, by omega, _, rfl, _, rfl, tx h, rfl, by omega, _, _, rfl, rfl, by rw [q1]; omega, fun D1 zD1 => ?_⟩
    have s2 := same_upd (o := .dK []) zD1
    refine ⟨by show 10 ≤ sizeLine; decide, fun W1 zW1 => ?_⟩
    have s3 := same_upd (o := .lst [.str (cutS (tx h) (some (1 : Int)) none), .non, .ref T1, .ref L1, .int 5, .str (Str.ofString ""), .str (Txt.upper (tx h)), .str (cutS (tx h) (some (1 : Int)) none ++ Str.ofString "?"), .ref D1, .bl true]) zW1
    refine ⟨W0, W1, _, _, rfl, rfl, s3 _ _ (s2 _ _ (s1 _ _ (t1 _ _ W0f))), upd_same, by show 14 ≤ sizeLine; decide, fun W zW => ?_⟩
    have sG := s0.trans (t1.trans (s1.trans (s2.trans s3)))
    have gT1 := s3 _ _ (s2 _ _ (s1 _ _ hT1))
    have gL1 := s3 L1 _ (s2 L1 _ (upd_same (o := HO.lst [.str (tx h)])))
    have gD1 := s3 D1 _ (upd_same (o := HO.dK []))
    generalize upd (upd (upd Hd L1 (.lst [.str (tx h)])) D1 (.dK [])) W1 (.lst [.str (cutS (tx h) (some (1 : Int)) none), .non, .ref T1, .ref L1, .int 5, .str (Str.ofString ""), .str (Txt.upper (tx h)), .str (cutS (tx h) (some (1 : Int)) none ++ Str.ofString "?"), .ref D1, .bl true]) = G at sG gT1 gL1 gD1 zW ⊢
    refine ⟨_, rfl, .inl ⟨rfl, _, SqL.of upd_same⟩, _, rfl, _, rfl, by show 2 ≤ 1000; decide, fun He T2 t2 hT2 => ⟨W, _, _, rfl, rfl, t2 _ _ upd_same, by show 14 < sizeLine; decide, ?_⟩⟩
    have sW := (sG.trans (same_upd zW)).trans t2
    have zWc : Hc W = none := sG.free zW
    have nW : ∀ b o, G b = some o → b ≠ W := fun b o e => ne_of_none e zW
    generalize hL : ([.str (tx h), .str (tx t), .str (cutS (tx h) none (some ((j : Nat) : Int)) ++ one c ++ cutS (tx h) (some (((j : Nat) : Int) + 1)) none), .str (tx h ++ one c)] ++ [.str (cutS (tx h) (some (1 : Int)) none), .non, .ref T1, .ref L1, .int 5, .str (Str.ofString ""), .str (Txt.upper (tx h)), .str (cutS (tx h) (some (1 : Int)) none ++ Str.ofString "?"), .ref D1, .bl true] : List V) = xs14
    have sE : Same Hc (upd He W (.lst (xs14 ++ [.ref T2]))) := fun b o e => by rw [upd_ne (ne_of_none e zWc)]; exact sW _ _ e
    have eT1 : upd He W (.lst (xs14 ++ [.ref T2])) T1 = some (.tup [.str (tx h)]) := by rw [upd_ne (nW _ _ gT1)]; exact t2 _ _ (same_upd zW _ _ gT1)
    have eL1 : upd He W (.lst (xs14 ++ [.ref T2])) L1 = some (.lst [.str (tx h)]) := by rw [upd_ne (nW _ _ gL1)]; exact t2 _ _ (same_upd zW _ _ gL1)
    have eD1 : upd He W (.lst (xs14 ++ [.ref T2])) D1 = some (.dK []) := by rw [upd_ne (nW _ _ gD1)]; exact t2 _ _ (same_upd zW _ _ gD1)
    have nT2 : T2 ≠ W := fun z => by rw [z, t2 _ _ upd_same] at hT2; cases hT2
    have eT2 : upd He W (.lst (xs14 ++ [.ref T2])) T2 = some (.tup [.str (tx h), .str (tx h)]) := by rw [upd_ne nT2]; exact hT2
    have eW : upd He W (.lst (xs14 ++ [.ref T2])) W = some (.lst (xs14 ++ [.ref T2])) := upd_same
    have l14 : xs14.length = 14 := by rw [← hL]; rfl
    generalize upd He W (.lst (xs14 ++ [.ref T2])) = H12 at sE eT1 eL1 eD1 eT2 eW
    have sheets : ∀ x ∈ xs14 ++ [V.ref T2], ∃ o, Sheet K H12 x o := by
      intro x hx
      rw [← hL] at hx
      simp only [List.cons_append, List.nil_append, List.mem_cons, List.not_mem_nil, or_false] at hx
      rcases hx with rfl | rfl | rfl | rfl | rfl | rfl | rfl | rfl | rfl | rfl | rfl | rfl | rfl | rfl | rfl
      · exact sheet_str _ (by omega)
      · exact sheet_str _ (by omega)
      · exact sheet_str _ (by rw [str_app_len, str_app_len]; omega)
      · exact sheet_str _ (by rw [str_app_len]; omega)
      · exact sheet_str _ (by omega)
      · exact ⟨none, .oth (t := .type "NoneType") (fun _ _ => .base .non) (kit_ty (r := false) (by decide +kernel))⟩
      · exact ⟨none, .oth (t := .type "tuple") (fun _ s => .base (.tup (s _ _ eT1))) (kit_ty (r := false) (by decide +kernel))⟩
      · exact ⟨none, .oth (t := .type "list") (fun _ s => .base (.lst (s _ _ eL1))) (kit_ty (r := false) (by decide +kernel))⟩
      · exact ⟨none, .oth (t := .type "int") (fun _ _ => .base (.int _)) (kit_ty (r := false) (by decide +kernel))⟩
      · exact sheet_str _ (by decide)
      · exact sheet_str _ (by omega)
      · exact sheet_str _ (by rw [str_app_len]; omega)
      · exact ⟨none, .oth (t := .type "dict") (fun _ s => .base (.dK (s _ _ eD1))) (kit_ty (r := false) (by decide +kernel))⟩
      · exact ⟨none, .oth (t := .type "bool") (fun _ _ => .base (.bl _)) (kit_ty (r := false) (by decide +kernel))⟩
      · exact ⟨none, .oth (t := .type "tuple") (fun _ s => .base (.tup (s _ _ eT2))) (kit_ty (r := false) (by decide +kernel))⟩
    refine ⟨fun σ' H' => ∃ (V_ : Addr) (xs : List V), σ' = [some (V.ref p), some (.str (tx l)), some (.int n), some (.str (tx h)), some (.ref A), some (.ref B), v6', v7, v8, v9, some (.int (j : Nat)), some (.str (one c)), some (.ref V_), none, none, none] ∧ Same Hc H' ∧ H' V_ = some (.lst xs) ∧ xs.length ≤ 1000 ∧ ∀ x ∈ xs, ∃ o, Sheet K H' x o, ?_, ?_⟩
    · refine ⟨_, rfl, _, rfl, by rw [tl]; omega, _, _, rfl, rfl, _, rfl, ite2 (fun hh => ?_) (fun hh => ?_)⟩
      · have hh := of_decide_eq_true hh
        rw [tl] at hh
        have l3 : l.length ≤ 3 := by omega
        have hn3 := n3 l3
        have pw27 : l.length ^ n.toNat ≤ 27 := Nat.le_trans (Nat.pow_le_pow_left l3 _) (Nat.le_trans (Nat.pow_le_pow_right (by decide) (show n.toNat ≤ 3 by omega)) (by decide))
        refine ⟨_, rfl, _, rfl, _, rfl, l, n, rfl, l0, by omega, n6, by omega, fun Hf D sf zD hD => ⟨W, D, _, _, rfl, rfl, sf _ _ eW, hD, ?_, fun W2 zW2 => ?_⟩⟩
        · rw [List.length_append, l14, List.length_map, wds_len]
          show 14 + 1 + _ ≤ sizeLine
          omega
        have s4 := sf.trans (same_upd (o := .lst (xs14 ++ [V.ref T2] ++ txs (wds l n.toNat))) zW2)
        refine ⟨W2, _, rfl, sE.trans s4, upd_same, ?_, fun x hx => ?_⟩
        · rw [List.length_append, List.length_append, l14, List.length_map, wds_len]
          show 14 + 1 + _ ≤ 1000
          omega
        · rcases List.mem_append.mp hx with hx | hx
          · obtain ⟨o, ho⟩ := sheets x hx
            exact ⟨o, ho.same s4⟩
          · obtain ⟨z, hz, rfl⟩ := List.mem_map.mp hx
            exact sheet_str _ (by rw [tx_len, ((mem_wds l _ z).mp hz).1]; omega)
      · exact ⟨W, _, rfl, sE, eW, by rw [List.length_append, l14]; show 15 ≤ 1000; decide, sheets⟩
    rintro _ H13 ⟨V_, xs, rfl, s13, hV, lx, sheets⟩
    have hA13 := s13 _ _ (K9c.1 _ _ nA hA9)
    have hB13 := s13 _ _ (K9c.1 _ _ nB hB9)
    have hR13 := rows_same (rows_tups hR9 (K9c.tups R9.2)) s13
    have hF13 := facts_same (facts_tups hF9 (K9c.tups R9.2)) s13
    refine ⟨_, rfl, _, rfl, _, rfl, A, _, rfl, .inl ⟨SqL.of hA13, fun a za => ?_⟩⟩
    have sa := same_upd (o := .tup us) za
    refine ⟨_, rfl, B, _, rfl, .inl ⟨SqL.of (sa _ _ hB13), fun b zb => ?_⟩⟩
    have sb := same_upd (o := .tup ws) zb
    refine ⟨by show 5 ≤ 1000; decide, fun H14 S sS hS => ?_⟩
    have s14 := sa.trans (sb.trans sS)
    have ha14 : H14 a = some (.tup us) := sS _ _ (sb _ _ upd_same)
    have hb14 : H14 b = some (.tup ws) := sS _ _ upd_same
    refine ⟨_, rfl, _, rfl, _, rfl, A, _, rfl, .inl ⟨SqL.of (s14 _ _ hA13), fun a' za' => ?_⟩⟩
    have sa' := same_upd (o := .tup us) za'
    refine ⟨_, rfl, B, _, rfl, .inl ⟨SqL.of (sa' _ _ (s14 _ _ hB13)), fun b' zb' => ?_⟩⟩
    have sb' := same_upd (o := .tup ws) zb'
    refine ⟨by show 5 ≤ 1000; decide, fun H15 N sN hN => ?_⟩
    have s15 := sa'.trans (sb'.trans sN)
    have ha15 : H15 a' = some (.tup us) := sN _ _ (sb' _ _ upd_same)
    have hb15 : H15 b' = some (.tup ws) := sN _ _ upd_same
    have sAll := s14.trans s15
    have hS15 := s15 _ _ hS
    have hV15 := sAll _ _ hV
    have r20 : rows.length ≤ 20 := by omega
    have f20 : fs.length ≤ 20 := by omega
    refine ⟨_, rfl, V_, rfl, ⟨_, SqL.of hV15⟩, for_list (xs := xs) (fun i σ H' => ∃ v15 : Option V, σ = [some (.ref p), some (.str (tx l)), some (.int n), some (.str (tx h)), some (.ref A), some (.ref B), v6', v7, v8, v9, some (.int (j : Nat)), some (.str (one c)), some (.ref V_), some (.ref S), some (.ref N), v15] ∧ Same H15 H') ⟨_, rfl, Same.refl H15⟩ (fun i σ H' _ hh => ?_) ?_ ?_⟩
    · obtain ⟨_, _, sm⟩ := hh
      exact SqL.of (sm _ _ hV15)
    · rintro i x σ H2 hx ⟨v15, rfl, sm⟩
      obtain ⟨o, ho⟩ := sheets x (List.mem_of_getElem? hx)
      have s2 := sAll.trans sm
      have ho2 := ho.same s2
      refine ⟨_, rfl, _, rfl, S, a, b, false, l, n, us, ws, rows, fs, x, o, rfl, sm _ _ hS15, hA, n1, n6, sm _ _ (s15 _ _ ha14), rows_same hR13 s2, sm _ _ (s15 _ _ hb14), facts_same hF13 s2, r20, f4, ro, fo, ho2, (fun z => nomatch z), fun H3 s3 => ⟨_, rfl, ?_⟩⟩
      have s23 := s2.trans s3
      refine ⟨_, rfl, _, rfl, _, rfl, _, rfl, _, rfl, A, B, l, n, us, ws, rows, fs, x, o, rfl, n6, s23 _ _ hA13, rows_same hR13 s23, s23 _ _ hB13, facts_same hF13 s23, r20, f20, ro, fo, ho.same s23, fun H4 s4 => ⟨_, rfl, rfl, false, congrArg V.bl (repr_ne rfl), iteF ⟨_, rfl, sm.trans (s3.trans s4)⟩⟩⟩
    · rintro σ H2 ⟨v15, rfl, sm⟩
      have s2 := sAll.trans sm
      have hh : Sheet K H2 (.str (tx h)) (some h) := .txt (by omega)
      refine ⟨_, rfl, _, rfl, N, a', b', true, l, n, us, ws, rows, fs, .str (tx h), some h, rfl, sm _ _ hN, hA, n1, n6, sm _ _ ha15, rows_same hR13 s2, sm _ _ hb15, facts_same hF13 s2, r20, f4, ro, fo, hh, (fun _ => ⟨_, rfl⟩), fun H3 s3 => ?_⟩
      have s23 := s2.trans s3
      have sm3 := sm.trans s3
      refine ⟨_, rfl, _, rfl, S, a, b, false, l, n, us, ws, rows, fs, .str (tx h), some h, rfl, sm3 _ _ hS15, hA, n1, n6, sm3 _ _ (s15 _ _ ha14), rows_same hR13 s23, sm3 _ _ (s15 _ _ hb14), facts_same hF13 s23, r20, f4, ro, fo, hh.same s3, (fun z => nomatch z), fun H4 s4 => ?_⟩
      have s24 := s23.trans s4
      have sm4 := sm3.trans s4
      refine ⟨by show 2 ≤ sizeLine; decide, fun M zM => ⟨M, .list [.bool false, .bool (possB l n rows fs (some h))], rfl, .lst (SqL.of upd_same) (.cons (.bl _) (.cons (.bl _) .nil)), sh2 _ _, ?_⟩⟩
      have s5 := same_upd (o := .lst [.bl (!true && possB l n rows fs (some h)), .bl (!false && possB l n rows fs (some h))]) zM
      have s25 := s24.trans s5
      have sm5 := sm4.trans s5
      refine ⟨_, rfl, _, rfl, S, a, b, false, l, n, us, ws, rows, fs, .str (tx h), some h, rfl, sm5 _ _ hS15, hA, n1, n6, sm5 _ _ (s15 _ _ ha14), rows_same hR13 s25, sm5 _ _ (s15 _ _ hb14), facts_same hF13 s25, r20, f4, ro, fo, (hh.same s3).same (s4.trans s5), (fun z => nomatch z), fun H5 s6 => ?_⟩
      refine ⟨by show 2 ≤ sizeLine; decide, fun M2 zM2 => ⟨M2, .list [.bool false, .bool (possB l n rows fs (some h))], rfl, .lst (SqL.of upd_same) (.cons (.bl _) (.cons (.bl _) .nil)), sh2 _ _, ?_⟩⟩
      refine ⟨rfl, ?_⟩
      rw [decide_eq_true rfl]
      exact q _ (R10.same (s13.trans (s25.trans (s6.trans (same_upd zM2)))))
end
end Gm

namespace Gm
open PySem PySem.Spec PyProof.Rows L2
abbrev sLaw : Stmt := top 59
def spLaw (K : PySem.W.Frag) : Sp := fun vs H Q _ => ∃ (a : Addr) (ns : List Int), vs = [.ref a] ∧ SqL K H a (ns.map V.int) ∧ ns.length ≤ 63 ∧ ∀ H', Q (.bl true) H'
def spLawN (K : PySem.W.Frag) : Sp := fun vs H Q E => (∀ p ∈ ([] : List (Addr × Addr)), H p.2 = some (.tbl #[])) ∧ spLaw K vs H Q E
structure TxL (mg : Str → Option Value) : Prop where
  all : mg "all" = none
  range : mg "range" = none
  max : mg "max" = none
  min : mg "min" = none
  len : mg "len" = none
section
variable {P : Program} {w : World} {K : PySem.W.Frag} {mg : Str → Option Value} {base : Heap}
abbrev nL : List Str := ["_law_script", "_law_k"]
theorem scL : FnScope nL ["_law_script"] (defScope sLaw) := ⟨rfl, rfl, rfl, by decide +kernel, rfl, by decide +kernel, by decide +kernel⟩
theorem ok_law {f fB fR : Addr} {fd fdB fdR : FuncData} (F : Fun K "law" "law" sLaw f fd) (T : TxL mg)
    (GB : FnOk P w K mg base L2.CX0 1 fB fdB ["_law_script", "_law_k"] (spBowl K)) (DB : Df K mg "_law_well" fB fdB ["_law_script", "_law_k"])
    (GR : FnG P w K mg base L2.CX0 6 fR fdR ["_law_well_here"] spRight) (DR : Df K mg "_law_right" fR fdR ["_law_well_here"]) : FnG P w K mg base L2.CX0 7 f fd ["_law_script"] (spLawN K) := by
  refine F.okG scL (fun vs H Q E h => ?_) (fun cdv A outer s H vs Q E g hr h => ?_)
  · obtain ⟨_, a, ns, rfl, _⟩ := h
    rfl
  · obtain ⟨_, a, ns, rfl, hS, hlen, q⟩ := h
    have nd := scL.nd
    have hr1 : Room 1 _ := hr.mono (by decide)
    refine ⟨_, pss_one (ps_ret (pe_callB (cr_all rfl) (by rfl) T.all (by decide +kernel) (pa_cons
      (pe_lc (own := [("_law_k", 1)]) (g := gName 1) (by rfl) nd
        (pi_range1 (by rfl) T.range (pa_cons (pe_callB (call_max2 rfl) (by rfl) T.max (by decide +kernel) (pa_cons pe_int (pa_cons (pe_callB (call_min2 rfl) (by rfl) T.min (by decide +kernel)
          (pa_cons (pe_callB call_len_seq (by rfl) T.len PySem.boot_len (pa_cons (pv 0) pa_nil)) (pa_cons pe_int pa_nil))) pa_nil))) pa_nil))
        (blkOk_by (own := [("_law_k", 1)]) (N := nL) (sc := defScope sLaw) (by decide +kernel))
        (fun _ _ _ _ _ => pg_name (i := 1) nd rfl (Or.inl rfl)) (fun _ _ _ _ _ => pts_nil)
        (fun _ _ _ _ _ => pe_callG GR g hr (by rfl) DR.mg DR.kp DR.b L2.pass0 (pa_cons (pe_call GB hr1 (by rfl) DB.mg DB.kp DB.b .nil L2.pass0 (pa_cons (pv 0) (pa_cons (pv 1) pa_nil))) pa_nil))) pa_nil))), ?_⟩
    have hline : sizeLine = 16777216 := sizeLine_eq
    refine ⟨_, rfl, a, _, rfl, .inl hS, _, _, rfl, _, _, rfl, ?_⟩
    refine ⟨_, rfl, ?_, ?_, fun D hD => ?_⟩
    · rw [List.length_map]
      split <;> (try split) <;> omega
    · rw [List.length_map]
      split <;> (try split) <;> omega
    have hn : ∀ L : Int, (if (if (5 : Int) < L then (5 : Int) else L) > 2 then (if (5 : Int) < L then (5 : Int) else L) else 2).toNat ≤ 6 := fun L => by
      split <;> (try split) <;> omega
    refine lc_range (lo := 0) (fun i H' => Same H H' ∧ H' D = some (.lst ((List.replicate i true).map V.bl))) ⟨same_upd hD, upd_same⟩ ?_ ?_
    · rintro i H1 hi ⟨sm, hDi⟩
      have hi6 : i < 6 := Nat.lt_of_lt_of_le hi (hn _)
      refine ⟨rfl, ⟨_, rfl, _, rfl, a, ns, _, rfl, sm.seq hS, hlen, by omega, fun H2 p s2 np B => ⟨p, rfl, B, fun H3 R3 => ?_⟩⟩⟩
      have keep : Same H1 H3 := fun b o e => R3.1 b o (ne_of_none e np) (s2 b o e)
      refine ⟨_, keep _ _ hDi, ?_, fun b u e => ?_, ?_⟩
      · rw [List.length_map, List.length_replicate]
        omega
      · rw [upd_ne (ne_of_none e hD)]
        exact keep b u (sm b u e)
      · rw [upd_same, List.replicate_succ', List.map_append]
        rfl
    · rintro H1 ⟨sm, hD1⟩
      refine ⟨D, _, rfl, SqL.of hD1, ?_⟩
      rw [List.all_replicate]
      simp only [id, if_true, ite_self]
      exact q _
end
end Gm

namespace Gm
open PySem PySem.Spec PyProof.Rows L2 LamX
theorem gK_rel {vs : List V} {us : List Value} {zs : List V} {ws : List Value} (r : Vals vs us) (q : Vals zs ws) : Vals (gK vs zs) (gK us ws) := by
  cases r with
  | cons a r => exact .nil
  | nil =>
    cases q with
    | nil => exact .nil
    | cons a q =>
      cases q with
      | nil => exact .nil
      | cons b q =>
        cases q with
        | nil => exact .cons b (.cons a .nil)
        | cons c q => exact .nil
theorem kw_holds {K : PySem.W.Frag} {f : Addr} {fd : FuncData} (F : Fun K "holds" "holds" sHolds f fd) : KBinds K fd ["claim", "paper"] ["paper", "claim"] gK gK := by
  obtain ⟨oc, od, kV, doc, pm, an, cdv, ct, osl, rfl, lk, hcd⟩ := F.ex
  refine ⟨fun s us ws X l1 => ?_, gK_rel⟩
  match us, ws, l1 with
  | [], [a, b], _ => exact .of_eq rfl
  | [], [], l | [], [_], l | [], _ :: _ :: _ :: _, l | _ :: _, _, l => simp [gK] at l
theorem all_mk {P : Program} {w : World} {q : Program} {K : PySem.W.Frag} {h : Heap} {mg : Str → Option Value} {fa CB fB fD fOn fS fTe fRp fEv fTr fHs fDu fR fL fW fA fCn fOv fIw fMo fAm fIr fIl fIf fHf fTo fSq fSi fHo fI : Addr} (X : K.In h) (G : h.Ns mainGlobals mg) (hfa : mg "law" = some (.ref fa))
    {odB anB odD anD odOn anOn odS anS odTe anTe odRp anRp odEv anEv odTr anTr odHs anHs odDu anDu odR anR odL anL odW anW odA anA odCn anCn odOv anOv odIw anIw odMo anMo odAm anAm odIr anIr odIl anIl odIf anIf odHf anHf odTo anTo odSq anSq odSi anSi odHo anHo odI anI : Option Addr} {slB slD slOn slS slTe slRp slEv slTr slHs slDu slR slL slW slA slCn slOv slIw slMo slAm slIr slIl slIf slHf slTo slSq slSi slHo slI : Array (Option Value)} {ocB kVB dcB pmB cdB ctB ocD kVD dcD pmD cdD ctD ocOn kVOn dcOn pmOn cdOn ctOn ocS kVS dcS pmS cdS ctS ocTe kVTe dcTe pmTe cdTe ctTe ocRp kVRp dcRp pmRp cdRp ctRp ocEv kVEv dcEv pmEv cdEv ctEv ocTr kVTr dcTr pmTr cdTr ctTr ocHs kVHs dcHs pmHs cdHs ctHs ocDu kVDu dcDu pmDu cdDu ctDu ocR kVR dcR pmR cdR ctR ocL kVL dcL pmL cdL ctL ocW kVW dcW pmW cdW ctW ocA kVA dcA pmA cdA ctA ocCn kVCn dcCn pmCn cdCn ctCn ocOv kVOv dcOv pmOv cdOv ctOv ocIw kVIw dcIw pmIw cdIw ctIw ocMo kVMo dcMo pmMo cdMo ctMo ocAm kVAm dcAm pmAm cdAm ctAm ocIr kVIr dcIr pmIr cdIr ctIr ocIl kVIl dcIl pmIl cdIl ctIl ocIf kVIf dcIf pmIf cdIf ctIf ocHf kVHf dcHf pmHf cdHf ctHf ocTo kVTo dcTo pmTo cdTo ctTo ocSq kVSq dcSq pmSq cdSq ctSq ocSi kVSi dcSi pmSi cdSi ctSi ocHo kVHo dcHo pmHo cdHo ctHo ocI kVI dcI pmI cdI ctI : Value}
    {tkML tkMM tkMR tkMF tkLO tkMA : Tok}
    (gCB : PySem.W.nsIn K mainGlobals "Board" = some (some (.ref CB)))
    (aB : PySem.W.nsIn K mainGlobals "_law_well" = some (some (.ref fB)))
    (lB : K.lookup fB = some ⟨ocB, odB, .func (PySem.W.fnOf "_law_well" "_law_well" (defArgs sWell) (defBody sWell) (defScope sWell) .none kVB dcB pmB anB cdB ctB), slB⟩)
    (cB : PySem.W.codeIn K cdB "_law_well" = true)
    (kB : PySem.W.keepIn K (.ref fB) = true)
    (aD : PySem.W.nsIn K mainGlobals "_law_draw" = some (some (.ref fD)))
    (lD : K.lookup fD = some ⟨ocD, odD, .func (PySem.W.fnOf "_law_draw" "_law_draw" (defArgs sDraw) (defBody sDraw) (defScope sDraw) .none kVD dcD pmD anD cdD ctD), slD⟩)
    (cD : PySem.W.codeIn K cdD "_law_draw" = true)
    (kD : PySem.W.keepIn K (.ref fD) = true)
    (aOn : PySem.W.nsIn K mainGlobals "_law_one" = some (some (.ref fOn)))
    (lOn : K.lookup fOn = some ⟨ocOn, odOn, .func (PySem.W.fnOf "_law_one" "_law_one" (defArgs sOne) (defBody sOne) (defScope sOne) .none kVOn dcOn pmOn anOn cdOn ctOn), slOn⟩)
    (cOn : PySem.W.codeIn K cdOn "_law_one" = true)
    (kOn : PySem.W.keepIn K (.ref fOn) = true)
    (aS : PySem.W.nsIn K mainGlobals "_law_signs" = some (some (.ref fS)))
    (lS : K.lookup fS = some ⟨ocS, odS, .func (PySem.W.fnOf "_law_signs" "_law_signs" (defArgs sSigns) (defBody sSigns) (defScope sSigns) .none kVS dcS pmS anS cdS ctS), slS⟩)
    (cS : PySem.W.codeIn K cdS "_law_signs" = true)
    (kS : PySem.W.keepIn K (.ref fS) = true)
    (aTe : PySem.W.nsIn K mainGlobals "_law_text" = some (some (.ref fTe)))
    (lTe : K.lookup fTe = some ⟨ocTe, odTe, .func (PySem.W.fnOf "_law_text" "_law_text" (defArgs sText) (defBody sText) (defScope sText) .none kVTe dcTe pmTe anTe cdTe ctTe), slTe⟩)
    (cTe : PySem.W.codeIn K cdTe "_law_text" = true)
    (kTe : PySem.W.keepIn K (.ref fTe) = true)
    (aRp : PySem.W.nsIn K mainGlobals "_law_reply" = some (some (.ref fRp)))
    (lRp : K.lookup fRp = some ⟨ocRp, odRp, .func (PySem.W.fnOf "_law_reply" "_law_reply" (defArgs sReply) (defBody sReply) (defScope sReply) .none kVRp dcRp pmRp anRp cdRp ctRp), slRp⟩)
    (cRp : PySem.W.codeIn K cdRp "_law_reply" = true)
    (kRp : PySem.W.keepIn K (.ref fRp) = true)
    (aEv : PySem.W.nsIn K mainGlobals "_law_every" = some (some (.ref fEv)))
    (lEv : K.lookup fEv = some ⟨ocEv, odEv, .func (PySem.W.fnOf "_law_every" "_law_every" (defArgs sEvery) (defBody sEvery) (defScope sEvery) .none kVEv dcEv pmEv anEv cdEv ctEv), slEv⟩)
    (cEv : PySem.W.codeIn K cdEv "_law_every" = true)
    (kEv : PySem.W.keepIn K (.ref fEv) = true)
    (aTr : PySem.W.nsIn K mainGlobals "_law_truth" = some (some (.ref fTr)))
    (lTr : K.lookup fTr = some ⟨ocTr, odTr, .func (PySem.W.fnOf "_law_truth" "_law_truth" (defArgs sTruth) (defBody sTruth) (defScope sTruth) .none kVTr dcTr pmTr anTr cdTr ctTr), slTr⟩)
    (cTr : PySem.W.codeIn K cdTr "_law_truth" = true)
    (kTr : PySem.W.keepIn K (.ref fTr) = true)
    (aHs : PySem.W.nsIn K mainGlobals "_law_has" = some (some (.ref fHs)))
    (lHs : K.lookup fHs = some ⟨ocHs, odHs, .func (PySem.W.fnOf "_law_has" "_law_has" (defArgs sHas) (defBody sHas) (defScope sHas) .none kVHs dcHs pmHs anHs cdHs ctHs), slHs⟩)
    (cHs : PySem.W.codeIn K cdHs "_law_has" = true)
    (kHs : PySem.W.keepIn K (.ref fHs) = true)
    (aDu : PySem.W.nsIn K mainGlobals "_law_due" = some (some (.ref fDu)))
    (lDu : K.lookup fDu = some ⟨ocDu, odDu, .func (PySem.W.fnOf "_law_due" "_law_due" (defArgs sDue) (defBody sDue) (defScope sDue) .none kVDu dcDu pmDu anDu cdDu ctDu), slDu⟩)
    (cDu : PySem.W.codeIn K cdDu "_law_due" = true)
    (kDu : PySem.W.keepIn K (.ref fDu) = true)
    (aR : PySem.W.nsIn K mainGlobals "_law_right" = some (some (.ref fR)))
    (lR : K.lookup fR = some ⟨ocR, odR, .func (PySem.W.fnOf "_law_right" "_law_right" (defArgs sRight) (defBody sRight) (defScope sRight) .none kVR dcR pmR anR cdR ctR), slR⟩)
    (cR : PySem.W.codeIn K cdR "_law_right" = true)
    (kR : PySem.W.keepIn K (.ref fR) = true)
    (aL : PySem.W.nsIn K mainGlobals "law" = some (some (.ref fL)))
    (lL : K.lookup fL = some ⟨ocL, odL, .func (PySem.W.fnOf "law" "law" (defArgs sLaw) (defBody sLaw) (defScope sLaw) .none kVL dcL pmL anL cdL ctL), slL⟩)
    (cL : PySem.W.codeIn K cdL "law" = true)
    (kL : PySem.W.keepIn K (.ref fL) = true)
    (aW : PySem.W.nsIn K mainGlobals "is_integer_within" = some (some (.ref fW)))
    (lW : K.lookup fW = some ⟨ocW, odW, .func (PySem.W.fnOf "is_integer_within" "is_integer_within" (defArgs sWithin) (defBody sWithin) (defScope sWithin) .none kVW dcW pmW anW cdW ctW), slW⟩)
    (cW : PySem.W.codeIn K cdW "is_integer_within" = true)
    (kW : PySem.W.keepIn K (.ref fW) = true)
    (aA : PySem.W.nsIn K mainGlobals "is_alphabet" = some (some (.ref fA)))
    (lA : K.lookup fA = some ⟨ocA, odA, .func (PySem.W.fnOf "is_alphabet" "is_alphabet" (defArgs sAlpha) (defBody sAlpha) (defScope sAlpha) .none kVA dcA pmA anA cdA ctA), slA⟩)
    (cA : PySem.W.codeIn K cdA "is_alphabet" = true)
    (kA : PySem.W.keepIn K (.ref fA) = true)
    (aCn : PySem.W.nsIn K mainGlobals "count_words" = some (some (.ref fCn)))
    (lCn : K.lookup fCn = some ⟨ocCn, odCn, .func (PySem.W.fnOf "count_words" "count_words" (defArgs sCount) (defBody sCount) (defScope sCount) .none kVCn dcCn pmCn anCn cdCn ctCn), slCn⟩)
    (cCn : PySem.W.codeIn K cdCn "count_words" = true)
    (kCn : PySem.W.keepIn K (.ref fCn) = true)
    (aOv : PySem.W.nsIn K mainGlobals "is_text_over" = some (some (.ref fOv)))
    (lOv : K.lookup fOv = some ⟨ocOv, odOv, .func (PySem.W.fnOf "is_text_over" "is_text_over" (defArgs sOver) (defBody sOver) (defScope sOver) .none kVOv dcOv pmOv anOv cdOv ctOv), slOv⟩)
    (cOv : PySem.W.codeIn K cdOv "is_text_over" = true)
    (kOv : PySem.W.keepIn K (.ref fOv) = true)
    (aIw : PySem.W.nsIn K mainGlobals "is_word" = some (some (.ref fIw)))
    (lIw : K.lookup fIw = some ⟨ocIw, odIw, .func (PySem.W.fnOf "is_word" "is_word" (defArgs sIsW) (defBody sIsW) (defScope sIsW) .none kVIw dcIw pmIw anIw cdIw ctIw), slIw⟩)
    (cIw : PySem.W.codeIn K cdIw "is_word" = true)
    (kIw : PySem.W.keepIn K (.ref fIw) = true)
    (aMo : PySem.W.nsIn K mainGlobals "marks_of" = some (some (.ref fMo)))
    (lMo : K.lookup fMo = some ⟨ocMo, odMo, .func (PySem.W.fnOf "marks_of" "marks_of" (defArgs sMarksOf) (defBody sMarksOf) (defScope sMarksOf) .none kVMo dcMo pmMo anMo cdMo ctMo), slMo⟩)
    (cMo : PySem.W.codeIn K cdMo "marks_of" = true)
    (kMo : PySem.W.keepIn K (.ref fMo) = true)
    (aAm : PySem.W.nsIn K mainGlobals "are_marks" = some (some (.ref fAm)))
    (lAm : K.lookup fAm = some ⟨ocAm, odAm, .func (PySem.W.fnOf "are_marks" "are_marks" (defArgs sAreM) (defBody sAreM) (defScope sAreM) .none kVAm dcAm pmAm anAm cdAm ctAm), slAm⟩)
    (cAm : PySem.W.codeIn K cdAm "are_marks" = true)
    (kAm : PySem.W.keepIn K (.ref fAm) = true)
    (aIr : PySem.W.nsIn K mainGlobals "is_row" = some (some (.ref fIr)))
    (lIr : K.lookup fIr = some ⟨ocIr, odIr, .func (PySem.W.fnOf "is_row" "is_row" (defArgs sIsRow) (defBody sIsRow) (defScope sIsRow) .none kVIr dcIr pmIr anIr cdIr ctIr), slIr⟩)
    (cIr : PySem.W.codeIn K cdIr "is_row" = true)
    (kIr : PySem.W.keepIn K (.ref fIr) = true)
    (aIl : PySem.W.nsIn K mainGlobals "is_letter" = some (some (.ref fIl)))
    (lIl : K.lookup fIl = some ⟨ocIl, odIl, .func (PySem.W.fnOf "is_letter" "is_letter" (defArgs sIsL) (defBody sIsL) (defScope sIsL) .none kVIl dcIl pmIl anIl cdIl ctIl), slIl⟩)
    (cIl : PySem.W.codeIn K cdIl "is_letter" = true)
    (kIl : PySem.W.keepIn K (.ref fIl) = true)
    (aIf : PySem.W.nsIn K mainGlobals "is_fact" = some (some (.ref fIf)))
    (lIf : K.lookup fIf = some ⟨ocIf, odIf, .func (PySem.W.fnOf "is_fact" "is_fact" (defArgs sIsF) (defBody sIsF) (defScope sIsF) .none kVIf dcIf pmIf anIf cdIf ctIf), slIf⟩)
    (cIf : PySem.W.codeIn K cdIf "is_fact" = true)
    (kIf : PySem.W.keepIn K (.ref fIf) = true)
    (aHf : PySem.W.nsIn K mainGlobals "has_fact" = some (some (.ref fHf)))
    (lHf : K.lookup fHf = some ⟨ocHf, odHf, .func (PySem.W.fnOf "has_fact" "has_fact" (defArgs sHasF) (defBody sHasF) (defScope sHasF) .none kVHf dcHf pmHf anHf cdHf ctHf), slHf⟩)
    (cHf : PySem.W.codeIn K cdHf "has_fact" = true)
    (kHf : PySem.W.keepIn K (.ref fHf) = true)
    (aTo : PySem.W.nsIn K mainGlobals "is_tuple_of" = some (some (.ref fTo)))
    (lTo : K.lookup fTo = some ⟨ocTo, odTo, .func (PySem.W.fnOf "is_tuple_of" "is_tuple_of" (defArgs sTupOf) (defBody sTupOf) (defScope sTupOf) .none kVTo dcTo pmTo anTo cdTo ctTo), slTo⟩)
    (cTo : PySem.W.codeIn K cdTo "is_tuple_of" = true)
    (kTo : PySem.W.keepIn K (.ref fTo) = true)
    (aSq : PySem.W.nsIn K mainGlobals "shows_possible" = some (some (.ref fSq)))
    (lSq : K.lookup fSq = some ⟨ocSq, odSq, .func (PySem.W.fnOf "shows_possible" "shows_possible" (defArgs sShowQ) (defBody sShowQ) (defScope sShowQ) .none kVSq dcSq pmSq anSq cdSq ctSq), slSq⟩)
    (cSq : PySem.W.codeIn K cdSq "shows_possible" = true)
    (kSq : PySem.W.keepIn K (.ref fSq) = true)
    (aSi : PySem.W.nsIn K mainGlobals "shows_impossible" = some (some (.ref fSi)))
    (lSi : K.lookup fSi = some ⟨ocSi, odSi, .func (PySem.W.fnOf "shows_impossible" "shows_impossible" (defArgs sShowI) (defBody sShowI) (defScope sShowI) .none kVSi dcSi pmSi anSi cdSi ctSi), slSi⟩)
    (cSi : PySem.W.codeIn K cdSi "shows_impossible" = true)
    (kSi : PySem.W.keepIn K (.ref fSi) = true)
    (aHo : PySem.W.nsIn K mainGlobals "holds" = some (some (.ref fHo)))
    (lHo : K.lookup fHo = some ⟨ocHo, odHo, .func (PySem.W.fnOf "holds" "holds" (defArgs sHolds) (defBody sHolds) (defScope sHolds) .none kVHo dcHo pmHo anHo cdHo ctHo), slHo⟩)
    (cHo : PySem.W.codeIn K cdHo "holds" = true)
    (kHo : PySem.W.keepIn K (.ref fHo) = true)
    (aI : PySem.W.findIn K (.ref CB) "__init__" = some (some (.ref fI)))
    (iI : PySem.W.isFn K (.ref fI) = true)
    (lI : K.lookup fI = some ⟨ocI, odI, .func (PySem.W.fnOf "__init__" "Board.__init__" (defArgs sInit) (defBody sInit) (defScope sInit) .none kVI dcI pmI anI cdI ctI), slI⟩)
    (cI : PySem.W.codeIn K cdI "Board.__init__" = true)
    (kI : PySem.W.keepIn K (.ref fI) = true)
    (nML : PySem.W.nsIn K mainGlobals "MOST_LENGTH" = some (some (.int 6 tkML)))
    (nMM : PySem.W.nsIn K mainGlobals "MOST_LETTERS" = some (some (.int 26 tkMM)))
    (nMR : PySem.W.nsIn K mainGlobals "MOST_ROWS" = some (some (.int 20 tkMR)))
    (nMF : PySem.W.nsIn K mainGlobals "MOST_FACTS" = some (some (.int 4 tkMF)))
    (nLO : PySem.W.nsIn K mainGlobals "LOWERCASE" = some (some (.str lowTxt tkLO)))
    (nMA : PySem.W.nsIn K mainGlobals "MARKS" = some (some (.str (Str.ofString "012") tkMA)))
    (zlen : PySem.W.nsIn K mainGlobals "len" = some none)
    (zint : PySem.W.nsIn K mainGlobals "int" = some none)
    (zabs : PySem.W.nsIn K mainGlobals "abs" = some none)
    (zdivmod : PySem.W.nsIn K mainGlobals "divmod" = some none)
    (zisinstance : PySem.W.nsIn K mainGlobals "isinstance" = some none)
    (zbool : PySem.W.nsIn K mainGlobals "bool" = some none)
    (zstr : PySem.W.nsIn K mainGlobals "str" = some none)
    (zrange : PySem.W.nsIn K mainGlobals "range" = some none)
    (zrepr : PySem.W.nsIn K mainGlobals "repr" = some none)
    (zall : PySem.W.nsIn K mainGlobals "all" = some none)
    (zmax : PySem.W.nsIn K mainGlobals "max" = some none)
    (zmin : PySem.W.nsIn K mainGlobals "min" = some none)
    (zzip : PySem.W.nsIn K mainGlobals "zip" = some none)
    (ztuple : PySem.W.nsIn K mainGlobals "tuple" = some none)
    (pg : PySem.W.plainGet K CB Str.empty = true)
    (hd : PySem.W.hasDictIn K CB = true)
    (po : PySem.W.plainOver K CB = true)
    (sa : PySem.W.findIn K (.ref CB) "__setattr__" = some (some (.builtin "object.__setattr__")))
    (mk : PySem.W.makesIn K CB = true)
    (kc : PySem.W.keepIn K (.ref CB) = true)
    (naL : PySem.W.findIn K (.ref CB) "letters" = some none)
    (naN : PySem.W.findIn K (.ref CB) "length" = some none)
    (naS : PySem.W.findIn K (.ref CB) "size" = some none)
    (ac : PySem.W.findIn K (.ref CB) "__class__" = some (some (.builtin "object.__class__")))
    (gtc : PySem.W.specialIn K (.builtin "object.__class__") "__get__" = some (some (.builtin "getset_descriptor.__get__")))
    (tkc : PySem.W.takesIn K (.builtin "object.__class__") = some true)
    (ob : PySem.W.mroIn K CB (.type "object") = some true)
    (kitO : PySem.W.kitOne K (.ref CB) (.ref CB) = some true)
    (tab : ∀ d ∈ recsOf q, ∃ a o fd c P, mg d.name = some (.ref a) ∧ h.get? a = some o ∧ o.data = .func fd ∧ fd.code = .ref c ∧ h.IsCode c P #[] ∧ h.TableAt c P #[]) :
    ∃ (fd : FuncData) (cs : List (Addr × Addr)), (∀ p ∈ cs, h.get? p.2 = some { cls := .none, data := .fields #[] } ∧ K.lookup p.2 = none ∧ PySem.W.CodeHd h p.1 p.2) ∧ (∀ (s : Shared) (u : Value), BindsTo s fd ⟨[u], []⟩ [("_law_script", u)]) ∧
      ∀ base : Heap, K.In base → base.Ns mainGlobals mg → (∃ mm, base.Ns sysModules mm) → (∀ p ∈ cs, TabB base mg p.1 p.2) → FnG P w K mg base L2.CX0 7 fa fd ["_law_script"] (fun vs H Q E => (∀ p ∈ cs, H p.2 = some (.tbl #[])) ∧ spLaw K vs H Q E) := by
  have e := hfa.symm.trans (PySem.W.mg_of X G aL)
  cases e
  have FB := fun_mk (st := sWell) lB cB kB
  have FD := fun_mk (st := sDraw) lD cD kD
  have FOn := fun_mk (st := sOne) lOn cOn kOn
  have FS := fun_mk (st := sSigns) lS cS kS
  have FTe := fun_mk (st := sText) lTe cTe kTe
  have FRp := fun_mk (st := sReply) lRp cRp kRp
  have FEv := fun_mk (st := sEvery) lEv cEv kEv
  have FTr := fun_mk (st := sTruth) lTr cTr kTr
  have FHs := fun_mk (st := sHas) lHs cHs kHs
  have FDu := fun_mk (st := sDue) lDu cDu kDu
  have FR := fun_mk (st := sRight) lR cR kR
  have FL := fun_mk (st := sLaw) lL cL kL
  have FW := fun_mk (st := sWithin) lW cW kW
  have FA := fun_mk (st := sAlpha) lA cA kA
  have FCn := fun_mk (st := sCount) lCn cCn kCn
  have FOv := fun_mk (st := sOver) lOv cOv kOv
  have FIw := fun_mk (st := sIsW) lIw cIw kIw
  have FMo := fun_mk (st := sMarksOf) lMo cMo kMo
  have FAm := fun_mk (st := sAreM) lAm cAm kAm
  have FIr := fun_mk (st := sIsRow) lIr cIr kIr
  have FIl := fun_mk (st := sIsL) lIl cIl kIl
  have FIf := fun_mk (st := sIsF) lIf cIf kIf
  have FHf := fun_mk (st := sHasF) lHf cHf kHf
  have FTo := fun_mk (st := sTupOf) lTo cTo kTo
  have FSq := fun_mk (st := sShowQ) lSq cSq kSq
  have FSi := fun_mk (st := sShowI) lSi cSi kSi
  have FHo := fun_mk (st := sHolds) lHo cHo kHo
  have FI := fun_mk (st := sInit) lI cI kI
  have bB := FB.binds (ps := ["_law_script", "_law_k"]) fun _ _ _ _ _ _ us hl => match us, hl with | [_, _], _ => rfl
  have bD := FD.binds (ps := ["_law_well_here", "_law_many"]) fun _ _ _ _ _ _ us hl => match us, hl with | [_, _], _ => rfl
  have bOn := FOn.binds (ps := ["_law_well_here", "_law_things"]) fun _ _ _ _ _ _ us hl => match us, hl with | [_, _], _ => rfl
  have bS := FS.binds (ps := ["_law_well_here", "_law_least", "_law_most"]) fun _ _ _ _ _ _ us hl => match us, hl with | [_, _, _], _ => rfl
  have bTe := FTe.binds (ps := ["_law_well_here", "_law_signs_here", "_law_size"]) fun _ _ _ _ _ _ us hl => match us, hl with | [_, _, _], _ => rfl
  have bRp := FRp.binds (ps := ["_law_asked", "_law_hidden"]) fun _ _ _ _ _ _ us hl => match us, hl with | [_, _], _ => rfl
  have bEv := FEv.binds (ps := ["_law_signs_here", "_law_size"]) fun _ _ _ _ _ _ us hl => match us, hl with | [_, _], _ => rfl
  have bTr := FTr.binds (ps := ["_law_well_here", "_law_signs_here", "_law_size"]) fun _ _ _ _ _ _ us hl => match us, hl with | [_, _, _], _ => rfl
  have bHs := FHs.binds (ps := ["_law_one_here", "_law_bit"]) fun _ _ _ _ _ _ us hl => match us, hl with | [_, _], _ => rfl
  have bDu := FDu.binds (ps := ["_law_signs_here", "_law_size", "_law_some", "_law_bits", "_law_sheet"]) fun _ _ _ _ _ _ us hl => match us, hl with | [_, _, _, _, _], _ => rfl
  have bR := FR.binds (ps := ["_law_well_here"]) fun _ _ _ _ _ _ us hl => match us, hl with | [_], _ => rfl
  have bW := FW.binds (ps := ["value", "least", "most"]) fun _ _ _ _ _ _ us hl => match us, hl with | [_, _, _], _ => rfl
  have bA := FA.binds (ps := ["letters"]) fun _ _ _ _ _ _ us hl => match us, hl with | [_], _ => rfl
  have bCn := FCn.binds (ps := ["many", "length"]) fun _ _ _ _ _ _ us hl => match us, hl with | [_, _], _ => rfl
  have bOv := FOv.binds (ps := ["value", "characters", "length"]) fun _ _ _ _ _ _ us hl => match us, hl with | [_, _, _], _ => rfl
  have bIw := FIw.binds (ps := ["board", "value"]) fun _ _ _ _ _ _ us hl => match us, hl with | [_, _], _ => rfl
  have bMo := FMo.binds (ps := ["guess", "word"]) fun _ _ _ _ _ _ us hl => match us, hl with | [_, _], _ => rfl
  have bAm := FAm.binds (ps := ["board", "value"]) fun _ _ _ _ _ _ us hl => match us, hl with | [_, _], _ => rfl
  have bIr := FIr.binds (ps := ["board", "value"]) fun _ _ _ _ _ _ us hl => match us, hl with | [_, _], _ => rfl
  have bIl := FIl.binds (ps := ["board", "value"]) fun _ _ _ _ _ _ us hl => match us, hl with | [_, _], _ => rfl
  have bIf := FIf.binds (ps := ["board", "value"]) fun _ _ _ _ _ _ us hl => match us, hl with | [_, _], _ => rfl
  have bHf := FHf.binds (ps := ["word", "fact"]) fun _ _ _ _ _ _ us hl => match us, hl with | [_, _], _ => rfl
  have bTo := FTo.binds (ps := ["board", "value", "most", "is_part"]) fun _ _ _ _ _ _ us hl => match us, hl with | [_, _, _, _], _ => rfl
  have bSq := FSq.binds (ps := ["board", "rows", "facts", "paper"]) fun _ _ _ _ _ _ us hl => match us, hl with | [_, _, _, _], _ => rfl
  have bSi := FSi.binds (ps := ["board", "rows", "facts", "paper"]) fun _ _ _ _ _ _ us hl => match us, hl with | [_, _, _, _], _ => rfl
  have bHo := FHo.binds (ps := ["claim", "paper"]) fun _ _ _ _ _ _ us hl => match us, hl with | [_, _], _ => rfl
  have bI := FI.binds (ps := ["self", "letters", "length"]) fun _ _ _ _ _ _ us hl => match us, hl with | [_, _, _], _ => rfl
  have DB : Df K mg "_law_well" _ _ _ := ⟨PySem.W.mg_of X G aB, kB, bB⟩
  have DD : Df K mg "_law_draw" _ _ _ := ⟨PySem.W.mg_of X G aD, kD, bD⟩
  have DOn : Df K mg "_law_one" _ _ _ := ⟨PySem.W.mg_of X G aOn, kOn, bOn⟩
  have DS : Df K mg "_law_signs" _ _ _ := ⟨PySem.W.mg_of X G aS, kS, bS⟩
  have DTe : Df K mg "_law_text" _ _ _ := ⟨PySem.W.mg_of X G aTe, kTe, bTe⟩
  have DRp : Df K mg "_law_reply" _ _ _ := ⟨PySem.W.mg_of X G aRp, kRp, bRp⟩
  have DEv : Df K mg "_law_every" _ _ _ := ⟨PySem.W.mg_of X G aEv, kEv, bEv⟩
  have DTr : Df K mg "_law_truth" _ _ _ := ⟨PySem.W.mg_of X G aTr, kTr, bTr⟩
  have DHs : Df K mg "_law_has" _ _ _ := ⟨PySem.W.mg_of X G aHs, kHs, bHs⟩
  have DDu : Df K mg "_law_due" _ _ _ := ⟨PySem.W.mg_of X G aDu, kDu, bDu⟩
  have DR : Df K mg "_law_right" _ _ _ := ⟨PySem.W.mg_of X G aR, kR, bR⟩
  have DW : Df K mg "is_integer_within" _ _ _ := ⟨PySem.W.mg_of X G aW, kW, bW⟩
  have DA : Df K mg "is_alphabet" _ _ _ := ⟨PySem.W.mg_of X G aA, kA, bA⟩
  have DCn : Df K mg "count_words" _ _ _ := ⟨PySem.W.mg_of X G aCn, kCn, bCn⟩
  have DOv : Df K mg "is_text_over" _ _ _ := ⟨PySem.W.mg_of X G aOv, kOv, bOv⟩
  have DIw : Df K mg "is_word" _ _ _ := ⟨PySem.W.mg_of X G aIw, kIw, bIw⟩
  have DMo : Df K mg "marks_of" _ _ _ := ⟨PySem.W.mg_of X G aMo, kMo, bMo⟩
  have DAm : Df K mg "are_marks" _ _ _ := ⟨PySem.W.mg_of X G aAm, kAm, bAm⟩
  have DIr : Df K mg "is_row" _ _ _ := ⟨PySem.W.mg_of X G aIr, kIr, bIr⟩
  have DIl : Df K mg "is_letter" _ _ _ := ⟨PySem.W.mg_of X G aIl, kIl, bIl⟩
  have DIf : Df K mg "is_fact" _ _ _ := ⟨PySem.W.mg_of X G aIf, kIf, bIf⟩
  have DHf : Df K mg "has_fact" _ _ _ := ⟨PySem.W.mg_of X G aHf, kHf, bHf⟩
  have DTo : Df K mg "is_tuple_of" _ _ _ := ⟨PySem.W.mg_of X G aTo, kTo, bTo⟩
  have DSq : Df K mg "shows_possible" _ _ _ := ⟨PySem.W.mg_of X G aSq, kSq, bSq⟩
  have DSi : Df K mg "shows_impossible" _ _ _ := ⟨PySem.W.mg_of X G aSi, kSi, bSi⟩
  have DHo : Df K mg "holds" _ _ _ := ⟨PySem.W.mg_of X G aHo, kHo, bHo⟩
  have TBx : TxB mg := ⟨PySem.W.mg_none_of X G zlen, PySem.W.mg_none_of X G zint, PySem.W.mg_none_of X G zabs, PySem.W.mg_none_of X G zdivmod⟩
  have TW : TxW mg := ⟨PySem.W.mg_none_of X G zisinstance, PySem.W.mg_none_of X G zbool, PySem.W.mg_none_of X G zint, PySem.W.mg_none_of X G zstr, PySem.W.mg_none_of X G zlen, PySem.W.mg_none_of X G zrange, ⟨_, PySem.W.mg_of X G nMM⟩, ⟨_, PySem.W.mg_of X G nML⟩, ⟨_, PySem.W.mg_of X G nLO⟩⟩
  have TC : TxC K mg CB := ⟨⟨pg, hd, po, sa⟩, PySem.W.mg_of X G gCB, naL, naN, naS, ac, gtc, tkc, ob, kitO⟩
  have TSx : TxS mg := ⟨PySem.W.mg_none_of X G zlen, PySem.W.mg_none_of X G zrange⟩
  have TL : TxL mg := ⟨PySem.W.mg_none_of X G zall, PySem.W.mg_none_of X G zrange, PySem.W.mg_none_of X G zmax, PySem.W.mg_none_of X G zmin, PySem.W.mg_none_of X G zlen⟩
  have TR : TxR mg := ⟨TSx, PySem.W.mg_none_of X G ztuple, PySem.W.mg_none_of X G zrepr⟩
  have mMR : ∃ t, mg "MOST_ROWS" = some (.int 20 t) := ⟨_, PySem.W.mg_of X G nMR⟩
  have mMF : ∃ t, mg "MOST_FACTS" = some (.int 4 t) := ⟨_, PySem.W.mg_of X G nMF⟩
  have eM : (Str.ofString "012") = tx [48, 49, 50] := by decide +kernel
  have mMA : ∃ t, mg "MARKS" = some (.str (tx [48, 49, 50]) t) := ⟨_, eM ▸ PySem.W.mg_of X G nMA⟩
  have kHo2 := kw_holds FHo
  have mML : ∃ t, mg "MOST_LENGTH" = some (.int 6 t) := ⟨_, PySem.W.mg_of X G nML⟩
  refine ⟨PySem.W.fnOf "law" "law" (defArgs sLaw) (defBody sLaw) (defScope sLaw) .none kVL dcL pmL anL cdL ctL, [], nofun, fun s v => .of_eq rfl, fun base _ _ hM _ => ?_⟩
  have GD : FnOk P w K mg base L2.CX0 1 fD _ _ spDip := ok_dip FD TBx
  have GS : FnOk P w K mg base L2.CX0 2 fS _ _ spSigns := ok_signs FS TSx GD DD
  have GOn : FnOk P w K mg base L2.CX0 2 fOn _ _ spOne := ok_one FOn TSx GD DD
  have GTe : FnOk P w K mg base L2.CX0 3 fTe _ _ spText := ok_text FTe TSx GD DD GOn DOn
  have GRp : FnOk P w K mg base L2.CX0 1 fRp _ _ spMarksOf := ok_reply FRp (PySem.W.mg_none_of X G zlen) (PySem.W.mg_none_of X G zrange)
  have GEv : FnOk P w K mg base L2.CX0 1 fEv _ _ spEvery := ok_every FEv (PySem.W.mg_none_of X G zrange)
  have GTr : FnOk P w K mg base L2.CX0 3 fTr _ _ spTruth := ok_truth FTr GD DD GOn DOn
  have GHs : FnOk P w K mg base L2.CX0 1 fHs _ _ spHasF := ok_has FHs
  have GDu : FnOk P w K mg base L2.CX0 2 fDu _ _ (spDue K) := ok_due FDu TW (PySem.W.mg_none_of X G zall) GRp DRp GHs DHs
  have GI : FnOk P w K mg base L2.CX0 2 fI _ _ (spInit CB) := ok_init FI TW TC (ok_alpha FA TW) DA (ok_within FW TW) DW (ok_count FCn TW) DCn
  have GOv : FnOk P w K mg base L2.CX0 1 fOv _ _ (spOver K) := ok_over FOv TW (PySem.W.mg_none_of X G zall)
  have GIw : FnOk P w K mg base L2.CX0 2 fIw _ _ (spIsW K CB none) := ok_isW FIw TC GOv DOv
  have GMo : FnOk P w K mg base L2.CX0 1 fMo _ _ spMarksOf := ok_marksOf FMo (PySem.W.mg_none_of X G zzip)
  have GAm : FnOk P w K mg base L2.CX0 2 fAm _ _ (spIsW K CB (some [48, 49, 50])) := ok_areM FAm TC mMA GOv DOv
  have GIr : FnOk P w K mg base L2.CX0 3 fIr _ _ (spIsRow CB) := ok_isRow FIr TW (PySem.W.mg_none_of X G ztuple) GIw DIw GAm DAm
  have GIl : FnOk P w K mg base L2.CX0 2 fIl _ _ (spIsL CB) := ok_isL FIl TC GOv DOv
  have GIf : FnOk P w K mg base L2.CX0 3 fIf _ _ (spIsF CB) := ok_isF FIf TW (PySem.W.mg_none_of X G ztuple) TC GIl DIl (ok_within FW TW) DW
  have GHf : FnOk P w K mg base L2.CX0 1 fHf _ _ spHasF := ok_hasF FHf
  have GTR : FnOk P w K mg base L2.CX0 4 fTo _ _ (spTupP CB fIr RowAt RowOk) := ok_tupP FTo TW (PySem.W.mg_none_of X G ztuple) (PySem.W.mg_none_of X G zall) (fun h s => s _ _ h) (fun hb ha ok q => ⟨_, _, _, _, _, rfl, hb, ha, ok, q⟩) GIr DIr.kp DIr.b
  have GTF : FnOk P w K mg base L2.CX0 4 fTo _ _ (spTupP CB fIf FactAt FactOk) := ok_tupP FTo TW (PySem.W.mg_none_of X G ztuple) (PySem.W.mg_none_of X G zall) (fun h s => s _ _ h) (fun hb ha ok q => ⟨_, _, _, _, _, rfl, hb, ha, ok, q⟩) GIf DIf.kp DIf.b
  have GSq : FnOk P w K mg base L2.CX0 3 fSq _ _ (spShowQ K CB) := ok_showQ FSq (PySem.W.mg_none_of X G zall) GIw DIw GMo DMo GHf DHf
  have GSi : FnOk P w K mg base L2.CX0 1 fSi _ _ spShowI := ok_showI FSi TW (PySem.W.mg_none_of X G ztuple)
  have GHo : FnOk P w K mg base L2.CX0 5 fHo _ _ (spHoldsQ K) := ok_holdsQ FHo TW (PySem.W.mg_none_of X G ztuple) TC mML mMR mMF DIr.mg DIf.mg (ok_alpha FA TW) DA (ok_within FW TW) DW GI ⟨mk, aI, iI, kc⟩ bI GTR GTF DTo GSq DSq GSi DSi
  have GR : FnG P w K mg base L2.CX0 6 fR _ _ spRight := ok_right FR TR GS DS GD DD GTe DTe GOn DOn GRp DRp GTr DTr GHs DHs GEv DEv GDu DDu GHo DHo kHo2 hM
  exact ok_law FL TL (ok_bowl FB TBx) DB GR DR
end Gm
open PySem PySem.W PyProof.Rows in
set_option maxRecDepth 100000 in
set_option maxHeartbeats 0 in
theorem PySem.Challenge.cw_guessmarks_k71_words_judged_holds : PySem.Challenge.rw_guessmarks_k71_words_judged.Holds := by
  w_on; o_law; k_head; (case hw => w_witness2)
  k_fill
  refine L2.walkG (l := PySem.Challenge.rw_guessmarks_k71_words_judged) (k := 7) (x := "_law_script") (sp := Gm.spLaw) rfl (by decide) rfl ⟨rfl, by decide, by decide⟩ ?him (fun w h Y => PySem.W.kIn_of Y) ?F (fun K H a ns hl hS => ⟨a, ns, rfl, hS, hl, fun _ => rfl⟩)
  case him => decide +kernel
  case F =>
    intro w mg fa h KX G hmg tab
    refine' Gm.all_mk KX G hmg ?gCB ?aB ?lB ?cB ?kB ?aD ?lD ?cD ?kD ?aOn ?lOn ?cOn ?kOn ?aS ?lS ?cS ?kS ?aTe ?lTe ?cTe ?kTe ?aRp ?lRp ?cRp ?kRp ?aEv ?lEv ?cEv ?kEv ?aTr ?lTr ?cTr ?kTr ?aHs ?lHs ?cHs ?kHs ?aDu ?lDu ?cDu ?kDu ?aR ?lR ?cR ?kR ?aL ?lL ?cL ?kL ?aW ?lW ?cW ?kW ?aA ?lA ?cA ?kA ?aCn ?lCn ?cCn ?kCn ?aOv ?lOv ?cOv ?kOv ?aIw ?lIw ?cIw ?kIw ?aMo ?lMo ?cMo ?kMo ?aAm ?lAm ?cAm ?kAm ?aIr ?lIr ?cIr ?kIr ?aIl ?lIl ?cIl ?kIl ?aIf ?lIf ?cIf ?kIf ?aHf ?lHf ?cHf ?kHf ?aTo ?lTo ?cTo ?kTo ?aSq ?lSq ?cSq ?kSq ?aSi ?lSi ?cSi ?kSi ?aHo ?lHo ?cHo ?kHo ?aI ?iI ?lI ?cI ?kI ?nML ?nMM ?nMR ?nMF ?nLO ?nMA ?zlen ?zint ?zabs ?zdivmod ?zisinstance ?zbool ?zstr ?zrange ?zrepr ?zall ?zmax ?zmin ?zzip ?ztuple ?pg ?hd ?po ?sa ?mk ?kc ?naL ?naN ?naS ?ac ?gtc ?tkc ?ob ?kitO tab
    (case gCB => k_is)
    (case aB => k_is)
    (case lB => k_is)
    (case cB => k_is)
    (case kB => k_is)
    (case aD => k_is)
    (case lD => k_is)
    (case cD => k_is)
    (case kD => k_is)
    (case aOn => k_is)
    (case lOn => k_is)
    (case cOn => k_is)
    (case kOn => k_is)
    (case aS => k_is)
    (case lS => k_is)
    (case cS => k_is)
    (case kS => k_is)
    (case aTe => k_is)
    (case lTe => k_is)
    (case cTe => k_is)
    (case kTe => k_is)
    (case aRp => k_is)
    (case lRp => k_is)
    (case cRp => k_is)
    (case kRp => k_is)
    (case aEv => k_is)
    (case lEv => k_is)
    (case cEv => k_is)
    (case kEv => k_is)
    (case aTr => k_is)
    (case lTr => k_is)
    (case cTr => k_is)
    (case kTr => k_is)
    (case aHs => k_is)
    (case lHs => k_is)
    (case cHs => k_is)
    (case kHs => k_is)
    (case aDu => k_is)
    (case lDu => k_is)
    (case cDu => k_is)
    (case kDu => k_is)
    (case aR => k_is)
    (case lR => k_is)
    (case cR => k_is)
    (case kR => k_is)
    (case aL => k_is)
    (case lL => k_is)
    (case cL => k_is)
    (case kL => k_is)
    (case aW => k_is)
    (case lW => k_is)
    (case cW => k_is)
    (case kW => k_is)
    (case aA => k_is)
    (case lA => k_is)
    (case cA => k_is)
    (case kA => k_is)
    (case aCn => k_is)
    (case lCn => k_is)
    (case cCn => k_is)
    (case kCn => k_is)
    (case aOv => k_is)
    (case lOv => k_is)
    (case cOv => k_is)
    (case kOv => k_is)
    (case aIw => k_is)
    (case lIw => k_is)
    (case cIw => k_is)
    (case kIw => k_is)
    (case aMo => k_is)
    (case lMo => k_is)
    (case cMo => k_is)
    (case kMo => k_is)
    (case aAm => k_is)
    (case lAm => k_is)
    (case cAm => k_is)
    (case kAm => k_is)
    (case aIr => k_is)
    (case lIr => k_is)
    (case cIr => k_is)
    (case kIr => k_is)
    (case aIl => k_is)
    (case lIl => k_is)
    (case cIl => k_is)
    (case kIl => k_is)
    (case aIf => k_is)
    (case lIf => k_is)
    (case cIf => k_is)
    (case kIf => k_is)
    (case aHf => k_is)
    (case lHf => k_is)
    (case cHf => k_is)
    (case kHf => k_is)
    (case aTo => k_is)
    (case lTo => k_is)
    (case cTo => k_is)
    (case kTo => k_is)
    (case aSq => k_is)
    (case lSq => k_is)
    (case cSq => k_is)
    (case kSq => k_is)
    (case aSi => k_is)
    (case lSi => k_is)
    (case cSi => k_is)
    (case kSi => k_is)
    (case aHo => k_is)
    (case lHo => k_is)
    (case cHo => k_is)
    (case kHo => k_is)
    (case aI => k_is)
    (case iI => k_is)
    (case lI => k_is)
    (case cI => k_is)
    (case kI => k_is)
    (case nML => k_is)
    (case nMM => k_is)
    (case nMR => k_is)
    (case nMF => k_is)
    (case nLO => k_is)
    (case nMA => k_is)
    (case zlen => k_is)
    (case zint => k_is)
    (case zabs => k_is)
    (case zdivmod => k_is)
    (case zisinstance => k_is)
    (case zbool => k_is)
    (case zstr => k_is)
    (case zrange => k_is)
    (case zrepr => k_is)
    (case zall => k_is)
    (case zmax => k_is)
    (case zmin => k_is)
    (case zzip => k_is)
    (case ztuple => k_is)
    (case pg => k_is)
    (case hd => k_is)
    (case po => k_is)
    (case sa => k_is)
    (case mk => k_is)
    (case kc => k_is)
    (case naL => k_is)
    (case naN => k_is)
    (case naS => k_is)
    (case ac => k_is)
    (case gtc => k_is)
    (case tkc => k_is)
    (case ob => k_is)
    (case kitO => first | rfl | k_is)
