import PyProof.Rows.All
import Wide.All
import OpenK.AllK
import Wide.FinOn
import KE.KCallOwn
import PyProof.InstEq
import HandS.ForMost
import HandS.OwnEq
import HandS.IsInst
import HandS.Walk
import HandS.Codes
import HandS.FStr
import KE.GoesMore
import KE.GoesEnum
import HandS.Star
import HandS.Defaults
import PyProof.ReprRoads
import HandS.Lambda
import HandS.EndTab
import HandS.Exc
import KE.KExcIs
import HandS.ExcInit
import HandS.ExcField
import HandS.WordsExc
import PyProof.ExcBaseAll.ArithmeticError
import PyProof.ExcBaseAll.LookupError
import OpenK.KOps
import PyProof.Conv_bool
import PyProof.Truth
import HandS.ExcIs
import HandS.Style
import PySem.Challenge.RW_guessmarks_k09_histories_refused
set_option Elab.async false
set_option linter.all false
set_option maxRecDepth 100000
set_option maxHeartbeats 8000000
namespace PySem.W
open PySem PySem.Spec PySem.Calls PyProof.Rows Builtin
section
variable {prog : Program} {w : World} {M : Model} {A : Around} {E : Value → Shared → Prop} {s : Shared} {K : Frag} {x C f L : Addr} {ox : Obj} {od : Option Obj} {h₀ : Heap} {m : Str → Option Value} {b tb : Value}
theorem gm_ifBound {name : Str} {id : String} {args : List Value} {Q : Option Value → Shared → Prop} (X : K.In s.heap) (I : InstAt s.heap x ox C od) (hs : findIn K (.ref C) name = some (some (.builtin id)))
    (hb : ∀ self, bindSpecial (.builtin id) self = pure (.builtin id, [self])) (h : wpAny M A (call (.builtin id) (.ref x :: args)) (fun v => Q (some v)) E s) : wpAny M A (callSpecialIfBound? (.ref x) name args) Q E s := by
  simp only [callSpecialIfBound?, bindSpecialIfBound?]
  refine wpAny_holding <| wpAny_bind <| wpAny_bind <| wpAny_bind <| I.type.here <| (looks_findIn X hs).here ?_
  refine wpAny_bind <| wpAny_askSetting <| wpAny_ite ?_
  have z : wpAny M A (call (.builtin id) ([.ref x] ++ args) >>= fun v => pure (some v)) Q E s := wpAny_bind <| wpAny_mono h (fun v s' h' => wpAny_pure h') fun _ _ h' => h'
  split
  · exact wpAny_bind <| (Looks.of_pure (hb _)).here <| wpAny_pure z
  · exact wpAny_tryCatch <| wpAny_bind <| (Looks.of_pure (hb _)).here <| wpAny_pure z
def NeBack (Q : Value → Shared → Prop) (v : Value) (s' : Shared) : Prop := ∃ r, v = .bool r ∧ Q (.bool (!r)) s'
theorem gm_objNe {Q : Value → Shared → Prop} (hu : A.in1.units < cLine) (X : K.In s.heap) (I : InstAt s.heap x ox C od) (hm : mroIn K C (.type "object") = some true) (hs : findIn K (.ref C) "__eq__" = some (some (.ref f))) (hf : isFn K (.ref f) = true)
    (h : wpAny (model prog w) A.in1 (call (.ref f) [.ref x, b]) (NeBack Q) E s) : wpAny (model prog w) A (call (.builtin "object.__ne__") [.ref x, b]) Q E s := by
  refine wpAny_call <| codeAny_call_builtin PySem.F.cmp_object.ne.plain PySem.F.cmpEntry_ne <| check_slot (owner := "object") (n := "__ne__") PySem.F.cmpKind_ne PySem.F.cmpSplit_ne (I.type.andThen (looks_mroIn X hm)) (PySem.F.cmpArgs_ne _ _) ?_
  unfold Builtin.«object.__ne__»
  refine wpAny_bind (m := slotArgs "__ne__" 1 _) <| wpAny_pure ?_
  refine wpAny_bind (m := cRoomFor _ _) <| wpAny_cRoomFor hu ?_
  refine wpAny_bind (m := callSpecialIfBound? (.ref x) (Str.ofString "__eq__") _) <| ifBound_K X I hs hf <| wpAny_mono h (fun r s' hq => ?_) fun _ _ y => y
  obtain ⟨r, rfl, hq⟩ := hq
  refine wpAny_bind <| wpAny_truthy_bool ?_
  exact wpAny_pure hq
theorem gm_ne {Q : Value → Shared → Prop} (hu : A.units < cLine) (hu1 : A.in1.units < cLine) (X : K.In s.heap) (I : InstAt s.heap x ox C od) (hb : Looks (model prog w) s.heap (typeOf b) tb) (hn : notFirst K C tb = true)
    (hN : findIn K (.ref C) "__ne__" = some (some (.builtin "object.__ne__"))) (hm : mroIn K C (.type "object") = some true)
    (hs : findIn K (.ref C) "__eq__" = some (some (.ref f))) (hf : isFn K (.ref f) = true)
    (h : wpAny (model prog w) A.in1 (call (.ref f) [.ref x, b]) (NeBack Q) E s) : wpAny (model prog w) A (richCompare .NotEq (.ref x) b) Q E s := by
  have one : wpAny (model prog w) A (tryCompare (.ref x) (cmpInfo .NotEq).2.1 b) (fun r s' => ∃ v, r = some v ∧ Q v s') E s := by
    unfold tryCompare
    refine wpAny_bind <| gm_ifBound X I hN PySem.F.cmp_object.ne.bind ?_
    refine wpAny_mono (gm_objNe (Q := fun v s' => (∃ r, v = .bool r) ∧ Q v s') hu1 X I hm hs hf (wpAny_mono h (fun v s' hv => ?_) fun _ _ e => e)) (fun v s' hv => ?_) fun _ _ e => e
    · obtain ⟨r, e, hv⟩ := hv
      exact ⟨r, e, ⟨_, rfl⟩, hv⟩
    · obtain ⟨⟨r, rfl⟩, hv⟩ := hv
      exact wpAny_pure ⟨_, rfl, hv⟩
  unfold richCompare
  simp only [oneThing_ref]
  refine wpAny_holding <| wpAny_bind <| wpAny_cRoomFor hu ?_
  refine wpAny_bind <| I.type.here <| wpAny_bind <| hb.here ?_
  split
  · rename_i q
    have e : subIn K tb (.ref C) = some false := by
      rcases Bool.or_eq_true_iff.mp hn with e | e
      · rw [beq_iff_eq.mp e] at q
        simp at q
      · exact beq_iff_eq.mp e
    refine wpAny_bind <| (looks_subIn X e).here ?_
    simp only [Bool.false_eq_true, if_false]
    refine wpAny_bind <| wpAny_mono one (fun r s' z => ?_) fun _ _ e => e
    obtain ⟨v, rfl, hq⟩ := z
    exact wpAny_pure hq
  · refine wpAny_bind (wpAny_pure ?_)
    simp only [Bool.false_eq_true, if_false]
    refine wpAny_bind <| wpAny_mono one (fun r s' z => ?_) fun _ _ e => e
    obtain ⟨v, rfl, hq⟩ := z
    exact wpAny_pure hq
end
end PySem.W

namespace L2
open PySem PySem.Spec PyProof.Rows
section
variable {X : Cx} {n : Nat} {pins : List (Addr × Obj)} {σ : St} {H : Hp} {s : Shared}
theorem gm_call {A : Around} {CX : CXT} {f : Addr} {fd : FuncData} {ps : List Str} {sp : Sp} {E : XK} {vs : List V} {us : List Value} {Q : VK} (sb : Sub X n A) (I : Inv X pins σ H s) (F : FnOk X.prog X.w X.K X.mg X.base CX n f fd ps sp)
    (hb : Binds X.K fd ps []) (hx : Passes CX X E) (r2 : Vals vs us) (hsp : sp vs H Q E) : wpAny (model X.prog X.w) A (call (.ref f) us) (EP X pins σ Q) X.xe s := by
  have e0 : Env0 X.prog X.w X.K X.mg X.base A X.stack s H := by
    have e := I.env0
    exact ⟨by rw [sb.fr]; exact e.frames, e.mod, e.bs, e.bsz, e.funs, e.frf, e.hok, e.bare⟩
  have hl := F.len _ _ _ _ hsp
  have hl2 : us.length = ps.length := by rw [← r2.length]; exact hl
  refine wpAny_call <| codeAny_mono (F.run A X.stack s H ⟨us, []⟩ us vs Q E sb.room e0 (by
    have := hb s us I.kIn (by simpa using hl2)
    simpa using this) r2 hsp) fun r s' hq => ?_
  cases r with
  | error e => exact hx pins σ H s e s' I hq
  | ok fl =>
    cases fl with
    | ret w => exact I.after hq
    | next => exact hq.elim
    | brk => exact hq.elim
    | cont => exact hq.elim
/-- x == y, x != y by the class's own == -/
def rOwn (K : PySem.W.Frag) (C : Addr) (sp : Sp) (E : XK) (g : Bool → Bool) : R2 := fun x y H Q => ∃ a dx fs t, x = .ref a ∧ H a = some (.ins C dx fs) ∧ TyX K H y t ∧ PySem.W.notFirst K C t = true ∧ sp [.ref a, y] H (fun v H' => ∃ r, v = .bl r ∧ Q (.bl (g r)) H') E
theorem op_eqOwn {CX : CXT} {C f : Addr} {fd : FuncData} {ps : List Str} {sp : Sp} {E : XK} (hr : Room n X.A) (F : FnOk X.prog X.w X.K X.mg X.base CX n f fd ps sp) (hs : PySem.W.findIn X.K (.ref C) "__eq__" = some (some (.ref f))) (hf : PySem.W.isFn X.K (.ref f) = true)
    (hb : Binds X.K fd ps []) (hx : Passes CX X E) : OpR X (compareOp .Eq) (rOwn X.K C sp E id) := by
  intro pins s σ H x y u v Q I rx ry d
  obtain ⟨a, dx, fs, t, rfl, ha, ty, hn, hsp⟩ := d
  cases rx
  obtain ⟨mA, J, _⟩ := ins_get I.hok ha
  obtain ⟨od, J, _⟩ := J.look
  obtain ⟨m, hF⟩ := I.fr
  obtain ⟨Pv, Z, pv, _⟩ := kit_of I ry ty
  refine PySem.W.cmp_K (op := .Eq) hr.units0 hF I.ok.mod.kin J (Z.ty _ _ I.kIn pv) hn hs hf ?_
  refine wpAny_mono (gm_call ⟨hr, rfl⟩ I F hb hx (vs := [.ref a, y]) (us := [.ref a, v]) (.cons rfl (.cons ry .nil)) hsp) (fun z s' hz => ?_) fun _ _ e => e
  obtain ⟨z', H', I', rz, r, rfl, q⟩ := hz
  cases rz
  exact ⟨.bl r, H', I', rfl, q⟩
theorem op_neOwn {CX : CXT} {C f : Addr} {fd : FuncData} {ps : List Str} {sp : Sp} {E : XK} (hr : Room (n + 1) X.A) (F : FnOk X.prog X.w X.K X.mg X.base CX n f fd ps sp) (hs : PySem.W.findIn X.K (.ref C) "__eq__" = some (some (.ref f))) (hf : PySem.W.isFn X.K (.ref f) = true)
    (hN : PySem.W.findIn X.K (.ref C) "__ne__" = some (some (.builtin "object.__ne__"))) (hm : PySem.W.mroIn X.K C (.type "object") = some true)
    (hb : Binds X.K fd ps []) (hx : Passes CX X E) : OpR X (compareOp .NotEq) (rOwn X.K C sp E not) := by
  intro pins s σ H x y u v Q I rx ry d
  obtain ⟨a, dx, fs, t, rfl, ha, ty, hn, hsp⟩ := d
  cases rx
  obtain ⟨mA, J, _⟩ := ins_get I.hok ha
  obtain ⟨od, J, _⟩ := J.look
  obtain ⟨Pv, Z, pv, _⟩ := kit_of I ry ty
  refine PySem.W.gm_ne hr.units0 hr.in1.units0 I.kIn J (Z.ty _ _ I.kIn pv) hn hN hm hs hf ?_
  refine wpAny_mono (gm_call ⟨hr.in1, rfl⟩ I F hb hx (vs := [.ref a, y]) (us := [.ref a, v]) (.cons rfl (.cons ry .nil)) hsp) (fun z s' hz => ?_) fun _ _ e => e
  obtain ⟨z', H', I', rz, r, rfl, q⟩ := hz
  cases rz
  exact ⟨_, rfl, .bl (!r), H', I', rfl, q⟩
/-- str(x), repr(x) by the class's own -/
def rTxt (C : Addr) (sp : Sp) (E : XK) : List V → Hp → VK → Prop := fun xs H Q => ∃ a dx fs, xs = [.ref a] ∧ H a = some (.ins C dx fs) ∧ sp [.ref a] H (fun v H' => ∃ r, v = .str r ∧ Q (.str r) H') E
theorem call_reprOwn {CX : CXT} {C f : Addr} {fd : FuncData} {ps : List Str} {sp : Sp} {E : XK} (hr : Room (n + 1) X.A) (F : FnOk X.prog X.w X.K X.mg X.base CX n f fd ps sp) (hs : PySem.W.findIn X.K (.ref C) "__repr__" = some (some (.ref f))) (hf : PySem.W.isFn X.K (.ref f) = true)
    (hb : Binds X.K fd ps []) (hx : Passes CX X E) : CallR X (.builtin "repr") (rTxt C sp E) := by
  intro pins s σ H xs us Q I r h
  obtain ⟨a, dx, fs, rfl, ha, hsp⟩ := h
  obtain ⟨mA, J, _⟩ := ins_get I.hok ha
  obtain ⟨od, J, _⟩ := J.look
  obtain ⟨m, hF⟩ := I.fr
  cases r with
  | cons r1 r2 =>
    cases r2
    cases r1
    refine PySem.W.repr_K hr.in1.units0 hF I.ok.mod.kin J hs hf ?_
    refine wpAny_mono (gm_call ⟨hr.in1, rfl⟩ I F hb hx (vs := [.ref a]) (us := [.ref a]) (.cons rfl .nil) hsp) (fun z s' hz => ?_) fun _ _ e => e
    obtain ⟨z', H', I', rz, r, rfl, q⟩ := hz
    obtain ⟨t, rfl⟩ := rz
    exact ⟨.str r, H', I', ⟨_, rfl⟩, q⟩
theorem call_strOwn {CX : CXT} {C f : Addr} {fd : FuncData} {ps : List Str} {sp : Sp} {E : XK} (hr : Room (n + 2) X.A) (F : FnOk X.prog X.w X.K X.mg X.base CX n f fd ps sp) (hs : PySem.W.findIn X.K (.ref C) "__str__" = some (some (.ref f))) (hf : PySem.W.isFn X.K (.ref f) = true)
    (hb : Binds X.K fd ps []) (hx : Passes CX X E) : CallR X (.type "str") (rTxt C sp E) := by
  intro pins s σ H xs us Q I r h
  obtain ⟨a, dx, fs, rfl, ha, hsp⟩ := h
  obtain ⟨mA, J, _⟩ := ins_get I.hok ha
  obtain ⟨od, J, _⟩ := J.look
  cases r with
  | cons r1 r2 =>
    cases r2
    cases r1
    refine PySem.W.kso_call hr.in1.in1.units0 I.kIn J hs hf ?_
    refine wpAny_mono (gm_call ⟨hr.in1.in1, rfl⟩ I F hb hx (vs := [.ref a]) (us := [.ref a]) (.cons rfl .nil) hsp) (fun z s' hz => ?_) fun _ _ e => e
    obtain ⟨z', H', I', rz, r, rfl, q⟩ := hz
    obtain ⟨t, rfl⟩ := rz
    exact ⟨.str r, H', I', ⟨_, rfl⟩, q⟩
/-- an instance without __bool__ and __len__ is true -/
def tTru (C : Addr) (ta : TE) : TT := fun σ H Q => ta σ H fun x H' => ∃ a dx fs, x = .ref a ∧ H' a = some (.ins C dx fs) ∧ Q true H'
theorem pt_inst {a : Expr} {ta : TE} {C : Addr} (hb : PySem.W.findIn X.K (.ref C) "__bool__" = some none) (hl : PySem.W.findIn X.K (.ref C) "__len__" = some none) (ha : PE X a ta) (he : ∀ whole, isTrue a X.env whole = (do let v ← whole; standAt a.pos; holding [v] (truthy v))) :
    PT X a (tTru C ta) := by
  refine ⟨fun pins s σ H Q I h => ?_⟩
  refine isTrue_plain (thn (ha.run pins s σ H _ I h) fun v s1 hh => ?_) (he _)
  obtain ⟨x, H1, I1, r1, p, dx, fs, rfl, hp, q⟩ := hh
  cases r1
  obtain ⟨mA, J, _⟩ := ins_get I1.hok hp
  obtain ⟨od, J, _⟩ := J.look
  obtain ⟨m, hF⟩ := I1.fr
  exact PySem.W.truthy_K0 hF I1.ok.mod.kin J hb hl ⟨H1, I1, q⟩
end
end L2

namespace Gm
open PySem L2
def top (i : Nat) : Stmt := PySem.Challenge.pw_guessmarks_k09_histories_refused.main.body.getD i (.Pass ⟨0, 0, 0, 0⟩)
abbrev sBowl : Stmt := top 36
abbrev sDip : Stmt := top 37

/-- three ints stand at p -/
def BowlAt (H : Hp) (p : Addr) : Prop := ∃ x y z : Int, H p = some (.lst [.int x, .int y, .int z])
/-- all but p stands as it stood, and p is a bowl -/
def Stir (p : Addr) (H H' : Hp) : Prop := (∀ b o, b ≠ p → H b = some o → H' b = some o) ∧ BowlAt H' p
theorem Stir.trans {p : Addr} {H H1 H2 : Hp} (a : Stir p H H1) (b : Stir p H1 H2) : Stir p H H2 := ⟨fun c o n h => b.1 c o n (a.1 c o n h), b.2⟩
theorem Stir.same {p : Addr} {H H1 H2 : Hp} (a : Stir p H H1) (b : Same H1 H2) : Stir p H H2 := ⟨fun c o n h => b _ _ (a.1 c o n h), let ⟨x, y, z, h⟩ := a.2; ⟨x, y, z, b _ _ h⟩⟩
theorem Stir.refl {p : Addr} {H : Hp} (h : BowlAt H p) : Stir p H H := ⟨fun _ _ _ h => h, h⟩
theorem same_upd {H : Hp} {p : Addr} {o : HO} (h : H p = none) : Same H (upd H p o) := fun b u e => by rw [upd_ne (ne_of_none e h)]; exact e

theorem stir_upd (H : Hp) (p : Addr) (x y z : Int) : Stir p H (upd H p (.lst [.int x, .int y, .int z])) := ⟨fun b o n e => by rw [upd_ne n]; exact e, _, _, _, upd_same⟩
def spBowl (K : PySem.W.Frag) : Sp := fun vs H Q _ => ∃ (a : Addr) (ns : List Int) (k : Int), vs = [.ref a, .int k] ∧ SqL K H a (ns.map V.int) ∧ ns.length ≤ 63 ∧ 0 ≤ k ∧
  ∀ H' p, Same H H' → H p = none → BowlAt H' p → Q (.ref p) H'
def spDip : Sp := fun vs H Q _ => ∃ (p : Addr) (m : Int), vs = [.ref p, .int m] ∧ BowlAt H p ∧ 0 < m ∧ m < 1073741824 ∧
  ∀ H' d, Stir p H H' → 0 ≤ d → d < m → Q (.int d) H'

structure TxB (mg : Str → Option Value) : Prop where
  len : mg "len" = none
  int : mg "int" = none
  abs : mg "abs" = none
  divmod : mg "divmod" = none

theorem int_at {ns : List Int} {k : Int} (h0 : 0 ≤ k) (h : k < ns.length) : ∃ u, atI (ns.map V.int) k = some (V.int u) := by
  obtain ⟨j, rfl⟩ := Int.eq_ofNat_of_zero_le h0
  have hj : j < ns.length := by omega
  exact ⟨ns[j], atI_nat (by rw [List.getElem?_map, List.getElem?_eq_getElem hj]; rfl)⟩

theorem cut_int {ns : List Int} {lo hi : Option Int} {i : Nat} {y : V} (h : (cutV (ns.map V.int) lo hi)[i]? = some y) : ∃ u, y = V.int u := by
  have hm := List.mem_of_getElem? h
  unfold cutV at hm
  have := List.mem_of_mem_drop (List.mem_of_mem_take hm)
  obtain ⟨u, _, rfl⟩ := List.mem_map.mp this
  exact ⟨u, rfl⟩
theorem pos1 : (0 : Int) < 1999999943 := by decide
theorem cutIfV {tA : TT} {ta tb : TE} {σ : St} {H : Hp} {Q : V → Hp → Prop} (C : V → Prop) (k : ∀ v, C v → Q v H) (h : (∀ v, C v → Q v H) → tIf tA ta tb σ H Q) : tIf tA ta tb σ H Q := h k
theorem cutIf {tA : TT} {ta tb : TE} {σ : St} {H : Hp} {Q : V → Hp → Prop} (C : V → Hp → Prop) (k : ∀ v H', C v H' → Q v H') (h : (∀ v H', C v H' → Q v H') → tIf tA ta tb σ H Q) : tIf tA ta tb σ H Q := h k
section
variable {P : Program} {w : World} {K : PySem.W.Frag} {mg : Str → Option Value} {base : Heap}
abbrev nB : List Str := ["_law_script", "_law_k", "_law_own", "_law_mixed", "_law_entry"]
theorem scB : FnScope nB ["_law_script", "_law_k"] (defScope sBowl) := ⟨rfl, rfl, rfl, by decide +kernel, rfl, by decide +kernel, by decide +kernel⟩
theorem ok_bowl {f : Addr} {fd : FuncData} (F : Fun K "_law_bowl" "_law_bowl" sBowl f fd) (T : TxB mg) : FnOk P w K mg base CX0 1 f fd ["_law_script", "_law_k"] (spBowl K) := by
  refine F.ok scB (fun vs H Q E h => ?_) (fun cdv A outer s H vs Q E hr h => ?_)
  · obtain ⟨a, ns, k, rfl, _⟩ := h
    rfl
  · obtain ⟨a, ns, k, rfl, hS, hlen, h0, q⟩ := h
    refine ⟨_, pss_cons (ps_set (i := 2) scB.nd rfl (Or.inl rfl)
        (pe_ifExp (pt_cmpR op_lt (pv 1) (pe_callB call_len_seq (by rfl) T.len PySem.boot_len (pa_cons (pv 0) pa_nil)) (nomark _))
          (pe_callTy call_int1 (by rfl) T.int (by decide +kernel) (pa_cons (pe_ix ix_list (pv 0) (pv 1) (fun _ _ => rfl)) pa_nil))
          (pe_op op_add (pe_op op_mul pe_int (pv 1)) pe_int)))
      (pss_cons (ps_set (i := 3) scB.nd rfl (Or.inl rfl) (pe_op op_add pe_int (pe_op op_mul pe_int (pv 1))))
      (pss_cons (ps_for PassesOwn.never rfl (pi_list (pe_slice sl_list (pv 0) po_none (po_some pe_int))) (pg_name (i := 4) scB.nd rfl (Or.inl rfl))
          (pss_one (ps_set (i := 3) scB.nd rfl (Or.inl rfl)
            (pe_op op_mod (pe_callTy call_int1 (by rfl) T.int (by decide +kernel) (pa_cons (pe_op op_add (pe_op op_mul (pv 3) pe_int)
              (pe_op op_mod (pe_callTy call_int1 (by rfl) T.int (by decide +kernel) (pa_cons (pv 4) pa_nil)) pe_int)) pa_nil)) pe_int))))
      (pss_one (ps_ret (pe_lst (pa_cons (pe_op op_mod (pe_callTy call_int1 (by rfl) T.int (by decide +kernel) (pa_cons (pe_op op_add (pv 3) (pe_op op_mod (pv 2) pe_int)) pa_nil)) pe_int)
        (pa_cons (pe_ifExp (PW.pt (pw_or (pt_cmpR op_lt (pv 2) pe_int (nomark _)) (pw_or1 (pt_cmpR op_ge (pv 2) (pe_op op_pow pe_int pe_int) (nomark _)))))
            (pe_callB call_abs (by rfl) T.abs (by decide +kernel) (pa_cons (pv 2) pa_nil)) pe_int)
        (pa_cons pe_int pa_nil)))))))), ?_⟩
    refine cutIfV (fun v => ∃ u, v = .int u) ?_ (fun c => ?_)
    · rintro _ ⟨u, rfl⟩
      refine ⟨_, rfl, _, _, rfl, rfl, .inl ⟨by decide, by decide⟩, _, _, rfl, rfl, ?_⟩
      refine ⟨_, rfl, 12, rfl, a, _, rfl, hS, fun pl hpl => ?_⟩
      have s1 := same_upd (o := .lst (cutV (ns.map V.int) none (some 12))) hpl
      refine ⟨pl, rfl, ⟨_, SqL.of upd_same⟩, for_list (K := K) (a := pl) (xs := cutV (ns.map V.int) none (some 12))
        (fun i σ H' => H' = upd _ pl (.lst (cutV (ns.map V.int) none (some 12))) ∧ ∃ (z : Int) (v : Option V), σ = [some (.ref a), some (.int k), some (.int u), some (.int z), v]) ⟨rfl, _, _, rfl⟩ ?_ ?_ ?_⟩
      · rintro i σ H' _ ⟨rfl, _⟩
        exact SqL.of upd_same
      · rintro i y σ H' hi ⟨rfl, z, v, rfl⟩
        obtain ⟨e, rfl⟩ := cut_int hi
        refine ⟨_, rfl, _, _, rfl, rfl, .inr ⟨by decide, by decide⟩, ?_⟩
        refine ⟨_, rfl, .inl ⟨_, rfl, _, _, rfl, rfl, pos1, _, _, rfl, rfl, .inl ⟨_, rfl, _, _, rfl, rfl, pos1, rfl, _, _, rfl⟩⟩⟩
      · rintro σ H' ⟨rfl, z, v, rfl⟩
        refine ⟨_, rfl, _, rfl, _, _, rfl, rfl, pos1, _, _, rfl, rfl, .inl ⟨_, rfl, _, _, rfl, rfl, pos1, ?_⟩⟩
        refine cutIfV (fun v => ∃ u, v = .int u) ?_ (fun c => ?_)
        · rintro _ ⟨y, rfl⟩
          refine ⟨by show 3 ≤ sizeLine; decide, fun p hp => ?_⟩
          refine q _ p (s1.trans (same_upd hp)) (s1.free hp) ⟨_, _, _, upd_same⟩
        · refine ⟨_, rfl, _, _, rfl, rfl, _, rfl, ?_⟩
          refine ite2 (fun h => ?_) (fun h => ?_)
          · refine iteT ⟨_, rfl, _, rfl, c _ ⟨_, rfl⟩⟩
          · refine ⟨_, rfl, _, _, rfl, rfl, ⟨by decide, by decide, by decide⟩, _, _, rfl, rfl, _, rfl, ?_⟩
            refine ite2 (fun h => ?_) (fun h => ?_)
            · exact ⟨_, rfl, _, rfl, c _ ⟨_, rfl⟩⟩
            · exact c _ ⟨_, rfl⟩
    · refine ⟨_, rfl, _, rfl, a, _, rfl, .inl hS, _, _, rfl, rfl, _, rfl, ?_⟩
      refine ite2 (fun h => ?_) (fun h => ?_)
      · have h' : k < ns.length := by
          have := of_decide_eq_true h
          rw [List.length_map] at this
          exact this
        obtain ⟨e, he⟩ := int_at h0 h'
        exact ⟨_, rfl, _, rfl, a, _, _, _, rfl, rfl, hS, he, .inl ⟨_, rfl, c _ ⟨_, rfl⟩⟩⟩
      · exact ⟨_, rfl, _, _, rfl, rfl, .inl ⟨by decide, by decide⟩, _, _, rfl, rfl, c _ ⟨_, rfl⟩⟩
abbrev nD : List Str := ["_law_bowl_here", "_law_many_here", "_law_digit"]
theorem scD : FnScope nD ["_law_bowl_here", "_law_many_here"] (defScope sDip) := ⟨rfl, rfl, rfl, by decide +kernel, rfl, by decide +kernel, by decide +kernel⟩
theorem ok_dip {f : Addr} {fd : FuncData} (F : Fun K "_law_dip" "_law_dip" sDip f fd) (T : TxB mg) : FnOk P w K mg base CX0 1 f fd ["_law_bowl_here", "_law_many_here"] spDip := by
  refine F.ok scD (fun vs H Q E h => ?_) (fun cdv A outer s H vs Q E hr h => ?_)
  · obtain ⟨p, m, rfl, _⟩ := h
    rfl
  · obtain ⟨p, m, rfl, ⟨x, y, z, hp⟩, hm0, hm1, q⟩ := h
    refine ⟨_, pss_cons (ps_asg (pe_op op_add (pe_ix ix_list (pv 0) pe_int (fun _ _ => rfl)) pe_int) (pg_sub (pv 0) pe_int set_list))
      (pss_cons (ps_if (pt_cmpR op_gt (pe_ix ix_list (pv 0) pe_int (fun _ _ => rfl)) pe_int (nomark _))
        (pss_cons (ps_asg (pe_callB call_divmod (by rfl) T.divmod (by decide +kernel) (pa_cons (pe_callTy call_int1 (by rfl) T.int (by decide +kernel) (pa_cons (pe_ix ix_list (pv 0) pe_int (fun _ _ => rfl)) pa_nil)) (pa_cons (pv 1) pa_nil)))
            (pg_tup (by rfl) (pgs_cons (pg_sub (pv 0) pe_int set_list) (pgs_cons (pg_name (i := 2) scD.nd rfl (Or.inl rfl)) pgs_nil))))
          (pss_one (ps_ret (pv 2)))) pss_nil)
      (pss_cons (ps_asg (pe_op op_mod (pe_callTy call_int1 (by rfl) T.int (by decide +kernel) (pa_cons (pe_op op_add (pe_op op_add (pe_op op_mul (pe_ix ix_list (pv 0) pe_int (fun _ _ => rfl)) pe_int)
            (pe_op op_mul (pe_ix ix_list (pv 0) pe_int (fun _ _ => rfl)) pe_int))
            (pe_op op_mul (pe_op op_fdiv (pe_ix ix_list (pv 0) pe_int (fun _ _ => rfl)) pe_int) pe_int)) pa_nil)) pe_int) (pg_sub (pv 0) pe_int set_list))
      (pss_one (ps_ret (pe_op op_mod (pe_callTy call_int1 (by rfl) T.int (by decide +kernel) (pa_cons (pe_op op_fdiv (pe_ix ix_list (pv 0) pe_int (fun _ _ => rfl)) pe_int) pa_nil)) (pv 1)))))), ?_⟩
    refine ⟨_, rfl, p, _, 2, _, rfl, rfl, SqL.of hp, rfl, _, _, rfl, rfl, _, rfl, p, _, 2, 2, rfl, rfl, hp, rfl, ?_⟩
    have h1 : upd H p (.lst [.int x, .int y, .int (z + 1)]) p = some (.lst [.int x, .int y, .int (z + 1)]) := upd_same
    refine ⟨_, rfl, p, _, 1, _, rfl, rfl, SqL.of h1, rfl, _, _, rfl, rfl, _, rfl, ?_⟩
    refine ite2 (fun h => ?_) (fun h => ?_)
    · refine ⟨_, rfl, p, _, 1, _, rfl, rfl, SqL.of h1, rfl, .inl ⟨_, rfl, _, rfl, _, _, rfl, ⟨hm0, hm1⟩, fun t ht => ?_⟩⟩
      have ntp : t ≠ p := fun e => by rw [e] at ht; exact absurd (h1.symm.trans ht) (by simp)
      refine ⟨t, _, rfl, SqT.of upd_same, rfl, _, _, rfl, _, rfl, p, _, 1, 1, rfl, rfl, ((upd_ne ntp.symm).trans h1), rfl, ?_⟩
      refine ⟨_, _, rfl, rfl, _, rfl, ?_⟩
      exact q _ _ (((stir_upd H p _ _ _).same (same_upd ht)).trans (stir_upd _ p _ _ _)) (Int.emod_nonneg _ (by omega)) (Int.emod_lt_of_pos _ hm0)
    · refine ⟨_, rfl, p, _, 0, _, rfl, rfl, SqL.of h1, rfl, _, _, rfl, rfl, .inr ⟨by decide, by decide⟩, _, rfl, p, _, 2, _, rfl, rfl, SqL.of h1, rfl, _, _, rfl, rfl, .inr ⟨by decide, by decide⟩, _, _, rfl, rfl, _, rfl, p, _, 0, _, rfl, rfl, SqL.of h1, rfl, _, _, rfl, rfl, ⟨by decide, by decide⟩, _, _, rfl, rfl, .inr ⟨by decide, by decide⟩, _, _, rfl, rfl, .inl ⟨_, rfl, _, _, rfl, rfl, pos1, _, rfl, p, _, 0, 0, rfl, rfl, h1, rfl, _, rfl, p, _, 0, _, rfl, rfl, SqL.of upd_same, rfl, _, _, rfl, rfl, ⟨by decide, by decide⟩, .inl ⟨_, rfl, _, rfl, _, _, rfl, rfl, hm0, ?_⟩⟩⟩
      exact q _ _ ((stir_upd H p _ _ _).trans (stir_upd _ p _ _ _)) (Int.emod_nonneg _ (by omega)) (Int.emod_lt_of_pos _ hm0)
end
end Gm

namespace Gm
open PySem L2
abbrev sWithin : Stmt := top 17
abbrev sInit : Stmt := inClass (top 26) 0
abbrev sEq : Stmt := inClass (top 26) 3
abbrev sStr : Stmt := inClass (top 26) 4
abbrev sRepr : Stmt := inClass (top 26) 5
abbrev sAlpha : Stmt := top 27
abbrev sCount : Stmt := top 28

/-! ### mathematics -/
def lowTxt : Str := "abcdefghijklmnopqrstuvwxyz"
def low : List Nat := lowTxt.cps.toList
def pick (s : Str) : List Nat := low.filter fun c => decide (c ∈ s.cps.toList)
def Alph (s : Str) : Prop := 2 ≤ s.length ∧ s.length ≤ 26 ∧ s.cps.toList = pick s
instance (s : Str) : Decidable (Alph s) := by unfold Alph; infer_instance
theorem join_one (cs : List Nat) : Txt.join (Str.ofString "") (cs.map fun c => (⟨#[c]⟩ : Str)) = ⟨cs.toArray⟩ := by
  have h : (cs.map fun c => (⟨#[c]⟩ : Str)) = (cs.map fun c => [c]).map SX.S := by rw [List.map_map]; rfl
  have e : (Str.ofString "" : Str) = SX.S [] := rfl
  rw [h, e, SX.join_S]
  have j : ∀ l : List Nat, TL.joinL [] (l.map fun c => [c]) = l := by
    intro l
    induction l with
    | nil => rfl
    | cons a l ih =>
      cases l with
      | nil => rfl
      | cons b l =>
        show [a] ++ ([] ++ TL.joinL [] ((b :: l).map fun c => [c])) = a :: b :: l
        rw [ih]
        rfl
  rw [j]
theorem str_len (s : Str) : s.cps.toList.length = s.length := by simp [Str.length]
theorem take_filter {p : Nat → Bool} (l : List Nat) (i : Nat) (h : i < l.length) : (l.take (i + 1)).filter p = (l.take i).filter p ++ (if p l[i] = true then [l[i]] else []) := by
  rw [List.take_succ_eq_append_getElem h, List.filter_append]
  congr 1
  by_cases c : p l[i] = true
  · rw [if_pos c]; simp [c]
  · rw [if_neg c]; simp [c]

theorem low_len : low.length = 26 := by decide +kernel
theorem sum_one (cs : List Nat) : ((cs.map fun c => (⟨#[c]⟩ : Str)).map (·.length)).sum = cs.length := by
  induction cs with
  | nil => rfl
  | cons c cs ih =>
    rw [List.map_cons, List.map_cons, List.sum_cons, ih, List.length_cons]
    show 1 + cs.length = cs.length + 1
    omega
/-! ### promises -/
def NoInt (K : PySem.W.Frag) (t : Value) : Prop := PySem.W.kitOne K t (.type "bool") = some true ∨ (PySem.W.kitOne K t (.type "bool") = some false ∧ PySem.W.kitOne K t (.type "int") = some false)
def spWithin (K : PySem.W.Frag) : Sp := fun vs H Q _ => ∃ (v : V) (lo hi : Int), vs = [v, .int lo, .int hi] ∧
  ((∃ n, v = .int n ∧ Q (.bl (decide (lo ≤ n ∧ n ≤ hi))) H) ∨ (∃ t, TyX K H v t ∧ NoInt K t ∧ Q (.bl false) H))
def spAlpha (K : PySem.W.Frag) : Sp := fun vs H Q _ => ∃ (v : V), vs = [v] ∧
  ((∃ s, v = .str s ∧ s.length ≤ 1000 ∧ ∀ H', Same H H' → Q (.bl (decide (Alph s))) H') ∨ (∃ t, TyX K H v t ∧ PySem.W.kitOne K t (.type "str") = some false ∧ Q (.bl false) H))
def spCount : Sp := fun vs H Q _ => ∃ (m n : Int), vs = [.int m, .int n] ∧ 0 ≤ m ∧ m ≤ 26 ∧ 0 ≤ n ∧ n ≤ 6 ∧ Q (.int (m ^ n.toNat)) H
def boardF (s : Str) (n : Int) : List (Str × V) := putF "size" (.int ((s.length : Int) ^ n.toNat)) (putF "length" (.int n) (putF "letters" (.str s) []))
def BoardAt (C : Addr) (H : Hp) (p : Addr) (s : Str) (n : Int) : Prop := ∃ dx, H p = some (.ins C dx (boardF s n))
/-- all but p as it stood -/
def But (p : Addr) (H H' : Hp) : Prop := ∀ b o, b ≠ p → H b = some o → H' b = some o
def spInit (C : Addr) : Sp := fun vs H Q _ => ∃ (p dx : Addr) (s : Str) (n : Int), vs = [.ref p, .str s, .int n] ∧ Alph s ∧ 1 ≤ n ∧ n ≤ 6 ∧ H p = some (.ins C dx []) ∧
  ∀ H', But p H H' → BoardAt C H' p s n → Q .non H'
/-- what another object is, beside a board -/
def spEqB (K : PySem.W.Frag) (C : Addr) : Sp := fun vs H Q _ => ∃ (p : Addr) (s : Str) (n : Int) (y : V), vs = [.ref p, y] ∧ BoardAt C H p s n ∧ s.length ≤ 1000 ∧
  ((∃ q s' n', y = .ref q ∧ BoardAt C H q s' n' ∧ s'.length ≤ 1000 ∧ Q (.bl (decide (s = s' ∧ n = n'))) H) ∨ (∃ t, TyX K H y t ∧ PySem.W.kitOne K t (.ref C) = some false ∧ Q (.bl false) H))
def digit (n : Int) : Str := (toString n : String)
def spStr (C : Addr) : Sp := fun vs H Q _ => ∃ (p : Addr) (s : Str) (n : Int), vs = [.ref p] ∧ BoardAt C H p s n ∧ s.length ≤ 26 ∧ 1 ≤ n ∧ n ≤ 6 ∧ Q (.str (s ++ " " ++ digit n)) H
def spRepr (C : Addr) : Sp := fun vs H Q _ => ∃ (p : Addr) (s : Str) (n : Int), vs = [.ref p] ∧ BoardAt C H p s n ∧ s.length ≤ 26 ∧ 1 ≤ n ∧ n ≤ 6 ∧ Q (.str ("Board(" ++ s ++ " " ++ digit n ++ ")")) H

structure TxW (mg : Str → Option Value) : Prop where
  isi : mg "isinstance" = none
  bool : mg "bool" = none
  int : mg "int" = none
  str : mg "str" = none
  len : mg "len" = none
  range : mg "range" = none
  most : ∃ t, mg "MOST_LETTERS" = some (.int 26 t)
  mlen : ∃ t, mg "MOST_LENGTH" = some (.int 6 t)
  low : ∃ t, mg "LOWERCASE" = some (.str lowTxt t)

section
variable {P : Program} {w : World} {K : PySem.W.Frag} {mg : Str → Option Value} {base : Heap}
theorem scW : FnScope ["value", "least", "most"] ["value", "least", "most"] (defScope sWithin) := ⟨rfl, rfl, rfl, by decide +kernel, rfl, by decide +kernel, by decide +kernel⟩
theorem ok_within {f : Addr} {fd : FuncData} (F : Fun K "is_integer_within" "is_integer_within" sWithin f fd) (T : TxW mg) : FnOk P w K mg base CX0 1 f fd ["value", "least", "most"] (spWithin K) := by
  refine F.ok scW (fun vs H Q E h => ?_) (fun cdv A outer s H vs Q E hr h => ?_)
  · obtain ⟨v, lo, hi, rfl, _⟩ := h
    rfl
  · obtain ⟨v, lo, hi, rfl, h⟩ := h
    refine ⟨_, pss_cons (ps_if (PW.pt (pw_or (pt_val (pe_callB call_isi (by rfl) T.isi (by decide +kernel) (pa_cons (pv 0) (pa_cons (pe_bltn (v := .ty "bool") (by rfl) T.bool (by decide +kernel) rfl) pa_nil))))
        (pw_or1 (pt_not (pt_val (pe_callB call_isi (by rfl) T.isi (by decide +kernel) (pa_cons (pv 0) (pa_cons (pe_bltn (v := .ty "int") (by rfl) T.int (by decide +kernel) rfl) pa_nil))))))))
        (pss_one (ps_ret pe_bl)) pss_nil)
      (pss_one (ps_ret (pe_chain op_le op_le (pv 1) (pv 0) (pv 2)))), ?_⟩
    rcases h with ⟨n, rfl, q⟩ | ⟨t, ty, no, q⟩
    · refine ⟨_, rfl, _, _, _, _, _, rfl, .ty "bool", .base (.int n), kit_ty (r := false) (by decide +kernel), _, rfl, iteF ?_⟩
      refine ⟨_, rfl, _, _, _, _, _, rfl, .ty "int", .base (.int n), kit_ty (r := true) (by decide +kernel), _, rfl, ?_⟩
      refine ⟨_, rfl, _, rfl, _, _, rfl, rfl, _, rfl, ?_⟩
      refine ite2 (fun h => ?_) (fun h => ?_)
      · refine ⟨_, rfl, _, _, rfl, rfl, ?_⟩
        have e : decide (lo ≤ n ∧ n ≤ hi) = decide (n ≤ hi) := by
          have := of_decide_eq_true h
          simp [this]
        rw [e] at q
        exact q
      · have e : decide (lo ≤ n ∧ n ≤ hi) = false := by
          simp only [decide_eq_true_eq] at h
          simp [h]
        rw [e] at q
        exact q
    · rcases no with no | ⟨no, no2⟩
      · exact ⟨_, rfl, _, _, _, _, _, rfl, .ty "bool", ty, no, _, rfl, iteT q⟩
      · refine ⟨_, rfl, _, _, _, _, _, rfl, .ty "bool", ty, no, _, rfl, iteF ?_⟩
        exact ⟨_, rfl, _, _, _, _, _, rfl, .ty "int", ty, no2, _, rfl, q⟩
abbrev nA : List Str := ["letters", "letter"]
theorem scAl : FnScope nA ["letters"] (defScope sAlpha) := ⟨rfl, rfl, rfl, by decide +kernel, rfl, by decide +kernel, by decide +kernel⟩
theorem ok_alpha {f : Addr} {fd : FuncData} (F : Fun K "is_alphabet" "is_alphabet" sAlpha f fd) (T : TxW mg) : FnOk P w K mg base CX0 1 f fd ["letters"] (spAlpha K) := by
  refine F.ok scAl (fun vs H Q E h => ?_) (fun cdv A outer s H vs Q E hr h => ?_)
  · obtain ⟨v, rfl, _⟩ := h
    rfl
  · obtain ⟨v, rfl, h⟩ := h
    obtain ⟨t1, mg1⟩ := T.most
    obtain ⟨t2, mg2⟩ := T.low
    refine ⟨_, pss_cons (ps_if (PW.pt (pw_or (pt_not (pt_val (pe_callB call_isi (by rfl) T.isi (by decide +kernel) (pa_cons (pv 0) (pa_cons (pe_bltn (v := .ty "str") (by rfl) T.str (by decide +kernel) rfl) pa_nil)))))
        (pw_or1 (pt_not (pt_chain op_le op_le pe_int (pe_callB call_len_str (by rfl) T.len PySem.boot_len (pa_cons (pv 0) pa_nil)) (pe_glob (v := .int 26) (by rfl) mg1 ⟨_, rfl⟩))))))
        (pss_one (ps_ret pe_bl)) pss_nil)
      (pss_one (ps_ret (pe_cmpR op_eq (pv 0) (pe_join pe_str
        (pe_lc (own := [("letter", 1)]) (g := gName 1) (by rfl) scAl.nd (pi_str (pe_glob (v := .str lowTxt) (by rfl) mg2 ⟨_, rfl⟩)) (blkOk_by (own := [("letter", 1)]) (N := nA) (sc := defScope sAlpha) (by decide +kernel))
          (fun _ _ _ _ _ => pg_name (i := 1) scAl.nd rfl (Or.inl rfl)) (fun _ _ _ _ _ => pts_one (pt_cmpR op_in_sign (pv 1) (pv 0) rfl)) (fun _ _ _ _ _ => pv 1))) (nomark _)))), ?_⟩
    rcases h with ⟨z, rfl, hz, q⟩ | ⟨t, ty, no, q⟩
    · refine ⟨_, rfl, _, _, _, _, _, rfl, .ty "str", .base (.str z), kit_ty (r := true) (by decide +kernel), _, rfl, ?_⟩
      refine ⟨_, rfl, _, rfl, by have : sizeLine = 16777216 := sizeLine_eq; omega, _, _, rfl, rfl, _, rfl, ?_⟩
      have hf : ¬ Alph z → decide (Alph z) = false := decide_eq_false
      refine ite2 (fun h2 => ?_) (fun h2 => ?_)
      · refine ⟨_, _, rfl, rfl, _, rfl, ?_⟩
        have h2 := of_decide_eq_true h2
        refine ite2 (fun h3 => ?_) (fun h3 => ?_)
        · have n : ¬ Alph z := fun a => by
            have := a.2.1
            simp at h3
            omega
          rw [hf n] at q
          exact q _ (Same.refl H)
        · have h3 : (z.length : Int) ≤ 26 := by simpa using h3
          refine ⟨_, rfl, ⟨_, rfl⟩, lowTxt, rfl, fun D hD => ?_⟩
          refine lc_it (walk_str (z := lowTxt)) (fun i H' => Same H H' ∧ H' D = some (.lst (((low.take i).filter fun c => decide (c ∈ z.cps.toList)).map fun c => V.str ⟨#[c]⟩))) ⟨same_upd hD, upd_same⟩ (fun _ _ _ _ => trivial) ?_ ?_
          · rintro i x H1 H2 hi ⟨sm, hD1⟩ ⟨rfl, c, hc, rfl⟩
            have hi' : i < low.length := hi
            have ec : low[i] = c := by
              have : lowTxt.cps[i] = c := (Array.getElem?_eq_some_iff.mp hc).2
              exact this
            have st := take_filter (p := fun c => decide (c ∈ z.cps.toList)) low i hi'
            rw [ec] at st
            refine ⟨rfl, _, rfl, _, rfl, c, z, rfl, rfl, _, rfl, ?_⟩
            refine ite2 (fun hm => ?_) (fun hm => ?_)
            · rw [if_pos hm] at st
              refine ⟨_, rfl, _, hD1, ?_, fun b o e => ?_, ?_⟩
              · have h1 := List.length_filter_le (fun c => decide (c ∈ z.cps.toList)) (low.take i)
                have h2 : (low.take i).length ≤ i := by rw [List.length_take]; omega
                have h3 : sizeLine = 16777216 := sizeLine_eq
                rw [low_len] at hi'
                rw [List.length_map]
                omega
              · rw [upd_ne (ne_of_none e hD)]
                exact sm b o e
              · rw [upd_same, st, List.map_append]
                rfl
            · rw [if_neg hm, List.append_nil] at st
              exact ⟨sm, by rw [st]; exact hD1⟩
          · rintro H1 ⟨sm, hD1⟩
            have el : low.take lowTxt.cps.size = low := List.take_of_length_le (Nat.le_of_eq (by simp [low]))
            rw [el] at hD1
            refine ⟨_, D, (pick z).map (fun c => (⟨#[c]⟩ : Str)), rfl, rfl, .inl (SqL.of ?_), ?_, rfl, ?_⟩
            · rw [List.map_map]
              exact hD1
            · have h1 := List.length_filter_le (fun c => decide (c ∈ z.cps.toList)) low
              have h2 : (pick z).length ≤ 26 := h1
              rw [sum_one, List.length_map]
              show (pick z).length + (pick z).length * 0 ≤ 16777216
              omega
            · have e : decide (V.str z = V.str (Txt.join (Str.ofString "") ((pick z).map fun c => (⟨#[c]⟩ : Str)))) = decide (Alph z) := by
                rw [join_one]
                refine decide_eq_decide.mpr ⟨fun e => ⟨by omega, by omega, ?_⟩, fun a => ?_⟩
                · have e := V.str.inj e
                  have := congrArg (fun s : Str => s.cps.toList) e
                  simpa using this
                · have := a.2.2
                  rw [← this]
              rw [← e] at q
              exact q _ sm
      · have n : ¬ Alph z := fun a => by
          have := a.1
          simp at h2
          omega
        rw [hf n] at q
        exact ⟨_, rfl, q _ (Same.refl H)⟩
    · exact ⟨_, rfl, _, _, _, _, _, rfl, .ty "str", ty, no, _, rfl, iteT q⟩

theorem scC : FnScope ["many", "length", "total", "place"] ["many", "length"] (defScope sCount) := ⟨rfl, rfl, rfl, by decide +kernel, rfl, by decide +kernel, by decide +kernel⟩
theorem ok_count {f : Addr} {fd : FuncData} (F : Fun K "count_words" "count_words" sCount f fd) (T : TxW mg) : FnOk P w K mg base CX0 1 f fd ["many", "length"] spCount := by
  refine F.ok scC (fun vs H Q E h => ?_) (fun cdv A outer s H vs Q E hr h => ?_)
  · obtain ⟨m, n, rfl, _⟩ := h
    rfl
  · obtain ⟨m, n, rfl, m0, m1, n0, n1, q⟩ := h
    refine ⟨_, pss_cons (ps_set (i := 2) scC.nd rfl (Or.inl rfl) pe_int)
      (pss_cons (ps_for PassesOwn.never rfl (pi_range1 (by rfl) T.range (pa_cons (pv 1) pa_nil)) (pg_name (i := 3) scC.nd rfl (Or.inl rfl)) (pss_one (ps_aug (i := 2) scC.nd rfl (Or.inl rfl) (pv 0) iop_mul)))
      (pss_one (ps_ret (pv 2)))), ?_⟩
    refine ⟨_, rfl, n, rfl, by omega, by omega, for_range (n := n.toNat) (fun i σ H' => H' = H ∧ ∃ v, σ = [some (.int m), some (.int n), some (.int (m ^ i)), v]) ⟨rfl, none, by rw [Int.pow_zero]; rfl⟩ ?_ ?_⟩
    · rintro i σ H' hi ⟨rfl, v, rfl⟩
      exact ⟨_, rfl, _, rfl, _, _, rfl, rfl, .inr ⟨by omega, by omega⟩, rfl, _, by rw [Int.pow_succ]; rfl⟩
    · rintro σ H' ⟨rfl, v, rfl⟩
      exact ⟨_, rfl, q⟩
/-- a def of the top, as it is called -/
structure Df (K : PySem.W.Frag) (mg : Str → Option Value) (x : Str) (f : Addr) (fd : FuncData) (ps : List Str) : Prop where
  mg : mg x = some (.ref f)
  kp : PySem.W.keepIn K (.ref f) = true
  b : Binds K fd ps []
/-- the class Board -/
structure TxC (K : PySem.W.Frag) (mg : Str → Option Value) (C : Addr) : Prop where
  cl : Cls K C
  mgC : mg "Board" = some (.ref C)
  nL : NoAttr K C "letters"
  nN : NoAttr K C "length"
  nS : NoAttr K C "size"
  ac : PySem.W.findIn K (.ref C) "__class__" = some (some (.builtin "object.__class__"))
  gt : PySem.W.specialIn K (.builtin "object.__class__") "__get__" = some (some (.builtin "getset_descriptor.__get__"))
  tk : PySem.W.takesIn K (.builtin "object.__class__") = some true
  ob : PySem.W.mroIn K C (.type "object") = some true
  own : PySem.W.kitOne K (.ref C) (.ref C) = some true
theorem bf_eq (s : Str) (n : Int) : boardF s n = ([("letters", V.str s), ("length", V.int n), ("size", V.int ((s.length : Int) ^ n.toNat))] : List (Str × V)) := by
  have h1 : ¬ (("letters" : Str) = "length") := by decide +kernel
  have h2 : ¬ (("letters" : Str) = "size") := by decide +kernel
  have h3 : ¬ (("length" : Str) = "size") := by decide +kernel
  show putF "size" _ (if ("letters" : Str) = "length" then _ else (("letters" : Str), V.str s) :: putF "length" (V.int n) []) = _
  rw [if_neg h1]
  show (if ("letters" : Str) = "size" then _ else (("letters" : Str), V.str s) :: (if ("length" : Str) = "size" then _ else (("length" : Str), V.int n) :: putF "size" _ [])) = _
  rw [if_neg h2, if_neg h3]
  rfl
theorem pf2_eq (s : Str) (n : Int) : putF "length" (.int n) (putF "letters" (.str s) []) = ([("letters", V.str s), ("length", V.int n)] : List (Str × V)) := by
  have h1 : ¬ (("letters" : Str) = "length") := by decide +kernel
  show (if ("letters" : Str) = "length" then _ else (("letters" : Str), V.str s) :: putF "length" (V.int n) []) = _
  rw [if_neg h1]
  rfl
theorem bf_letters (s : Str) (n : Int) : (boardF s n).lookup ("letters" : Str) = some (.str s) := by rw [bf_eq]; rfl
theorem bf_length (s : Str) (n : Int) : (boardF s n).lookup ("length" : Str) = some (.int n) := by
  have h1 : (("length" : Str) == "letters") = false := by decide +kernel
  rw [bf_eq, List.lookup_cons, h1]
  rfl
theorem bf_size (s : Str) (n : Int) : (boardF s n).lookup ("size" : Str) = some (.int ((s.length : Int) ^ n.toNat)) := by
  have h1 : (("size" : Str) == "letters") = false := by decide +kernel
  have h2 : (("size" : Str) == "length") = false := by decide +kernel
  rw [bf_eq, List.lookup_cons, h1, List.lookup_cons, h2]
  rfl
theorem But.upd {p : Addr} {H : Hp} {o : HO} : But p H (L2.upd H p o) := fun b u n e => by rw [upd_ne n]; exact e
theorem But.trans {p : Addr} {H H1 H2 : Hp} (a : But p H H1) (b : But p H1 H2) : But p H H2 := fun c o n h => b c o n (a c o n h)
theorem But.of {p : Addr} {H H1 : Hp} (a : Same H H1) : But p H H1 := fun c o n h => a c o h
theorem scI : FnScope ["self", "letters", "length"] ["self", "letters", "length"] (defScope sInit) := ⟨rfl, rfl, rfl, by decide +kernel, rfl, by decide +kernel, by decide +kernel⟩
theorem ok_init {f C fA fW fC : Addr} {fd fdA fdW fdC : FuncData} (F : Fun K "__init__" "Board.__init__" sInit f fd) (T : TxW mg) (TC : TxC K mg C)
    (GA : FnOk P w K mg base CX0 1 fA fdA ["letters"] (spAlpha K)) (DA : Df K mg "is_alphabet" fA fdA ["letters"]) (GW : FnOk P w K mg base CX0 1 fW fdW ["value", "least", "most"] (spWithin K)) (DW : Df K mg "is_integer_within" fW fdW ["value", "least", "most"])
    (GC : FnOk P w K mg base CX0 1 fC fdC ["many", "length"] spCount) (DC : Df K mg "count_words" fC fdC ["many", "length"]) : FnOk P w K mg base CX0 2 f fd ["self", "letters", "length"] (spInit C) := by
  refine F.ok scI (fun vs H Q E h => ?_) (fun cdv A outer s H vs Q E hr h => ?_)
  · obtain ⟨p, dx, s, n, rfl, _⟩ := h
    rfl
  · obtain ⟨p, dx, z, n, rfl, hz, n0, n1, hp, q⟩ := h
    obtain ⟨t1, mg1⟩ := T.mlen
    refine ⟨_, pss_cons (ps_if (pt_not (pt_val (pe_call GA hr (by rfl) DA.mg DA.kp DA.b .nil pass0 (pa_cons (pv 1) pa_nil)))) (pss_one ps_never) pss_nil)
      (pss_cons (ps_if (pt_not (pt_val (pe_call GW hr (by rfl) DW.mg DW.kp DW.b .nil pass0 (pa_cons (pv 2) (pa_cons pe_int (pa_cons (pe_glob (v := .int 6) (by rfl) mg1 ⟨_, rfl⟩) pa_nil)))))) (pss_one ps_never) pss_nil)
      (pss_cons (ps_fld (pv 0) (pv 1) rfl) (pss_cons (ps_fld (pv 0) (pv 2) rfl)
      (pss_one (ps_fld (pv 0) (pe_call GC hr (by rfl) DC.mg DC.kp DC.b .nil pass0 (pa_cons (pe_callB call_len_str (by rfl) T.len PySem.boot_len (pa_cons (pv 1) pa_nil)) (pa_cons (pv 2) pa_nil))) rfl))))), ?_⟩
    have hl : z.length ≤ 26 := hz.2.1
    have hline : sizeLine = 16777216 := sizeLine_eq
    refine ⟨_, rfl, _, rfl, .inl ⟨z, rfl, by omega, fun H1 s1 => ⟨_, rfl, ?_⟩⟩⟩
    rw [decide_eq_true hz]
    refine iteF ?_
    refine ⟨_, rfl, _, _, _, rfl, .inl ⟨n, rfl, _, rfl, ?_⟩⟩
    rw [decide_eq_true (show 1 ≤ n ∧ n ≤ 6 from ⟨n0, n1⟩)]
    refine iteF ?_
    have hp1 := s1 _ _ hp
    refine ⟨_, rfl, _, rfl, p, C, dx, _, rfl, hp1, TC.cl, TC.nL, by show 0 < 1000; decide, ?_⟩
    refine ⟨_, rfl, _, rfl, p, C, dx, _, rfl, upd_same, TC.cl, TC.nN, by show 1 < 1000; decide, ?_⟩
    refine ⟨_, rfl, _, rfl, by omega, _, rfl, _, _, rfl, by omega, by omega, by omega, n1, ?_⟩
    refine ⟨_, rfl, p, C, dx, _, rfl, upd_same, TC.cl, TC.nS, (by rw [pf2_eq]; show 2 < 1000; decide), ?_⟩
    refine q _ ?_ ⟨dx, upd_same⟩
    exact (But.of s1).trans (But.upd.trans (But.upd.trans But.upd))
theorem digit_len {n : Int} (h0 : 1 ≤ n) (h1 : n ≤ 6) : (digit n).length = 1 := by
  have : n = 1 ∨ n = 2 ∨ n = 3 ∨ n = 4 ∨ n = 5 ∨ n = 6 := by omega
  rcases this with rfl | rfl | rfl | rfl | rfl | rfl <;> decide +kernel
theorem digit_log {n : Int} (h0 : 1 ≤ n) (h1 : n ≤ 6) : n.natAbs.log2 < 1920 := by
  have : n = 1 ∨ n = 2 ∨ n = 3 ∨ n = 4 ∨ n = 5 ∨ n = 6 := by omega
  rcases this with rfl | rfl | rfl | rfl | rfl | rfl <;> decide +kernel
theorem app_len (a b : Str) : (a ++ b).length = a.length + b.length := by
  rw [← str_len, ← str_len, ← str_len, ← List.length_append]
  exact congrArg List.length (TL.tl_append a b)
theorem empty_app (a : Str) : Str.empty ++ a = a := TL.ext_tl (by rw [TL.tl_append]; rfl)
theorem ty_board {C p dx : Addr} {H : Hp} {fs : List (Str × V)} (T : TxC K mg C) (h : H p = some (.ins C dx fs)) : TyX K H (.ref p) (.ref C) := .base (.ins h T.cl T.ac T.gt T.tk T.ob)
theorem scE : FnScope ["self", "other"] ["self", "other"] (defScope sEq) := ⟨rfl, rfl, rfl, by decide +kernel, rfl, by decide +kernel, by decide +kernel⟩
theorem ok_eq {f C : Addr} {fd : FuncData} (F : Fun K "__eq__" "Board.__eq__" sEq f fd) (T : TxW mg) (TC : TxC K mg C) : FnOk P w K mg base CX0 1 f fd ["self", "other"] (spEqB K C) := by
  refine F.ok scE (fun vs H Q E h => ?_) (fun cdv A outer s H vs Q E hr h => ?_)
  · obtain ⟨p, s, n, y, rfl, _⟩ := h
    rfl
  · obtain ⟨p, z, n, y, rfl, ⟨dx, hp⟩, hz, h⟩ := h
    refine ⟨_, pss_one (ps_ret (pe_and (pe_callB call_isi (by rfl) T.isi (by decide +kernel) (pa_cons (pv 1) (pa_cons (pe_glob (v := .ref C) (by rfl) TC.mgC rfl) pa_nil)))
      (pe_and (pe_cmpR op_eq (pe_fld (pv 0) rfl) (pe_fld (pv 1) rfl) (nomark _)) (pe_one (pe_cmpR op_eq (pe_fld (pv 0) rfl) (pe_fld (pv 1) rfl) (nomark _)))))), ?_⟩
    rcases h with ⟨q, z', n', rfl, ⟨dy, hq⟩, hz', k⟩ | ⟨t, ty, no, k⟩
    · refine ⟨_, rfl, _, _, _, _, _, rfl, .own C, ty_board TC hq, TC.own, _, rfl, ?_⟩
      refine iteT ⟨_, rfl, p, C, dx, _, _, rfl, hp, TC.cl, TC.nL, bf_letters z n, _, rfl, q, C, dy, _, _, rfl, hq, TC.cl, TC.nL, bf_letters z' n', rfl, _, rfl, ?_⟩
      refine ite2 (fun e => ?_) (fun e => ?_)
      · refine ⟨_, rfl, p, C, dx, _, _, rfl, hp, TC.cl, TC.nN, bf_length z n, _, rfl, q, C, dy, _, _, rfl, hq, TC.cl, TC.nN, bf_length z' n', rfl, ?_⟩
        have e := V.str.inj (of_decide_eq_true e)
        have e2 : decide (z = z' ∧ n = n') = decide (V.int n = V.int n') := decide_eq_decide.mpr ⟨fun x => by rw [x.2], fun x => ⟨e, V.int.inj x⟩⟩
        rw [e2] at k
        exact k
      · have e2 : decide (z = z' ∧ n = n') = false := decide_eq_false fun x => e (decide_eq_true (by rw [x.1]))
        rw [e2] at k
        exact k
    · exact ⟨_, rfl, _, _, _, _, _, rfl, .own C, ty, no, _, rfl, iteF k⟩
theorem scS : FnScope ["self"] ["self"] (defScope sStr) := ⟨rfl, rfl, rfl, by decide +kernel, rfl, by decide +kernel, by decide +kernel⟩
theorem ok_str {f C : Addr} {fd : FuncData} (F : Fun K "__str__" "Board.__str__" sStr f fd) (TC : TxC K mg C) : FnOk P w K mg base CX0 1 f fd ["self"] (spStr C) := by
  refine F.ok scS (fun vs H Q E h => ?_) (fun cdv A outer s H vs Q E hr h => ?_)
  · obtain ⟨p, s, n, rfl, _⟩ := h
    rfl
  · obtain ⟨p, z, n, rfl, ⟨dx, hp⟩, hz, n0, n1, q⟩ := h
    refine ⟨_, pss_one (ps_ret (pe_joined (.cons (pe_fmt (pe_fld (pv 0) rfl)) (.cons pe_str (.cons (pe_fmt (pe_fld (pv 0) rfl)) .nil))))), ?_⟩
    have hline : sizeLine = 16777216 := sizeLine_eq
    have d := digit_len n0 n1
    refine ⟨_, rfl, p, C, dx, _, _, rfl, hp, TC.cl, TC.nL, bf_letters z n, .inl ⟨z, rfl, by omega, z, rfl, by rw [empty_app]; omega, ?_⟩⟩
    refine ⟨_, rfl, by rw [empty_app, app_len]; have : (Str.ofString " ").length = 1 := rfl; omega, ?_⟩
    refine ⟨_, rfl, p, C, dx, _, _, rfl, hp, TC.cl, TC.nN, bf_length z n, .inr ⟨n, rfl, digit_log n0 n1, digit n, rfl, ?_, ?_⟩⟩
    · rw [empty_app, app_len, app_len]; have : (Str.ofString " ").length = 1 := rfl; omega
    · show Q (.str (Str.empty ++ z ++ Str.ofString " " ++ digit n)) H
      rw [empty_app]
      exact q
theorem scR : FnScope ["self"] ["self"] (defScope sRepr) := ⟨rfl, rfl, rfl, by decide +kernel, rfl, by decide +kernel, by decide +kernel⟩
theorem ok_repr {f C : Addr} {fd : FuncData} (F : Fun K "__repr__" "Board.__repr__" sRepr f fd) (TC : TxC K mg C) : FnOk P w K mg base CX0 1 f fd ["self"] (spRepr C) := by
  refine F.ok scR (fun vs H Q E h => ?_) (fun cdv A outer s H vs Q E hr h => ?_)
  · obtain ⟨p, s, n, rfl, _⟩ := h
    rfl
  · obtain ⟨p, z, n, rfl, ⟨dx, hp⟩, hz, n0, n1, q⟩ := h
    refine ⟨_, pss_one (ps_ret (pe_joined (.cons pe_str (.cons (pe_fmt (pe_fld (pv 0) rfl)) (.cons pe_str (.cons (pe_fmt (pe_fld (pv 0) rfl)) (.cons pe_str .nil))))))), ?_⟩
    have hline : sizeLine = 16777216 := sizeLine_eq
    have d := digit_len n0 n1
    have l1 : (Str.ofString " ").length = 1 := rfl
    have l2 : (Str.ofString "Board(").length = 6 := rfl
    have l3 : (Str.ofString ")").length = 1 := rfl
    refine ⟨_, rfl, by rw [empty_app, l2]; omega, ?_⟩
    refine ⟨_, rfl, p, C, dx, _, _, rfl, hp, TC.cl, TC.nL, bf_letters z n, .inl ⟨z, rfl, by omega, z, rfl, by rw [empty_app, app_len, l2]; omega, ?_⟩⟩
    refine ⟨_, rfl, by rw [empty_app, app_len, app_len, l1, l2]; omega, ?_⟩
    refine ⟨_, rfl, p, C, dx, _, _, rfl, hp, TC.cl, TC.nN, bf_length z n, .inr ⟨n, rfl, digit_log n0 n1, digit n, rfl, by rw [empty_app, app_len, app_len, app_len, l1, l2]; omega, ?_⟩⟩
    refine ⟨_, rfl, by rw [empty_app, app_len, app_len, app_len, app_len, l1, l2, l3]; omega, ?_⟩
    show Q (.str (Str.empty ++ Str.ofString "Board(" ++ z ++ Str.ofString " " ++ digit n ++ Str.ofString ")")) H
    rw [empty_app]
    exact q
end
end Gm

namespace Gm
open PySem L2
/-- the text of these codes -/
abbrev tx (l : List Nat) : Str := ⟨l.toArray⟩
theorem tx_len (l : List Nat) : (tx l).length = l.length := by simp [Str.length]
theorem cut_pre (z : Str) (i : Nat) (h : i ≤ z.length) : cutS z none (some (i : Int)) = tx (z.cps.toList.take i) := by
  unfold cutS
  rw [HT.sIx_none, HT.sIx_nat, Nat.min_eq_left h]
  rfl
theorem cut_suf (z : Str) (i : Nat) (h : i ≤ z.length) : cutS z (some (i : Int)) none = tx (z.cps.toList.drop i) := by
  unfold cutS
  rw [HT.sIx_none, HT.sIx_nat, Nat.min_eq_left h]
  have e : (z.cps.toList.drop i).length = z.length - i := by rw [List.length_drop, str_len]
  rw [← e, List.take_length]
theorem alph_take : ∀ m : Fin 27, 2 ≤ m.val → Alph (tx (low.take m.val)) := by decide +kernel
theorem low_sorted : low.Pairwise (· < ·) := by decide +kernel
theorem sorted_eq : ∀ (l1 l2 : List Nat), l1.Pairwise (· < ·) → l2.Pairwise (· < ·) → (∀ x, x ∈ l1 ↔ x ∈ l2) → l1 = l2
  | [], [], _, _, _ => rfl
  | [], b :: l2, _, _, h => by have := (h b).mpr List.mem_cons_self; cases this
  | a :: l1, [], _, _, h => by have := (h a).mp List.mem_cons_self; cases this
  | a :: l1, b :: l2, h1, h2, h => by
    have p1 := List.pairwise_cons.mp h1
    have p2 := List.pairwise_cons.mp h2
    have e : a = b := by
      have ha := (h a).mp List.mem_cons_self
      have hb := (h b).mpr List.mem_cons_self
      rcases List.mem_cons.mp ha with e | ha
      · exact e
      · rcases List.mem_cons.mp hb with e | hb
        · exact e.symm
        · have := p1.1 b hb
          have := p2.1 a ha
          omega
    subst e
    rw [sorted_eq l1 l2 p1.2 p2.2 fun x => ⟨fun m => ?_, fun m => ?_⟩]
    · rcases List.mem_cons.mp ((h x).mp (List.mem_cons_of_mem _ m)) with e | q
      · have := p1.1 x m
        omega
      · exact q
    · rcases List.mem_cons.mp ((h x).mpr (List.mem_cons_of_mem _ m)) with e | q
      · have := p2.1 x m
        omega
      · exact q
/-- letters that ascend are an alphabet -/
theorem alph_of {zs : List Nat} (hs : zs.Pairwise (· < ·)) (hl : ∀ c ∈ zs, c ∈ low) (h0 : 2 ≤ zs.length) (h1 : zs.length ≤ 26) : Alph (tx zs) := by
  refine ⟨by rw [tx_len]; exact h0, by rw [tx_len]; exact h1, ?_⟩
  show zs = low.filter fun c => decide (c ∈ (tx zs).cps.toList)
  refine sorted_eq _ _ hs (low_sorted.sublist List.filter_sublist) fun x => ?_
  rw [List.mem_filter]
  show x ∈ zs ↔ x ∈ low ∧ decide (x ∈ zs) = true
  exact ⟨fun h => ⟨hl x h, decide_eq_true h⟩, fun h => of_decide_eq_true h.2⟩
abbrev one (c : Nat) : Str := ⟨#[c]⟩
def codeOf (s : Str) : Nat := s.cps.toList.headD 0
/-- what sorted leaves of signs -/
theorem sorted_one {fs : List Nat} {ys : List Str} (hp : ys.Perm (fs.map one)) : ∃ zs : List Nat, zs.Perm fs ∧ ys = zs.map one := by
  refine ⟨ys.map codeOf, ?_, ?_⟩
  · have := hp.map codeOf
    rw [List.map_map] at this
    have e : fs.map (codeOf ∘ one) = fs := by
      have : (codeOf ∘ one) = id := by funext c; rfl
      rw [this, List.map_id]
    rw [e] at this
    exact this
  · rw [List.map_map]
    have : ∀ y ∈ ys, (one ∘ codeOf) y = y := fun y hy => by
      obtain ⟨c, _, rfl⟩ := List.mem_map.mp (hp.mem_iff.mp hy)
      rfl
    exact (List.map_congr_left this |>.trans (List.map_id' ys)).symm
open PyProof.Rows in
theorem rising_le : ∀ (zs : List Nat) (a : Nat), risingS (one a) (zs.map one) = true → (a :: zs).Pairwise (· ≤ ·)
  | [], a, _ => List.pairwise_singleton _ _
  | b :: zs, a, h => by
    have h' : (!Spec.ltCps [b] [a] && risingS (one b) (zs.map one)) = true := h
    rw [Bool.and_eq_true] at h'
    have ih := rising_le zs b h'.2
    have e : a ≤ b := by
      refine Nat.le_of_not_lt fun q => ?_
      have : Spec.ltCps [b] [a] = true := by simp [Spec.ltCps, q]
      rw [this] at h'
      exact absurd h'.1 (by decide)
    refine List.pairwise_cons.mpr ⟨fun c hc => ?_, ih⟩
    rcases List.mem_cons.mp hc with rfl | hc
    · exact e
    · exact Nat.le_trans e ((List.pairwise_cons.mp ih).1 c hc)
open PyProof.Rows in
theorem sorted_le {zs : List Nat} (h : sortedS (zs.map one) = true) : zs.Pairwise (· ≤ ·) := by
  cases zs with
  | nil => exact List.Pairwise.nil
  | cons a zs => exact rising_le zs a h
theorem strict {zs : List Nat} (h : zs.Pairwise (· ≤ ·)) (n : zs.Nodup) : zs.Pairwise (· < ·) := by
  refine (h.and n).imp fun ⟨a, b⟩ => ?_
  omega
theorem low_nodup : low.Nodup := by decide +kernel
theorem drawn_perm {fs l : List Nat} {i : Nat} {c : Nat} (h : (fs ++ l).Perm low) (hc : l[i]? = some c) : (fs ++ [c] ++ (l.take i ++ l.drop (i + 1))).Perm low := by
  refine List.Perm.trans ?_ h
  rw [List.append_assoc]
  refine List.Perm.append_left fs ?_
  have hi := (List.getElem?_eq_some_iff.mp hc).1
  have e : l = l.take i ++ c :: l.drop (i + 1) := by
    have := (List.getElem?_eq_some_iff.mp hc).2
    rw [← this, List.getElem_cons_drop, List.take_append_drop]
  have q : (c :: (l.take i ++ l.drop (i + 1))).Perm (l.take i ++ c :: l.drop (i + 1)) := List.perm_middle.symm
  rw [← e] at q
  exact q
theorem drawn_alph {fs lf : List Nat} {ys : List Str} (h : (fs ++ lf).Perm low) (h0 : 2 ≤ fs.length) (hp : ys.Perm (fs.map one)) (hs : PyProof.Rows.sortedS ys = true) : ∃ zs : List Nat, ys = zs.map one ∧ Alph (tx zs) ∧ zs.length = fs.length := by
  obtain ⟨zs, q, rfl⟩ := sorted_one hp
  have nd : fs.Nodup := (List.nodup_append.mp (h.nodup_iff.mpr low_nodup)).1
  have hl := h.length_eq
  rw [List.length_append, low_len] at hl
  refine ⟨zs, rfl, alph_of (strict (sorted_le hs) (q.nodup_iff.mpr nd)) (fun c hc => h.mem_iff.mp (List.mem_append_left _ (q.mem_iff.mp hc))) (by rw [q.length_eq]; exact h0) (by rw [q.length_eq]; omega), q.length_eq⟩
end Gm

/-! marks as lists of codes: the mirror of marks_of -/
namespace Gm
def un (g w : List Nat) : List Nat := ((g.zip w).filter fun p => !decide (p.1 = p.2)).map (·.2)
def go : List (Nat × Nat) → List Nat → List Nat
  | [], _ => []
  | (a, b) :: r, u => if a = b then 50 :: go r u else if a ∈ u then 49 :: go r (u.erase a) else 48 :: go r u
def mk (g w : List Nat) : List Nat := go (g.zip w) (un g w)
theorem drop_at {α : Type} {l : List α} {i : Nat} {x : α} (h : l[i]? = some x) : l.drop i = x :: l.drop (i + 1) := by
  have hi := (List.getElem?_eq_some_iff.mp h).1
  have e := (List.getElem?_eq_some_iff.mp h).2
  rw [← e, List.getElem_cons_drop]
theorem zip_at {g w : List Nat} {i c e : Nat} (h1 : g[i]? = some c) (h2 : w[i]? = some e) : (g.zip w)[i]? = some (c, e) := by
  rw [List.getElem?_zip_eq_some]
  exact ⟨h1, h2⟩
theorem take_map_filter {l : List (Nat × Nat)} {i : Nat} {x : Nat × Nat} (p : Nat × Nat → Bool) (f : Nat × Nat → Nat) (h : l[i]? = some x) :
    ((l.take (i + 1)).filter p).map f = ((l.take i).filter p).map f ++ (if p x = true then [f x] else []) := by
  have hi := (List.getElem?_eq_some_iff.mp h).1
  have e := (List.getElem?_eq_some_iff.mp h).2
  rw [List.take_succ_eq_append_getElem hi, e, List.filter_append, List.map_append]
  congr 1
  by_cases c : p x = true
  · rw [if_pos c]; simp [c]
  · rw [if_neg c]; simp [c]
theorem go_length : ∀ (l : List (Nat × Nat)) (u : List Nat), (go l u).length = l.length
  | [], _ => rfl
  | (a, b) :: r, u => by
    unfold go
    split
    · rw [List.length_cons, go_length r u, List.length_cons]
    · split <;> rw [List.length_cons, go_length r _, List.length_cons]
end Gm

/-! can_come as lists of codes -/
namespace Gm
def lm (g t wd : List Nat) : List Nat := ((g.zip t).filter fun p => decide (p.2 ∈ wd)).map (·.1)
def ordB : List (Nat × Nat) → List Nat → Bool
  | [], _ => true
  | (a, m) :: r, u => if m = 49 ∧ a ∈ u then false else ordB r (if m = 48 then u ++ [a] else u)
def fillB : List Nat → List Nat → List Nat → Bool
  | [], o, _ => o.isEmpty
  | g :: gs, o, s => if gs.length + 1 < o.length then false else (o.any fun c => !decide (c = g) && fillB gs (o.erase c) s) || (s.any (fun c => !decide (c = g)) && fillB gs o s)
def spare (l used : List Nat) : List Nat := l.filter fun c => !decide (c ∈ used)
def comeB (l g t : List Nat) : Bool := ordB (g.zip t) [] && fillB (lm g t [48, 49]) (lm g t [49]) (spare l (lm g t [48]))
end Gm

/-! enumerate of a tuple, of a text -/
namespace PySem
open Builtin
set_option maxHeartbeats 1000000 in
theorem enum1_new {v : Value} {o : Obj} {H : Heap → Prop} (B : Begins v o H) :
    Meets (Builtin.«enumerate.__new__» ⟨[.type "enumerate", v], []⟩) (fun _ R s => H s.heap ∧
      R (.ok (.ret (.ref (s.heap.push o).objs.size))) { s with heap := (s.heap.push o).push { cls := .type "enumerate", data := .fields #[.none, .bool false, .ref s.heap.objs.size, rawInt 0, .none, .none] } }) :=
  .of_wp fun prog w A R s h => by
    obtain ⟨hp, g, d, tk, os⟩ := s
    obtain ⟨h1, hR⟩ := h
    have isS := sub_enumerate
    have go : ∀ {A' : Around} {E : Value → Shared → Prop} {Q : Value → Shared → Prop}, Q (.ref hp.objs.size) ⟨hp.push o, g, d, tk, os⟩ → wpAny (model prog w) A' (pyIter v) Q E ⟨hp, g, d, tk, os⟩ := fun q => B.iter prog w _ _ ⟨hp, g, d, tk, os⟩ _ h1 q
    wp_walk using go
    refine wpAny_stack_any fun st => wpAny_pure ?_
    split
    · rename_i c _ _ _ _ _
      cases (c == Value.type "enumerate") <;> (wp_walk using go; exact ⟨_, rfl, hR⟩)
    · wp_walk using go; exact ⟨_, rfl, hR⟩
theorem enum1_begins {prog : Program} {w : World} {A : Around} {E : Value → Shared → Prop} {s : Shared} {v : Value} {o : Obj} {H : Heap → Prop} {Q : Value → Shared → Prop} (B : Begins v o H) (h1 : H s.heap)
    (h : ∀ h', IsEnum h' (s.heap.objs.size + 1) s.heap.objs.size 0 .none → h'.get? s.heap.objs.size = some o → (∀ b o, s.heap.get? b = some o → h'.get? b = some o) → Q (.ref (s.heap.objs.size + 1)) { s with heap := h' }) :
    wpAny (model prog w) A (call (.type "enumerate") [v]) Q E s := by
  refine callType_new F.called_enumerate (by decide) (F.typeCall_enumerate_1 _) (F.newCall_enumerate_1 _) (fun obj => F.args_object_init_2 obj _) F.entry_enumerate_new (enum1_new B) ⟨h1, ?_⟩
  have sz : (s.heap.push o).objs.size = s.heap.objs.size + 1 := Heap.size_push ..
  show _ ∧ _
  rw [sz]
  have e : IsEnum ((s.heap.push o).push { cls := .type "enumerate", data := .fields #[.none, .bool false, .ref s.heap.objs.size, rawInt 0, .none, .none] }) (s.heap.objs.size + 1) s.heap.objs.size 0 .none := by
    rw [← sz]
    exact Heap.get?_push_size _ rfl
  exact ⟨⟨_, e, rfl⟩, h _ e (Heap.get?_push_of_some _ (Heap.get?_push_size _ B.free)) fun b u x => Heap.get?_push_of_some _ (Heap.get?_push_of_some _ x)⟩
end PySem
namespace L2
open PySem PySem.Spec PyProof.Rows
/-- pairs of a number and what Y tells of it; G stands, n turns -/
def Iten (n : Nat) (G : Hp → Prop) (Y : Nat → V → Prop) : It :=
  ⟨fun i H => i < n ∧ G H, fun i H v H' => ∃ T x, v = .ref T ∧ H T = none ∧ H' = upd H T (.tup [.int (i : Nat), x]) ∧ Y i x, fun i H => i = n ∧ G H⟩
theorem turn_enumD {P : Program} {w : World} {K : PySem.W.Frag} {elts : List Expr} {kk : Nat} {tpos : Pos} {n : Nat} {G : Hp → Prop} {Y : Nat → V → Prop} {e it : Addr} (ne : e ≠ it) (S : Nat → Heap → Prop) (sat : ∀ i h, S i h → ∃ o, h.get? it = some o ∧ ∀ v, o.data ≠ .cell v)
    (sk : ∀ i h h', S i h → (∀ o, h.get? it = some o → h'.get? it = some o) → S i h')
    (draws : ∀ (X : Cx) (pins : List (Addr × Obj)) (σ : St) (H : Hp) (s : Shared), X.prog = P → X.w = w → X.K = K → X.A.handled = none → Inv X pins σ H s → G H →
      ∃ (fp : List Addr) (V : Nat → Value → Prop) (St : Nat → Heap → Prop), Draws X.prog X.w X.A.in1 it fp n V St ∧ e ∉ fp ∧ (∀ i, S i s.heap → St i s.heap) ∧ (∀ i h', St i h' → S i h') ∧ ∀ i u, V i u → ∃ x, RelV x u ∧ Y i x) :
    Turn P w K (.Tuple elts kk tpos) (Iten n G Y) [e, it] e (fun i h => (∃ old, IsEnum h e it ((i : Nat) : Int) old) ∧ S i h) where
  mem := by simp
  obj := fun i h st b hb => by
    obtain ⟨⟨old, he⟩, hs⟩ := st
    have q : b = e ∨ b = it := by simpa using hb
    rcases q with rfl | rfl
    · exact ⟨_, he, fun v q => nomatch q⟩
    · exact sat i h hs
  keep := fun i h h' st k => by
    obtain ⟨⟨old, he⟩, hs⟩ := st
    exact ⟨⟨old, k e (by simp) _ he⟩, sk i h h' hs fun o q => k it (by simp) o q⟩
  item := by
    intro X hP hw hK hc i pins s σ H E I hf st hg
    obtain ⟨⟨old, he⟩, hs⟩ := st
    obtain ⟨hi, gg⟩ := hg
    obtain ⟨fp, Vp, St, D, nf, to, back, rel⟩ := draws X pins σ H s hP hw hK (I.ok.hd hc) I gg
    subst hP hw hK
    have hel : e < s.heap.objs.size := Heap.lt_size he
    have hil : it < s.heap.objs.size := let ⟨_, q, _⟩ := sat i _ hs; Heap.lt_size q
    refine wpAny_pyNext_enum_itemD D he (to i hs) hi ne nf fun u h' tk pu ho hs' hT hsz hk => ?_
    obtain ⟨x, rx, yx⟩ := rel i u pu
    refine ⟨_, rfl, wpAny_letOwnedTupleGo_enum (s := { s with heap := h', toks := tk + 1 }) ho fun g he' sb => ?_⟩
    have hT2 := (sb.2 _ (Nat.ne_of_gt hel)).trans hT
    have fresh : ObjOk X.prog X.w (upd H s.heap.objs.size (.tup [.int (i : Nat), x])) g s.heap.objs.size (.tup [.int (i : Nat), x]) :=
      ⟨by show 2 ≤ sizeLine; decide, _, .cons ⟨tk, rfl⟩ (.cons rx .nil), ⟨_, hT2, rfl, _, rfl⟩⟩
    have J : Inv X pins σ (upd H s.heap.objs.size (.tup [.int (i : Nat), x])) { s with heap := g, toks := tk + 1 } := by
      refine I.turnedNew (ch := [e, it]) (fun b o hb q => ?_) hf (Nat.le_refl _) fresh
      have nb : b ≠ e ∧ b ≠ it := by simpa using hb
      exact (sb.2 b nb.1).trans (hk b o nb.1 nb.2 q)
    refine ⟨.ref s.heap.objs.size, _, J, rfl, ⟨_, x, rfl, I.hok.fresh (Nat.le_refl _), rfl, yx⟩, ⟨⟨u, ?_⟩, sk _ _ _ (back _ _ hs') fun o q => (sb.2 it ne.symm).trans q⟩, fun b hb => ?_⟩
    · have c : ((i + 1 : Nat) : Int) = (i : Int) + 1 := by omega
      rw [c]
      exact he'
    · have q : b = e ∨ b = it := by simpa using hb
      have hlt : b < s.heap.objs.size := by
        rcases q with rfl | rfl
        · exact hel
        · exact hil
      rw [upd_ne (Nat.ne_of_lt hlt)]
      exact (hf b hb).1
  done := by
    intro X hP hw hK hc i pins s σ H E I hf st hg
    obtain ⟨⟨old, he⟩, hs⟩ := st
    obtain ⟨rfl, gg⟩ := hg
    obtain ⟨fp, Vp, St, D, nf, to, back, rel⟩ := draws X pins σ H s hP hw hK (I.ok.hd hc) I gg
    subst hP hw hK
    obtain ⟨f0, f1, f2, f3, f4, f5⟩ := hf it (by simp)
    exact wpAny_pyNext_enum_endD D he (to _ hs) fun h' eb => ⟨rfl, I.turned (t' := s.toks) (fun b o hb q => eb b o hb q) f0 f1 f3 f4 f5⟩
  self := fun A i s Q E st h => let ⟨⟨_, he⟩, _⟩ := st; wpAny_pyIter_enum he h
/-- enumerate(t), t a tuple -/
def iEnumT (K : PySem.W.Frag) (ta : TA) : TI := fun σ H R => ta σ H fun vs H1 => ∃ a xs, vs = [.ref a] ∧ SqT K H1 a xs ∧ R (Iten xs.length (fun H => SqT K H a xs) fun i x => xs[i]? = some x) H1
/-- enumerate(z), z a text -/
def iEnumS (ta : TA) : TI := fun σ H R => ta σ H fun vs H1 => ∃ z : Str, vs = [.str z] ∧ R (Iten z.cps.size (fun _ => True) fun i x => ∃ c, z.cps[i]? = some c ∧ x = .str ⟨#[c]⟩) H1
section
variable {X : Cx} {e : Expr} {ta : TA} {p pos tpos : Pos} {elts : List Expr} {kk : Nat}
theorem pi_enumT (hg : Gl X "enumerate") (hm : X.mg "enumerate" = none) (ha : PA X [e] ta) (hs : starEach [e] X.env = [(false, eval e X.env)] := by rfl) : PI X (.Tuple elts kk tpos) (.Call (.Name "enumerate" p) [e] [] pos) (iEnumT X.K ta) := by
  refine ⟨fun pins s σ H R I h => ?_⟩
  refine Call_ (ld_blt I hg hm boot_enumerate (PyProof.Rows.callWith_type1 (thn (ha.run pos pins s σ H _ I h) fun us s1 hh => ?_) hs rfl))
  obtain ⟨vs, H1, I1, r1, a, xs, rfl, hq, q⟩ := hh
  cases r1 with
  | cons r rr =>
    cases rr
    cases r
    obtain ⟨its, rv, pt, _⟩ := I1.tuple hq
    refine enum1_begins (begins_tuple a its.toArray) pt fun h' he hit hk => wpAny_pyIter_enum he ?_
    have J : Inv X pins σ H1 { s1 with heap := h' } := I1.kept (t' := s1.toks) hk
    have la : a < s1.heap.objs.size := let ⟨o, ho, _⟩ := pt; Heap.lt_size ho
    have na : s1.heap.objs.size + 1 ≠ a := Nat.ne_of_gt (Nat.lt_succ_of_lt la)
    have ni : a ≠ s1.heap.objs.size := Nat.ne_of_lt la
    have lx : xs.length = its.toArray.size := by rw [rv.length]; simp
    refine ⟨s1.heap.objs.size + 1, [s1.heap.objs.size + 1, s1.heap.objs.size], _, _, H1, rfl, J, turn_enumD (Nat.succ_ne_self _) (fun i h => h.IsTupleIter s1.heap.objs.size a i) (fun i h ⟨o, ho, _, hd⟩ => ⟨o, ho, fun v z => by rw [hd] at z; cases z⟩) (fun i h h' st k => st.at k) ?_, ⟨⟨.none, he⟩, ⟨_, hit, rfl, rfl⟩⟩, fun b hb => ?_, q⟩
    · intro X' pins' σ' H' s' hP hw hK hh I' g
      rw [← hK] at g
      obtain ⟨its', rv', pt', _⟩ := I'.tuple g
      have D := Draws.tuple (prog := X'.prog) (w := X'.w) (A := X'.A.in1) (show X'.A.in1.handled = none from hh) s1.heap.objs.size a ni its'.toArray
      have e' : its'.toArray.size = xs.length := by rw [rv'.length]; simp
      refine ⟨[s1.heap.objs.size, a], _, _, e' ▸ D, by simp [na], fun i st => ⟨st, pt'⟩, fun i h' st => st.1, fun i u hu => ?_⟩
      have hu' : its'[i]? = some u := by simpa using hu
      have hi : i < xs.length := by
        rw [rv'.length]
        exact (List.getElem?_eq_some_iff.mp hu').1
      obtain ⟨u2, h2, r2⟩ := rv'.get (List.getElem?_eq_getElem hi)
      rw [hu'] at h2
      cases h2
      exact ⟨_, r2, List.getElem?_eq_getElem hi⟩
    · have e' : b = s1.heap.objs.size + 1 ∨ b = s1.heap.objs.size := by simpa using hb
      have hle : s1.heap.objs.size ≤ b := e'.elim (fun z => z ▸ Nat.le_succ _) fun z => z ▸ Nat.le_refl _
      exact I1.fpOk hle (I1.hok.fresh hle)
theorem pi_enumS (hg : Gl X "enumerate") (hm : X.mg "enumerate" = none) (ha : PA X [e] ta) (hs : starEach [e] X.env = [(false, eval e X.env)] := by rfl) : PI X (.Tuple elts kk tpos) (.Call (.Name "enumerate" p) [e] [] pos) (iEnumS ta) := by
  refine ⟨fun pins s σ H R I h => ?_⟩
  refine Call_ (ld_blt I hg hm boot_enumerate (PyProof.Rows.callWith_type1 (thn (ha.run pos pins s σ H _ I h) fun us s1 hh => ?_) hs rfl))
  obtain ⟨vs, H1, I1, r1, z, rfl, q⟩ := hh
  cases r1 with
  | cons r rr =>
    cases rr
    obtain ⟨t, rfl⟩ := r
    refine enum1_begins (begins_text z t) trivial fun h' he hit hk => wpAny_pyIter_enum he ?_
    have J : Inv X pins σ H1 { s1 with heap := h' } := I1.kept (t' := s1.toks) hk
    refine ⟨s1.heap.objs.size + 1, [s1.heap.objs.size + 1, s1.heap.objs.size], _, _, H1, rfl, J, turn_enumD (Nat.succ_ne_self _) (fun i h => h.IsStrIter s1.heap.objs.size (strIterType z) z t i) (fun i h ⟨o, ho, _, hd⟩ => ⟨o, ho, fun v z => by rw [hd] at z; cases z⟩) (fun i h h' ⟨o, ho, st⟩ k => ⟨o, k o ho, st⟩) ?_, ⟨⟨.none, he⟩, ⟨_, hit, rfl, rfl⟩⟩, fun b hb => ?_, q⟩
    · intro X' pins' σ' H' s' hP hw hK hh I' g
      refine ⟨[s1.heap.objs.size], _, _, Draws.text (show X'.A.in1.handled = none from hh) s1.heap.objs.size z t, by simp, fun i st => st, fun i h' st => st, fun i u hu => ?_⟩
      obtain ⟨c, k, hc, rfl⟩ := hu
      exact ⟨.str ⟨#[c]⟩, ⟨k, rfl⟩, c, hc, rfl⟩
    · have e' : b = s1.heap.objs.size + 1 ∨ b = s1.heap.objs.size := by simpa using hb
      have hle : s1.heap.objs.size ≤ b := e'.elim (fun z => z ▸ Nat.le_succ _) fun z => z ▸ Nat.le_refl _
      exact I1.fpOk hle (I1.hok.fresh hle)
theorem walk_iten {n : Nat} {G : Hp → Prop} {Y : Nat → V → Prop} : Walk (Iten n G Y) n G (fun i H v H' => ∃ T x, v = .ref T ∧ H T = none ∧ H' = upd H T (.tup [.int (i : Nat), x]) ∧ Y i x) :=
  ⟨fun i _ hi g => ⟨hi, g⟩, fun _ g => ⟨rfl, g⟩, fun _ _ _ _ _ _ y => y⟩
end
end L2

/-! o.m(k = v, ..); C(e, .., *y) -/
namespace L2
open PySem PySem.Spec PyProof.Rows
section
variable {X : Cx} {CX : CXT} {k : Nat} {f C : Addr} {fd : FuncData} {ps ks : List Str} {sp : Sp} {E : XK} {x m : Str} {o e : Expr} {es : List Expr} {kws : List Keyword} {ta : TE} {t tk : TA} {p pos apos : Pos} {g : List Value → List Value → List Value} {gV : List V → List V → List V}
def tMethK (C : Addr) (m : Str) (n : Nat) (sp : Sp) (gV : List V → List V → List V) (E : XK) (ta : TE) (tk : TA) : TE := fun σ H Q => ta σ H fun x H1 => ∃ a dx fs, x = .ref a ∧ H1 a = some (.ins C dx fs) ∧ fs.lookup m = none ∧
  tk σ H1 fun zs H2 => zs.length = n ∧ sp (gV [x] zs) H2 Q E
/-- o.m(k = v, ..), keywords alone -/
theorem pe_methK0 {pl : Sem Bool} (he : PE X o ta) (c : Cls X.K C) (hm : Meth X.K C m f) (F : FnOk X.prog X.w X.K X.mg X.base CX k f fd ps sp) (hr : Room k X.A) (hb : KBn X.K fd ps 1 ks g gV) (hx : Passes CX X E) (hkw : PK X kws tk)
    (hall : (backToKw pos (keywordEach kws X.env)).all (·.1.isSome) = true := by rfl) (hks : (backToKw pos (keywordEach kws X.env)).filterMap (·.1) = ks := by rfl)
    (hpl : ((backTo pos (starEach [] X.env)).any (·.1) || (backToKw pos (keywordEach kws X.env)).any (·.1.isNone)) = false := by rfl)
    (ht : eval (.Call (.Attribute o m apos) [] kws pos) X.env = (do
      let ov ← eval o X.env
      standAt apos.atName
      let (f, first) ← holding [ov] (getMethod ov m pl)
      callWith pos f first (backTo pos (starEach [] X.env)) (backToKw pos (keywordEach kws X.env))) := by rfl) :
    PE X (.Call (.Attribute o m apos) [] kws pos) (tMethK C m ks.length sp gV E ta tk) := by
  constructor
  intro pins s σ H Q I h
  refine PySem.W.methodCall_KW (pl := pl) (thn (he.run pins s σ H _ I h) fun u s1 hh => ?_) ht
  obtain ⟨y, H1, I1, ry, a, dx, fs, rfl, ea, l, q⟩ := hh
  obtain rfl : u = Value.ref a := ry
  refine getmeth_ok I1 ea c hm l ?_
  refine PySem.W.callWith_KW0 (first := [.ref a]) (h₀ := X.base) I.ok.mod.kin hm.kp hall (thn (hkw.run pos pins s1 σ H1 _ I1 q) fun ws s2 h2 => ?_) hpl
  obtain ⟨zs, H2, I2, rz, lz, q2⟩ := h2
  refine ⟨I2.kIn, ?_⟩
  rw [hks]
  exact run_fnN (us := [.ref a]) (vs := [.ref a]) F hr hb hx I2 (.cons rfl .nil) rz rfl lz q2
/-- C(e, .., *y, ..) -/
theorem pe_makeS2 (M : Mk X.K C f) (F : FnR X.prog X.w X.K X.mg X.base CX k f sp) (hr : Room (k + 1) X.A) (hg : Gl X x) (hm : X.mg x = some (.ref C)) (hx : Passes CX X E) (ha : PA X (e :: es) t) (hdb : (x == ("__debug__" : Str)) = false := by decide)
    (he : starEach (e :: es) X.env = (false, eval e X.env) :: starEach es X.env := by rfl) (hst : (backTo pos (starEach es X.env)).any (·.1) = true := by rfl) : PE X (.Call (.Name x p) (e :: es) [] pos) (StX.tMakeR C sp E t) := by
  constructor
  intro pins s σ H Q I h
  refine wpAny_Call_Name_kw (ld_glob I hg hm ?_ hdb)
  refine PySem.W.callWith_S2 (h₀ := X.base) I.ok.mod.kin M.kp (thn (ha.run pos pins s σ H _ I h) fun us s1 hh => ?_) he hst
  obtain ⟨vs, H1, I1, r, q⟩ := hh
  exact ⟨I1.kIn, StX.run_makeR M F hr hx I1 r q⟩
end
end L2

namespace Gm
open PySem L2
theorem tx_app (a b : List Nat) : tx a ++ tx b = tx (a ++ b) := TL.ext_tl (TL.tl_append _ _)
theorem tx_at {g : List Nat} {i c : Nat} (h : (tx g).cps[i]? = some c) : g[i]? = some c := by simpa using h
theorem tx_size (g : List Nat) : (tx g).cps.size = g.length := by simp
abbrev sOver : Stmt := top 18
abbrev sIsW : Stmt := top 19
abbrev sAreM : Stmt := top 20
abbrev sIsRow : Stmt := top 21
abbrev sChkW : Stmt := top 22
abbrev sChkM : Stmt := top 23
abbrev sChkB : Stmt := top 29
def spOver (K : PySem.W.Frag) : Sp := fun vs H Q _ => ∃ (v : V) (ch : List Nat) (n : Int), vs = [v, .str (tx ch), .int n] ∧
  ((∃ s : List Nat, v = .str (tx s) ∧ s.length ≤ 1000 ∧ ∀ H', Same H H' → Q (.bl (decide ((s.length : Int) = n ∧ ∀ c ∈ s, c ∈ ch))) H') ∨ (∃ t, TyX K H v t ∧ PySem.W.kitOne K t (.type "str") = some false ∧ Q (.bl false) H))
/-- words of the board of l and n -/
def Wd (l : List Nat) (n : Int) (s : List Nat) : Prop := (s.length : Int) = n ∧ ∀ c ∈ s, c ∈ l
def Bd (C : Addr) (H : Hp) (p : Addr) (l : List Nat) (n : Int) : Prop := BoardAt C H p (tx l) n ∧ l.length ≤ 26 ∧ 1 ≤ n ∧ n ≤ 6
theorem Bd.same {C p : Addr} {H H' : Hp} {l : List Nat} {n : Int} (h : Bd C H p l n) (e : Same H H') : Bd C H' p l n := ⟨let ⟨dx, h⟩ := h.1; ⟨dx, e _ _ h⟩, h.2⟩
def spChkW (C : Addr) : Sp := fun vs H Q _ => ∃ (p : Addr) (l s : List Nat) (n : Int), vs = [.ref p, .str (tx s)] ∧ Bd C H p l n ∧ Wd l n s ∧ ∀ H', Same H H' → Q .non H'
def spChkM (C : Addr) : Sp := fun vs H Q _ => ∃ (p : Addr) (l s : List Nat) (n : Int), vs = [.ref p, .str (tx s)] ∧ Bd C H p l n ∧ Wd [48, 49, 50] n s ∧ ∀ H', Same H H' → Q .non H'
def spChkB (C : Addr) : Sp := fun vs H Q _ => ∃ (p : Addr) (l : List Nat) (n : Int), vs = [.ref p] ∧ Bd C H p l n ∧ Q .non H
instance {l : List Nat} {n : Int} {s : List Nat} : Decidable (Wd l n s) := by unfold Wd; infer_instance
/-- is_word, are_marks: ch = none: the board's letters -/
def spIsW (K : PySem.W.Frag) (C : Addr) (ch : Option (List Nat)) : Sp := fun vs H Q _ => ∃ (p : Addr) (l : List Nat) (n : Int) (v : V), vs = [.ref p, v] ∧ Bd C H p l n ∧
  ((∃ s : List Nat, v = .str (tx s) ∧ s.length ≤ 1000 ∧ ∀ H', Same H H' → Q (.bl (decide (Wd (ch.getD l) n s))) H') ∨ (∃ t, TyX K H v t ∧ PySem.W.kitOne K t (.type "str") = some false ∧ Q (.bl false) H))
/-- a row stands at a -/
def RowAt (H : Hp) (a : Addr) (r : List Nat × List Nat) : Prop := H a = some (.tup [.str (tx r.1), .str (tx r.2)])
def RowOk (l : List Nat) (n : Int) (r : List Nat × List Nat) : Prop := Wd l n r.1 ∧ Wd [48, 49, 50] n r.2
def spIsRow (C : Addr) : Sp := fun vs H Q _ => ∃ (p a : Addr) (l : List Nat) (n : Int) (r : List Nat × List Nat), vs = [.ref p, .ref a] ∧ Bd C H p l n ∧ RowAt H a r ∧ RowOk l n r ∧ ∀ H', Same H H' → Q (.bl true) H'
theorem in_tx {c : Nat} {l : List Nat} : decide (c ∈ (tx l).cps.toList) = decide (c ∈ l) := by simp
section
variable {P : Program} {w : World} {K : PySem.W.Frag} {mg : Str → Option Value} {base : Heap}
abbrev nO : List Str := ["value", "characters", "length", "character"]
theorem scOv : FnScope nO ["value", "characters", "length"] (defScope sOver) := ⟨rfl, rfl, rfl, by decide +kernel, rfl, by decide +kernel, by decide +kernel⟩
theorem ok_over {f : Addr} {fd : FuncData} (F : Fun K "is_text_over" "is_text_over" sOver f fd) (T : TxW mg) (mall : mg "all" = none) : FnOk P w K mg base CX0 1 f fd ["value", "characters", "length"] (spOver K) := by
  refine F.ok scOv (fun vs H Q E h => ?_) (fun cdv A outer s H vs Q E hr h => ?_)
  · obtain ⟨v, ch, n, rfl, _⟩ := h
    rfl
  · obtain ⟨v, ch, n, rfl, h⟩ := h
    have nd := scOv.nd
    have hline : sizeLine = 16777216 := sizeLine_eq
    refine ⟨_, pss_cons (ps_if (PW.pt (pw_or (pt_not (pt_val (pe_callB call_isi (by rfl) T.isi (by decide +kernel) (pa_cons (pv 0) (pa_cons (pe_bltn (v := .ty "str") (by rfl) T.str (by decide +kernel) rfl) pa_nil)))))
        (pw_or1 (pt_cmpR op_ne (pe_callB call_len_str (by rfl) T.len PySem.boot_len (pa_cons (pv 0) pa_nil)) (pv 2) (nomark _)))))
        (pss_one (ps_ret pe_bl)) pss_nil)
      (pss_one (ps_ret (pe_callB (cr_all rfl) (by rfl) mall (by decide +kernel) (pa_cons
        (pe_lc (own := [("character", 3)]) (g := gName 3) (by rfl) nd (pi_str (pv 0)) (blkOk_by (own := [("character", 3)]) (N := nO) (sc := defScope sOver) (by decide +kernel))
          (fun _ _ _ _ _ => pg_name (i := 3) nd rfl (Or.inl rfl)) (fun _ _ _ _ _ => pts_nil) (fun _ _ _ _ _ => pe_cmpR op_in_sign (pv 3) (pv 1) rfl)) pa_nil)))), ?_⟩
    rcases h with ⟨z, rfl, hz, q⟩ | ⟨t, ty, no, q⟩
    · have zl : (tx z).length = z.length := tx_len z
      refine ⟨_, rfl, _, _, _, _, _, rfl, .ty "str", .base (.str _), kit_ty (r := true) (by decide +kernel), _, rfl, iteF ?_⟩
      refine ⟨_, rfl, _, rfl, by omega, _, rfl, rfl, _, rfl, ?_⟩
      have ei : decide (V.int ((tx z).length : Nat) = V.int n) = decide ((z.length : Int) = n) := decide_eq_decide.mpr ⟨fun e => by rw [← zl]; exact V.int.inj e, fun e => by rw [zl, e]⟩
      rw [ei]
      refine ite2 (fun h => ?_) (fun h => ?_)
      · have e : decide ((z.length : Int) = n ∧ ∀ c ∈ z, c ∈ ch) = false := decide_eq_false fun a => by rw [decide_eq_true a.1] at h; cases h
        rw [e] at q
        exact q _ (Same.refl H)
      · have hn : (z.length : Int) = n := by
          refine Decidable.byContradiction fun c => h ?_
          rw [decide_eq_false c]
          rfl
        refine ⟨_, rfl, tx z, rfl, fun D hD => ?_⟩
        refine lc_it (walk_str (z := tx z)) (fun i H' => Same H H' ∧ H' D = some (.lst (((z.take i).map fun c => decide (c ∈ ch)).map V.bl))) ⟨same_upd hD, upd_same⟩ (fun _ _ _ _ => trivial) ?_ ?_
        · rintro i x H1 H2 hi ⟨sm, hDi⟩ ⟨rfl, c, hc, rfl⟩
          have hc' := tx_at hc
          have hi' : i < z.length := (List.getElem?_eq_some_iff.mp hc').1
          refine ⟨rfl, ⟨_, rfl, _, rfl, c, tx ch, rfl, rfl, _, hDi, ?_, fun b o q => ?_, ?_⟩⟩
          · rw [List.length_map, List.length_map, List.length_take]
            omega
          · rw [upd_ne (ne_of_none q hD)]
            exact sm b o q
          · have e2 : z.take (i + 1) = z.take i ++ [c] := by rw [List.take_succ_eq_append_getElem hi', (List.getElem?_eq_some_iff.mp hc').2]
            rw [upd_same, e2, List.map_append, List.map_append, in_tx]
            rfl
        · rintro H1 ⟨sm, hD1⟩
          refine ⟨D, _, rfl, SqL.of hD1, ?_⟩
          have e : decide ((z.length : Int) = n ∧ ∀ c ∈ z, c ∈ ch) = ((z.take (tx z).cps.size).map fun c => decide (c ∈ ch)).all id := by
            rw [tx_size, List.take_length, List.all_map]
            have : (List.all z (id ∘ fun c => decide (c ∈ ch))) = decide (∀ c ∈ z, c ∈ ch) := by
              rw [Bool.eq_iff_iff, List.all_eq_true, decide_eq_true_iff]
              exact ⟨fun h c hc => of_decide_eq_true (h c hc), fun h c hc => decide_eq_true (h c hc)⟩
            rw [this]
            exact decide_eq_decide.mpr ⟨fun a => a.2, fun a => ⟨hn, a⟩⟩
          rw [e] at q
          exact q _ sm
    · exact ⟨_, rfl, _, _, _, _, _, rfl, .ty "str", ty, no, _, rfl, iteT q⟩
theorem scIW : FnScope ["board", "value"] ["board", "value"] (defScope sIsW) := ⟨rfl, rfl, rfl, by decide +kernel, rfl, by decide +kernel, by decide +kernel⟩
theorem ok_isW {f C fO : Addr} {fd fdO : FuncData} (F : Fun K "is_word" "is_word" sIsW f fd) (TC : TxC K mg C) (GO : FnOk P w K mg base CX0 1 fO fdO ["value", "characters", "length"] (spOver K)) (DO : Df K mg "is_text_over" fO fdO ["value", "characters", "length"]) :
    FnOk P w K mg base CX0 2 f fd ["board", "value"] (spIsW K C none) := by
  refine F.ok scIW (fun vs H Q E h => ?_) (fun cdv A outer s H vs Q E hr h => ?_)
  · obtain ⟨p, l, n, v, rfl, _⟩ := h
    rfl
  · obtain ⟨p, l, n, v, rfl, ⟨⟨dx, hp⟩, l26, n1, n6⟩, h⟩ := h
    refine ⟨_, pss_one (ps_ret (pe_call GO hr (by rfl) DO.mg DO.kp DO.b .nil pass0 (pa_cons (pv 1) (pa_cons (pe_fld (pv 0) rfl) (pa_cons (pe_fld (pv 0) rfl) pa_nil))))), ?_⟩
    refine ⟨_, rfl, _, rfl, p, C, dx, _, _, rfl, hp, TC.cl, TC.nL, bf_letters _ _, _, rfl, p, C, dx, _, _, rfl, hp, TC.cl, TC.nN, bf_length _ _, _, _, _, rfl, ?_⟩
    exact h
theorem scAM : FnScope ["board", "value"] ["board", "value"] (defScope sAreM) := ⟨rfl, rfl, rfl, by decide +kernel, rfl, by decide +kernel, by decide +kernel⟩
theorem ok_areM {f C fO : Addr} {fd fdO : FuncData} (F : Fun K "are_marks" "are_marks" sAreM f fd) (TC : TxC K mg C) (tM : ∃ t, mg "MARKS" = some (.str (tx [48, 49, 50]) t)) (GO : FnOk P w K mg base CX0 1 fO fdO ["value", "characters", "length"] (spOver K)) (DO : Df K mg "is_text_over" fO fdO ["value", "characters", "length"]) :
    FnOk P w K mg base CX0 2 f fd ["board", "value"] (spIsW K C (some [48, 49, 50])) := by
  refine F.ok scAM (fun vs H Q E h => ?_) (fun cdv A outer s H vs Q E hr h => ?_)
  · obtain ⟨p, l, n, v, rfl, _⟩ := h
    rfl
  · obtain ⟨p, l, n, v, rfl, ⟨⟨dx, hp⟩, l26, n1, n6⟩, h⟩ := h
    obtain ⟨tm, mgM⟩ := tM
    refine ⟨_, pss_one (ps_ret (pe_call GO hr (by rfl) DO.mg DO.kp DO.b .nil pass0 (pa_cons (pv 1) (pa_cons (pe_glob (v := .str (tx [48, 49, 50])) (by rfl) mgM ⟨_, rfl⟩) (pa_cons (pe_fld (pv 0) rfl) pa_nil))))), ?_⟩
    refine ⟨_, rfl, _, rfl, p, C, dx, _, _, rfl, hp, TC.cl, TC.nN, bf_length _ _, _, _, _, rfl, ?_⟩
    exact h
theorem scIR : FnScope ["board", "value"] ["board", "value"] (defScope sIsRow) := ⟨rfl, rfl, rfl, by decide +kernel, rfl, by decide +kernel, by decide +kernel⟩
theorem ok_isRow {f C fW fM : Addr} {fd fdW fdM : FuncData} (F : Fun K "is_row" "is_row" sIsRow f fd) (T : TxW mg) (tt : mg "tuple" = none) (GW : FnOk P w K mg base CX0 2 fW fdW ["board", "value"] (spIsW K C none)) (DW : Df K mg "is_word" fW fdW ["board", "value"])
    (GM : FnOk P w K mg base CX0 2 fM fdM ["board", "value"] (spIsW K C (some [48, 49, 50]))) (DM : Df K mg "are_marks" fM fdM ["board", "value"]) : FnOk P w K mg base CX0 3 f fd ["board", "value"] (spIsRow C) := by
  refine F.ok scIR (fun vs H Q E h => ?_) (fun cdv A outer s H vs Q E hr h => ?_)
  · obtain ⟨p, a, l, n, r, rfl, _⟩ := h
    rfl
  · obtain ⟨p, a, l, n, r, rfl, hb, ha, ok, q⟩ := h
    have n6 := hb.2.2.2
    have l1 := ok.1.1
    have l2 := ok.2.1
    refine ⟨_, pss_cons (ps_if (PW.pt (pw_or (pt_not (pt_val (pe_callB call_isi (by rfl) T.isi (by decide +kernel) (pa_cons (pv 1) (pa_cons (pe_bltn (v := .ty "tuple") (by rfl) tt (by decide +kernel) rfl) pa_nil)))))
        (pw_or1 (pt_cmpR op_ne (pe_callB call_len_seq (by rfl) T.len PySem.boot_len (pa_cons (pv 1) pa_nil)) pe_int (nomark _))))) (pss_one (ps_ret pe_bl)) pss_nil)
      (pss_one (ps_ret (pe_and (pe_call GW hr (by rfl) DW.mg DW.kp DW.b .nil pass0 (pa_cons (pv 0) (pa_cons (pe_ix ix_tup (pv 1) pe_int (fun _ _ => rfl)) pa_nil)))
        (pe_one (pe_call GM hr (by rfl) DM.mg DM.kp DM.b .nil pass0 (pa_cons (pv 0) (pa_cons (pe_ix ix_tup (pv 1) pe_int (fun _ _ => rfl)) pa_nil))))))), ?_⟩
    refine ⟨_, rfl, _, _, _, _, _, rfl, .ty "tuple", .base (.tup ha), kit_ty (r := true) (by decide +kernel), _, rfl, iteF ?_⟩
    refine ⟨_, rfl, a, _, rfl, .inr (SqT.of ha), rfl, _, rfl, iteF ?_⟩
    refine ⟨_, rfl, _, rfl, a, _, _, _, rfl, rfl, SqT.of ha, rfl, p, l, n, _, rfl, hb, .inl ⟨r.1, rfl, by omega, fun H1 s1 => ⟨_, rfl, ?_⟩⟩⟩
    rw [decide_eq_true (show Wd ((none : Option (List Nat)).getD l) n r.1 from ok.1)]
    refine iteT ⟨_, rfl, _, rfl, a, _, _, _, rfl, rfl, SqT.of (s1 _ _ ha), rfl, p, l, n, _, rfl, hb.same s1, .inl ⟨r.2, rfl, by omega, fun H2 s2 => ?_⟩⟩
    rw [decide_eq_true (show Wd ((some [48, 49, 50] : Option (List Nat)).getD l) n r.2 from ok.2)]
    exact q H2 fun b o e => s2 _ _ (s1 _ _ e)
theorem scCW : FnScope ["board", "word"] ["board", "word"] (defScope sChkW) := ⟨rfl, rfl, rfl, by decide +kernel, rfl, by decide +kernel, by decide +kernel⟩
theorem ok_chkW {f C fO : Addr} {fd fdO : FuncData} (F : Fun K "check_word" "check_word" sChkW f fd) (GO : FnOk P w K mg base CX0 2 fO fdO ["board", "value"] (spIsW K C none)) (DO : Df K mg "is_word" fO fdO ["board", "value"]) :
    FnOk P w K mg base CX0 3 f fd ["board", "word"] (spChkW C) := by
  refine F.ok scCW (fun vs H Q E h => ?_) (fun cdv A outer s H vs Q E hr h => ?_)
  · obtain ⟨p, l, s, n, rfl, _⟩ := h
    rfl
  · obtain ⟨p, l, z, n, rfl, hb, hw, q⟩ := h
    have n6 := hb.2.2.2
    refine ⟨_, pss_one (ps_if (pt_not (pt_val (pe_call GO hr (by rfl) DO.mg DO.kp DO.b .nil pass0 (pa_cons (pv 0) (pa_cons (pv 1) pa_nil))))) (pss_one ps_never) pss_nil), ?_⟩
    refine ⟨_, rfl, _, rfl, p, l, n, _, rfl, hb, .inl ⟨z, rfl, by have := hw.1; omega, fun H1 s1 => ⟨_, rfl, ?_⟩⟩⟩
    rw [decide_eq_true (show Wd ((none : Option (List Nat)).getD l) n z from hw)]
    exact iteF (q H1 s1)
theorem scCM : FnScope ["board", "told"] ["board", "told"] (defScope sChkM) := ⟨rfl, rfl, rfl, by decide +kernel, rfl, by decide +kernel, by decide +kernel⟩
theorem ok_chkM {f C fO : Addr} {fd fdO : FuncData} (F : Fun K "check_marks" "check_marks" sChkM f fd) (GO : FnOk P w K mg base CX0 2 fO fdO ["board", "value"] (spIsW K C (some [48, 49, 50]))) (DO : Df K mg "are_marks" fO fdO ["board", "value"]) :
    FnOk P w K mg base CX0 3 f fd ["board", "told"] (spChkM C) := by
  refine F.ok scCM (fun vs H Q E h => ?_) (fun cdv A outer s H vs Q E hr h => ?_)
  · obtain ⟨p, l, s, n, rfl, _⟩ := h
    rfl
  · obtain ⟨p, l, z, n, rfl, hb, hw, q⟩ := h
    have n6 := hb.2.2.2
    refine ⟨_, pss_one (ps_if (pt_not (pt_val (pe_call GO hr (by rfl) DO.mg DO.kp DO.b .nil pass0 (pa_cons (pv 0) (pa_cons (pv 1) pa_nil))))) (pss_one ps_never) pss_nil), ?_⟩
    refine ⟨_, rfl, _, rfl, p, l, n, _, rfl, hb, .inl ⟨z, rfl, by have := hw.1; omega, fun H1 s1 => ⟨_, rfl, ?_⟩⟩⟩
    rw [decide_eq_true (show Wd ((some [48, 49, 50] : Option (List Nat)).getD l) n z from hw)]
    exact iteF (q H1 s1)
theorem scCB : FnScope ["board"] ["board"] (defScope sChkB) := ⟨rfl, rfl, rfl, by decide +kernel, rfl, by decide +kernel, by decide +kernel⟩
theorem ok_chkB {f C : Addr} {fd : FuncData} (F : Fun K "check_board" "check_board" sChkB f fd) (T : TxW mg) (TC : TxC K mg C) : FnOk P w K mg base CX0 1 f fd ["board"] (spChkB C) := by
  refine F.ok scCB (fun vs H Q E h => ?_) (fun cdv A outer s H vs Q E hr h => ?_)
  · obtain ⟨p, l, n, rfl, _⟩ := h
    rfl
  · obtain ⟨p, l, n, rfl, ⟨⟨dx, hp⟩, l26, n1, n6⟩, q⟩ := h
    refine ⟨_, pss_one (ps_if (pt_not (pt_val (pe_callB call_isi (by rfl) T.isi (by decide +kernel) (pa_cons (pv 0) (pa_cons (pe_glob (v := .ref C) (by rfl) TC.mgC rfl) pa_nil))))) (pss_one ps_never) pss_nil), ?_⟩
    exact ⟨_, rfl, _, _, _, _, _, rfl, .own C, ty_board TC hp, TC.own, _, rfl, iteF q⟩
end
end Gm

namespace Gm
open PySem L2
abbrev sChkR : Stmt := top 34
abbrev sHInit : Stmt := inClass (top 33) 0
abbrev sThen : Stmt := inClass (top 33) 1
abbrev sFits : Stmt := inClass (top 33) 3
abbrev Row := List Nat × List Nat
inductive Rws (H : Hp) : List V → List Row → Prop
  | nil : Rws H [] []
  | cons {a : Addr} {r : Row} {vs : List V} {rs : List Row} : RowAt H a r → Rws H vs rs → Rws H (.ref a :: vs) (r :: rs)
theorem Rws.same {H H' : Hp} {vs : List V} {rs : List Row} (h : Rws H vs rs) (s : Same H H') : Rws H' vs rs := by
  induction h with
  | nil => exact .nil
  | cons a _ ih => exact .cons (s _ _ a) ih
theorem Rws.len {H : Hp} {vs : List V} {rs : List Row} (h : Rws H vs rs) : vs.length = rs.length := by
  induction h with
  | nil => rfl
  | cons _ _ ih => rw [List.length_cons, List.length_cons, ih]
theorem Rws.get {H : Hp} {vs : List V} {rs : List Row} (h : Rws H vs rs) : ∀ {i : Nat} {x : V}, vs[i]? = some x → ∃ a r, x = .ref a ∧ rs[i]? = some r ∧ RowAt H a r := by
  induction h with
  | nil =>
    intro i x e
    cases e
  | @cons a r vs rs ha _ ih =>
    intro i x e
    cases i with
    | zero =>
      cases e
      exact ⟨a, r, rfl, rfl, ha⟩
    | succ i => exact ih (by simpa using e)
theorem Rws.app {H : Hp} {vs ws : List V} {rs qs : List Row} (h : Rws H vs rs) (k : Rws H ws qs) : Rws H (vs ++ ws) (rs ++ qs) := by
  induction h with
  | nil => exact k
  | cons a _ ih => exact .cons a ih
def RowsAt (H : Hp) (r : Addr) (rows : List Row) : Prop := ∃ vs, H r = some (.tup vs) ∧ Rws H vs rows
theorem RowsAt.same {H H' : Hp} {r : Addr} {rows : List Row} (h : RowsAt H r rows) (s : Same H H') : RowsAt H' r rows := let ⟨vs, e, k⟩ := h; ⟨vs, s _ _ e, k.same s⟩
def RowsOk (l : List Nat) (n : Int) (rows : List Row) : Prop := (∀ r ∈ rows, RowOk l n r) ∧ rows.length ≤ 20
def histF (b r : Addr) : List (Str × V) := putF "rows" (.ref r) (putF "board" (.ref b) [])
theorem hf_eq (b r : Addr) : histF b r = ([("board", V.ref b), ("rows", V.ref r)] : List (Str × V)) := by
  have h1 : ¬ (("board" : Str) = "rows") := by decide +kernel
  unfold histF
  simp only [putF]
  rw [if_neg h1]
theorem hf_board (b r : Addr) : (histF b r).lookup ("board" : Str) = some (.ref b) := by rw [hf_eq]; rfl
theorem hf_rows (b r : Addr) : (histF b r).lookup ("rows" : Str) = some (.ref r) := by
  have h1 : (("rows" : Str) == "board") = false := by decide +kernel
  rw [hf_eq, List.lookup_cons, h1]
  rfl
theorem hf_none (b r : Addr) {x : Str} (h1 : (x == ("board" : Str)) = false) (h2 : (x == ("rows" : Str)) = false) : (histF b r).lookup x = none := by
  rw [hf_eq, List.lookup_cons, h1, List.lookup_cons, h2]
  rfl
/-- a history stands at p -/
def HistAt (C CH : Addr) (H : Hp) (p : Addr) (l : List Nat) (n : Int) (rows : List Row) : Prop := ∃ dx b r, H p = some (.ins CH dx (histF b r)) ∧ Bd C H b l n ∧ RowsAt H r rows ∧ RowsOk l n rows
theorem HistAt.same {C CH p : Addr} {H H' : Hp} {l : List Nat} {n : Int} {rows : List Row} (h : HistAt C CH H p l n rows) (s : Same H H') : HistAt C CH H' p l n rows := by
  obtain ⟨dx, b, r, e, hb, hr, ok⟩ := h
  exact ⟨dx, b, r, s _ _ e, hb.same s, hr.same s, ok⟩
structure TxH (K : PySem.W.Frag) (mg : Str → Option Value) (CH : Addr) : Prop where
  cl : Cls K CH
  mgC : mg "History" = some (.ref CH)
  nB : NoAttr K CH "board"
  nR : NoAttr K CH "rows"
def spChkR (C : Addr) : Sp := fun vs H Q _ => ∃ (p r : Addr) (l : List Nat) (n : Int) (rows : List Row), vs = [.ref p, .ref r] ∧ Bd C H p l n ∧ RowsAt H r rows ∧ RowsOk l n rows ∧ ∀ H', Same H H' → Q .non H'
def spHInit (C CH : Addr) : Sp := fun vs H Q _ => ∃ (p dx b r : Addr) (l : List Nat) (n : Int) (rows : List Row), vs = [.ref p, .ref b, .ref r] ∧ H p = some (.ins CH dx []) ∧ Bd C H b l n ∧ RowsAt H r rows ∧ RowsOk l n rows ∧
  ∀ H' dx', But p H H' → H' p = some (.ins CH dx' (histF b r)) → Q .non H'
def spHInitR (C CH : Addr) : Sp := fun vs H Q E => ∃ ws rest, vs = ws ++ rest ∧ ws.length = (["self", "board"] : List Str).length ∧ rest.length ≤ sizeLine ∧ ∀ p, H p = none → spHInit C CH (ws ++ [V.ref p]) (upd H p (.tup rest)) Q E
def spThen (C CH : Addr) : Sp := fun vs H Q _ => ∃ (p : Addr) (l g t : List Nat) (n : Int) (rows : List Row), vs = [.ref p, .str (tx g), .str (tx t)] ∧ HistAt C CH H p l n rows ∧ RowOk l n (g, t) ∧ rows.length < 20 ∧
  ∀ H' q, Same H H' → H q = none → HistAt C CH H' q l n (rows ++ [(g, t)]) → Q (.ref q) H'
def fitsB (rows : List Row) (w : List Nat) : Bool := rows.all fun r => decide (mk r.1 w = r.2)
def spFits (C CH : Addr) : Sp := fun vs H Q _ => ∃ (p : Addr) (l w : List Nat) (n : Int) (rows : List Row), vs = [.ref p, .str (tx w)] ∧ HistAt C CH H p l n rows ∧ Wd l n w ∧ ∀ H', Same H H' → Q (.bl (fitsB rows w)) H'
theorem sm_tr {A B D : Hp} (x : Same A B) (y : Same B D) : Same A D := fun b o e => y _ _ (x _ _ e)
section
variable {P : Program} {w : World} {K : PySem.W.Frag} {mg : Str → Option Value} {base : Heap}
abbrev nCR : List Str := ["board", "rows", "index", "row"]
theorem scCR : FnScope nCR ["board", "rows"] (defScope sChkR) := ⟨rfl, rfl, rfl, by decide +kernel, rfl, by decide +kernel, by decide +kernel⟩
theorem ok_chkR {f C fR : Addr} {fd fdR : FuncData} (F : Fun K "check_rows" "check_rows" sChkR f fd) (tl : mg "len" = none) (te : mg "enumerate" = none) (tm : ∃ t, mg "MOST_ROWS" = some (.int 20 t)) (GR : FnOk P w K mg base CX0 3 fR fdR ["board", "value"] (spIsRow C)) (DR : Df K mg "is_row" fR fdR ["board", "value"]) :
    FnOk P w K mg base CX0 4 f fd ["board", "rows"] (spChkR C) := by
  refine F.ok scCR (fun vs H Q E h => ?_) (fun cdv A outer s H vs Q E hr h => ?_)
  · obtain ⟨p, r, l, n, rows, rfl, _⟩ := h
    rfl
  · obtain ⟨p, r, l, n, rows, rfl, hb, ⟨vs, hv, hw⟩, ok, q⟩ := h
    have nd := scCR.nd
    obtain ⟨t20, m20⟩ := tm
    refine ⟨_, pss_cons (ps_if (pt_cmpR op_gt (pe_callB call_len_seq (by rfl) tl PySem.boot_len (pa_cons (pv 1) pa_nil)) (pe_glob (v := .int 20) (by rfl) m20 ⟨_, rfl⟩) (nomark _)) (pss_one ps_never) pss_nil)
      (pss_one (ps_for PassesOwn.never rfl (pi_enumT (by rfl) te (pa_cons (pv 1) pa_nil)) (pg_tup (by rfl) (pgs_cons (pg_name (i := 2) nd rfl (Or.inl rfl)) (pgs_cons (pg_name (i := 3) nd rfl (Or.inl rfl)) pgs_nil)))
        (pss_one (ps_if (pt_not (pt_val (pe_call GR hr (by rfl) DR.mg DR.kp DR.b .nil pass0 (pa_cons (pv 0) (pa_cons (pv 3) pa_nil))))) (pss_one ps_never) pss_nil)))), ?_⟩
    have hl := hw.len
    refine ⟨_, rfl, r, _, rfl, .inr (SqT.of hv), _, _, rfl, rfl, _, rfl, ?_⟩
    rw [decide_eq_false (show ¬ ((vs.length : Nat) : Int) > 20 from by have := ok.2; omega)]
    refine iteF ⟨_, rfl, r, vs, rfl, SqT.of hv, for_it walk_iten (fun i σ H' => (∃ v2 v3 : Option V, σ = [some (.ref p), some (.ref r), v2, v3]) ∧ Same H H') ⟨⟨_, _, rfl⟩, Same.refl H⟩ (fun i σ H' _ ⟨_, sm⟩ => SqT.of (sm _ _ hv)) ?_ ?_⟩
    · rintro i x σ H1 H2 hi ⟨⟨v2, v3, rfl⟩, sm⟩ ⟨T, y, rfl, hT, rfl, hy⟩
      obtain ⟨a, rw_, rfl, hrow, ha⟩ := hw.get hy
      have sm2 : Same H (upd H1 T (.tup [.int (i : Nat), .ref a])) := sm_tr sm (same_upd hT)
      refine ⟨T, _, rfl, SqT.of upd_same, rfl, _, _, rfl, _, _, rfl, rfl, ?_⟩
      refine ⟨_, rfl, _, rfl, p, a, l, n, rw_, rfl, hb.same sm2, sm2 _ _ ha, ok.1 _ (List.mem_of_getElem? hrow), fun H3 s3 => ⟨_, rfl, iteF ⟨⟨_, _, rfl⟩, sm_tr sm2 s3⟩⟩⟩
    · rintro σ H1 ⟨_, sm⟩
      exact q _ sm
abbrev nHI : List Str := ["self", "board", "rows"]
theorem scHI : FnScope nHI ((["self", "board"] : List Str) ++ (["rows"] : List Str)) (defScope sHInit) := ⟨rfl, rfl, rfl, by decide +kernel, rfl, by decide +kernel, by decide +kernel⟩
theorem ok_hinit {f C CH fB fR : Addr} {fd fdB fdR : FuncData} (F : Fun K "__init__" "History.__init__" sHInit f fd) (TH : TxH K mg CH) (GB : FnOk P w K mg base CX0 1 fB fdB ["board"] (spChkB C)) (DB : Df K mg "check_board" fB fdB ["board"])
    (GR : FnOk P w K mg base CX0 4 fR fdR ["board", "rows"] (spChkR C)) (DR : Df K mg "check_rows" fR fdR ["board", "rows"]) : FnR P w K mg base CX0 5 f (spHInitR C CH) := by
  obtain ⟨oc, od, kV, doc, pm, an, cdv, ct, osl, rfl, lk, hcd⟩ := F.ex
  refine StX.fn_star (ps := ["self", "board"]) (pv := "rows") (k := 4) lk hcd scHI StX.cxUp_none (StX.bind_star2 (B := fun us => bindArgs (PySem.W.fnOf "__init__" "History.__init__" (defArgs sHInit) (defBody sHInit) (defScope sHInit) .none kV doc pm an cdv ct) ⟨us, []⟩) (p1 := "self") (p2 := "board") (pv := "rows") (fun a b => rfl) (fun a b r rs => rfl)) fun A outer s H vs Q E hr h => ?_
  obtain ⟨p, dx, b, r, l, n, rows, rfl, hp, hb, hrw, ok, q⟩ := h
  have hr1 : Room 1 _ := hr.mono (by decide)
  have body : ∃ t, PSs (cxOf CX0 P w K mg base nHI "History.__init__" (defScope sHInit) f cdv A outer s H E).nox (defBody sHInit) t ∧ t { nx := fun _ H' => Q .non H', rt := Q } (L2.start nHI [V.ref p, V.ref b, V.ref r]) H := by
    refine ⟨_, pss_cons (ps_expr (pe_call GB hr1 (by rfl) DB.mg DB.kp DB.b .nil pass0 (pa_cons (pv 1) pa_nil))) (pss_cons (ps_expr (pe_call GR hr (by rfl) DR.mg DR.kp DR.b .nil pass0 (pa_cons (pv 1) (pa_cons (pv 2) pa_nil))))
      (pss_cons (ps_fld (pv 0) (pv 1) rfl) (pss_one (ps_fld (pv 0) (pv 2) rfl)))), ?_⟩
    refine ⟨_, rfl, b, l, n, rfl, hb, _, rfl, _, rfl, b, r, l, n, rows, rfl, hb, hrw, ok, fun H1 s1 => ?_⟩
    refine ⟨_, rfl, _, rfl, p, CH, dx, _, rfl, s1 _ _ hp, TH.cl, TH.nB, by show 0 < 1000; decide, ?_⟩
    refine ⟨_, rfl, _, rfl, p, CH, dx, _, rfl, upd_same, TH.cl, TH.nR, by show 1 < 1000; decide, ?_⟩
    exact q _ dx ((But.of s1).trans (But.upd.trans But.upd)) upd_same
  obtain ⟨t, ht, hq⟩ := body
  exact ⟨t, ht.nox, hq⟩
end
end Gm

namespace Gm
open PySem L2
theorem made_same2 {H H' : Hp} {x dx C : Addr} (hx : H x = none) (hd : H dx = none) (b : But x (upd (upd H dx (.own x)) x (.ins C dx [])) H') : Same H H' := fun a o e => by
  have n1 : a ≠ x := ne_of_none e hx
  exact b a o n1 (by rw [upd_ne n1, upd_ne (ne_of_none e hd)]; exact e)
/-- History(..) of a board and rows that stand -/
theorem hist_made {C CH b : Addr} {H : Hp} {l : List Nat} {n : Int} {vs : List V} {rows : List Row} {Q : Addr → Hp → Prop} (hb : Bd C H b l n) (hv : Rws H vs rows) (ok : RowsOk l n rows) (k : ∀ H' x, Same H H' → H x = none → HistAt C CH H' x l n rows → Q x H') :
    ∀ x dx, H x = none → H dx = none → dx ≠ x → spHInitR C CH (.ref x :: .ref b :: vs) (upd (upd H dx (.own x)) x (.ins CH dx [])) (fun v H2 => v = .non ∧ Q x H2) E0 := by
  intro x dx nx nd ne
  have sm : Same H (upd (upd H dx (.own x)) x (.ins CH dx [])) := fun c o e => by rw [upd_ne (ne_of_none e nx), upd_ne (ne_of_none e nd)]; exact e
  refine ⟨[.ref x, .ref b], vs, rfl, rfl, ?_, fun r zr => ?_⟩
  · rw [hv.len, sizeLine_eq]
    have := ok.2
    omega
  · have nrx : x ≠ r := ne_of_none upd_same zr
    have sr := same_upd (o := .tup vs) zr
    refine ⟨x, dx, b, r, l, n, rows, rfl, (upd_ne nrx).trans upd_same, (hb.same sm).same sr, ⟨vs, upd_same, (hv.same sm).same sr⟩, ok, fun H' dx' bt e => ⟨rfl, ?_⟩⟩
    have keep : ∀ c o, c ≠ x → upd (upd (upd H dx (.own x)) x (.ins CH dx [])) r (.tup vs) c = some o → H' c = some o := fun c o n e => bt c o n e
    have sm' : Same H H' := fun c o e => keep c o (ne_of_none e nx) (sr _ _ (sm _ _ e))
    exact k H' x sm' nx ⟨dx', b, r, e, hb.same sm', ⟨vs, keep r _ nrx.symm upd_same, hv.same sm'⟩, ok⟩
section
variable {P : Program} {w : World} {K : PySem.W.Frag} {mg : Str → Option Value} {base : Heap}
abbrev nTh : List Str := ["self", "guess", "told"]
theorem scTh : FnScope nTh ["self", "guess", "told"] (defScope sThen) := ⟨rfl, rfl, rfl, by decide +kernel, rfl, by decide +kernel, by decide +kernel⟩
theorem ok_then {f C CH fW fM fI : Addr} {fd fdW fdM : FuncData} (F : Fun K "then" "History.then" sThen f fd) (TH : TxH K mg CH) (tl : mg "len" = none) (tm : ∃ t, mg "MOST_ROWS" = some (.int 20 t))
    (GW : FnOk P w K mg base CX0 3 fW fdW ["board", "word"] (spChkW C)) (DW : Df K mg "check_word" fW fdW ["board", "word"]) (GM : FnOk P w K mg base CX0 3 fM fdM ["board", "told"] (spChkM C)) (DM : Df K mg "check_marks" fM fdM ["board", "told"])
    (GI : FnR P w K mg base CX0 5 fI (spHInitR C CH)) (M : Mk K CH fI) : FnOk P w K mg base CX0 7 f fd ["self", "guess", "told"] (spThen C CH) := by
  refine F.ok scTh (fun vs H Q E h => ?_) (fun cdv A outer s H vs Q E hr h => ?_)
  · obtain ⟨p, l, g, t, n, rows, rfl, _⟩ := h
    rfl
  · obtain ⟨p, l, g, t, n, rows, rfl, ⟨dx, b, r, hp, hb, ⟨vs, hv, hw⟩, ok⟩, rok, lt, q⟩ := h
    have nd := scTh.nd
    obtain ⟨t20, m20⟩ := tm
    have hr3 : Room 3 _ := hr.mono (by decide)
    refine ⟨_, pss_cons (ps_expr (pe_call GW hr3 (by rfl) DW.mg DW.kp DW.b .nil pass0 (pa_cons (pe_fld (pv 0) rfl) (pa_cons (pv 1) pa_nil))))
      (pss_cons (ps_expr (pe_call GM hr3 (by rfl) DM.mg DM.kp DM.b .nil pass0 (pa_cons (pe_fld (pv 0) rfl) (pa_cons (pv 2) pa_nil))))
      (pss_cons (ps_if (pt_cmpR op_eq (pe_callB call_len_seq (by rfl) tl PySem.boot_len (pa_cons (pe_fld (pv 0) rfl) pa_nil)) (pe_glob (v := .int 20) (by rfl) m20 ⟨_, rfl⟩) (nomark _)) (pss_one ps_never) pss_nil)
      (pss_one (ps_ret (pe_makeS2 M GI hr (by rfl) TH.mgC pass0 (pa_cons (pe_fld (pv 0) rfl) (StX.pa_star (pe_fld (pv 0) rfl) (pa_cons (pe_tup (pa_cons (pv 1) (pa_cons (pv 2) pa_nil))) pa_nil)))))))), ?_⟩
    have hl := hw.len
    refine ⟨_, rfl, p, CH, dx, _, _, rfl, hp, TH.cl, TH.nB, hf_board b r, _, rfl, b, l, g, n, rfl, hb, rok.1, fun H1 s1 => ?_⟩
    have hp1 := s1 _ _ hp
    refine ⟨_, rfl, p, CH, dx, _, _, rfl, hp1, TH.cl, TH.nB, hf_board b r, _, rfl, b, l, t, n, rfl, hb.same s1, rok.2, fun H2 s2 => ?_⟩
    have hp2 := s2 _ _ hp1
    have s02 := sm_tr s1 s2
    have hv2 := s02 _ _ hv
    refine ⟨_, rfl, p, CH, dx, _, _, rfl, hp2, TH.cl, TH.nR, hf_rows b r, r, _, rfl, .inr (SqT.of hv2), rfl, _, rfl, ?_⟩
    rw [decide_eq_false (show ¬ V.int ((vs.length : Nat) : Int) = V.int 20 from fun e => by have := V.int.inj e; omega)]
    refine iteF ?_
    refine ⟨_, rfl, p, CH, dx, _, _, rfl, hp2, TH.cl, TH.nB, hf_board b r, ?_⟩
    refine ⟨_, rfl, p, CH, dx, _, _, rfl, hp2, TH.cl, TH.nR, hf_rows b r, r, vs, rfl, .inl (SqT.of hv2), ?_⟩
    refine ⟨_, rfl, _, rfl, by show 2 ≤ sizeLine; decide, fun T zT => ?_⟩
    have s3 := sm_tr s02 (same_upd (o := .tup [.str (tx g), .str (tx t)]) zT)
    refine hist_made (hb.same s3) ((hw.same s3).app (.cons (r := (g, t)) upd_same .nil)) ⟨fun x hx => ?_, by rw [List.length_append]; show rows.length + 1 ≤ 20; omega⟩ fun H' x s4 nx hh => q H' x (sm_tr s3 s4) (s3.free nx) hh
    rcases List.mem_append.mp hx with hx | hx
    · exact ok.1 x hx
    · rw [List.mem_singleton.mp hx]
      exact rok
end
end Gm

/-! defs that are called where nothing is being shown, so that they may ask for the repr of lists -/
namespace L2
open PySem PySem.Spec PyProof.Rows
/-- FnOk for calls where no repr is under way -/
structure FnG (P : Program) (w : World) (K : PySem.W.Frag) (mg : Str → Option Value) (base : Heap) (CX : CXT) (k : Nat) (f : Addr) (fd : FuncData) (ps : List Str) (sp : Sp) : Prop where
  many : ∀ {vs H Q E}, sp vs H Q E → vs.length = ps.length
  goes : ∀ {A : Around} {outer : List Env} {s : Shared} {H : Hp} {args : Args} {us : List Value} {vs : List V} {Q : VK} {E : XK}, A.guards = some [] → Room k A → Env0 P w K mg base A outer s H →
    BindsTo s fd args (ps.zip us) → Vals vs us → sp vs H Q E → codeAny (model P w) A (.call (.ref f) args) (CR CX outer P w H s Q E) s
theorem FnOk.toG {P : Program} {w : World} {K : PySem.W.Frag} {mg : Str → Option Value} {base : Heap} {CX : CXT} {k : Nat} {f : Addr} {fd : FuncData} {ps : List Str} {sp : Sp} (F : FnOk P w K mg base CX k f fd ps sp) : FnG P w K mg base CX k f fd ps sp :=
  ⟨fun h => F.len _ _ _ _ h, fun _ hr e b r h => F.run _ _ _ _ _ _ _ _ _ hr e b r h⟩
theorem Fun.okG {P : Program} {w : World} {K : PySem.W.Frag} {mg : Str → Option Value} {base : Heap} {x qual : Str} {st : Stmt} {f : Addr} {fd : FuncData} {N ps : List Str} {k : Nat} {sp : Sp} (F : Fun K x qual st f fd) (S : FnScope N ps (defScope st))
    (many : ∀ vs H Q E, sp vs H Q E → vs.length = ps.length)
    (body : ∀ (cdv : Value) (A : Around) (outer : List Env) (s : Shared) (H : Hp) (vs : List V) (Q : VK) (E : XK), A.guards = some [] → Room k (A.deeper (envOfC qual (defScope st) s.heap.objs.size f cdv)) → sp vs H Q E →
      ∃ t, PSs (cxOf CX0 P w K mg base N qual (defScope st) f cdv A outer s H E).nox (defBody st) t ∧ t { nx := fun _ H' => Q .non H', rt := Q } (start N vs) H) : FnG P w K mg base CX0 (k + 1) f fd ps sp := by
  obtain ⟨oc, od, kV, doc, pm, an, cdv, ct, osl, rfl, lk, hcd⟩ := F.ex
  refine ⟨fun h => many _ _ _ _ h, fun {A outer s H args us vs Q E} g hr e b r h => ?_⟩
  refine LamX.run_ofS lk hcd S hr e b r (many _ _ _ _ h) fun hr' => ?_
  obtain ⟨t, ht, q⟩ := body cdv A outer s H vs Q E g hr' h
  exact ⟨t, ht.nox, q⟩
section
variable {X : Cx} {CX : CXT} {k : Nat} {f : Addr} {fd : FuncData} {ps : List Str} {sp : Sp} {E : XK} {x : Str} {p pos : Pos} {e : Expr} {es : List Expr} {t : TA}
theorem pe_callG (F : FnG X.prog X.w X.K X.mg X.base CX k f fd ps sp) (g : X.A.guards = some []) (hr : Room k X.A) (hg : Gl X x) (hm : X.mg x = some (.ref f)) (hk : PySem.W.keepIn X.K (.ref f) = true) (hb : Binds X.K fd ps []) (hx : Passes CX X E) (ha : PA X (e :: es) t)
    (hdb : (x == ("__debug__" : Str)) = false := by decide) (he : starEach (e :: es) X.env = (false, eval e X.env) :: starEach es X.env := by rfl) (hpl : (backTo pos (starEach es X.env)).any (·.1) = false := by rfl) :
    PE X (.Call (.Name x p) (e :: es) [] pos) (tCall sp [] E t) := by
  constructor
  intro pins s σ H Q I h
  apply wpAny_Call_Name_kw
  apply ld_glob I hg hm _ hdb
  refine PySem.W.callWith_K (h₀ := X.base) I.ok.mod.kin hk (thn (ha.run pos pins s σ H _ I h) fun us s1 hh => ?_) he hpl
  obtain ⟨vs, H1, I1, r, q⟩ := hh
  refine ⟨I1.kIn, wpAny_call (codeAny_mono (F.goes g hr I1.env0 (us := us) ?_ r (by simpa using q)) fun r s' hq => ?_)⟩
  · have hl : (us ++ []).length = ps.length := by
      rw [List.append_nil, ← r.length]
      exact F.many (by simpa using q)
    simpa using hb s1 us I1.kIn hl
  · match r, hq with
    | .error e, hq => exact hx pins σ H1 s1 e s' I1 hq
    | .ok (.ret u), hq => exact I1.after hq
end
/-! ### repr of data -/
mutual
/-- as Dp, with the empty dict besides -/
inductive Dq (K : PySem.W.Frag) (H : Hp) : V → PyData → Prop
  | non : Dq K H .non .none
  | bl (b : Bool) : Dq K H (.bl b) (.bool b)
  | int (i : Int) : Dq K H (.int i) (.int i)
  | str (x : Str) : Dq K H (.str x) (.str x)
  | lst {a : Addr} {xs : List V} {ds : List PyData} : SqL K H a xs → DqAll K H xs ds → Dq K H (.ref a) (.list ds)
  | tup {a : Addr} {xs : List V} {ds : List PyData} : SqT K H a xs → DqAll K H xs ds → Dq K H (.ref a) (.tuple ds)
  | dic {a : Addr} : H a = some (.dK []) → Dq K H (.ref a) (.dict [])
inductive DqAll (K : PySem.W.Frag) (H : Hp) : List V → List PyData → Prop
  | nil : DqAll K H [] []
  | cons {v : V} {vs : List V} {d : PyData} {ds : List PyData} : Dq K H v d → DqAll K H vs ds → DqAll K H (v :: vs) (d :: ds)
end
section
variable {X : Cx} {pins : List (Addr × Obj)} {σ : St} {H : Hp} {s : Shared}
theorem no_mods {a : Addr} {o : Obj} {vs : Array Value} {n : Nat} {h : Heap} {mm : Str → Option Value} (hm : h.Ns sysModules mm) (ho : h.get? a = some o) (hd : o.data = .seq vs n) : sysModules ≠ a := fun z => by
  obtain ⟨o', es, ep, e, d, _⟩ := hm
  rw [z, ho] at e
  cases e
  rw [hd] at d
  cases d
mutual
theorem Dq.reads {mm : Str → Option Value} (hm : s.heap.Ns sysModules mm) (I : Inv X pins σ H s) : ∀ (d : PyData) (v : V) (u : Value), Dq X.K H v d → RelV v u → ∃ as, Reads s.heap u d as ∧ sysModules ∉ as
  | .none, _, _, h, r => by
    cases h; cases r
    exact ⟨_, .none, List.not_mem_nil⟩
  | .bool b, _, _, h, r => by
    cases h; cases r
    exact ⟨_, .bool b, List.not_mem_nil⟩
  | .int i, _, _, h, r => by
    cases h; obtain ⟨t, rfl⟩ := r
    exact ⟨_, .int i t, List.not_mem_nil⟩
  | .str x, _, _, h, r => by
    cases h; obtain ⟨t, rfl⟩ := r
    exact ⟨_, .str x t, List.not_mem_nil⟩
  | .list ds, _, _, h, r => by
    cases h with
    | lst hs ha =>
      cases r
      obtain ⟨its, rv, ⟨o, n, ho, hc, _, hd⟩, _⟩ := I.list hs
      obtain ⟨as, hr, nm⟩ := Dq.readsAll hm I ds _ its ha rv
      refine ⟨_, .list ho hc hd hr, fun z => ?_⟩
      rcases List.mem_cons.mp z with z | z
      · exact no_mods hm ho hd z
      · exact nm z
  | .tuple ds, _, _, h, r => by
    cases h with
    | tup hs ha =>
      cases r
      obtain ⟨its, rv, ⟨o, ho, hc, n, hd⟩, _⟩ := I.tuple hs
      obtain ⟨as, hr, nm⟩ := Dq.readsAll hm I ds _ its ha rv
      exact ⟨_, .tuple ho hc hd hr, nm⟩
  | .dict ks, _, _, h, r => by
    cases h with
    | dic e =>
      cases r
      obtain ⟨_, nd, vs, kv, dd⟩ := dk_of I.hok e
      cases kv
      obtain ⟨o, es, ep, ho, hx, hd, _, he, _⟩ := dd
      have e0 : es.toList = [] := by cases hl : es.toList with | nil => rfl | cons a b => (rw [hl] at he; cases he)
      refine ⟨_, .dict (as := []) (bs := []) ho hx.1 hd (by rw [e0]; exact .nil) (by rw [e0]; exact .nil), fun z => ?_⟩
      rcases List.mem_cons.mp z with z | z
      · rw [← z] at nd
        simp at nd
      · simp at z
theorem Dq.readsAll {mm : Str → Option Value} (hm : s.heap.Ns sysModules mm) (I : Inv X pins σ H s) : ∀ (ds : List PyData) (vs : List V) (us : List Value), DqAll X.K H vs ds → Vals vs us → ∃ as, ReadsAll s.heap us ds as ∧ sysModules ∉ as
  | [], _, _, h, r => by
    cases h; cases r
    exact ⟨_, .nil, List.not_mem_nil⟩
  | d :: ds, _, _, h, r => by
    cases h with
    | cons h1 h2 =>
      cases r with
      | cons r1 r2 =>
        obtain ⟨as, q1, n1⟩ := Dq.reads hm I d _ _ h1 r1
        obtain ⟨bs, q2, n2⟩ := Dq.readsAll hm I ds _ _ h2 r2
        exact ⟨_, .cons q1 q2, fun z => (List.mem_append.mp z).elim n1 n2⟩
end
/-- what repr wants of data: it can be shown, in so much room -/
structure Sh (d : PyData) (n m : Nat) : Prop where
  ok : d.showable = true
  long : d.shown.length ≤ n
  deep : d.depth ≤ m
theorem call_reprD (g : X.A.guards = some []) (hu : X.A.units + 64 < cLine) (hm : ∃ mm, X.base.Ns sysModules mm) :
    CallR X (.builtin "repr") (fun xs H Q => ∃ (a : Addr) (d : PyData), xs = [.ref a] ∧ Dq X.K H (.ref a) d ∧ Sh d 16777216 60 ∧ Q (.str d.shown) H) := by
  intro pins s σ H xs us Q I r h
  obtain ⟨a, d, rfl, hd, hs, q⟩ := h
  obtain ⟨mm, hm⟩ := hm
  cases r with
  | cons r1 r2 =>
    cases r2
    cases r1
    obtain ⟨as, rd, nm⟩ := Dq.reads (hm.keeps I.bk) I d _ _ hd rfl
    refine repr_of_reads' rd hs.ok (fun _ => nm) g ?_ (fun _ _ e => e) (fun h' u tk k => ?_) ?_
    · have := hs.deep
      omega
    · exact ⟨.str d.shown, H, I.kept (t' := tk) k, ⟨_, rfl⟩, q⟩
    · rw [sizeLine_eq]
      exact hs.long
end
end L2

/-! several except clauses, each with a name -/
namespace L2
open PySem PySem.Spec PyProof.Rows
abbrev Clause := Value × Nat × (Addr → Value → Option Addr → TS)
/-- ends behind a suite: the clause's name is gone -/
def endsGone (D : Ends) (i : Nat) : Ends := { nx := fun σ H => D.nx (σ.set i none) H, rt := D.rt, bk := fun σ H => D.bk (σ.set i none) H, ct := fun σ H => D.ct (σ.set i none) H }
def wNamed (K : PySem.W.Frag) (Wo : WX) (D : Ends) : List Clause → WX
  | [] => Wo
  | k :: r => fun cl d σ H => ∃ b, PySem.W.exmOne K cl k.1 = some b ∧ (b = true → ∀ a, H a = none → k.2.2 a cl d (endsGone D k.2.1) (σ.set k.2.1 (some (.ref a))) H) ∧ (b = false → wNamed K Wo D r cl d σ H)
def wLen (n : Nat) (W : WX) : WX := fun cl d σ H => σ.length = n → W cl d σ H
structure ClauseOk (X : Cx) (x n : Str) (suite : List Stmt) (k : Clause) : Prop where
  names : Names X x k.1
  at_ : X.N[k.2.1]? = some n
  loc : X.env.kindOf n = some .local
  run : ∀ (a : Addr) (o : Obj) (cl : Value) (d : Option Addr) (pn : List (Addr × Obj)), Zc cl d o → (∃ vs, o.data = .fields vs) → PSs (X.suite a ((a, o) :: pn)) suite (k.2.2 a cl d)
inductive NamedOk (X : Cx) : List ExceptHandler → List Clause → Prop
  | nil : NamedOk X [] []
  | cons {x n : Str} {k : Clause} {b : Stmt} {su : List Stmt} {p1 p2 : Pos} {hd : List ExceptHandler} {l : List Clause} (ok : ClauseOk X x n (b :: su) k) (r : NamedOk X hd l) : NamedOk X (.ExceptHandler (some (.Name x p1)) (some n) (b :: su) p2 :: hd) (k :: l)
section
variable {X : Cx} {hd0 : ExceptHandler} {hds : List ExceptHandler} {l : List Clause} {pos : Pos} {body : List Stmt} {tb : WX → TS} {Wo : WX} {pins : List (Addr × Obj)} {σ : L2.St} {H : Hp} {D : Ends}
/-- try: body, then except C as n: .. clauses, each by a name of its own -/
theorem ps_try_named (st : X.stack = X.env :: X.outer) (fr : X.env.frame = some X.env.locals) (nd : X.N.Nodup) (take : Takes X Wo)
    (run : ∀ (W : WX) (pn : List (Addr × Obj)) (xe : Value → Shared → Prop), Takes (X.tr pn xe) W → PassesOwn (model X.prog X.w) X.A X.env xe → PSs (X.tr pn xe) body (tb W)) (all : NamedOk X (hd0 :: hds) l) :
    PS X (.Try body (hd0 :: hds) [] [] pos) (fun D σ H => tb (wLen X.N.length (wNamed X.K Wo D l)) D σ H) := by
  constructor
  intro pins s σ H D I h
  have okX := I.ok
  have frs_eq : X.A.frames = some (X.env :: X.outer) := okX.frames.trans (congrArg some st)
  apply wpAny_Try_except
  refine wpAny_mono ((run (wLen X.N.length (wNamed X.K Wo D l)) (X.pn ++ pins) (fun e r1 => wpAny (model X.prog X.w) X.A (noteFrame e X.env) (fun _ r2 => wpAny (model X.prog X.w) X.A (setFlight e none) (fun _ r3 => wpAny (model X.prog X.w) X.A (handleBy e X.env (hd0 :: hds)) (SP X pins D) X.xe r3) X.xe r2) X.xe r1) (fun u s' x => ?_) PassesOwn.looking).run [] s σ H D (I.toTry _) h) (fun f s1 e => ?_) (fun _ _ z => z)
  · obtain ⟨a, B, sI, ps', τ, G, cl, d, rfl, J0, nb, up, sk, ga, eo, ag, wish⟩ := x
    have J : Inv X pins τ G sI := J0.ofTry okX
    rw [st] at sk
    show wpAny (model X.prog X.w) X.A (noteFrame (.ref a) X.env) _ _ _
    refine Sky.land Zc.steady frs_eq fr sk fun g3 dn up3 => ?_
    have J3 : Inv X pins τ G { s' with heap := g3 } := J.landed nb dn.1 (up.trans up3) eo ag
    obtain ⟨o3, v3, ho, zo, fo⟩ := dn.there
    have off : a ∉ frs (X.env :: X.outer) := fun m => by
      obtain ⟨_, o', ho', no⟩ := dn.2.2.1.mem m
      exact no _ ((Option.some.inj (ho.symm.trans ho')) ▸ fo)
    have aL : a ≠ X.env.locals := fun z => off (List.mem_filterMap.mpr ⟨X.env, List.mem_cons_self, z ▸ fr⟩)
    have aF : a ∉ X.fs := fun m => by
      obtain ⟨e, i, q⟩ := List.mem_filterMap.mp m
      exact off (List.mem_filterMap.mpr ⟨e, List.mem_cons_of_mem _ i, q⟩)
    have S3 := J3.suite ho fo ga aL aF
    have each : ∀ {hd : List ExceptHandler} {l : List Clause}, NamedOk X hd l → wNamed X.K Wo D l cl d τ G → wpAny (model X.prog X.w) X.A (handleBy (.ref a) X.env hd) (SP X pins D) X.xe { s' with heap := g3 } := by
      intro hd l m
      induction m with
      | nil =>
        intro wish
        apply wpAny_handleBy_nil
        obtain ⟨k1, k2, k3, oe, vs, T, oT, t', e1, e2, e3, e4, e5⟩ := id dn
        unfold PySem.passOn
        refine wpAny_bind (wpAny_field e1 e3 e4 ?_)
        rw [if_neg (show ¬ ((Value.ref T == Value.none) = true) from by simp)]
        have out : wpAny (model X.prog X.w) X.A (setFlight (.ref a) X.env.frame) (fun _ r => wpAny (model X.prog X.w) X.A (throw (.ref a) : Sem Flow) (SP X pins D) X.xe r) X.xe { s' with heap := g3 } := by
          rw [fr]
          exact HandSPX.setFlight_upZ dn fun g4 k4 up4 => wpAny_throw (take _ _ ⟨a, B, sI, pins, τ, G, cl, d, rfl, J, nb, (up.trans up3).trans up4, .inr (.inr (st ▸ k4)), ga, eo, ag, wish⟩)
        first | exact wpAny_bind (wpAny_pure (wpAny_bind out)) | exact wpAny_bind out
      | @cons x n k b su p1 p2 hd2 l2 C m2 ih =>
        intro wish
        obtain ⟨v, isK, yes, no⟩ := wish
        refine wpAny_handleBy_cons (codeAny_handlers_test ?_) nofun
        have tyA : PySem.W.Looks (model X.prog X.w) g3 (typeOf (.ref a)) cl := fun A Q E r k q => wpAny_typeOf_ref (k _ _ ho) (zo.1.symm ▸ q)
        have ans := PySem.W.exm_one (M := model X.prog X.w) (J3.kIn) tyA isK
        have reads : ∀ {Q E : Value → Shared → Prop}, Q k.1 { s' with heap := g3 } → wpAny (model X.prog X.w) (X.A.mark (some (.ref a))) (eval (.Name x p1) X.env) Q E { s' with heap := g3 } := fun {Q E} q => by
          rcases C.names with ⟨n1, n2, n3 | ⟨n3, n4, n5⟩⟩
          · exact ld_glob (X := X.suite a ((a, o3) :: (X.pn ++ pins))) S3 n1 n3 q n2
          · exact ld_blt (X := X.suite a ((a, o3) :: (X.pn ++ pins))) S3 n1 n3 n4 q n5 n2
        refine reads (ans.here ?_)
        cases v with
        | false => exact ih (no rfl)
        | true =>
          apply codeAny_handlers_suite_as
          refine HandSPX.lands_againZ dn fun g4 dn4 up4 => ?_
          have J4 : Inv X pins τ G { s' with heap := g4 } := J.landed nb dn4.1 ((up.trans up3).trans up4) eo ag
          obtain ⟨o4, v4, h4, z4, f4⟩ := dn4.there
          refine store_ok (X := X.suite a ((a, o4) :: (X.pn ++ pins))) (v := .ref a) (J4.suite h4 f4 ga aL aF) nd C.at_ (.inl C.loc) rfl (fun s5 S5 => ?_) (.inr C.loc)
          refine wpAny_mono ((C.run a o4 cl d (X.pn ++ pins) z4 ⟨_, f4⟩).run [] s5 _ G _ S5 (yes rfl a ga)) (fun f s6 e => ?_) (fun _ _ z => z.elim)
          have bye : ∀ {σ6 : L2.St} {H6 : Hp} {Q : Shared → Prop}, Inv (X.suite a ((a, o4) :: (X.pn ++ pins))) [] σ6 H6 s6 → (∀ s7, Inv X pins (σ6.set k.2.1 none) H6 s7 → Q s7) →
              wpAny (model X.prog X.w) X.A (do bindName X.env n .none; unbindBehindTheSuite X.env n p2) (fun _ s7 => Q s7) X.xe s6 := fun S6 q => gone_ok (S6.unsuite okX) nd C.at_ C.loc q
          cases f with
          | ret u =>
            obtain ⟨v6, σ6, H6, S6, r6, q6⟩ := e
            exact bye S6 fun s7 J7 => ⟨_, _, _, J7, r6, q6⟩
          | _ =>
            obtain ⟨σ6, H6, S6, q6⟩ := e
            exact bye S6 fun s7 J7 => ⟨_, _, J7, q6⟩
    exact each all (wish J.len)
  · cases f with
    | next =>
      obtain ⟨τ, G, J, q⟩ := e
      exact wpAny_execs_nil ⟨τ, G, J.ofTry okX, q⟩
    | ret u =>
      obtain ⟨v, τ, G, J, r, q⟩ := e
      exact ⟨v, τ, G, J.ofTry okX, r, q⟩
    | _ =>
      obtain ⟨τ, G, J, q⟩ := e
      exact ⟨τ, G, J.ofTry okX, q⟩
end
end L2

/-! error classes of the program that keep their argument: made, raised, caught, asked for their class -/
namespace L2
open PySem PySem.Spec PyProof.Rows
/-- what stands of an error class C with the field f; its __init__ at fI -/
structure ErrC (K : PySem.W.Frag) (mg : Str → Option Value) (x f : Str) (C fI : Addr) : Prop where
  gC : mg x = some (.ref C)
  ox : OexC K C
  no : PySem.W.findIn K (.ref C) f = some none
  iC : PySem.W.findIn K (.ref C) "__init__" = some (some (.ref fI))
  tI : PySem.W.typeIn K (.ref fI) = some (.type "function")
  ga : PySem.W.findIn K (.ref C) "__getattribute__" = some (some (.builtin "BaseException.__getattribute__"))
  gg : PySem.W.findIn K (.ref C) "__getattr__" = some none
  hd : PySem.W.hasDictIn K C = true
  ac : PySem.W.findIn K (.ref C) "__class__" = some (some (.builtin "object.__class__"))
  gt : PySem.W.specialIn K (.builtin "object.__class__") "__get__" = some (some (.builtin "getset_descriptor.__get__"))
  tk : PySem.W.takesIn K (.builtin "object.__class__") = some true
  ob : PySem.W.mroIn K C (.type "object") = some true
theorem ErrC.xf {K : PySem.W.Frag} {mg : Str → Option Value} {x f : Str} {C fI : Addr} (T : ErrC K mg x f C fI) : XfC K C := ⟨T.ga, T.gg, T.ox.exC, T.hd⟩
theorem ErrC.cl {K : PySem.W.Frag} {mg : Str → Option Value} {x f : Str} {C fI : Addr} (T : ErrC K mg x f C fI) : (PySem.W.clsIn K C).isSome = true := by
  obtain ⟨cd, hc, _⟩ := PySem.W.any_some T.hd
  rw [hc]
  rfl
def spErr (C : Addr) (f : Str) : Sp := fun vs H Q _ => ∃ (a : Addr) (v : V), vs = [.ref a, v] ∧ H a = some (exo a C none) ∧ ∀ dx, H dx = none → dx ≠ a → Q .non (upd (upd H dx (exd dx [(f, v)])) a (exo a C (some dx)))
theorem ok_err {P : Program} {w : World} {K : PySem.W.Frag} {mg : Str → Option Value} {base : Heap} {qual f x par : Str} {st : Stmt} {fI C : Addr} {fd : FuncData} {p1 p2 p3 p4 : Pos} (F : Fun K "__init__" qual st fI fd) (T : ErrC K mg x f C fI)
    (hB : defBody st = [.Assign [.Attribute (.Name "self" p1) f p2] (.Name par p3) p4]) (S : FnScope ["self", par] ["self", par] (defScope st)) (v0 : Vis (defScope st) "self") (v1 : Vis (defScope st) par)
    (d0 : (par == ("__debug__" : Str)) = false := by decide) (d1 : (par == ("__classdict__" : Str)) = false := by decide) : FnOk P w K mg base CX0 1 fI fd ["self", par] (spErr C f) := by
  refine F.ok S (fun vs H Q E h => ?_) (fun cdv A outer s H vs Q E hr h => ?_)
  · obtain ⟨a, v, rfl, _⟩ := h
    rfl
  · obtain ⟨a, v, rfl, e, q⟩ := h
    rw [hB]
    refine ⟨_, pss_one (ps_ost (pe_var (i := 0) rfl v0 (by decide) (by decide)) (pe_var (i := 1) rfl v1 d0 d1)), ?_⟩
    exact ⟨_, rfl, _, rfl, a, C, rfl, T.ox, T.no, .inl ⟨e, fun dx n ne => q dx n ne⟩⟩
theorem mkErr {C : Addr} {f : Str} {v : V} {H1 : Hp} {Q : XK} (h : ∀ H' d, Same H1 H' → H1 d = none → H' d = some (.xd [(f, v)]) → Q (.ref C) (some d) H') :
    [v].length ≤ 1000 ∧ ∀ a, H1 a = none → spErr C f (.ref a :: ([v] ++ [])) (upd H1 a (exo a C none))
      (fun u H2 => u = .non ∧ ∃ (d : Addr) (fs : List (Str × V)), H2 a = some (exo a C (some d)) ∧ H2 d = some (exd d fs) ∧ H1 d = none ∧ Q (.ref C) (some d) (upd (del H2 a) d (.xd fs))) (fun _ _ _ => False) := by
  refine ⟨(by decide : 1 ≤ 1000), fun a na => ⟨a, v, rfl, upd_same, fun dx nd ne => ⟨rfl, dx, [(f, v)], upd_same, (upd_ne ne).trans upd_same, ?_, ?_⟩⟩⟩
  · rwa [upd_ne ne] at nd
  · rw [upd_ne ne] at nd
    refine h _ dx (fun b o e => ?_) nd upd_same
    have n1 : b ≠ a := ne_of_none e na
    have n2 : b ≠ dx := ne_of_none e nd
    rw [upd_ne n2, del_ne n1, upd_ne n1, upd_ne n2, upd_ne n1]
    exact e
/-- isinstance(e, c) of the caught error with its dict -/
def rIsX (K : PySem.W.Frag) (D a : Addr) (cls : Value) (d : Option Addr) : List V → Hp → VK → Prop := fun xs H Q =>
  ∃ (c : V) (cv : Value) (b : Bool) (dd : Addr) (fs : List (Str × V)), xs = [.ref a, c] ∧ ClsV c cv ∧ cls = .ref D ∧ d = some dd ∧ H dd = some (.xd fs) ∧ PySem.W.kitOne K (.ref D) cv = some b ∧ Q (.bl b) H
theorem call_isX {X : Cx} {a D fI : Addr} {x f : Str} {oe : Obj} {cls : Value} {d : Option Addr} {pn : List (Addr × Obj)} (T : ErrC X.K X.mg x f D fI) (hz : Zc cls d oe) (hf : ∃ vs, oe.data = .fields vs) :
    CallR (X.suite a ((a, oe) :: pn)) (.builtin "isinstance") (rIsX X.K D a cls d) := by
  intro pins s σ H xs us Q I r h
  obtain ⟨c, cv, b, dd, fs, rfl, k, rfl, rfl, hd, e, q⟩ := h
  cases r with
  | cons rx rr =>
    cases rr with
    | cons rt rr =>
      cases rr
      cases rx
      have ec := k.eq rt
      subst ec
      obtain ⟨hget, _⟩ := I.pin (a, oe) (List.mem_append_left _ List.mem_cons_self)
      obtain ⟨vs, hv⟩ := hf
      have hx : ObjOk X.prog X.w H s.heap dd (.xd fs) := I.hok dd _ hd
      obtain ⟨mA, hns, _⟩ := hx
      obtain ⟨od, ho, _⟩ := lookIn_ns hns
      have J : PySem.W.InstAt s.heap a oe D (some od) := ⟨hget, hz.1, by unfold PySem.W.notCls; rw [hv] <;> rfl, by rw [hz.2]; exact ho⟩
      exact PySem.W.kia_one (PySem.W.kitx_exc T.cl T.ga T.gg T.ox.exC T.ac T.gt T.tk T.ob) I.kIn J e (fun z => nomatch z) fun tk => ⟨.bl b, H, I.kept (t' := tk) fun _ _ z => z, rfl, q⟩
theorem TyX.same {K : PySem.W.Frag} {H H' : Hp} {v : V} {t : Value} (ty : TyX K H v t) (s : Same H H') : TyX K H' v t := by
  cases ty with
  | base b =>
    cases b with
    | non => exact .base .non
    | bl y => exact .base (.bl y)
    | int i => exact .base (.int i)
    | str y => exact .base (.str y)
    | flt y => exact .base (.flt y)
    | lst e => exact .base (.lst (s _ _ e))
    | frz e => exact .base (.frz (s _ _ e))
    | tup e => exact .base (.tup (s _ _ e))
    | dK e => exact .base (.dK (s _ _ e))
    | dT e => exact .base (.dT (s _ _ e))
    | ins e cl ha hn htk hm => exact .base (.ins (s _ _ e) cl ha hn htk hm)
  | byt b => exact .byt b
  | set e => exact .set (s _ _ e)
  | kList e c => exact .kList e c
  | kTuple e c => exact .kTuple e c
  | kDict e c => exact .kDict e c
  | fTuple e => exact .fTuple (s _ _ e)
  | fDict e => exact .fDict (s _ _ e)
end L2

/-! things of any kind, as menus hold them -/
namespace L2
open PySem PySem.Spec PyProof.Rows
inductive Flat : V → PyData → Prop
  | non : Flat .non .none
  | bl (b : Bool) : Flat (.bl b) (.bool b)
  | int (i : Int) : Flat (.int i) (.int i)
  | str (x : Str) : Flat (.str x) (.str x)
inductive Flats : List V → List PyData → Prop
  | nil : Flats [] []
  | cons {v : V} {vs : List V} {d : PyData} {ds : List PyData} : Flat v d → Flats vs ds → Flats (v :: vs) (d :: ds)
/-- a thing that is not at p: its value, its data, its kind -/
inductive Thing (p : Addr) (H : Hp) : V → PyData → String → Prop
  | non : Thing p H .non .none "NoneType"
  | bl (b : Bool) : Thing p H (.bl b) (.bool b) "bool"
  | int (i : Int) : Thing p H (.int i) (.int i) "int"
  | str (x : Str) : Thing p H (.str x) (.str x) "str"
  | tup {a : Addr} {xs : List V} {ds : List PyData} : a ≠ p → H a = some (.tup xs) → Flats xs ds → Thing p H (.ref a) (.tuple ds) "tuple"
  | lst {a : Addr} {xs : List V} {ds : List PyData} : a ≠ p → H a = some (.lst xs) → Flats xs ds → Thing p H (.ref a) (.list ds) "list"
  | dic {a : Addr} : a ≠ p → H a = some (.dK []) → Thing p H (.ref a) (.dict []) "dict"
theorem Flat.dq {K : PySem.W.Frag} {H : Hp} {v : V} {d : PyData} (h : Flat v d) : Dq K H v d := by
  cases h with
  | non => exact .non
  | bl b => exact .bl b
  | int i => exact .int i
  | str x => exact .str x
theorem Flats.dq {K : PySem.W.Frag} {H : Hp} {vs : List V} {ds : List PyData} (h : Flats vs ds) : DqAll K H vs ds := by
  induction h with
  | nil => exact .nil
  | cons a _ ih => exact .cons a.dq ih
section
variable {K : PySem.W.Frag} {p : Addr} {H H' : Hp} {v : V} {d : PyData} {t : String}
/-- all but p and the tables of code objects stands as it stood -/
def Kp (p : Addr) (H H' : Hp) : Prop := ∀ b o, b ≠ p → (∀ ps, o ≠ .tbl ps) → H b = some o → H' b = some o
theorem Kp.refl : Kp p H H := fun _ _ _ _ e => e
theorem Kp.trans {H1 H2 H3 : Hp} (a : Kp p H1 H2) (b : Kp p H2 H3) : Kp p H1 H3 := fun c o n t e => b c o n t (a c o n t e)
theorem Kp.of (s : Same H H') : Kp p H H' := fun b o _ _ e => s b o e
theorem Kp.ext (s : LamX.ExtN H H') : Kp p H H' := fun b o _ t e => s b o e t
theorem Kp.but (s : ∀ b o, b ≠ p → H b = some o → H' b = some o) : Kp p H H' := fun b o n _ e => s b o n e
theorem Kp.new {q : Addr} {o : HO} (s : Kp p H H') (n : H q = none) : Kp p H (upd H' q o) := fun b u nb t e => by rw [upd_ne (ne_of_none e n)]; exact s b u nb t e
theorem Thing.keep (h : Thing p H v d t) (k : Kp p H H') : Thing p H' v d t := by
  cases h with
  | non => exact .non
  | bl b => exact .bl b
  | int i => exact .int i
  | str x => exact .str x
  | tup n e f => exact .tup n (k _ _ n (fun _ z => by cases z) e) f
  | lst n e f => exact .lst n (k _ _ n (fun _ z => by cases z) e) f
  | dic n e => exact .dic n (k _ _ n (fun _ z => by cases z) e)
theorem Thing.same (h : Thing p H v d t) (s : Same H H') : Thing p H' v d t := h.keep (.of s)
theorem Thing.ty (h : Thing p H v d t) : TyX K H v (.type t) := by
  cases h with
  | non => exact .base .non
  | bl b => exact .base (.bl b)
  | int i => exact .base (.int i)
  | str x => exact .base (.str x)
  | tup n e f => exact .base (.tup e)
  | lst n e f => exact .base (.lst e)
  | dic n e => exact .base (.dK e)
theorem Thing.dq (h : Thing p H v d t) : Dq K H v d := by
  cases h with
  | non => exact .non
  | bl b => exact .bl b
  | int i => exact .int i
  | str x => exact .str x
  | tup n e f => exact .tup (SqT.of e) f.dq
  | lst n e f => exact .lst (SqL.of e) f.dq
  | dic n e => exact .dic e
end
theorem Thing.free (h : Thing p H v d t) {q : Addr} (n : H q = none) : v ≠ .ref q := fun z => by
  cases h with
  | tup _ e f => cases z; rw [n] at e; cases e
  | lst _ e f => cases z; rw [n] at e; cases e
  | dic _ e => cases z; rw [n] at e; cases e
  | _ => cases z
/-! sizes of what repr shows -/
structure ShAll (ds : List PyData) (n m : Nat) : Prop where
  ok : PyData.showableAll ds = true
  long : ((PyData.shownAll ds).map (·.length)).sum + 2 * ds.length ≤ n
  deep : PyData.depthAll ds ≤ m
theorem ShAll.nil {m : Nat} : ShAll [] 0 m := ⟨by simp [PyData.showableAll], by simp [PyData.shownAll], by simp [PyData.depthAll]⟩
theorem ShAll.cons {d : PyData} {ds : List PyData} {n k m : Nat} (h : Sh d n m) (hs : ShAll ds k m) : ShAll (d :: ds) (n + 2 + k) m := by
  refine ⟨?_, ?_, ?_⟩
  · simp only [PyData.showableAll, h.ok, hs.ok, Bool.and_self]
  · have a := h.long
    have b := hs.long
    simp only [PyData.shownAll, List.map_cons, List.sum_cons, List.length_cons]
    omega
  · have a := h.deep
    have b := hs.deep
    simp only [PyData.depthAll]
    omega
theorem Sh.lst {ds : List PyData} {n m : Nat} (h : ShAll ds n m) : Sh (.list ds) (n + 3) (m + 1) := by
  refine ⟨?_, ?_, ?_⟩
  · simp only [PyData.showable, h.ok]
  · have a := h.long
    have b := listText_len_le (PyData.shownAll ds)
    rw [PyData.shownAll_length] at b
    simp only [PyData.shown]
    omega
  · have a := h.deep
    simp only [PyData.depth]
    omega
theorem Sh.tup {ds : List PyData} {n m : Nat} (h : ShAll ds n m) : Sh (.tuple ds) (n + 3) (m + 1) := by
  refine ⟨?_, ?_, ?_⟩
  · simp only [PyData.showable, h.ok]
  · have a := h.long
    have b := tupleText_len_le (PyData.shownAll ds)
    rw [PyData.shownAll_length] at b
    simp only [PyData.shown]
    omega
  · have a := h.deep
    simp only [PyData.depth]
    omega
theorem Sh.le {d : PyData} {n n' m m' : Nat} (h : Sh d n m) (hn : n ≤ n') (hm : m ≤ m') : Sh d n' m' := ⟨h.ok, Nat.le_trans h.long hn, Nat.le_trans h.deep hm⟩
theorem Sh.bl (b : Bool) {m : Nat} : Sh (.bool b) 5 m := ⟨by simp only [PyData.showable], by cases b <;> (simp only [PyData.shown]; decide), by simp only [PyData.depth]; omega⟩
theorem Sh.non {m : Nat} : Sh .none 4 m := ⟨by simp only [PyData.showable], by simp only [PyData.shown]; decide, by simp only [PyData.depth]; omega⟩
theorem Sh.str (x : Str) {n m : Nat} (h : (reprText x).length ≤ n) : Sh (.str x) n m := ⟨by simp only [PyData.showable], by simp only [PyData.shown]; exact h, by simp only [PyData.depth]; omega⟩
theorem Sh.int (i : Int) {n m : Nat} (h : i.natAbs.log2 < 1920) (h2 : ((toString i : String) : Str).length ≤ n) : Sh (.int i) n m := ⟨by simp only [PyData.showable]; exact decide_eq_true h, by simp only [PyData.shown]; exact h2, by simp only [PyData.depth]; omega⟩
theorem Sh.dic {m : Nat} : Sh (.dict []) 10 (m + 1) := ⟨by simp only [PyData.showable, PyData.showableKv], by simp only [PyData.shown, PyData.shownKv]; decide +kernel, by simp only [PyData.depth, PyData.depthKv]; omega⟩
/-- an item of a menu: a thing that can be shown, of which C holds -/
def Item (p : Addr) (H : Hp) (C : V → Prop) (v : V) : Prop := ∃ d t, Thing p H v d t ∧ Sh d 300 2 ∧ C v
section
variable {p : Addr} {H H' : Hp} {C : V → Prop}
theorem Item.keep {v : V} (h : Item p H C v) (k : Kp p H H') : Item p H' C v := let ⟨d, t, a, b, c⟩ := h; ⟨d, t, a.keep k, b, c⟩
theorem item_non (c : C .non) : Item p H C .non := ⟨_, _, .non, (Sh.non (m := 0)).le (by decide) (by decide), c⟩
theorem item_bl (b : Bool) (c : C (.bl b)) : Item p H C (.bl b) := ⟨_, _, .bl b, (Sh.bl b).le (by decide) (Nat.le_refl _), c⟩
theorem item_int (i : Int) (h : i.natAbs.log2 < 1920) (h2 : ((toString i : String) : Str).length ≤ 300) (c : C (.int i)) : Item p H C (.int i) := ⟨_, _, .int i, .int i h h2, c⟩
theorem item_str (x : Str) (h : (reprText x).length ≤ 300) (c : C (.str x)) : Item p H C (.str x) := ⟨_, _, .str x, .str x h, c⟩
theorem item_dic {a : Addr} (n : a ≠ p) (e : H a = some (.dK [])) (c : C (.ref a)) : Item p H C (.ref a) := ⟨_, _, .dic n e, (Sh.dic (m := 0)).le (by decide) (by decide), c⟩
theorem item_tup {a : Addr} {xs : List V} {ds : List PyData} {k : Nat} (n : a ≠ p) (e : H a = some (.tup xs)) (f : Flats xs ds) (s : ShAll ds k 0) (hk : k + 3 ≤ 300) (c : C (.ref a)) : Item p H C (.ref a) := ⟨_, _, .tup n e f, (Sh.tup s).le hk (by decide), c⟩
theorem item_lst {a : Addr} {xs : List V} {ds : List PyData} {k : Nat} (n : a ≠ p) (e : H a = some (.lst xs)) (f : Flats xs ds) (s : ShAll ds k 0) (hk : k + 3 ≤ 300) (c : C (.ref a)) : Item p H C (.ref a) := ⟨_, _, .lst n e f, (Sh.lst s).le hk (by decide), c⟩
end
end L2

/-! error classes over any built-in error: made, raised, caught, asked for their class (X0 has those over ValueError) -/
namespace PySem.HandSPX
open PySem PySem.W PySem.Calls PyProof.Rows Builtin Builtin.ObjectAttr
theorem passAE (self : Value) : refuseLoop self "__setattr__" [.type "ArithmeticError", .type "Exception", .type "BaseException", .type "object"] = pure () := by kernel_rfl
theorem passLE (self : Value) : refuseLoop self "__setattr__" [.type "LookupError", .type "Exception", .type "BaseException", .type "object"] = pure () := by kernel_rfl
section
variable {prog : Program} {w : World} {A : Around} {R : Result → Shared → Prop} {hp : Heap} {g : Array GenState} {dr : Drawn} {tk0 : Nat} {os : OsState}
/-- the first attribute of an error, whatever built-in error its class is over -/
theorem gm_store {K : W.Frag} {nm : Str} {tk : Tok} {v : Value} {x C : Addr} {fv : Array Value} {cd : ClassData} (X : K.In hp) (hx : hp.get? x = some { cls := .ref C, data := .fields fv }) (hcd : W.clsIn K C = some cd)
    (full : cd.mro.isEmpty = false) (hob : cd.mro.contains (.type "object") = true) (pass : refuseLoop (.ref x) "__setattr__" cd.mro = pure ()) (hh : cd.hasDict = true) (ha : W.findIn K (.ref C) nm = some none)
    (done : ∀ h1 tk1 dx, (∀ b o, b ≠ x → hp.get? b = some o → h1.get? b = some o) → hp.objs.size ≤ dx → dx ≠ x → h1.get? x = some { cls := .ref C, dict := some dx, data := .fields fv } → h1.Ns1 dx (fun y => if y = nm then some v else none) → R (.ok (.ret .none)) ⟨h1, g, dr, tk1, os⟩) :
    codeAny (model prog w) A (.call (.builtin "object.__setattr__") ⟨[.ref x, .str nm tk, v], []⟩) R ⟨hp, g, dr, tk0, os⟩ := by
  have J : W.InstAt hp x { cls := .ref C, data := .fields fv } C none := ⟨hx, rfl, rfl, trivial⟩
  have S := F.store_object
  have off : x ≠ hp.objs.size := Nat.ne_of_lt (Heap.lt_size hx)
  have mroO : W.mroIn K C (.type "object") = some true := by
    unfold W.mroIn
    rw [hcd, Option.bind_some, if_neg (by rw [full]; decide), hob]
  have isO : W.Looks (model prog w) hp (isInstance (.ref x) (.type "object")) true := J.type.andThen (W.looks_mroIn X mroO)
  refine codeAny_call_builtin S.slot.plain S.entry (@W.check_slot (model prog w) _ _ ⟨hp, g, dr, tk0, os⟩ "object.__setattr__" "object" "__setattr__" (.ref x) [.str nm tk, v] [] _ S.kind S.split isO (S.args (.ref x) (.str nm tk) v) ?_)
  have look : W.Looks (model prog w) hp (classData C) cd := W.looks_clsIn X hcd
  have order : W.Looks (model prog w) hp (mroOf (.ref C)) cd.mro := look.andThen .now
  have none3 : W.Looks (model prog w) hp (storeTaker? none) none := .now
  rw [W.osa_eq, refuse_eq]
  refine wpAny_bind <| wpAny_bind <| J.type.at <| wpAny_bind <| order.at ?_
  rw [pass]
  refine wpAny_pure <| wpAny_bind <| J.type.at <| wpAny_bind <| (W.looks_findIn X ha).at <| wpAny_bind <| none3.at ?_
  show wpAny _ _ (storeInOwnDict (.ref x) (.ref C) (.str nm tk) nm v false) _ _ _
  obtain ⟨c1, c2, c3, c4, c5, c6, c7, c8, c9, c10, c11⟩ := cd
  dsimp only at hh
  subst hh
  unfold storeInOwnDict ownDictForStores
  repeat (first | (with_reducible refine store_in_new ?_ ?_) | (with_reducible refine wpAny_loadPart_at hx ?_) | (with_reducible refine look.at ?_) | wp_step)
  · exact ⟨_, #[], _, (Heap.get?_update_ne _ _ _ _ off.symm).trans (Heap.get?_push_at rfl rfl), rfl, (fun e he => absurd he (by simp)), fun _ => rfl⟩
  intro h1 tk1 hn1 same
  have hx1 : (hp.push { cls := .type "dict", data := .dict #[] }).get? x = some { cls := .ref C, data := .fields fv } := Heap.get?_push_of_some _ hx
  refine done h1 tk1 hp.objs.size (fun b o nb e => ?_) (Nat.le_refl _) off.symm ?_ hn1
  · exact (same.2 b (Nat.ne_of_lt (Heap.lt_size e))).trans ((Heap.get?_update_ne _ _ _ _ nb).trans (Heap.get?_push_of_some _ e))
  · exact (same.2 x off).trans (Heap.get?_update_self _ hx1 rfl)
end
end PySem.HandSPX
namespace L2
open PySem PySem.Spec PyProof.Rows
/-- what the written part says of an error class over some built-in error -/
structure OexB (K : PySem.W.Frag) (C : Addr) : Prop where
  cls : ∃ (nm q : Str) (N : Addr) (bs bm sub bmB : List Value) (sn : List Str) (ab : Bool) (col : Option Bool) (dd : Option Addr) (k0 k1 k2 k3 k5 : Option Value) (B newId initId : String),
    K.lookup C = some (excClassObj nm q C N bs bm true sn sub ab col dd k0 k1 k2 k3 k5 newId) ∧ ExcBaseFacts B newId initId bmB ∧ (∀ Y : String, bm.contains (.type Y) = bmB.contains (.type Y)) ∧ (∀ self : Value, refuseLoop self "__setattr__" bm = pure ()) ∧ bmB.contains (.type "object") = true
  sa : PySem.W.findIn K (.ref C) "__setattr__" = some (some (.builtin "object.__setattr__"))
  exC : PySem.W.subIn K (.ref C) (.type "BaseException") = some true
  tyC : PySem.W.typeIn K (.ref C) = some (.type "type")
  kC : PySem.W.keepIn K (.ref C) = true
theorem OexC.toB {K : PySem.W.Frag} {C : Addr} (T : OexC K C) : OexB K C := by
  obtain ⟨nm, q, N, bs, bm, sn, sub, ab, col, dd, k0, k1, k2, k3, k5, hC, hbm⟩ := T.cls
  exact ⟨⟨nm, q, N, bs, bm, sub, _, sn, ab, col, dd, k0, k1, k2, k3, k5, _, _, _, hC, PySem.F.excBase_ValueError, fun Y => PySem.HandSPX.refsVE_contains Y bm hbm, fun self => PySem.HandSPX.refsVE_pass self bm hbm, by decide +kernel⟩, T.sa, T.exC, T.tyC, T.kC⟩
section
variable {X : Cx} {pins : List (Addr × Obj)} {σ : St} {H : Hp} {s : Shared} {a C : Addr} {f : Str} {y : V} {u : Value} {Q : Unit → Shared → Prop} {E : Value → Shared → Prop} {A : Around}
theorem gm_first (T : OexB X.K C) (I : Inv X pins σ H s) (e : H a = some (exo a C none)) (hno : PySem.W.findIn X.K (.ref C) f = some none) (ry : RelV y u)
    (h : ∀ dx s', H dx = none → dx ≠ a → Inv X pins σ (upd (upd H dx (exd dx [(f, y)])) a (exo a C (some dx))) s' → Q () s') : wpAny (model X.prog X.w) A (setAttr (.ref a) f u) Q E s := by
  obtain ⟨nm, q, N, bs, bm, sub, bmB, sn, ab, col, dd, k0, k1, k2, k3, k5, B, n1, n2, hC, FB, has, pass, ob⟩ := T.cls
  have hcl : PySem.W.clsIn X.K C = some { name := nm, bases := bs, mro := .ref C :: bm, ns := N, qualname := q, hasDict := true, slotNames := sn, subclasses := sub, abstract := ab, collection := col, hasDel := false } := by
    unfold PySem.W.clsIn
    rw [hC] <;> rfl
  obtain ⟨t1, ho⟩ := exo_at I.hok e
  obtain ⟨hp, g, d, t, os⟩ := s
  refine PySem.W.set_plain I.kIn (od := none) (ox := { cls := .ref C, dict := none, data := .fields #[.ref t1, .none, .none, .none, .bool false, .none] }) ⟨ho, rfl, rfl, trivial⟩ T.sa ?_
  refine PySem.HandSPX.gm_store I.kIn ho hcl rfl (show (Value.ref C :: bm).contains (.type "object") = true from by rw [List.contains_cons, has, ob, Bool.or_true]) ((PySem.refuseLoop_ref _ _ C bm).trans (pass _)) rfl hno fun h' tk' dx k dn dne hx hn => ?_
  have hnd : H dx = none := I.hok.fresh dn
  have nd : ∀ {b : Addr} {o : Obj}, hp.get? b = some o → b ≠ dx := fun {b o} z => Nat.ne_of_lt (Nat.lt_of_lt_of_le (Heap.lt_size z) dn)
  have na : ∀ {b : Addr}, H b = none → b ≠ a := fun {b} n z => by
    rw [z, e] at n
    cases n
  have U : Un X.fs [] H (upd (upd H dx (exd dx [(f, y)])) a (exo a C (some dx))) hp h' := by
    constructor
    · intro b o z n _ _
      exact k b o (na n) z
    · intro b o z n _ _
      exact ⟨o.slots, k b o (na n) z⟩
    · intro b o z n _
      rw [upd_ne (na n), upd_ne (nd z)]
      exact n
    · intro b o z _
      by_cases hb : b = a
      · rw [hb]
        exact ⟨_, hx⟩
      · exact ⟨o, k b o hb z⟩
    · intro b xs z
      rw [upd_ne (at_ne e z exo_tup), upd_ne (ne_of_none z hnd)]
      exact z
    · intro b o v z
      rw [upd_ne (at_ne e z exo_frz), upd_ne (ne_of_none z hnd)]
      exact z
    · intro b ps z
      refine ⟨#[], ?_⟩
      rw [upd_ne (at_ne e z exo_tbl), upd_ne (ne_of_none z hnd), z]
      simp
  refine h dx _ hnd dne (I.un (t' := tk') U fun b o z => ?_)
  by_cases hb : b = a
  · subst hb
    rw [upd_same] at z
    cases z
    exact exo_ok hx
  rw [upd_ne hb] at z
  by_cases hd : b = dx
  · subst hd
    rw [upd_same] at z
    cases z
    exact exd_ok hn (relO_put (fs := []) ry fun _ => True.intro)
  rw [upd_ne hd] at z
  refine (I.hok b o z).stay (fun c v hc y => k c v ?_ y) (fun c hc => ?_) (fun c xs hc => ?_)
  · rcases hc with hc | hc
    · rw [hc]
      exact hb
    · exact at_ne e hc exo_own
  · rw [upd_ne (at_ne e hc exo_own), upd_ne (ne_of_none hc hnd)]
    exact hc
  · rw [upd_ne (at_ne e hc exo_tup), upd_ne (ne_of_none hc hnd)]
    exact hc
end
/-- self.f = e, the first attribute of an error -/
def tOstB (K : PySem.W.Frag) (f : Str) (to te : TE) : TS := fun D σ H => te σ H fun y H1 => to σ H1 fun x H2 => ∃ a C : Addr, x = .ref a ∧ OexB K C ∧ PySem.W.findIn K (.ref C) f = some none ∧
  H2 a = some (exo a C none) ∧ ∀ dx, H2 dx = none → dx ≠ a → D.nx σ (upd (upd H2 dx (exd dx [(f, y)])) a (exo a C (some dx)))
section
variable {X : Cx} {o e : Expr} {es : List Expr} {to te : TE} {ta : TA} {f : Str} {p p' pos : Pos}
theorem ps_ostB (ho : PE X o to) (he : PE X e te) (hs : swapsWith e (some (.Attribute o f p')) pos.line X.env = pure false := by rfl) : PS X (.Assign [.Attribute o f p'] e pos) (tOstB X.K f to te) := by
  constructor
  intro pins s σ H D I h
  refine plainObj_wpAny_Assign_Attribute (thn (he.run pins s σ H _ I h) fun v s1 h1 => ?_) hs
  obtain ⟨y, H1, I1, r1, q1⟩ := h1
  refine thn (ho.run pins s1 σ H1 _ I1 q1) fun u s2 h2 => ?_
  obtain ⟨x, H2, I2, r2, a, C, rfl, T, hno, ea, q⟩ := h2
  obtain rfl : u = Value.ref a := r2
  exact gm_first T I2 ea hno r1 fun dx s' n ne J => ⟨σ, _, J, q dx n ne⟩
theorem pmk_oexB {CX : CXT} {x : Str} {C fI : Addr} {k : Nat} {fd : FuncData} {ps : List Str} {sp : Sp} (T : OexB X.K C) (iC : PySem.W.findIn X.K (.ref C) "__init__" = some (some (.ref fI))) (tI : PySem.W.typeIn X.K (.ref fI) = some (.type "function"))
    (F1 : FnOk X.prog X.w X.K X.mg X.base CX k fI fd ps sp) (hr : Room (k + 1) X.A) (hb : Binds X.K fd ps []) (hx : Passes CX X (fun _ _ _ => False)) (hg : Gl X x) (hm : X.mg x = some (.ref C)) (ha : PA X (e :: es) ta)
    (hdb : (x == ("__debug__" : Str)) = false := by decide) (he : starEach (e :: es) X.env = (false, eval e X.env) :: starEach es X.env := by rfl) (hpl : (backTo pos (starEach es X.env)).any (·.1) = false := by rfl) :
    PMk X (.Call (.Name x p) (e :: es) [] pos) (tMkO C sp [] ta) := by
  intro pins s σ H Q I h
  obtain ⟨nm, q, N, bs, bm, sub, bmB, sn, ab, col, dd, k0, k1, k2, k3, k5, B, n1, n2, hC, FB, has, pass, ob⟩ := T.cls
  refine wpAny_Call_Name_kw (ld_glob I hg hm ?_ hdb)
  refine PySem.W.callWith_K (h₀ := X.base) I.ok.mod.kin T.kC (thn (ha.run pos pins s σ H _ I h) fun us s1 h1 => ?_) he hpl
  obtain ⟨vs, H1, I1, r1, hz, q1⟩ := h1
  refine ⟨I1.kIn, ?_⟩
  show wpAny _ _ (call (.ref C) us) _ _ _
  obtain ⟨hp, g, dr, tk, os⟩ := s1
  obtain ⟨top, etop⟩ : ∃ z, z = hp.objs.size + 1 := ⟨_, rfl⟩
  have hsz : hp.objs.size ≤ top := etop ▸ Nat.le_succ _
  have hq := q1 top (I1.hok.fresh hsz)
  have kk : ∀ b o, hp.get? b = some o → ((hp.push (PySem.W.kdv_tup us)).push (PySem.HandSPX.excO C hp.objs.size)).get? b = some o := fun b o z => Heap.get?_push_of_some _ (Heap.get?_push_of_some _ z)
  have hget : ((hp.push (PySem.W.kdv_tup us)).push (PySem.HandSPX.excO C hp.objs.size)).get? top = some (PySem.HandSPX.excO C hp.objs.size) := by
    rw [etop]
    heap_get
  have I2 : Inv X pins σ (upd H1 top (exo top C none)) ⟨(hp.push (PySem.W.kdv_tup us)).push (PySem.HandSPX.excO C hp.objs.size), g, dr, tk, os⟩ := I1.laid (t' := tk) kk hsz (exo_ok hget)
  have r2 : Vals (V.ref top :: (vs ++ [])) (Value.ref top :: (us ++ [])) := .cons rfl (r1.append .nil)
  have hl : (Value.ref top :: us ++ []).length = ps.length := by
    have z := r2.length
    rw [F1.len _ _ _ _ hq] at z
    exact z.symm
  have hus : us.length ≤ sizeLine := by
    rw [← Paired.length r1, sizeLine_eq]
    omega
  have bound : BindsTo ⟨(hp.push (PySem.W.kdv_tup us)).push (PySem.HandSPX.excO C hp.objs.size), g, dr, tk, os⟩ fd ⟨Value.ref top :: us, []⟩ (ps.zip (Value.ref top :: us ++ [])) := hb _ (Value.ref top :: us) I2.kIn hl
  have run := F1.run _ X.stack _ _ ⟨Value.ref top :: us, []⟩ (Value.ref top :: us ++ []) _ _ (fun _ _ _ => False) (hr.make C us []) (I2.env0.make C us []) bound r2 hq
  subst etop
  refine wpAny_call (PySem.HandSPX.call_own FB has (I1.kIn _ _ hC) (PySem.W.looks_findIn I1.kIn iC) (fun self => PySem.W.bind_fn I1.kIn self tI) hus (codeAny_mono run fun r s' hq' => ?_))
  match r, hq' with
  | .error er, hq' => exact hx pins σ _ _ er s' I2 hq'
  | .ok (.ret u), hq' =>
    obtain ⟨v, H2, os2, bare2, un2, hok2, rv, ev, d, fs, ea, ed, hd1, q2⟩ := hq'
    subst ev
    obtain ⟨h2, g2, d2, t2, os'⟩ := s'
    exact ⟨rv, mk_end (raises_own T.exC T.tyC) I1 hsz kk un2 hok2 os2 bare2 ea ed hd1 q2⟩
end
/-- an error class with one attribute, over any built-in error -/
structure ErrB (K : PySem.W.Frag) (mg : Str → Option Value) (x f : Str) (C fI : Addr) : Prop where
  gC : mg x = some (.ref C)
  ox : OexB K C
  no : PySem.W.findIn K (.ref C) f = some none
  iC : PySem.W.findIn K (.ref C) "__init__" = some (some (.ref fI))
  tI : PySem.W.typeIn K (.ref fI) = some (.type "function")
  ga : PySem.W.findIn K (.ref C) "__getattribute__" = some (some (.builtin "BaseException.__getattribute__"))
  gg : PySem.W.findIn K (.ref C) "__getattr__" = some none
  hd : PySem.W.hasDictIn K C = true
  ac : PySem.W.findIn K (.ref C) "__class__" = some (some (.builtin "object.__class__"))
  gt : PySem.W.specialIn K (.builtin "object.__class__") "__get__" = some (some (.builtin "getset_descriptor.__get__"))
  tk : PySem.W.takesIn K (.builtin "object.__class__") = some true
  ob : PySem.W.mroIn K C (.type "object") = some true
section
variable {K : PySem.W.Frag} {mg : Str → Option Value} {x f : Str} {C fI : Addr}
theorem ErrC.toB (T : ErrC K mg x f C fI) : ErrB K mg x f C fI := ⟨T.gC, T.ox.toB, T.no, T.iC, T.tI, T.ga, T.gg, T.hd, T.ac, T.gt, T.tk, T.ob⟩
theorem ErrB.xf (T : ErrB K mg x f C fI) : XfC K C := ⟨T.ga, T.gg, T.ox.exC, T.hd⟩
theorem ErrB.cl (T : ErrB K mg x f C fI) : (PySem.W.clsIn K C).isSome = true := by
  obtain ⟨cd, hc, _⟩ := PySem.W.any_some T.hd
  rw [hc]
  rfl
end
theorem ok_errB {P : Program} {w : World} {K : PySem.W.Frag} {mg : Str → Option Value} {base : Heap} {qual f x par : Str} {st : Stmt} {fI C : Addr} {fd : FuncData} {p1 p2 p3 p4 : Pos} (F : Fun K "__init__" qual st fI fd) (T : ErrB K mg x f C fI)
    (hB : defBody st = [.Assign [.Attribute (.Name "self" p1) f p2] (.Name par p3) p4]) (S : FnScope ["self", par] ["self", par] (defScope st)) (v0 : Vis (defScope st) "self") (v1 : Vis (defScope st) par)
    (d0 : (par == ("__debug__" : Str)) = false := by decide) (d1 : (par == ("__classdict__" : Str)) = false := by decide) : FnOk P w K mg base CX0 1 fI fd ["self", par] (spErr C f) := by
  refine F.ok S (fun vs H Q E h => ?_) (fun cdv A outer s H vs Q E hr h => ?_)
  · obtain ⟨a, v, rfl, _⟩ := h
    rfl
  · obtain ⟨a, v, rfl, e, q⟩ := h
    rw [hB]
    refine ⟨_, pss_one (ps_ostB (pe_var (i := 0) rfl v0 (by decide) (by decide)) (pe_var (i := 1) rfl v1 d0 d1)), ?_⟩
    exact ⟨_, rfl, _, rfl, a, C, rfl, T.ox, T.no, e, fun dx n ne => q dx n ne⟩
theorem call_isXB {X : Cx} {a D fI : Addr} {x f : Str} {oe : Obj} {cls : Value} {d : Option Addr} {pn : List (Addr × Obj)} (T : ErrB X.K X.mg x f D fI) (hz : Zc cls d oe) (hf : ∃ vs, oe.data = .fields vs) :
    CallR (X.suite a ((a, oe) :: pn)) (.builtin "isinstance") (rIsX X.K D a cls d) := by
  intro pins s σ H xs us Q I r h
  obtain ⟨c, cv, b, dd, fs, rfl, k, rfl, rfl, hd, e, q⟩ := h
  cases r with
  | cons rx rr =>
    cases rr with
    | cons rt rr =>
      cases rr
      cases rx
      have ec := k.eq rt
      subst ec
      obtain ⟨hget, _⟩ := I.pin (a, oe) (List.mem_append_left _ List.mem_cons_self)
      obtain ⟨vs, hv⟩ := hf
      have hx : ObjOk X.prog X.w H s.heap dd (.xd fs) := I.hok dd _ hd
      obtain ⟨mA, hns, _⟩ := hx
      obtain ⟨od, ho, _⟩ := lookIn_ns hns
      have J : PySem.W.InstAt s.heap a oe D (some od) := ⟨hget, hz.1, by unfold PySem.W.notCls; rw [hv] <;> rfl, by rw [hz.2]; exact ho⟩
      exact PySem.W.kia_one (PySem.W.kitx_exc T.cl T.ga T.gg T.ox.exC T.ac T.gt T.tk T.ob) I.kIn J e (fun z => nomatch z) fun tk => ⟨.bl b, H, I.kept (t' := tk) fun _ _ z => z, rfl, q⟩
end L2

-- NOREN
namespace Gm
open PySem L2 LamX
abbrev sGot : Stmt := top 39
abbrev nGot : List Str := ["_law_ask", "_law_given", "e"]
theorem scGot : FnScope nGot ["_law_ask"] (defScope sGot) := ⟨rfl, rfl, rfl, by decide +kernel, rfl, by decide +kernel, by decide +kernel⟩
/-- an error class that _law_got tells: where it stands, how it is told, its attribute -/
structure Cat where
  at_ : Addr
  name : Str
  fld : Str
def gotW (cs : List Cat) (Q : VK) : XK := fun cls d H' => ∃ c ∈ cs, cls = .ref c.at_ ∧ ∃ (dd : Addr) (v : V), d = some dd ∧ H' dd = some (.xd [(c.fld, v)]) ∧ ∀ p, H' p = none → Q (.ref p) (upd H' p (.lst [.str c.name, v, .bl true]))
def TTgot (cs : List Cat) : (XK → Hp → VK → Prop) → Hp → VK → Prop := fun tl H Q => tl (gotW cs Q) H (fun v H' => ∀ p, H' p = none → Q (.ref p) (upd H' p (.lst [.str "given", v])))
abbrev Yg (X : Cx) (g : Addr) (cdg : Value) (s : Shared) (H : Hp) : Cx := (cxOf C8.CX0 X.prog X.w X.K X.mg X.base nGot "_law_got" (defScope sGot) g cdg X.A X.stack s H C8.E0).nox
theorem pe_weak {X : Cx} {e : Expr} {t : TE} (h : PE X e t) : PE X e (fun σ H Q => ∃ R : VK, t σ H R ∧ ∀ v H', R v H' → Q v H') := ⟨fun pins s σ H Q I ⟨R, hr, k⟩ =>
  wpAny_mono (h.run pins s σ H R I hr) (fun u s' ⟨v, H', I', r, q⟩ => ⟨v, H', I', r, k _ _ q⟩) fun _ _ z => z⟩
theorem look1 {f : Str} {v : V} : List.lookup f [(f, v)] = some v := by simp [List.lookup]
structure TxG (K : PySem.W.Frag) (mg : Str → Option Value) (CIn CSi CMk CPl CRw CWd CNb CTm : Addr) : Prop where
  isi : mg "isinstance" = none
  pValueError : mg "ValueError" = none
  pArithmeticError : mg "ArithmeticError" = none
  gIn : mg "InputError" = some (.ref CIn)
  gSi : mg "SizeError" = some (.ref CSi)
  xMk_Mk : PySem.W.exmOne K (.ref CMk) (.ref CMk) = some true
  xPl_Mk : PySem.W.exmOne K (.ref CPl) (.ref CMk) = some false
  xPl_Pl : PySem.W.exmOne K (.ref CPl) (.ref CPl) = some true
  xRw_Mk : PySem.W.exmOne K (.ref CRw) (.ref CMk) = some false
  xRw_Pl : PySem.W.exmOne K (.ref CRw) (.ref CPl) = some false
  xRw_Rw : PySem.W.exmOne K (.ref CRw) (.ref CRw) = some true
  xWd_Mk : PySem.W.exmOne K (.ref CWd) (.ref CMk) = some false
  xWd_Pl : PySem.W.exmOne K (.ref CWd) (.ref CPl) = some false
  xWd_Rw : PySem.W.exmOne K (.ref CWd) (.ref CRw) = some false
  xWd_Wd : PySem.W.exmOne K (.ref CWd) (.ref CWd) = some true
  xNb_Mk : PySem.W.exmOne K (.ref CNb) (.ref CMk) = some false
  xNb_Pl : PySem.W.exmOne K (.ref CNb) (.ref CPl) = some false
  xNb_Rw : PySem.W.exmOne K (.ref CNb) (.ref CRw) = some false
  xNb_Wd : PySem.W.exmOne K (.ref CNb) (.ref CWd) = some false
  xNb_Nb : PySem.W.exmOne K (.ref CNb) (.ref CNb) = some true
  xTm_Mk : PySem.W.exmOne K (.ref CTm) (.ref CMk) = some false
  xTm_Pl : PySem.W.exmOne K (.ref CTm) (.ref CPl) = some false
  xTm_Rw : PySem.W.exmOne K (.ref CTm) (.ref CRw) = some false
  xTm_Wd : PySem.W.exmOne K (.ref CTm) (.ref CWd) = some false
  xTm_Nb : PySem.W.exmOne K (.ref CTm) (.ref CNb) = some false
  xTm_Tm : PySem.W.exmOne K (.ref CTm) (.ref CTm) = some true
  bMk : PySem.W.kitOne K (.ref CMk) (.ref CIn) = some true
  vMk : PySem.W.kitOne K (.ref CMk) (.type "ValueError") = some true
  bPl : PySem.W.kitOne K (.ref CPl) (.ref CIn) = some true
  vPl : PySem.W.kitOne K (.ref CPl) (.type "ValueError") = some true
  bRw : PySem.W.kitOne K (.ref CRw) (.ref CIn) = some true
  vRw : PySem.W.kitOne K (.ref CRw) (.type "ValueError") = some true
  bWd : PySem.W.kitOne K (.ref CWd) (.ref CIn) = some true
  vWd : PySem.W.kitOne K (.ref CWd) (.type "ValueError") = some true
  bNb : PySem.W.kitOne K (.ref CNb) (.ref CIn) = some true
  vNb : PySem.W.kitOne K (.ref CNb) (.type "ValueError") = some true
  bTm : PySem.W.kitOne K (.ref CTm) (.ref CSi) = some true
  vTm : PySem.W.kitOne K (.ref CTm) (.type "ArithmeticError") = some true
abbrev catsG (CMk CPl CRw CWd CNb CTm : Addr) : List Cat := [⟨CMk, "InvalidMarks", "value"⟩, ⟨CPl, "InvalidPlace", "value"⟩, ⟨CRw, "InvalidRows", "index"⟩, ⟨CWd, "InvalidWord", "value"⟩, ⟨CNb, "NotABoard", "value"⟩, ⟨CTm, "TooManyRows", "limit"⟩]
theorem got_gives {X : Cx} {q : Str} {g CIn CSi CMk CPl CRw CWd CNb CTm eMk ePl eRw eWd eNb eTm : Addr} {cdg : Value} (T : TxG X.K X.mg CIn CSi CMk CPl CRw CWd CNb CTm) (EMk : ErrB X.K X.mg "InvalidMarks" "value" CMk eMk) (EPl : ErrB X.K X.mg "InvalidPlace" "value" CPl ePl) (ERw : ErrB X.K X.mg "InvalidRows" "index" CRw eRw) (EWd : ErrB X.K X.mg "InvalidWord" "value" CWd eWd) (ENb : ErrB X.K X.mg "NotABoard" "value" CNb eNb) (ETm : ErrB X.K X.mg "TooManyRows" "limit" CTm eTm) :
    GivesTo X nGot "_law_got" (defScope sGot) g cdg (defBody sGot) "_law_ask" q (TTgot (catsG CMk CPl CRw CWd CNb CTm)) := by
  intro f c' s H Q tl act hc h
  have nd := scGot.nd
  refine ⟨_, pss_cons (ps_try_named (X := Yg X g cdg s H)
      (tb := fun W D σ H => ∃ Ech : XK, (∀ cls d σ' H', Ech cls d H' → W cls d σ' H') ∧ ∃ R : VK, (σ[0]? = some (some (.ref f)) ∧ H c' = some (CodeO c' q) ∧ tl Ech H R) ∧ ∀ v H', R v H' → D.nx (σ.set 1 (some v)) H')
      rfl rfl nd L2.takes0 (fun W pn xe tk _ => ?_)
      (.cons (k := (.ref CMk, 2, _)) ⟨⟨by rfl, by decide, .inl EMk.gC⟩, rfl, rfl, fun a oe cl d pn hz hf => pss_one (ps_ret (pe_lst (pa_cons pe_str (pa_cons (pe_xf (X := Yg X g cdg s H) EMk.xf EMk.no hz hf (pv 2))
          (pa_cons (pe_and (pe_callB (call_isXB (X := Yg X g cdg s H) EMk hz hf) (by rfl) T.isi (by decide +kernel) (pa_cons (pv 2) (pa_cons (pe_glob (v := .ref CIn) (by rfl) T.gIn rfl) pa_nil)))
            (pe_one (pe_callB (call_isXB (X := Yg X g cdg s H) EMk hz hf) (by rfl) T.isi (by decide +kernel) (pa_cons (pv 2) (pa_cons (pe_bltn (v := .ty "ValueError") (by rfl) T.pValueError (by decide +kernel) rfl) pa_nil))))) pa_nil)))))⟩
      (.cons (k := (.ref CPl, 2, _)) ⟨⟨by rfl, by decide, .inl EPl.gC⟩, rfl, rfl, fun a oe cl d pn hz hf => pss_one (ps_ret (pe_lst (pa_cons pe_str (pa_cons (pe_xf (X := Yg X g cdg s H) EPl.xf EPl.no hz hf (pv 2))
          (pa_cons (pe_and (pe_callB (call_isXB (X := Yg X g cdg s H) EPl hz hf) (by rfl) T.isi (by decide +kernel) (pa_cons (pv 2) (pa_cons (pe_glob (v := .ref CIn) (by rfl) T.gIn rfl) pa_nil)))
            (pe_one (pe_callB (call_isXB (X := Yg X g cdg s H) EPl hz hf) (by rfl) T.isi (by decide +kernel) (pa_cons (pv 2) (pa_cons (pe_bltn (v := .ty "ValueError") (by rfl) T.pValueError (by decide +kernel) rfl) pa_nil))))) pa_nil)))))⟩
      (.cons (k := (.ref CRw, 2, _)) ⟨⟨by rfl, by decide, .inl ERw.gC⟩, rfl, rfl, fun a oe cl d pn hz hf => pss_one (ps_ret (pe_lst (pa_cons pe_str (pa_cons (pe_xf (X := Yg X g cdg s H) ERw.xf ERw.no hz hf (pv 2))
          (pa_cons (pe_and (pe_callB (call_isXB (X := Yg X g cdg s H) ERw hz hf) (by rfl) T.isi (by decide +kernel) (pa_cons (pv 2) (pa_cons (pe_glob (v := .ref CIn) (by rfl) T.gIn rfl) pa_nil)))
            (pe_one (pe_callB (call_isXB (X := Yg X g cdg s H) ERw hz hf) (by rfl) T.isi (by decide +kernel) (pa_cons (pv 2) (pa_cons (pe_bltn (v := .ty "ValueError") (by rfl) T.pValueError (by decide +kernel) rfl) pa_nil))))) pa_nil)))))⟩
      (.cons (k := (.ref CWd, 2, _)) ⟨⟨by rfl, by decide, .inl EWd.gC⟩, rfl, rfl, fun a oe cl d pn hz hf => pss_one (ps_ret (pe_lst (pa_cons pe_str (pa_cons (pe_xf (X := Yg X g cdg s H) EWd.xf EWd.no hz hf (pv 2))
          (pa_cons (pe_and (pe_callB (call_isXB (X := Yg X g cdg s H) EWd hz hf) (by rfl) T.isi (by decide +kernel) (pa_cons (pv 2) (pa_cons (pe_glob (v := .ref CIn) (by rfl) T.gIn rfl) pa_nil)))
            (pe_one (pe_callB (call_isXB (X := Yg X g cdg s H) EWd hz hf) (by rfl) T.isi (by decide +kernel) (pa_cons (pv 2) (pa_cons (pe_bltn (v := .ty "ValueError") (by rfl) T.pValueError (by decide +kernel) rfl) pa_nil))))) pa_nil)))))⟩
      (.cons (k := (.ref CNb, 2, _)) ⟨⟨by rfl, by decide, .inl ENb.gC⟩, rfl, rfl, fun a oe cl d pn hz hf => pss_one (ps_ret (pe_lst (pa_cons pe_str (pa_cons (pe_xf (X := Yg X g cdg s H) ENb.xf ENb.no hz hf (pv 2))
          (pa_cons (pe_and (pe_callB (call_isXB (X := Yg X g cdg s H) ENb hz hf) (by rfl) T.isi (by decide +kernel) (pa_cons (pv 2) (pa_cons (pe_glob (v := .ref CIn) (by rfl) T.gIn rfl) pa_nil)))
            (pe_one (pe_callB (call_isXB (X := Yg X g cdg s H) ENb hz hf) (by rfl) T.isi (by decide +kernel) (pa_cons (pv 2) (pa_cons (pe_bltn (v := .ty "ValueError") (by rfl) T.pValueError (by decide +kernel) rfl) pa_nil))))) pa_nil)))))⟩
      (.cons (k := (.ref CTm, 2, _)) ⟨⟨by rfl, by decide, .inl ETm.gC⟩, rfl, rfl, fun a oe cl d pn hz hf => pss_one (ps_ret (pe_lst (pa_cons pe_str (pa_cons (pe_xf (X := Yg X g cdg s H) ETm.xf ETm.no hz hf (pv 2))
          (pa_cons (pe_and (pe_callB (call_isXB (X := Yg X g cdg s H) ETm hz hf) (by rfl) T.isi (by decide +kernel) (pa_cons (pv 2) (pa_cons (pe_glob (v := .ref CSi) (by rfl) T.gSi rfl) pa_nil)))
            (pe_one (pe_callB (call_isXB (X := Yg X g cdg s H) ETm hz hf) (by rfl) T.isi (by decide +kernel) (pa_cons (pv 2) (pa_cons (pe_bltn (v := .ty "ArithmeticError") (by rfl) T.pArithmeticError (by decide +kernel) rfl) pa_nil))))) pa_nil)))))⟩
      .nil)))))))
    (pss_one (ps_ret (pe_lst (pa_cons pe_str (pa_cons (pv 1) pa_nil))))), ?_⟩
  · refine ⟨fun pins s' σ H' D I h' => ?_⟩
    obtain ⟨Ech, hW, h1⟩ := h'
    exact (pss_one (ps_set (i := 1) nd rfl (Or.inl rfl) (pe_weak (act W pn xe Ech _ _ tk hW)))).run pins s' σ H' D I h1
  · refine ⟨_, ?_, _, ⟨rfl, hc, h⟩, ?_⟩
    · rintro cls d σ' H' ⟨c, m, rfl, dd, v, rfl, e, k⟩ hl
      simp only [List.mem_cons, List.not_mem_nil, or_false] at m
      have h2 : ∀ u, (σ'.set 2 u)[2]? = some u := fun u => List.getElem?_set_self (by rw [hl]; exact (by decide : 2 < 3))
      have hz : 3 ≤ sizeLine := by rw [sizeLine_eq]; decide
      rcases m with rfl | rfl | rfl | rfl | rfl | rfl
      · refine ⟨true, T.xMk_Mk, fun _ a na => ?_, fun z => nomatch z⟩
        refine ⟨_, h2 _, rfl, rfl, dd, _, v, rfl, e, look1, ?_⟩
        refine ⟨_, h2 _, _, _, true, dd, _, rfl, .own CIn, rfl, rfl, e, T.bMk, _, rfl, iteT ?_⟩
        exact ⟨_, h2 _, _, _, true, dd, _, rfl, .ty "ValueError", rfl, rfl, e, T.vMk, hz, k⟩
      · refine ⟨false, T.xPl_Mk, (fun z => nomatch z), fun _ => ⟨true, T.xPl_Pl, (fun _ a na => ?_), fun z => nomatch z⟩⟩
        refine ⟨_, h2 _, rfl, rfl, dd, _, v, rfl, e, look1, ?_⟩
        refine ⟨_, h2 _, _, _, true, dd, _, rfl, .own CIn, rfl, rfl, e, T.bPl, _, rfl, iteT ?_⟩
        exact ⟨_, h2 _, _, _, true, dd, _, rfl, .ty "ValueError", rfl, rfl, e, T.vPl, hz, k⟩
      · refine ⟨false, T.xRw_Mk, (fun z => nomatch z), fun _ => ⟨false, T.xRw_Pl, (fun z => nomatch z), fun _ => ⟨true, T.xRw_Rw, (fun _ a na => ?_), fun z => nomatch z⟩⟩⟩
        refine ⟨_, h2 _, rfl, rfl, dd, _, v, rfl, e, look1, ?_⟩
        refine ⟨_, h2 _, _, _, true, dd, _, rfl, .own CIn, rfl, rfl, e, T.bRw, _, rfl, iteT ?_⟩
        exact ⟨_, h2 _, _, _, true, dd, _, rfl, .ty "ValueError", rfl, rfl, e, T.vRw, hz, k⟩
      · refine ⟨false, T.xWd_Mk, (fun z => nomatch z), fun _ => ⟨false, T.xWd_Pl, (fun z => nomatch z), fun _ => ⟨false, T.xWd_Rw, (fun z => nomatch z), fun _ => ⟨true, T.xWd_Wd, (fun _ a na => ?_), fun z => nomatch z⟩⟩⟩⟩
        refine ⟨_, h2 _, rfl, rfl, dd, _, v, rfl, e, look1, ?_⟩
        refine ⟨_, h2 _, _, _, true, dd, _, rfl, .own CIn, rfl, rfl, e, T.bWd, _, rfl, iteT ?_⟩
        exact ⟨_, h2 _, _, _, true, dd, _, rfl, .ty "ValueError", rfl, rfl, e, T.vWd, hz, k⟩
      · refine ⟨false, T.xNb_Mk, (fun z => nomatch z), fun _ => ⟨false, T.xNb_Pl, (fun z => nomatch z), fun _ => ⟨false, T.xNb_Rw, (fun z => nomatch z), fun _ => ⟨false, T.xNb_Wd, (fun z => nomatch z), fun _ => ⟨true, T.xNb_Nb, (fun _ a na => ?_), fun z => nomatch z⟩⟩⟩⟩⟩
        refine ⟨_, h2 _, rfl, rfl, dd, _, v, rfl, e, look1, ?_⟩
        refine ⟨_, h2 _, _, _, true, dd, _, rfl, .own CIn, rfl, rfl, e, T.bNb, _, rfl, iteT ?_⟩
        exact ⟨_, h2 _, _, _, true, dd, _, rfl, .ty "ValueError", rfl, rfl, e, T.vNb, hz, k⟩
      · refine ⟨false, T.xTm_Mk, (fun z => nomatch z), fun _ => ⟨false, T.xTm_Pl, (fun z => nomatch z), fun _ => ⟨false, T.xTm_Rw, (fun z => nomatch z), fun _ => ⟨false, T.xTm_Wd, (fun z => nomatch z), fun _ => ⟨false, T.xTm_Nb, (fun z => nomatch z), fun _ => ⟨true, T.xTm_Tm, (fun _ a na => ?_), fun z => nomatch z⟩⟩⟩⟩⟩⟩
        refine ⟨_, h2 _, rfl, rfl, dd, _, v, rfl, e, look1, ?_⟩
        refine ⟨_, h2 _, _, _, true, dd, _, rfl, .own CSi, rfl, rfl, e, T.bTm, _, rfl, iteT ?_⟩
        exact ⟨_, h2 _, _, _, true, dd, _, rfl, .ty "ArithmeticError", rfl, rfl, e, T.vTm, hz, k⟩
    · intro v H' k
      exact ⟨_, rfl, by show 2 ≤ sizeLine; rw [sizeLine_eq]; decide, k⟩
end Gm

-- NOREN
namespace Gm
open PySem L2 LamX
abbrev sWo : Stmt := inClass (top 33) 2
/-- an own error comes out, with v in its attribute -/
def Comes (E : XK) (H : Hp) (C : Addr) (f : Str) (v : V) : Prop := ∀ H' d, Same H H' → H d = none → H' d = some (.xd [(f, v)]) → E (.ref C) (some d) H'
theorem Comes.same {E : XK} {H H1 : Hp} {C : Addr} {f : Str} {v : V} (h : Comes E H C f v) (s : Same H H1) : Comes E H1 C f v := fun H' d s' n e => h H' d (fun b o x => s' _ _ (s _ _ x)) (s.free n) e
/-- whether v is a text over ch of length n -/
def AsW (K : PySem.W.Frag) (H : Hp) (v : V) (ch : List Nat) (n : Int) (b : Bool) : Prop := (∃ s : List Nat, v = .str (tx s) ∧ s.length ≤ 1000 ∧ b = decide (Wd ch n s)) ∨ (∃ t, TyX K H v t ∧ PySem.W.kitOne K t (.type "str") = some false ∧ b = false)
def AsR (K : PySem.W.Frag) (H : Hp) (v : V) (l : List Nat) (n : Int) (b : Bool) : Prop :=
  (∃ a xs, v = .ref a ∧ H a = some (.tup xs) ∧ ((xs.length ≠ 2 ∧ xs.length ≤ 1000 ∧ b = false) ∨ ∃ x y bx bY, xs = [x, y] ∧ AsW K H x l n bx ∧ AsW K H y [48, 49, 50] n bY ∧ b = (bx && bY))) ∨ (∃ t, TyX K H v t ∧ PySem.W.kitOne K t (.type "tuple") = some false ∧ b = false)
section
variable {K : PySem.W.Frag} {H H' : Hp} {v : V} {l ch : List Nat} {n : Int} {b : Bool}
theorem AsW.same (h : AsW K H v ch n b) (s : Same H H') : AsW K H' v ch n b := by
  rcases h with h | ⟨t, ty, k⟩
  · exact .inl h
  · exact .inr ⟨t, ty.same s, k⟩
theorem AsR.same (h : AsR K H v l n b) (s : Same H H') : AsR K H' v l n b := by
  rcases h with ⟨a, xs, e, ha, k⟩ | ⟨t, ty, k⟩
  · refine .inl ⟨a, xs, e, s _ _ ha, ?_⟩
    rcases k with k | ⟨x, y, bx, bY, ex, hx, hy, eb⟩
    · exact .inl k
    · exact .inr ⟨x, y, bx, bY, ex, hx.same s, hy.same s, eb⟩
  · exact .inr ⟨t, ty.same s, k⟩
theorem AsW.sp {Q : VK} (h : AsW K H v ch n b) (q : ∀ H', Same H H' → Q (.bl b) H') : (∃ s : List Nat, v = .str (tx s) ∧ s.length ≤ 1000 ∧ ∀ H', Same H H' → Q (.bl (decide (Wd ch n s))) H') ∨ (∃ t, TyX K H v t ∧ PySem.W.kitOne K t (.type "str") = some false ∧ Q (.bl false) H) := by
  rcases h with ⟨s, e, hs, rfl⟩ | ⟨t, ty, no, rfl⟩
  · exact .inl ⟨s, e, hs, q⟩
  · exact .inr ⟨t, ty, no, q _ (Same.refl H)⟩
end
def spIsRowX (K : PySem.W.Frag) (C : Addr) : Sp := fun vs H Q _ => ∃ (p : Addr) (l : List Nat) (n : Int) (v : V) (b : Bool), vs = [.ref p, v] ∧ Bd C H p l n ∧ AsR K H v l n b ∧ ∀ H', Same H H' → Q (.bl b) H'
def spChkWX (K : PySem.W.Frag) (C CE : Addr) (ch : Option (List Nat)) : Sp := fun vs H Q E => ∃ (p : Addr) (l : List Nat) (n : Int) (v : V) (b : Bool), vs = [.ref p, v] ∧ Bd C H p l n ∧ AsW K H v (ch.getD l) n b ∧
  ((b = true ∧ ∀ H', Same H H' → Q .non H') ∨ (b = false ∧ Comes E H CE "value" v))
def spChkBX (K : PySem.W.Frag) (C CE : Addr) : Sp := fun vs H Q E => ∃ (v : V) (t : Value), vs = [v] ∧ TyX K H v t ∧ ((PySem.W.kitOne K t (.ref C) = some true ∧ Q .non H) ∨ (PySem.W.kitOne K t (.ref C) = some false ∧ Comes E H CE "value" v))
/-- rows, of which the first k are rows and the next one is none -/
inductive FirstBad (K : PySem.W.Frag) (H : Hp) (l : List Nat) (n : Int) : List V → Nat → Prop
  | here {v : V} {vs : List V} : AsR K H v l n false → FirstBad K H l n (v :: vs) 0
  | next {v : V} {vs : List V} {k : Nat} : AsR K H v l n true → FirstBad K H l n vs k → FirstBad K H l n (v :: vs) (k + 1)
theorem FirstBad.same {K : PySem.W.Frag} {H H' : Hp} {l : List Nat} {n : Int} {vs : List V} {k : Nat} (h : FirstBad K H l n vs k) (s : Same H H') : FirstBad K H' l n vs k := by
  induction h with
  | here h => exact .here (h.same s)
  | next h _ ih => exact .next (h.same s) ih
theorem FirstBad.lt {K : PySem.W.Frag} {H : Hp} {l : List Nat} {n : Int} {vs : List V} {k : Nat} (h : FirstBad K H l n vs k) : k < vs.length := by
  induction h with
  | here _ => exact Nat.succ_pos _
  | next _ _ ih => exact Nat.succ_lt_succ ih
theorem FirstBad.get {K : PySem.W.Frag} {H : Hp} {l : List Nat} {n : Int} {vs : List V} {k : Nat} (h : FirstBad K H l n vs k) : ∀ {i : Nat} {x : V}, i ≤ k → vs[i]? = some x → AsR K H x l n (decide (i ≠ k)) := by
  induction h with
  | here h =>
    intro i x hi e
    obtain rfl : i = 0 := Nat.le_zero.mp hi
    cases e
    exact h
  | @next v vs k h _ ih =>
    intro i x hi e
    cases i with
    | zero =>
      cases e
      exact h
    | succ i =>
      have := ih (Nat.le_of_succ_le_succ hi) (by simpa using e)
      rw [show decide (i + 1 ≠ k + 1) = decide (i ≠ k) from decide_eq_decide.mpr ⟨fun a b => a (by rw [b]), fun a b => a (Nat.succ.inj b)⟩]
      exact this
def spChkRX (K : PySem.W.Frag) (C CE : Addr) : Sp := fun vs H _ E => ∃ (p r : Addr) (l : List Nat) (n : Int) (ws : List V), vs = [.ref p, .ref r] ∧ Bd C H p l n ∧ H r = some (.tup ws) ∧ ws.length ≤ 1000 ∧
  ((20 < ws.length ∧ Comes E H CE "index" .non) ∨ (ws.length ≤ 20 ∧ ∃ k, FirstBad K H l n ws k ∧ Comes E H CE "index" (.int (k : Nat))))
def spHInitX (K : PySem.W.Frag) (C CH CB CE : Addr) : Sp := fun vs H _ E => ∃ (p dx r : Addr) (b : V), vs = [.ref p, b, .ref r] ∧ H p = some (.ins CH dx []) ∧
  ((∃ t, TyX K H b t ∧ PySem.W.kitOne K t (.ref C) = some false ∧ Comes E H CB "value" b) ∨ (∃ (a : Addr) (l : List Nat) (n : Int) (ws : List V), b = .ref a ∧ Bd C H a l n ∧ H r = some (.tup ws) ∧ ws.length ≤ 1000 ∧
    ((20 < ws.length ∧ Comes E H CE "index" .non) ∨ (ws.length ≤ 20 ∧ ∃ k, FirstBad K H l n ws k ∧ Comes E H CE "index" (.int (k : Nat))))))
def spHInitRX (K : PySem.W.Frag) (C CH CB CE : Addr) : Sp := fun vs H Q E => ∃ ws rest, vs = ws ++ rest ∧ ws.length = (["self", "board"] : List Str).length ∧ rest.length ≤ sizeLine ∧ ∀ p, H p = none → spHInitX K C CH CB CE (ws ++ [V.ref p]) (upd H p (.tup rest)) Q E
def spThenX (K : PySem.W.Frag) (C CH CW CM CT : Addr) : Sp := fun vs H _ E => ∃ (p : Addr) (l : List Nat) (n : Int) (rows : List Row) (gv tv : V) (bg : Bool), vs = [.ref p, gv, tv] ∧ HistAt C CH H p l n rows ∧ AsW K H gv l n bg ∧
  ((bg = false ∧ Comes E H CW "value" gv) ∨ (bg = true ∧ ∃ bt, AsW K H tv [48, 49, 50] n bt ∧ ((bt = false ∧ Comes E H CM "value" tv) ∨ (bt = true ∧ rows.length = 20 ∧ Comes E H CT "limit" (.int 20)))))
def spWoX (K : PySem.W.Frag) (C CH CP : Addr) : Sp := fun vs H _ E => ∃ (p : Addr) (l : List Nat) (n : Int) (rows : List Row) (v : V), vs = [.ref p, v] ∧ HistAt C CH H p l n rows ∧
  ((∃ i : Int, v = .int i ∧ ¬ (0 ≤ i ∧ i ≤ (rows.length : Int) - 1)) ∨ (∃ t, TyX K H v t ∧ NoInt K t)) ∧ Comes E H CP "value" v
def spFitX (K : PySem.W.Frag) (C CH CW : Addr) : Sp := fun vs H _ E => ∃ (p : Addr) (l : List Nat) (n : Int) (rows : List Row) (v : V), vs = [.ref p, v] ∧ HistAt C CH H p l n rows ∧ AsW K H v l n false ∧ Comes E H CW "value" v
section
variable {P : Program} {w : World} {K : PySem.W.Frag} {mg : Str → Option Value} {base : Heap}
theorem ok_isRowX {f C fW fM : Addr} {fd fdW fdM : FuncData} (F : Fun K "is_row" "is_row" sIsRow f fd) (T : TxW mg) (tt : mg "tuple" = none) (GW : FnOk P w K mg base L2.CX0 2 fW fdW ["board", "value"] (spIsW K C none)) (DW : Df K mg "is_word" fW fdW ["board", "value"])
    (GM : FnOk P w K mg base L2.CX0 2 fM fdM ["board", "value"] (spIsW K C (some [48, 49, 50]))) (DM : Df K mg "are_marks" fM fdM ["board", "value"]) : FnOk P w K mg base L2.CX0 3 f fd ["board", "value"] (spIsRowX K C) := by
  refine F.ok scIR (fun vs H Q E h => ?_) (fun cdv A outer s H vs Q E hr h => ?_)
  · obtain ⟨p, l, n, v, b, rfl, _⟩ := h
    rfl
  · obtain ⟨p, l, n, v, b, rfl, hb, hv, q⟩ := h
    have hline : sizeLine = 16777216 := sizeLine_eq
    refine ⟨_, pss_cons (ps_if (PW.pt (pw_or (pt_not (pt_val (pe_callB call_isi (by rfl) T.isi (by decide +kernel) (pa_cons (pv 1) (pa_cons (pe_bltn (v := .ty "tuple") (by rfl) tt (by decide +kernel) rfl) pa_nil)))))
        (pw_or1 (pt_cmpR op_ne (pe_callB call_len_seq (by rfl) T.len PySem.boot_len (pa_cons (pv 1) pa_nil)) pe_int (nomark _))))) (pss_one (ps_ret pe_bl)) pss_nil)
      (pss_one (ps_ret (pe_and (pe_call GW hr (by rfl) DW.mg DW.kp DW.b .nil L2.pass0 (pa_cons (pv 0) (pa_cons (pe_ix ix_tup (pv 1) pe_int (fun _ _ => rfl)) pa_nil)))
        (pe_one (pe_call GM hr (by rfl) DM.mg DM.kp DM.b .nil L2.pass0 (pa_cons (pv 0) (pa_cons (pe_ix ix_tup (pv 1) pe_int (fun _ _ => rfl)) pa_nil))))))), ?_⟩
    rcases hv with ⟨a, xs, rfl, ha, hv⟩ | ⟨t, ty, no, rfl⟩
    · refine ⟨_, rfl, _, _, _, _, _, rfl, .ty "tuple", .base (.tup ha), kit_ty (r := true) (by decide +kernel), _, rfl, iteF ?_⟩
      refine ⟨_, rfl, a, _, rfl, .inr (SqT.of ha), rfl, _, rfl, ?_⟩
      rcases hv with ⟨nl, _, rfl⟩ | ⟨x, y, bx, bY, rfl, hx, hy, rfl⟩
      · rw [decide_eq_false (show ¬ V.int ((xs.length : Nat) : Int) = V.int 2 from fun e => nl (by have := V.int.inj e; omega))]
        exact iteT (q _ (Same.refl H))
      · refine iteF ?_
        refine ⟨_, rfl, _, rfl, a, _, _, _, rfl, rfl, SqT.of ha, rfl, p, l, n, _, rfl, hb, ?_⟩
        rcases hx with ⟨z, rfl, hz, ez⟩ | ⟨t, ty, no, rfl⟩
        · refine .inl ⟨z, rfl, hz, fun H1 s1 => ⟨_, rfl, ?_⟩⟩
          rw [show decide (Wd ((none : Option (List Nat)).getD l) n z) = bx from ez.symm]
          cases bx with
          | false => exact iteF (q _ s1)
          | true =>
            refine iteT ⟨_, rfl, _, rfl, a, _, _, _, rfl, rfl, SqT.of (s1 _ _ ha), rfl, p, l, n, _, rfl, hb.same s1, ?_⟩
            rcases hy.same s1 with ⟨y, rfl, hy', ey⟩ | ⟨t, ty, no, rfl⟩
            · refine .inl ⟨y, rfl, hy', fun H2 s2 => ?_⟩
              rw [show decide (Wd ((some [48, 49, 50] : Option (List Nat)).getD l) n y) = bY from ey.symm]
              exact q H2 fun b o e => s2 _ _ (s1 _ _ e)
            · exact .inr ⟨t, ty, no, q _ s1⟩
        · exact .inr ⟨t, ty, no, _, rfl, iteF (q _ (Same.refl H))⟩
    · exact ⟨_, rfl, _, _, _, _, _, rfl, .ty "tuple", ty, no, _, rfl, iteT (q _ (Same.refl H))⟩
theorem ok_chkWX {f C CE fO eE : Addr} {fd fdO fdE : FuncData} (F : Fun K "check_word" "check_word" sChkW f fd) (GO : FnOk P w K mg base L2.CX0 2 fO fdO ["board", "value"] (spIsW K C none)) (DO : Df K mg "is_word" fO fdO ["board", "value"])
    (EW : ErrB K mg "InvalidWord" "value" CE eE) (GE : FnOk P w K mg base L2.CX0 1 eE fdE ["self", "value"] (spErr CE "value")) (bE : Binds K fdE ["self", "value"] []) : FnOk P w K mg base (L2.CX P w) 3 f fd ["board", "word"] (spChkWX K C CE none) := by
  refine F.okX scCW (fun vs H Q E h => ?_) (fun cdv A outer s H vs Q E hr h => ?_)
  · obtain ⟨p, l, n, v, b, rfl, _⟩ := h
    rfl
  · obtain ⟨p, l, n, v, b, rfl, hb, hv, h⟩ := h
    refine ⟨_, pss_one (ps_if (pt_not (pt_val (pe_call GO hr (by rfl) DO.mg DO.kp DO.b .nil L2.pass0 (pa_cons (pv 0) (pa_cons (pv 1) pa_nil)))))
      (pss_one (ps_raise rfl (takes_of rfl rfl rfl rfl) (pmk_oexB EW.ox EW.iC EW.tI GE hr bE L2.pass0 (by rfl) EW.gC (pa_cons (pv 1) pa_nil)))) pss_nil), ?_⟩
    refine ⟨_, rfl, _, rfl, p, l, n, _, rfl, hb, ?_⟩
    rcases hv with ⟨z, rfl, hz, ez⟩ | ⟨t, ty, no, rfl⟩
    · refine .inl ⟨z, rfl, hz, fun H1 s1 => ⟨_, rfl, ?_⟩⟩
      rw [show decide (Wd ((none : Option (List Nat)).getD l) n z) = b from ez.symm]
      rcases h with ⟨rfl, q⟩ | ⟨rfl, ex⟩
      · exact iteF (q _ s1)
      · exact iteT ⟨_, rfl, mkErr (ex.same s1)⟩
    · rcases h with ⟨h, _⟩ | ⟨_, ex⟩
      · cases h
      · exact .inr ⟨t, ty, no, _, rfl, iteT ⟨_, rfl, mkErr ex⟩⟩
theorem ok_chkMX {f C CE fO eE : Addr} {fd fdO fdE : FuncData} (F : Fun K "check_marks" "check_marks" sChkM f fd) (GO : FnOk P w K mg base L2.CX0 2 fO fdO ["board", "value"] (spIsW K C (some [48, 49, 50]))) (DO : Df K mg "are_marks" fO fdO ["board", "value"])
    (EW : ErrB K mg "InvalidMarks" "value" CE eE) (GE : FnOk P w K mg base L2.CX0 1 eE fdE ["self", "value"] (spErr CE "value")) (bE : Binds K fdE ["self", "value"] []) : FnOk P w K mg base (L2.CX P w) 3 f fd ["board", "told"] (spChkWX K C CE (some [48, 49, 50])) := by
  refine F.okX scCM (fun vs H Q E h => ?_) (fun cdv A outer s H vs Q E hr h => ?_)
  · obtain ⟨p, l, n, v, b, rfl, _⟩ := h
    rfl
  · obtain ⟨p, l, n, v, b, rfl, hb, hv, h⟩ := h
    refine ⟨_, pss_one (ps_if (pt_not (pt_val (pe_call GO hr (by rfl) DO.mg DO.kp DO.b .nil L2.pass0 (pa_cons (pv 0) (pa_cons (pv 1) pa_nil)))))
      (pss_one (ps_raise rfl (takes_of rfl rfl rfl rfl) (pmk_oexB EW.ox EW.iC EW.tI GE hr bE L2.pass0 (by rfl) EW.gC (pa_cons (pv 1) pa_nil)))) pss_nil), ?_⟩
    refine ⟨_, rfl, _, rfl, p, l, n, _, rfl, hb, ?_⟩
    rcases hv with ⟨z, rfl, hz, ez⟩ | ⟨t, ty, no, rfl⟩
    · refine .inl ⟨z, rfl, hz, fun H1 s1 => ⟨_, rfl, ?_⟩⟩
      rw [show decide (Wd ((some [48, 49, 50] : Option (List Nat)).getD l) n z) = b from ez.symm]
      rcases h with ⟨rfl, q⟩ | ⟨rfl, ex⟩
      · exact iteF (q _ s1)
      · exact iteT ⟨_, rfl, mkErr (ex.same s1)⟩
    · rcases h with ⟨h, _⟩ | ⟨_, ex⟩
      · cases h
      · exact .inr ⟨t, ty, no, _, rfl, iteT ⟨_, rfl, mkErr ex⟩⟩
theorem ok_chkBX {f C CE eE : Addr} {fd fdE : FuncData} (F : Fun K "check_board" "check_board" sChkB f fd) (T : TxW mg) (TC : TxC K mg C) (EW : ErrB K mg "NotABoard" "value" CE eE) (GE : FnOk P w K mg base L2.CX0 1 eE fdE ["self", "value"] (spErr CE "value")) (bE : Binds K fdE ["self", "value"] []) :
    FnOk P w K mg base (L2.CX P w) 3 f fd ["board"] (spChkBX K C CE) := by
  refine F.okX scCB (fun vs H Q E h => ?_) (fun cdv A outer s H vs Q E hr h => ?_)
  · obtain ⟨v, t, rfl, _⟩ := h
    rfl
  · obtain ⟨v, t, rfl, ty, h⟩ := h
    refine ⟨_, pss_one (ps_if (pt_not (pt_val (pe_callB call_isi (by rfl) T.isi (by decide +kernel) (pa_cons (pv 0) (pa_cons (pe_glob (v := .ref C) (by rfl) TC.mgC rfl) pa_nil)))))
      (pss_one (ps_raise rfl (takes_of rfl rfl rfl rfl) (pmk_oexB EW.ox EW.iC EW.tI GE hr bE L2.pass0 (by rfl) EW.gC (pa_cons (pv 0) pa_nil)))) pss_nil), ?_⟩
    rcases h with ⟨k, q⟩ | ⟨k, ex⟩
    · exact ⟨_, rfl, _, _, _, _, _, rfl, .own C, ty, k, _, rfl, iteF q⟩
    · exact ⟨_, rfl, _, _, _, _, _, rfl, .own C, ty, k, _, rfl, iteT ⟨_, rfl, mkErr ex⟩⟩
theorem ok_chkRX {f C CE fR eE : Addr} {fd fdR fdE : FuncData} (F : Fun K "check_rows" "check_rows" sChkR f fd) (tl : mg "len" = none) (te : mg "enumerate" = none) (tm : ∃ t, mg "MOST_ROWS" = some (.int 20 t)) (GR : FnOk P w K mg base L2.CX0 3 fR fdR ["board", "value"] (spIsRowX K C)) (DR : Df K mg "is_row" fR fdR ["board", "value"])
    (EW : ErrB K mg "InvalidRows" "index" CE eE) (GE : FnOk P w K mg base L2.CX0 1 eE fdE ["self", "index"] (spErr CE "index")) (bE : Binds K fdE ["self", "index"] []) : FnOk P w K mg base (L2.CX P w) 4 f fd ["board", "rows"] (spChkRX K C CE) := by
  refine F.okX scCR (fun vs H Q E h => ?_) (fun cdv A outer s H vs Q E hr h => ?_)
  · obtain ⟨p, r, l, n, ws, rfl, _⟩ := h
    rfl
  · obtain ⟨p, r, l, n, ws, rfl, hb, hv, hl, h⟩ := h
    have nd := scCR.nd
    have hr2 : Room 2 _ := hr.mono (by decide)
    obtain ⟨t20, m20⟩ := tm
    refine ⟨_, pss_cons (ps_if (pt_cmpR op_gt (pe_callB call_len_seq (by rfl) tl PySem.boot_len (pa_cons (pv 1) pa_nil)) (pe_glob (v := .int 20) (by rfl) m20 ⟨_, rfl⟩) (nomark _))
        (pss_one (ps_raise rfl (takes_of rfl rfl rfl rfl) (pmk_oexB EW.ox EW.iC EW.tI GE hr2 bE L2.pass0 (by rfl) EW.gC (pa_cons pe_non pa_nil)))) pss_nil)
      (pss_one (ps_for (passes_of rfl) rfl (pi_enumT (by rfl) te (pa_cons (pv 1) pa_nil)) (pg_tup (by rfl) (pgs_cons (pg_name (i := 2) nd rfl (Or.inl rfl)) (pgs_cons (pg_name (i := 3) nd rfl (Or.inl rfl)) pgs_nil)))
        (pss_one (ps_if (pt_not (pt_val (pe_call GR hr (by rfl) DR.mg DR.kp DR.b .nil L2.pass0 (pa_cons (pv 0) (pa_cons (pv 3) pa_nil)))))
          (pss_one (ps_raise rfl (takes_of rfl rfl rfl rfl) (pmk_oexB EW.ox EW.iC EW.tI GE hr2 bE L2.pass0 (by rfl) EW.gC (pa_cons (pv 2) pa_nil)))) pss_nil)))), ?_⟩
    refine ⟨_, rfl, r, _, rfl, .inr (SqT.of hv), _, _, rfl, rfl, _, rfl, ?_⟩
    rcases h with ⟨l20, ex⟩ | ⟨l20, k, fb, ex⟩
    · rw [decide_eq_true (show ((ws.length : Nat) : Int) > 20 from by omega)]
      exact iteT (mkErr ex)
    rw [decide_eq_false (show ¬ ((ws.length : Nat) : Int) > 20 from by omega)]
    have klt := fb.lt
    refine iteF ⟨_, rfl, r, ws, rfl, SqT.of hv, for_it walk_iten (fun i σ H' => (∃ v2 v3 : Option V, σ = [some (.ref p), some (.ref r), v2, v3]) ∧ Same H H' ∧ i ≤ k) ⟨⟨_, _, rfl⟩, Same.refl H, Nat.zero_le _⟩ (fun i σ H' _ ⟨_, sm, _⟩ => SqT.of (sm _ _ hv)) ?_ ?_⟩
    · rintro i x σ H1 H2 hi ⟨⟨v2, v3, rfl⟩, sm, hik⟩ ⟨T, y, rfl, hT, rfl, hy⟩
      have sm2 : Same H (upd H1 T (.tup [.int (i : Nat), y])) := fun b o e => same_upd hT _ _ (sm _ _ e)
      refine ⟨T, _, rfl, SqT.of upd_same, rfl, _, _, rfl, _, _, rfl, rfl, ?_⟩
      have hr_ := (fb.get hik hy).same sm2
      refine ⟨_, rfl, _, rfl, p, l, n, _, _, rfl, hb.same sm2, hr_, fun H3 s3 => ⟨_, rfl, ?_⟩⟩
      by_cases e : i = k
      · rw [decide_eq_false (show ¬ i ≠ k from fun c => c e)]
        refine iteT ⟨_, rfl, mkErr ?_⟩
        rw [e]
        exact (ex.same sm2).same s3
      · rw [decide_eq_true e]
        exact iteF ⟨⟨_, _, rfl⟩, fun b o z => s3 _ _ (sm2 _ _ z), by omega⟩
    · rintro σ H1 ⟨_, _, hik⟩
      omega
theorem ok_hinitX {f C CH CB CE fB fR : Addr} {fd fdB fdR : FuncData} (F : Fun K "__init__" "History.__init__" sHInit f fd) (GB : FnOk P w K mg base (L2.CX P w) 3 fB fdB ["board"] (spChkBX K C CB)) (DB : Df K mg "check_board" fB fdB ["board"]) (TC : TxC K mg C)
    (GR : FnOk P w K mg base (L2.CX P w) 4 fR fdR ["board", "rows"] (spChkRX K C CE)) (DR : Df K mg "check_rows" fR fdR ["board", "rows"]) : FnR P w K mg base (L2.CX P w) 5 f (spHInitRX K C CH CB CE) := by
  obtain ⟨oc, od, kV, doc, pm, an, cdv, ct, osl, rfl, lk, hcd⟩ := F.ex
  refine StX.fn_star (ps := ["self", "board"]) (pv := "rows") (k := 4) lk hcd scHI StX.cxUp (StX.bind_star2 (B := fun us => bindArgs (PySem.W.fnOf "__init__" "History.__init__" (defArgs sHInit) (defBody sHInit) (defScope sHInit) .none kV doc pm an cdv ct) ⟨us, []⟩) (p1 := "self") (p2 := "board") (pv := "rows") (fun a b => rfl) (fun a b r rs => rfl)) fun A outer s H vs Q E hr h => ?_
  obtain ⟨p, dx, r, b, rfl, hp, h⟩ := h
  have hr3 : Room 3 _ := hr.mono (by decide)
  refine ⟨_, pss_cons (ps_expr (pe_call GB hr3 (by rfl) DB.mg DB.kp DB.b .nil (passes_call (takes_of rfl rfl rfl rfl) fun _ _ _ _ h => h) (pa_cons (pv 1) pa_nil)))
    (pss_cons (ps_expr (pe_call GR hr (by rfl) DR.mg DR.kp DR.b .nil (passes_call (takes_of rfl rfl rfl rfl) fun _ _ _ _ h => h) (pa_cons (pv 1) (pa_cons (pv 2) pa_nil)))) (pss_cons ps_never (pss_one ps_never))), ?_⟩
  rcases h with ⟨t, ty, no, ex⟩ | ⟨a, l, n, ws, rfl, hb, hv, hl, h⟩
  · exact ⟨_, rfl, _, t, rfl, ty, .inr ⟨no, ex⟩⟩
  · obtain ⟨⟨db, eb⟩, _⟩ := id hb
    exact ⟨_, rfl, _, _, rfl, ty_board TC eb, .inl ⟨TC.own, _, rfl, _, rfl, a, r, l, n, ws, rfl, hb, hv, hl, h⟩⟩
theorem ok_thenX {f C CH CW CM CT fW fM eT : Addr} {fd fdW fdM fdT : FuncData} (F : Fun K "then" "History.then" sThen f fd) (TH : TxH K mg CH) (tl : mg "len" = none) (tm : ∃ t, mg "MOST_ROWS" = some (.int 20 t))
    (GW : FnOk P w K mg base (L2.CX P w) 3 fW fdW ["board", "word"] (spChkWX K C CW none)) (DW : Df K mg "check_word" fW fdW ["board", "word"]) (GM : FnOk P w K mg base (L2.CX P w) 3 fM fdM ["board", "told"] (spChkWX K C CM (some [48, 49, 50]))) (DM : Df K mg "check_marks" fM fdM ["board", "told"])
    (ET : ErrB K mg "TooManyRows" "limit" CT eT) (GE : FnOk P w K mg base L2.CX0 1 eT fdT ["self", "limit"] (spErr CT "limit")) (bE : Binds K fdT ["self", "limit"] []) : FnOk P w K mg base (L2.CX P w) 4 f fd ["self", "guess", "told"] (spThenX K C CH CW CM CT) := by
  refine F.okX scTh (fun vs H Q E h => ?_) (fun cdv A outer s H vs Q E hr h => ?_)
  · obtain ⟨p, l, n, rows, gv, tv, bg, rfl, _⟩ := h
    rfl
  · obtain ⟨p, l, n, rows, gv, tv, bg, rfl, ⟨dx, b, r, hp, hb, ⟨vs, hv, hw⟩, ok⟩, hg, h⟩ := h
    obtain ⟨t20, m20⟩ := tm
    have hr2 : Room 2 _ := hr.mono (by decide)
    have hl := hw.len
    refine ⟨_, pss_cons (ps_expr (pe_call GW hr (by rfl) DW.mg DW.kp DW.b .nil (passes_call (takes_of rfl rfl rfl rfl) fun _ _ _ _ h => h) (pa_cons (pe_fld (pv 0) rfl) (pa_cons (pv 1) pa_nil))))
      (pss_cons (ps_expr (pe_call GM hr (by rfl) DM.mg DM.kp DM.b .nil (passes_call (takes_of rfl rfl rfl rfl) fun _ _ _ _ h => h) (pa_cons (pe_fld (pv 0) rfl) (pa_cons (pv 2) pa_nil))))
      (pss_cons (ps_if (pt_cmpR op_eq (pe_callB call_len_seq (by rfl) tl PySem.boot_len (pa_cons (pe_fld (pv 0) rfl) pa_nil)) (pe_glob (v := .int 20) (by rfl) m20 ⟨_, rfl⟩) (nomark _))
        (pss_one (ps_raise rfl (takes_of rfl rfl rfl rfl) (pmk_oexB ET.ox ET.iC ET.tI GE hr2 bE L2.pass0 (by rfl) ET.gC (pa_cons (pe_glob (v := .int 20) (by rfl) m20 ⟨_, rfl⟩) pa_nil)))) pss_nil)
      (pss_one ps_never))), ?_⟩
    refine ⟨_, rfl, p, CH, dx, _, _, rfl, hp, TH.cl, TH.nB, hf_board b r, _, rfl, b, l, n, gv, bg, rfl, hb, hg, ?_⟩
    rcases h with ⟨rfl, ex⟩ | ⟨rfl, bt, ht, h⟩
    · exact .inr ⟨rfl, ex⟩
    refine .inl ⟨rfl, fun H1 s1 => ?_⟩
    refine ⟨_, rfl, p, CH, dx, _, _, rfl, s1 _ _ hp, TH.cl, TH.nB, hf_board b r, _, rfl, b, l, n, tv, bt, rfl, hb.same s1, ht.same s1, ?_⟩
    rcases h with ⟨rfl, ex⟩ | ⟨rfl, h20, ex⟩
    · exact .inr ⟨rfl, ex.same s1⟩
    refine .inl ⟨rfl, fun H2 s2 => ?_⟩
    have s02 : Same H H2 := fun b o e => s2 _ _ (s1 _ _ e)
    refine ⟨_, rfl, p, CH, dx, _, _, rfl, s02 _ _ hp, TH.cl, TH.nR, hf_rows b r, r, _, rfl, .inr (SqT.of (s02 _ _ hv)), rfl, _, rfl, ?_⟩
    rw [decide_eq_true (show V.int ((vs.length : Nat) : Int) = V.int 20 from by rw [hl, h20]; rfl)]
    exact iteT (mkErr (ex.same s02))
abbrev nWo : List Str := ["self", "place", "others"]
theorem scWo : FnScope nWo ["self", "place"] (defScope sWo) := ⟨rfl, rfl, rfl, by decide +kernel, rfl, by decide +kernel, by decide +kernel⟩
theorem ok_woX {f C CH CP fW eP : Addr} {fd fdW fdP : FuncData} (F : Fun K "without" "History.without" sWo f fd) (TH : TxH K mg CH) (tl : mg "len" = none) (GW : FnOk P w K mg base L2.CX0 1 fW fdW ["value", "least", "most"] (spWithin K)) (DW : Df K mg "is_integer_within" fW fdW ["value", "least", "most"])
    (EP_ : ErrB K mg "InvalidPlace" "value" CP eP) (GE : FnOk P w K mg base L2.CX0 1 eP fdP ["self", "value"] (spErr CP "value")) (bE : Binds K fdP ["self", "value"] []) : FnOk P w K mg base (L2.CX P w) 3 f fd ["self", "place"] (spWoX K C CH CP) := by
  refine F.okX scWo (fun vs H Q E h => ?_) (fun cdv A outer s H vs Q E hr h => ?_)
  · obtain ⟨p, l, n, rows, v, rfl, _⟩ := h
    rfl
  · obtain ⟨p, l, n, rows, v, rfl, ⟨dx, b, r, hp, hb, ⟨vs, hv, hw⟩, ok⟩, hk, ex⟩ := h
    have hr1 : Room 1 _ := hr.mono (by decide)
    refine ⟨_, pss_cons (ps_if (pt_not (pt_val (pe_call GW hr1 (by rfl) DW.mg DW.kp DW.b .nil L2.pass0 (pa_cons (pv 1) (pa_cons pe_int (pa_cons (pe_op op_sub (pe_callB call_len_seq (by rfl) tl PySem.boot_len (pa_cons (pe_fld (pv 0) rfl) pa_nil)) pe_int) pa_nil))))))
        (pss_one (ps_raise rfl (takes_of rfl rfl rfl rfl) (pmk_oexB EP_.ox EP_.iC EP_.tI GE hr bE L2.pass0 (by rfl) EP_.gC (pa_cons (pv 1) pa_nil)))) pss_nil)
      (pss_cons ps_never (pss_one ps_never)), ?_⟩
    refine ⟨_, rfl, _, rfl, p, CH, dx, _, _, rfl, hp, TH.cl, TH.nR, hf_rows b r, r, _, rfl, .inr (SqT.of hv), _, _, rfl, rfl, ?_⟩
    refine ⟨_, _, _, rfl, ?_⟩
    rcases hk with ⟨i, rfl, no⟩ | ⟨t, ty, no⟩
    · refine .inl ⟨i, rfl, _, rfl, ?_⟩
      rw [decide_eq_false (show ¬ ((0 : Int) ≤ i ∧ i ≤ ((vs.length : Nat) : Int) - 1) from by rw [hw.len]; exact no)]
      exact iteT ⟨_, rfl, mkErr ex⟩
    · exact .inr ⟨t, ty, no, _, rfl, iteT ⟨_, rfl, mkErr ex⟩⟩
theorem scFt : FnScope ["self", "word", "guess", "told"] ["self", "word"] (defScope sFits) := ⟨rfl, rfl, rfl, by decide +kernel, rfl, by decide +kernel, by decide +kernel⟩
theorem ok_fitX {f C CH CW fW : Addr} {fd fdW : FuncData} (F : Fun K "fits" "History.fits" sFits f fd) (TH : TxH K mg CH) (GW : FnOk P w K mg base (L2.CX P w) 3 fW fdW ["board", "word"] (spChkWX K C CW none)) (DW : Df K mg "check_word" fW fdW ["board", "word"]) :
    FnOk P w K mg base (L2.CX P w) 4 f fd ["self", "word"] (spFitX K C CH CW) := by
  refine F.okX scFt (fun vs H Q E h => ?_) (fun cdv A outer s H vs Q E hr h => ?_)
  · obtain ⟨p, l, n, rows, v, rfl, _⟩ := h
    rfl
  · obtain ⟨p, l, n, rows, v, rfl, ⟨dx, b, r, hp, hb, _⟩, hv, ex⟩ := h
    refine ⟨_, pss_cons (ps_expr (pe_call GW hr (by rfl) DW.mg DW.kp DW.b .nil (passes_call (takes_of rfl rfl rfl rfl) fun _ _ _ _ h => h) (pa_cons (pe_fld (pv 0) rfl) (pa_cons (pv 1) pa_nil)))) (pss_one ps_never), ?_⟩
    exact ⟨_, rfl, p, CH, dx, _, _, rfl, hp, TH.cl, TH.nB, hf_board b r, _, rfl, b, l, n, v, false, rfl, hb, hv, .inr ⟨rfl, ex⟩⟩
end
end Gm

/-! the end of a law whose defs are FnG -/
namespace L2
open PySem PySem.Spec PyProof.Rows LamX
/-- what stands behind the top; cs: code objects with their tables -/
structure Ready (K : PySem.W.Frag) (mg mb : Str → Option Value) (z : Shared) (cs : List (Addr × Addr)) : Prop where
  kin : K.In z.heap
  glob : z.heap.Ns mainGlobals mg
  blt : z.heap.Ns builtinsNs mb
  boot : ∀ x : Str, x ≠ "__name__" → mb x = bootBuiltins x
  lim : z.heap.NoLimit
  mods : ∃ mm, z.heap.Ns sysModules mm
  gens : z.gens = #[]
  tabs : ∀ p ∈ cs, z.heap.get? p.2 = some { cls := .none, data := .fields #[] }
  tabK : ∀ p ∈ cs, K.lookup p.2 = none
  code : ∀ p ∈ cs, PySem.W.CodeHd z.heap p.1 p.2
  main : ∃ (bm : Addr) (ob : Obj), mg "__builtins__" = some (.ref bm) ∧ bm ≠ builtinsNs ∧ z.heap.get? bm = some ob ∧ ob.cls = .type "module" ∧ ob.dict = some builtinsNs ∧ ob.data = .plain
/-- the abstract heap at the law's entry: the tables, and the script if it is no object of the module -/
def hp0 (K : PySem.W.Frag) (cs : List (Addr × Addr)) (a : Addr) (o : Obj) (ns : List Int) : Hp := fun b =>
  if b ∈ cs.map (·.2) then some (.tbl #[]) else if b = a ∧ K.lookup a = none then some (.frz o (.lst (ns.map V.int))) else none
section
variable {P : Program} {w : World} {K : PySem.W.Frag} {mg mb : Str → Option Value} {z : Shared} {cs : List (Addr × Addr)} {a : Addr} {vs : List Value} {ns : List Int}
abbrev scr (vs : List Value) : Obj := { cls := .type "list", data := .seq vs.toArray }
theorem hp0_tab {o : Obj} {p : Addr × Addr} (m : p ∈ cs) : hp0 K cs a o ns p.2 = some (.tbl #[]) := if_pos (List.mem_map.mpr ⟨p, m, rfl⟩)
theorem hp0_of {o : Obj} {b : Addr} {u : HO} (e : hp0 K cs a o ns b = some u) : (∃ p ∈ cs, p.2 = b ∧ u = .tbl #[]) ∨ (b = a ∧ K.lookup a = none ∧ u = .frz o (.lst (ns.map V.int))) := by
  unfold hp0 at e
  split at e
  · rename_i m
    obtain ⟨p, hp, q⟩ := List.mem_map.mp m
    exact .inl ⟨p, hp, q, (Option.some.inj e).symm⟩
  · split at e
    · rename_i m
      exact .inr ⟨m.1, m.2, (Option.some.inj e).symm⟩
    · cases e
theorem Ready.quiet (R : Ready K mg mb z cs) (ha : z.heap.get? a = some (scr vs)) {b : Addr} {o : Obj} (e : z.heap.get? b = some o) (n1 : ∀ us n, o.data ≠ .seq us n) (n2 : o.data ≠ .fields #[]) : hp0 K cs a (scr vs) ns b = none := by
  cases q : hp0 K cs a (scr vs) ns b with
  | none => rfl
  | some u =>
    rcases hp0_of q with ⟨p, hp, rfl, _⟩ | ⟨rfl, _, _⟩
    · rw [R.tabs p hp] at e
      cases e
      exact absurd rfl n2
    · rw [ha] at e
      cases e
      exact absurd rfl (n1 _ _)
theorem Ready.hok (R : Ready K mg mb z cs) (ha : z.heap.get? a = some (scr vs)) (hi : IntsAre vs ns) (hl : ns.length ≤ sizeLine) : HOk P w (hp0 K cs a (scr vs) ns) z.heap := fun b u q => by
  rcases hp0_of q with ⟨p, hp, rfl, rfl⟩ | ⟨rfl, _, rfl⟩
  · exact R.tabs p hp
  · exact ⟨ha, by rw [List.length_map]; exact hl, vs, _, vals_ints hi, ha⟩
theorem Ready.seq (R : Ready K mg mb z cs) (ha : z.heap.get? a = some (scr vs)) (hi : IntsAre vs ns) (hl : ns.length ≤ sizeLine) : SqL K (hp0 K cs a (scr vs) ns) a (ns.map V.int) := by
  cases hk : K.lookup a with
  | some o =>
    have e := R.kin a o hk
    rw [ha] at e
    cases e
    have rv := vals_ints hi
    exact .inr ⟨_, vs.toArray, _, hk, rfl, rfl, rfl, by rw [List.size_toArray, hi.length]; exact hl, by simpa using rv⟩
  | none =>
    have nt : a ∉ cs.map (·.2) := fun m => by
      obtain ⟨p, hp, e⟩ := List.mem_map.mp m
      have q := R.tabs p hp
      rw [e, ha] at q
      have q' : Data.seq vs.toArray _ = Data.fields #[] := congrArg Obj.data (Option.some.inj q)
      cases q'
    exact .inl (.inr ⟨scr vs, (if_neg nt).trans (if_pos ⟨rfl, hk⟩)⟩)
theorem Ready.space (R : Ready K mg mb z cs) (ha : z.heap.get? a = some (scr vs)) {b : Addr} {m : Str → Option Value} (x : z.heap.Ns b m) : (hidT z.heap (hp0 K cs a (scr vs) ns)).Ns b m := by
  obtain ⟨o, es, ep, e, d, r⟩ := x
  refine ⟨o, es, ep, hidT_get e (R.quiet ha e (fun us n q => ?_) fun q => ?_), d, r⟩ <;> (rw [d] at q; cases q)
theorem Ready.mod (R : Ready K mg mb z cs) (ha : z.heap.get? a = some (scr vs)) : L2.Mod K mg (hidT z.heap (hp0 K cs a (scr vs) ns)) := by
  refine ⟨fun b o e => hidT_get (R.kin b o e) ?_, R.space ha R.glob, ⟨mb, R.space ha R.blt, R.boot⟩, ?_⟩
  · cases q : hp0 K cs a (scr vs) ns b with
    | none => rfl
    | some u =>
      rcases hp0_of q with ⟨p, hp, rfl, _⟩ | ⟨rfl, n, _⟩
      · have t := R.tabK p hp
        rw [e] at t
        cases t
      · rw [e] at n
        cases n
  · obtain ⟨mc, h1, h2⟩ := R.lim
    exact ⟨mc, R.space ha h1, h2⟩
theorem Ready.tabB (R : Ready K mg mb z cs) (ha : z.heap.get? a = some (scr vs)) {p : Addr × Addr} (hp : p ∈ cs) : TabB (hidT z.heap (hp0 K cs a (scr vs) ns)) mg p.1 p.2 := by
  have tp := R.tabs p hp
  obtain ⟨og, eg, epg, gg, gd, _⟩ := R.glob
  refine ⟨?_, ?_, fun q => ?_⟩
  · obtain ⟨o, us, file, tf, flags, tg, inF, text, tt, e1, r1, r2, r3, r⟩ := R.code p hp
    refine ⟨o, us, file, tf, flags, tg, inF, text, tt, hidT_get e1 (R.quiet ha e1 (fun us n q => ?_) fun q => ?_), r1, r2, r3, r⟩
    · rw [r2] at q
      cases q
    · rw [r2] at q
      cases q
      simp at r3
  · obtain ⟨bm, ob, b1, b2, b3, b4, b5, b6⟩ := R.main
    refine ⟨bm, ob, b1, b2, fun q => ?_, fun q => ?_, hidT_get b3 (R.quiet ha b3 (fun us n q => ?_) fun q => ?_), b4, b5, b6⟩
    · rw [q, gg] at b3
      cases b3
      rw [gd] at b6
      cases b6
    · rw [q, tp] at b3
      cases b3
      cases b6
    · rw [b6] at q
      cases q
    · rw [b6] at q
      cases q
  · rw [q, tp] at gg
    cases gg
    cases gd
theorem callG {k : Nat} {fa : Addr} {fd : FuncData} {x : Str} {sp : Sp} (R : Ready K mg mb z cs) (ha : z.heap.get? a = some (scr vs)) (hi : IntsAre vs ns) (hl : ns.length ≤ sizeLine) (hr : Room k callerA)
    (F : ∀ base : Heap, K.In base → base.Ns mainGlobals mg → (∃ mm, base.Ns sysModules mm) → (∀ p ∈ cs, TabB base mg p.1 p.2) → FnG P w K mg base CX0 k fa fd [x] sp) (hb : ∀ (s : Shared) (u : Value), BindsTo s fd ⟨[u], []⟩ [(x, u)])
    (hsp : ∀ H : Hp, (∀ p ∈ cs, H p.2 = some (.tbl #[])) → SqL K H a (ns.map V.int) → sp [.ref a] H (fun v _ => v = .bl true) fun _ _ _ => False) :
    codeAny (model P w) callerA (.call (.ref fa) ⟨[.ref a], []⟩) (fun r s' => r = .ok (.ret (.bool true)) ∧ OldK z.heap s'.heap ∧ s'.os = z.os ∧ AllBare s'.gens) z := by
  obtain ⟨H, eH⟩ : ∃ H, H = hp0 K cs a (scr vs) ns := ⟨_, rfl⟩
  have M := R.mod (ns := ns) ha
  have hok : HOk P w H z.heap := eH ▸ R.hok ha hi hl
  have tabH : ∀ p ∈ cs, H p.2 = some (.tbl #[]) := fun p hp => eH ▸ hp0_tab hp
  have G := F _ M.kin M.glob (R.mods.imp fun mm h => R.space (ns := ns) ha h) (fun p hp => R.tabB (ns := ns) ha hp)
  have e0 : Env0 P w K mg (hidT z.heap (hp0 K cs a (scr vs) ns)) callerA [] z H := ⟨rfl, M, fun b o e => eH ▸ of_hidT e, Nat.le_of_eq (hidT_size _ _), trivial, nofun, hok, .of_eq R.gens⟩
  refine codeAny_mono (G.goes (us := [.ref a]) (vs := [.ref a]) rfl hr e0 (hb z (.ref a)) (.cons rfl .nil) (hsp H tabH (eH ▸ R.seq ha hi hl))) fun r s' h => ?_
  match r, h with
  | .ok (.ret u), h =>
    obtain ⟨v, H', os, bare, un, hok', rv, q⟩ := h
    have q' : v = .bl true := q
    subst q'
    obtain rfl : u = Value.bool true := rv
    have kept : ∀ {b : Addr} {o : Obj}, (∀ p ∈ cs, p.2 ≠ b) → z.heap.get? b = some o → s'.heap.get? b = some o := fun {b o} nb e => by
      cases q : H b with
      | none => exact un.keep b o e q nofun (by simp)
      | some u =>
        rw [eH] at q
        rcases hp0_of q with ⟨p, hp, e2, _⟩ | ⟨_, _, rfl⟩
        · exact absurd e2 (nb p hp)
        · have z2 := un.frzs b _ _ (eH ▸ q)
          obtain ⟨e1, _⟩ := hok b _ (eH ▸ q)
          obtain ⟨e3, _⟩ := hok' b _ z2
          rw [e] at e1
          cases e1
          exact e3
    have grown : ∀ p ∈ cs, ∃ more : Array Value, s'.heap.get? p.2 = some { cls := .none, data := .fields more } := fun p hp => by
      obtain ⟨more, zz⟩ := un.tbls p.2 #[] (tabH p hp)
      exact ⟨_, hok' p.2 _ zz⟩
    refine ⟨rfl, ⟨fun b o e => ?_, fun b o e => ?_⟩, os, bare⟩
    · by_cases hm : ∃ p ∈ cs, p.2 = b
      · obtain ⟨p, hp, rfl⟩ := hm
        obtain ⟨more, hm⟩ := grown p hp
        have tp := R.tabs p hp
        rw [tp] at e
        cases e
        exact .inr (.inl ⟨((R.code p hp).tab tp).isCodeTable, rfl, #[], more, rfl, by rw [Array.empty_append]; exact hm⟩)
      · exact .inl (kept (fun p hp q => hm ⟨p, hp, q⟩) e)
    · by_cases hm : ∃ p ∈ cs, p.2 = b
      · obtain ⟨p, hp, rfl⟩ := hm
        obtain ⟨more, hm⟩ := grown p hp
        exact ⟨_, hm⟩
      · exact ⟨o, kept (fun p hp q => hm ⟨p, hp, q⟩) e⟩
/-- the goal that k_head leaves -/
theorem walkG {l : PySem.W.OpenLaw} {n k : Nat} {q : Program} {loose : List Str} {XP : (Str → Option Value) → Heap → Prop} {YP : World → Heap → Prop} {d : DefRec} {K : Params → PySem.W.Frag} {x : Str} {sp : PySem.W.Frag → Sp}
    (hn : l.most = some n) (hn2 : n ≤ sizeLine) (hdf : d.params.defaults = []) (hr : Room k callerA) (him : importsNone q = true) (hY : ∀ (w : World) (h : Heap), YP w h → (K w.params).In h)
    (F : ∀ (w : World) (mg : Str → Option Value) (fa : Addr) (h : Heap), (K w.params).In h → h.Ns mainGlobals mg → mg d.name = some (.ref fa) →
      (∀ d ∈ recsOf q, ∃ a o fd c P, mg d.name = some (.ref a) ∧ h.get? a = some o ∧ o.data = .func fd ∧ fd.code = .ref c ∧ h.IsCode c P #[] ∧ h.TableAt c P #[]) →
      ∃ (fd : FuncData) (cs : List (Addr × Addr)), (∀ p ∈ cs, h.get? p.2 = some { cls := .none, data := .fields #[] } ∧ (K w.params).lookup p.2 = none ∧ PySem.W.CodeHd h p.1 p.2) ∧ (∀ (s : Shared) (u : Value), BindsTo s fd ⟨[u], []⟩ [(x, u)]) ∧
        ∀ base : Heap, (K w.params).In base → base.Ns mainGlobals mg → (∃ mm, base.Ns sysModules mm) → (∀ p ∈ cs, TabB base mg p.1 p.2) → FnG l.prog w (K w.params) mg base CX0 k fa fd [x] (fun vs H Q E => (∀ p ∈ cs, H p.2 = some (.tbl #[])) ∧ sp (K w.params) vs H Q E))
    (hsp : ∀ (K : PySem.W.Frag) (H : Hp) (a : Addr) (ns : List Int), ns.length ≤ n → SqL K H a (ns.map V.int) → sp K [.ref a] H (fun v _ => v = .bl true) fun _ _ _ => False) :
    PySem.W.WalkO q loose XP YP l.row.toRowW d [] (fun f vs => PySem.call f vs) := by
  refine Att.attach_call hn hdf fun w s₀ s₁ mg mb fa o pm cd doc a vs ns G Y ho hd hcd hmg hobj hints hlen hg => ?_
  have KX := hY w _ Y
  obtain ⟨fd, cs, C, hb, hF⟩ := F w mg fa _ KX G.T.g hmg G.T.tab
  obtain ⟨mm, hm, _⟩ := (G.T.seer him).mods
  exact callG (cs := cs) ⟨KX, G.T.g, G.T.b, G.T.builtins, G.T.nolimit, ⟨mm, hm⟩, hg, fun p hp => (C p hp).1, fun p hp => (C p hp).2.1, fun p hp => (C p hp).2.2, G.T.bmain⟩ hobj hints (Nat.le_trans hlen hn2) hr hF hb fun H hT hS => ⟨hT, hsp _ H a ns hlen hS⟩
end
end L2

/-! len and truth of an instance with its own __len__ -/
namespace PySem.W
open PySem PySem.Spec PySem.Calls PyProof.Rows Builtin
section
variable {prog : Program} {w : World} {A : Around} {E : Value → Shared → Prop} {s : Shared} {K : Frag} {x C f L : Addr} {ox : Obj} {od : Option Obj} {h₀ : Heap} {m : Str → Option Value}
theorem gm_lenBody {Q : Value → Shared → Prop} (X : K.In s.heap) (I : InstAt s.heap x ox C od) (hs : findIn K (.ref C) "__len__" = some (some (.ref f))) (hf : isFn K (.ref f) = true)
    (h : wpAny (model prog w) A (call (.ref f) [.ref x]) (LenBack Q) E s) : wpAny (model prog w) A (Builtin.«len» ⟨[.ref x], []⟩) (fun fin s' => ∃ r, fin = .done (.ret r) ∧ Q r s') E s := by
  unfold Builtin.«len»
  refine wpAny_bind (m := oneArg "len" _) (wpAny_pure ?_)
  refine wpAny_bind (m := callSpecial? (.ref x) (Str.ofString "__len__")) (special_fn X I hs (beq_iff_eq.mp hf) (wpAny_mono h (fun r s' hr => ?_) fun _ _ y => y))
  cases r <;> first | exact hr.elim | skip
  rename_i n u
  obtain ⟨⟨h0, h1⟩, hq⟩ := hr
  refine wpAny_bind (wpAny_holding (wpAny_pure ?_))
  refine wpAny_bind (wpAny_letGo ?_)
  show wpAny _ _ (if n < 0 then _ else _) _ _ _
  rw [if_neg (by omega)]
  show wpAny _ _ (if n ≥ 2 ^ 63 then _ else _) _ _ _
  rw [if_neg (by omega)]
  exact wpAny_bind (wpAny_mkInt (wpAny_pure ⟨_, rfl, hq⟩))
theorem gm_truthyLen {Q : Bool → Shared → Prop} (X : K.In s.heap) (I : InstAt s.heap x ox C od) (hb : findIn K (.ref C) "__bool__" = some none) (hs : findIn K (.ref C) "__len__" = some (some (.ref f))) (hf : isFn K (.ref f) = true)
    (h : wpAny (model prog w) A.in1 (call (.ref f) [.ref x]) (LenBack fun v s' => ∃ n u, v = .int n u ∧ Q (n != 0) s') E s) : wpAny (model prog w) A (truthy (.ref x)) Q E s := by
  unfold truthy
  refine wpAny_bind (m := callSpecial? (.ref x) (Str.ofString "__bool__")) (wpAny_bind (wpAny_bind (I.type.here ((looks_findIn X hb).here (wpAny_pure ?_)))))
  refine wpAny_bind (wpAny_bind (I.type.here ((looks_findIn X hs).here ?_)))
  show wpAny _ _ (if (some (Value.ref f)).isNone = true then _ else _) _ _ _
  rw [if_neg (by simp)]
  have key : wpAny (model prog w) A (runValue (.builtin "len" ⟨[.ref x], []⟩)) (fun v s' => ∃ n u, v = .int n u ∧ Q (n != 0) s') E s := by
    refine wpAny_runValue (codeAny_builtin entry_len ?_)
    rw [Around.under_plainId plain_len _]
    exact wpAny_mono (gm_lenBody (Q := fun v s' => ∃ n u, v = .int n u ∧ Q (n != 0) s') X I hs hf h) (fun fin s' h' => by obtain ⟨r, rfl, hq⟩ := h'; exact hq) fun _ _ e => e
  exact wpAny_bind (wpAny_mono key (fun r s' h' => by obtain ⟨n, u, rfl, hq⟩ := h'; exact wpAny_pure hq) fun _ _ e => e)
theorem gm_boolLen {Q : Value → Shared → Prop} (X : K.In s.heap) (I : InstAt s.heap x ox C od) (hb : findIn K (.ref C) "__bool__" = some none) (hs : findIn K (.ref C) "__len__" = some (some (.ref f))) (hf : isFn K (.ref f) = true)
    (h : wpAny (model prog w) A.in1.in1.in1 (call (.ref f) [.ref x]) (LenBack fun v s' => ∃ n u, v = .int n u ∧ Q (.bool (n != 0)) s') E s) : wpAny (model prog w) A (call (.type "bool") [.ref x]) Q E s := by
  refine callType_codes (T := "bool") (Bi := Builtin.«object.__init__») (Q₁ := fun r s₁ => ∃ b, r = .bool b ∧ Q r s₁) PySem.F.called_bool (PySem.F.typeCall_bool_1 _) PySem.F.entry_object_init ?_ ?_
  · refine codeAny_of_tree ?_
    show wpAny _ A.in1.in1 (do checkBuiltinCall "bool.__new__" ⟨[.type "bool", .ref x], []⟩; again (.builtin "bool.__new__" ⟨[.type "bool", .ref x], []⟩)) _ _ s
    refine wpAny_bind (wpAny_of_eq (PySem.F.newCall_bool_1 _) (wpAny_pure ⟨plainId_quiet (by decide +kernel) _, codeAny_builtin PySem.F.entry_bool_new ?_⟩))
    rw [Around.under_plainId (by decide +kernel) _]
    unfold Builtin.«bool.__new__»
    refine wpAny_bind (wpAny_pure ?_)
    refine wpAny_bind (wpAny_of_eq PySem.F.conv_sub_bool ?_)
    refine wpAny_bind (wpAny_pure ?_)
    exact wpAny_bind (wpAny_mono (gm_truthyLen (Q := fun b s₁ => Q (.bool b) s₁) X I hb hs hf h) (fun b s₁ hq => wpAny_pure ⟨_, rfl, hq⟩) fun _ _ y => y)
  · rintro obj s₁ ⟨b, rfl, hq⟩
    exact ⟨typeIs_bool _ _, PySem.F.args_object_init_2 _ _, object_init_meets PySem.F.called_bool.init.lookup PySem.F.called_bool.made (by decide) prog w A.in1 _ s₁ ⟨typeIs_bool _ _, rfl, hq⟩⟩
end
end PySem.W
namespace L2
open PySem PySem.Spec PyProof.Rows
section
variable {X : Cx} {n : Nat} {pins : List (Addr × Obj)} {σ : St} {H : Hp} {s : Shared}
/-- len(x), bool(x) by the class's own __len__ -/
def rLenO (C : Addr) (sp : Sp) (E : XK) (g : Int → V) : List V → Hp → VK → Prop := fun xs H Q => ∃ a dx fs, xs = [.ref a] ∧ H a = some (.ins C dx fs) ∧ sp [.ref a] H (fun v H' => ∃ i : Int, v = .int i ∧ 0 ≤ i ∧ i < 1073741824 ∧ Q (g i) H') E
theorem call_lenOwn {CX : CXT} {C f : Addr} {fd : FuncData} {ps : List Str} {sp : Sp} {E : XK} (hr : Room (n + 1) X.A) (F : FnOk X.prog X.w X.K X.mg X.base CX n f fd ps sp) (hs : PySem.W.findIn X.K (.ref C) "__len__" = some (some (.ref f))) (hf : PySem.W.isFn X.K (.ref f) = true)
    (hb : Binds X.K fd ps []) (hx : Passes CX X E) : CallR X (.builtin "len") (rLenO C sp E .int) := by
  intro pins s σ H xs us Q I r h
  obtain ⟨a, dx, fs, rfl, ha, hsp⟩ := h
  obtain ⟨mA, J, _⟩ := ins_get I.hok ha
  obtain ⟨od, J, _⟩ := J.look
  obtain ⟨m, hF⟩ := I.fr
  cases r with
  | cons r1 r2 =>
    cases r2
    cases r1
    refine PySem.W.len_K hF I.ok.mod.kin J hs hf ?_
    refine wpAny_mono (gm_call ⟨hr.in1, rfl⟩ I F hb hx (vs := [.ref a]) (us := [.ref a]) (.cons rfl .nil) hsp) (fun z s' hz => ?_) fun _ _ e => e
    obtain ⟨z', H', I', rz, i, rfl, h0, h1, q⟩ := hz
    obtain ⟨t, rfl⟩ := rz
    exact ⟨⟨h0, by omega⟩, .int i, H', I'.tok _, ⟨_, rfl⟩, q⟩
theorem call_boolOwn {CX : CXT} {C f : Addr} {fd : FuncData} {ps : List Str} {sp : Sp} {E : XK} (hr : Room (n + 3) X.A) (F : FnOk X.prog X.w X.K X.mg X.base CX n f fd ps sp) (hb0 : PySem.W.findIn X.K (.ref C) "__bool__" = some none) (hs : PySem.W.findIn X.K (.ref C) "__len__" = some (some (.ref f))) (hf : PySem.W.isFn X.K (.ref f) = true)
    (hb : Binds X.K fd ps []) (hx : Passes CX X E) : CallR X (.type "bool") (rLenO C sp E fun i => .bl (i != 0)) := by
  intro pins s σ H xs us Q I r h
  obtain ⟨a, dx, fs, rfl, ha, hsp⟩ := h
  obtain ⟨mA, J, _⟩ := ins_get I.hok ha
  obtain ⟨od, J, _⟩ := J.look
  cases r with
  | cons r1 r2 =>
    cases r2
    cases r1
    refine PySem.W.gm_boolLen I.kIn J hb0 hs hf ?_
    refine wpAny_mono (gm_call ⟨hr.in1.in1.in1, rfl⟩ I F hb hx (vs := [.ref a]) (us := [.ref a]) (.cons rfl .nil) hsp) (fun z s' hz => ?_) fun _ _ e => e
    obtain ⟨z', H', I', rz, i, rfl, h0, h1, q⟩ := hz
    obtain ⟨t, rfl⟩ := rz
    exact ⟨⟨h0, by omega⟩, _, _, rfl, .bl (i != 0), H', I'.tok _, rfl, q⟩
end
end L2

-- NOREN
namespace Gm
open PySem PySem.Spec PyProof.Rows L2 LamX
/-- a def whose code object stands at c -/
structure FunC (K : PySem.W.Frag) (x qual : Str) (st : Stmt) (f : Addr) (fd : FuncData) (c : Addr) : Prop where
  ex : ∃ (oc : Value) (od : Option Addr) (kV doc pm : Value) (an : Option Addr) (ct : Value) (osl : Array (Option Value)),
    fd = PySem.W.fnOf x qual (defArgs st) (defBody st) (defScope st) .none kV doc pm an (.ref c) ct ∧ K.lookup f = some ⟨oc, od, .func fd, osl⟩ ∧ PySem.W.codeIn K (.ref c) qual = true
  keep : PySem.W.keepIn K (.ref f) = true
theorem FunC.okG {P : Program} {w : World} {K : PySem.W.Frag} {mg : Str → Option Value} {base : Heap} {x qual : Str} {st : Stmt} {f c : Addr} {fd : FuncData} {N ps : List Str} {k : Nat} {sp : Sp} (F : FunC K x qual st f fd c) (S : FnScope N ps (defScope st))
    (many : ∀ vs H Q E, sp vs H Q E → vs.length = ps.length)
    (body : ∀ (A : Around) (outer : List Env) (s : Shared) (H : Hp) (vs : List V) (Q : VK) (E : XK), A.guards = some [] → Room k (A.deeper (envOfC qual (defScope st) s.heap.objs.size f (.ref c))) → sp vs H Q E →
      ∃ t, PSs (cxOf L2.CX0 P w K mg base N qual (defScope st) f (.ref c) A outer s H E).nox (defBody st) t ∧ t { nx := fun _ H' => Q .non H', rt := Q } (L2.start N vs) H) : FnG P w K mg base L2.CX0 (k + 1) f fd ps sp := by
  obtain ⟨oc, od, kV, doc, pm, an, ct, osl, rfl, lk, hcd⟩ := F.ex
  refine ⟨fun h => many _ _ _ _ h, fun {A outer s H args us vs Q E} g hr e b r h => ?_⟩
  refine LamX.run_ofS lk hcd S hr e b r (many _ _ _ _ h) fun hr' => ?_
  obtain ⟨t, ht, q⟩ := body A outer s H vs Q E g hr' h
  exact ⟨t, ht.nox, q⟩
/-- q is no address of what is known of H -/
def New (H : Hp) (q : Addr) : Prop := ∀ b o, H b = some o → (∀ ps, o ≠ .tbl ps) → b ≠ q
theorem New.of {H : Hp} {q : Addr} (n : H q = none) : New H q := fun b o e _ => ne_of_none e n
theorem Tabs.keep {p : Addr} {T : List (Addr × Str)} {H H' : Hp} (t : Tabs T H) (hp : ∃ xs, H p = some (.lst xs)) (k : ∀ b o, b ≠ p → H b = some o → H' b = some o) : Tabs T H' := fun z hz => by
  obtain ⟨ps, h1, h2, h3⟩ := t z hz
  obtain ⟨xs, e⟩ := hp
  have np : ∀ {b : Addr} {o : HO}, H b = some o → (∀ xs, o ≠ .lst xs) → b ≠ p := fun {b o} e' n q => by
    rw [q, e] at e'
    exact n xs (Option.some.inj e').symm
  refine ⟨ps, k _ _ (np h1 fun _ z => by cases z) h1, h2, fun pos cv hc => ?_⟩
  obtain ⟨c, e1, e2⟩ := h3 pos cv hc
  exact ⟨c, e1, k _ _ (np e2 fun xs z => by unfold CodeO at z; cases z) e2⟩
/-- what _law_got tells of an error that comes -/
theorem comes_got {cs : List Cat} {c : Cat} {v : V} {H H2 : Hp} {Q : VK} {T : List (Addr × Str)} (m : c ∈ cs) (s : ExtN H H2) (t : Tabs T H2)
    (k : ∀ H' q, ExtN H H' → Tabs T H' → New H q → H' q = some (.lst [.str c.name, v, .bl true]) → Q (.ref q) H') : Comes (gotW cs Q) H2 c.at_ c.fld v := fun H' d s' n e =>
  ⟨c, m, rfl, d, v, rfl, e, fun q nq => by
    have x : ExtN H (upd H' q (.lst [.str c.name, v, .bl true])) := fun b o e tb => by
      have e' := s' _ _ (s b o e tb)
      rw [upd_ne (ne_of_none e' nq)]
      exact e'
    exact k _ q x (t.ext fun b o e => by rw [upd_ne (ne_of_none (s' _ _ e) nq)]; exact s' _ _ e) (fun b o e tb z => by
      have e' := s' _ _ (s b o e tb)
      rw [z, nq] at e'
      cases e') upd_same⟩
abbrev sOf : Stmt := top 38
def spOfL : Sp := fun vs H Q _ => ∃ (p l : Addr) (xs : List V), vs = [.ref p, .ref l] ∧ BowlAt H p ∧ l ≠ p ∧ H l = some (.lst xs) ∧ 0 < xs.length ∧ xs.length ≤ 1000 ∧ ∀ H' v, Stir p H H' → v ∈ xs → Q v H'
theorem scOf : FnScope ["_law_bowl_here", "_law_things"] ["_law_bowl_here", "_law_things"] (defScope sOf) := ⟨rfl, rfl, rfl, by decide +kernel, rfl, by decide +kernel, by decide +kernel⟩
section
variable {P : Program} {w : World} {K : PySem.W.Frag} {mg : Str → Option Value} {base : Heap}
theorem ok_ofL {f fD : Addr} {fd fdD : FuncData} (F : Fun K "_law_of" "_law_of" sOf f fd) (tl : mg "len" = none) (GD : FnOk P w K mg base L2.CX0 1 fD fdD ["_law_bowl_here", "_law_many_here"] spDip) (DD : Df K mg "_law_dip" fD fdD ["_law_bowl_here", "_law_many_here"]) :
    FnOk P w K mg base L2.CX0 2 f fd ["_law_bowl_here", "_law_things"] spOfL := by
  refine F.ok scOf (fun vs H Q E h => ?_) (fun cdv A outer s H vs Q E hr h => ?_)
  · obtain ⟨p, l, xs, rfl, _⟩ := h
    rfl
  · obtain ⟨p, l, xs, rfl, hp, nl, hl, l0, l1, q⟩ := h
    refine ⟨_, pss_one (ps_ret (pe_ix ix_list (pv 1) (pe_call GD hr (by rfl) DD.mg DD.kp DD.b .nil L2.pass0 (pa_cons (pv 0) (pa_cons (pe_callB call_len_seq (by rfl) tl PySem.boot_len (pa_cons (pv 1) pa_nil)) pa_nil))) (fun _ _ => rfl))), ?_⟩
    refine ⟨_, rfl, _, rfl, _, rfl, l, _, rfl, .inl (SqL.of hl), p, _, rfl, hp, by omega, by omega, fun H1 d R d0 d1 => ?_⟩
    obtain ⟨j, rfl⟩ := Int.eq_ofNat_of_zero_le d0
    have hj : j < xs.length := by omega
    exact ⟨l, _, _, xs[j], rfl, rfl, SqL.of (R.1 _ _ nl hl), atI_nat (List.getElem?_eq_getElem hj), q H1 _ R (List.getElem_mem hj)⟩
end
theorem new_at {H : Hp} {a : Addr} {o : HO} (_ : H a = none) : upd H a o a = some o := upd_same
theorem Same.trans {A B C : Hp} (x : Same A B) (y : Same B C) : Same A C := fun b o e => y _ _ (x _ _ e)
theorem forall_app {P : V → Prop} {xs ys : List V} (h : ∀ v ∈ xs, P v) (k : ∀ v ∈ ys, P v) : ∀ v ∈ xs ++ ys, P v := fun v m => (List.mem_append.mp m).elim (h v) (k v)
theorem ExtN.made {H H1 : Hp} {x dx : Addr} {o u : HO} (e : ExtN H H1) (nx : H1 x = none) (nd : H1 dx = none) : ExtN H (upd (upd H1 dx o) x u) := fun b v h t => by
  have h' := e b v h t
  rw [upd_ne (ne_of_none h' nx), upd_ne (ne_of_none h' nd)]
  exact h'
theorem tabs_made {T : List (Addr × Str)} {H1 : Hp} {x dx : Addr} {o u : HO} (t : Tabs T H1) (nx : H1 x = none) (nd : H1 dx = none) : Tabs T (upd (upd H1 dx o) x u) := t.ext fun b v h => by
  rw [upd_ne (ne_of_none h nx), upd_ne (ne_of_none h nd)]
  exact h
theorem tabs_put {T : List (Addr × Str)} {H : Hp} {S : Addr} {xs ys : List V} (t : Tabs T H) (e : H S = some (.lst xs)) : Tabs T (upd H S (.lst ys)) := Gm.Tabs.keep t ⟨xs, e⟩ fun b o n h => by rw [upd_ne n]; exact h

abbrev sFull : Stmt := top 40
abbrev sMany : Stmt := top 41
abbrev sHLen : Stmt := inClass (top 33) 5
/-! ### things as data -/
def shortS : PyData → Bool
  | .str s => decide (s.length ≤ 1000)
  | _ => true
def shortD : PyData → Bool
  | .str s => decide (s.length ≤ 1000)
  | .tuple ds => decide (ds.length ≤ 1000) && ds.all shortS
  | _ => true
def wordB (ch : List Nat) (n : Int) : PyData → Bool
  | .str s => decide (Wd ch n s.cps.toList)
  | _ => false
def rowB (l : List Nat) (n : Int) : PyData → Bool
  | .tuple [a, b] => wordB l n a && wordB [48, 49, 50] n b
  | _ => false
theorem flats_len {vs : List V} {ds : List PyData} (h : Flats vs ds) : vs.length = ds.length := by
  induction h with
  | nil => rfl
  | cons _ _ ih => rw [List.length_cons, List.length_cons, ih]
theorem tx_self (s : Str) : s = tx s.cps.toList := TL.ext_tl rfl
theorem flat_word {K : PySem.W.Frag} {H : Hp} {v : V} {d : PyData} {ch : List Nat} {n : Int} (h : Flat v d) (sh : shortS d = true) : AsW K H v ch n (wordB ch n d) := by
  cases h with
  | str x => exact .inl ⟨x.cps.toList, by rw [← tx_self], by have := of_decide_eq_true sh; rw [str_len]; exact this, rfl⟩
  | non => exact .inr ⟨_, .base .non, kit_ty (by decide +kernel), rfl⟩
  | bl b => exact .inr ⟨_, .base (.bl b), kit_ty (by decide +kernel), rfl⟩
  | int i => exact .inr ⟨_, .base (.int i), kit_ty (by decide +kernel), rfl⟩
theorem thing_word {K : PySem.W.Frag} {p : Addr} {H : Hp} {v : V} {d : PyData} {t : String} {ch : List Nat} {n : Int} (h : Thing p H v d t) (sh : shortD d = true) : AsW K H v ch n (wordB ch n d) := by
  have ty := h.ty (K := K)
  cases h with
  | str x => exact .inl ⟨x.cps.toList, by rw [← tx_self], by have := of_decide_eq_true sh; rw [str_len]; exact this, rfl⟩
  | _ => exact .inr ⟨_, ty, kit_ty (by decide +kernel), rfl⟩
theorem thing_row {K : PySem.W.Frag} {p : Addr} {H : Hp} {v : V} {d : PyData} {t : String} {l : List Nat} {n : Int} (h : Thing p H v d t) (sh : shortD d = true) : AsR K H v l n (rowB l n d) := by
  have ty := h.ty (K := K)
  cases h with
  | @tup a xs ds ne e f =>
    have fl := flats_len f
    have sh' : (decide (ds.length ≤ 1000) && ds.all shortS) = true := sh
    rw [Bool.and_eq_true] at sh'
    have l1 := of_decide_eq_true sh'.1
    refine .inl ⟨a, xs, rfl, e, ?_⟩
    match xs, ds, f, sh'.2 with
    | [], [], _, _ => exact .inl ⟨by decide, by decide, rfl⟩
    | [x], [d], _, _ => exact .inl ⟨by simp, by simp, rfl⟩
    | [x, y], [d1, d2], .cons f1 (.cons f2 .nil), s2 =>
      have s2' : (shortS d1 && (shortS d2 && true)) = true := s2
      rw [Bool.and_eq_true, Bool.and_eq_true] at s2'
      exact .inr ⟨x, y, _, _, rfl, flat_word f1 s2'.1, flat_word f2 s2'.2.1, rfl⟩
    | x :: y :: z :: xs, d1 :: d2 :: d3 :: ds, _, _ => exact .inl ⟨by simp, by rw [fl]; exact l1, rfl⟩
  | _ => exact .inr ⟨_, ty, kit_ty (by decide +kernel), rfl⟩
/-- an item of a menu, of whose data P holds, of whose value C -/
def ItemD (p : Addr) (H : Hp) (P : PyData → Prop) (C : V → Prop) (v : V) : Prop := ∃ d t, Thing p H v d t ∧ Sh d 300 2 ∧ P d ∧ C v
section
variable {p : Addr} {H H' : Hp} {P : PyData → Prop} {C : V → Prop}
theorem ItemD.keep {v : V} (h : ItemD p H P C v) (k : Kp p H H') : ItemD p H' P C v := let ⟨d, t, a, b, c⟩ := h; ⟨d, t, a.keep k, b, c⟩
theorem itd_non (c : P .none) (e : C .non) : ItemD p H P C .non := ⟨_, _, .non, (Sh.non (m := 0)).le (by decide) (by decide), c, e⟩
theorem itd_bl (b : Bool) (c : P (.bool b)) (e : C (.bl b)) : ItemD p H P C (.bl b) := ⟨_, _, .bl b, (Sh.bl b).le (by decide) (Nat.le_refl _), c, e⟩
theorem itd_int (i : Int) (h : i.natAbs.log2 < 1920) (h2 : ((toString i : String) : Str).length ≤ 300) (c : P (.int i)) (e : C (.int i)) : ItemD p H P C (.int i) := ⟨_, _, .int i, .int i h h2, c, e⟩
theorem itd_str (x : Str) (h : (reprText x).length ≤ 300) (c : P (.str x)) (e : C (.str x)) : ItemD p H P C (.str x) := ⟨_, _, .str x, .str x h, c, e⟩
theorem itd_dic {a : Addr} (n : a ≠ p) (h : H a = some (.dK [])) (c : P (.dict [])) (e : C (.ref a)) : ItemD p H P C (.ref a) := ⟨_, _, .dic n h, (Sh.dic (m := 0)).le (by decide) (by decide), c, e⟩
theorem itd_tup {a : Addr} {xs : List V} {ds : List PyData} {k : Nat} (n : a ≠ p) (h : H a = some (.tup xs)) (f : Flats xs ds) (s : ShAll ds k 0) (hk : k + 3 ≤ 300) (c : P (.tuple ds)) (e : C (.ref a)) : ItemD p H P C (.ref a) := ⟨_, _, .tup n h f, (Sh.tup s).le hk (by decide), c, e⟩
theorem itd_lst {a : Addr} {xs : List V} {ds : List PyData} {k : Nat} (n : a ≠ p) (h : H a = some (.lst xs)) (f : Flats xs ds) (s : ShAll ds k 0) (hk : k + 3 ≤ 300) (c : P (.list ds)) (e : C (.ref a)) : ItemD p H P C (.ref a) := ⟨_, _, .lst n h f, (Sh.lst s).le hk (by decide), c, e⟩
end
theorem itd_heap {p : Addr} {H : Hp} {o : HO} {xs : List V} {P : PyData → Prop} {C : V → Prop} (_ : H p = some o) (h : ∀ v ∈ xs, ItemD p H P C v) : ∀ v ∈ xs, ItemD p H P C v := h
/-! ### what stands while the law asks -/
/-- all but p, S and the tables as it stood -/
def Kq (p S : Addr) (H H' : Hp) : Prop := ∀ b o, b ≠ p → b ≠ S → (∀ ps, o ≠ .tbl ps) → H b = some o → H' b = some o
theorem Kq.refl {p S : Addr} {H : Hp} : Kq p S H H := fun _ _ _ _ _ e => e
theorem Kq.trans {p S : Addr} {A B D : Hp} (a : Kq p S A B) (b : Kq p S B D) : Kq p S A D := fun c o n m t e => b c o n m t (a c o n m t e)
theorem Kq.kp {p S : Addr} {H H' : Hp} (k : Kp p H H') : Kq p S H H' := fun b o n _ t e => k b o n t e
theorem Kq.put {p S : Addr} {H : Hp} {o : HO} : Kq p S H (upd H S o) := fun b u _ m _ e => by rw [upd_ne m]; exact e
/-- S is no address of a tuple or an instance of H -/
def NewL (H : Hp) (S : Addr) : Prop := ∀ b o, H b = some o → (∀ ps, o ≠ .tbl ps) → (∀ xs, o ≠ .lst xs) → b ≠ S
theorem NewL.of {H : Hp} {S : Addr} (w : New H S) : NewL H S := fun b o e t _ => w b o e t
theorem NewL.at_ {H : Hp} {S : Addr} {xs : List V} (h : H S = some (.lst xs)) : NewL H S := fun b o e _ l z => by
  rw [z, h] at e
  exact l _ (Option.some.inj e).symm
theorem Thing.kq {p S : Addr} {H H' : Hp} {v : V} {d : PyData} {t : String} (h : Thing p H v d t) (ne : v ≠ .ref S) (k : Kq p S H H') : Thing p H' v d t := by
  cases h with
  | non => exact .non
  | bl b => exact .bl b
  | int i => exact .int i
  | str x => exact .str x
  | tup n e f => exact .tup n (k _ _ n (fun z => ne (by rw [z])) (fun _ z => by cases z) e) f
  | lst n e f => exact .lst n (k _ _ n (fun z => ne (by rw [z])) (fun _ z => by cases z) e) f
  | dic n e => exact .dic n (k _ _ n (fun z => ne (by rw [z])) (fun _ z => by cases z) e)
theorem Thing.new {p S : Addr} {H : Hp} {v : V} {d : PyData} {t : String} (h : Thing p H v d t) (w : New H S) : v ≠ .ref S := fun z => by
  cases h with
  | tup _ e f => cases z; exact w _ _ e (fun _ z => by cases z) rfl
  | lst _ e f => cases z; exact w _ _ e (fun _ z => by cases z) rfl
  | dic _ e => cases z; exact w _ _ e (fun _ z => by cases z) rfl
  | _ => cases z
theorem ne_bowl {H : Hp} {p a : Addr} {o : HO} (hp : BowlAt H p) (h : H a = some o) (n : ∀ xs, o ≠ .lst xs) : a ≠ p := fun z => by
  obtain ⟨x, y, w, e⟩ := hp
  rw [z, e] at h
  exact n _ (Option.some.inj h).symm
section
variable {p S : Addr} {H H' : Hp} {l : List Nat} {n : Int}
theorem keep1 (hp : BowlAt H p) (w : NewL H S) (k : Kq p S H H') {b : Addr} {o : HO} (t : ∀ ps, o ≠ .tbl ps) (ls : ∀ xs, o ≠ .lst xs) (e : H b = some o) : H' b = some o := k b o (ne_bowl hp e ls) (w b o e t ls) t e
theorem Bd.kq {C b : Addr} (h : Bd C H b l n) (hp : BowlAt H p) (w : NewL H S) (k : Kq p S H H') : Bd C H' b l n := by
  obtain ⟨⟨dx, e⟩, r⟩ := h
  exact ⟨⟨dx, keep1 hp w k (fun _ z => by cases z) (fun _ z => by cases z) e⟩, r⟩
theorem Rws.kq {vs : List V} {rs : List Row} (h : Rws H vs rs) (hp : BowlAt H p) (w : NewL H S) (k : Kq p S H H') : Rws H' vs rs := by
  induction h with
  | nil => exact .nil
  | cons ha _ ih => exact .cons (keep1 hp w k (fun _ z => by cases z) (fun _ z => by cases z) ha) ih
theorem HistAt.kq {C CH q : Addr} {rows : List Row} (h : HistAt C CH H q l n rows) (hp : BowlAt H p) (w : NewL H S) (k : Kq p S H H') : HistAt C CH H' q l n rows := by
  obtain ⟨dx, b, r, e, hb, ⟨vs, hv, hw⟩, ok⟩ := h
  exact ⟨dx, b, r, keep1 hp w k (fun _ z => by cases z) (fun _ z => by cases z) e, hb.kq hp w k, ⟨vs, keep1 hp w k (fun _ z => by cases z) (fun _ z => by cases z) hv, hw.kq hp w k⟩, ok⟩
theorem BowlAt.ext (h : BowlAt H p) (x : ExtN H H') : BowlAt H' p := let ⟨a, b, c, e⟩ := h; ⟨a, b, c, x _ _ e fun _ z => by cases z⟩
end
abbrev RowX := Addr × Str × V
def rowO (x : RowX) : HO := .lst [.str x.2.1, x.2.2, .bl true]
def refsX (qs : List RowX) : List V := qs.map fun x => V.ref x.1
/-- behind the base H0: nothing asked yet -/
structure Bs (p : Addr) (T : List (Addr × Str)) (H0 H : Hp) : Prop where
  kb : Kp p H0 H
  bowl : BowlAt H p
  tabs : Tabs T H
/-- behind the base H0: the list at S holds what came -/
structure Seen (p S : Addr) (T : List (Addr × Str)) (H0 H : Hp) (qs : List RowX) : Prop where
  at_ : H S = some (.lst (refsX qs))
  rows : ∀ x ∈ qs, H x.1 = some (rowO x) ∧ x.1 ≠ S ∧ x.1 ≠ p
  np : S ≠ p
  kb : Kq p S H0 H
  bowl : BowlAt H p
  tabs : Tabs T H
section
variable {p S : Addr} {T : List (Addr × Str)} {H0 H H' : Hp} {qs : List RowX}
theorem Bs.self (hp : BowlAt H p) (t : Tabs T H) : Bs p T H H := ⟨Kp.refl, hp, t⟩
theorem Bs.same (h : Bs p T H0 H) (s : Same H H') : Bs p T H0 H' := ⟨h.kb.trans (.of s), h.bowl.ext (ExtN.of s), h.tabs.ext s⟩
theorem Bs.stir (h : Bs p T H0 H) (R : Stir p H H') : Bs p T H0 H' := ⟨h.kb.trans (.but R.1), R.2, Tabs.keep h.tabs (let ⟨_, _, _, e⟩ := h.bowl; ⟨_, e⟩) R.1⟩
theorem Bs.base (h : Bs p T H0 H) : Bs p T H H := ⟨Kp.refl, h.bowl, h.tabs⟩
theorem new_ne {q : Addr} (w : New H q) {b : Addr} {xs : List V} (e : H b = some (.lst xs)) : q ≠ b := (w _ _ e fun _ z => by cases z).symm
theorem bowl_ne {q : Addr} (w : New H q) (hp : BowlAt H p) : q ≠ p := let ⟨_, _, _, e⟩ := hp; new_ne w e
theorem Bs.start (h : Bs p T H0 H) (x : ExtN H H') (t : Tabs T H') {q : Addr} (w : New H q) {nm : Str} {v : V} (e : H' q = some (.lst [.str nm, v, .bl true])) (zS : H' S = none) : Seen p S T H0 (upd H' S (.lst [.ref q])) [(q, nm, v)] ∧ New H0 S := by
  have hp' := h.bowl.ext x
  have nS : S ≠ p := by
    obtain ⟨_, _, _, e⟩ := hp'
    exact (ne_of_none e zS).symm
  have s := same_upd (o := HO.lst [.ref q]) zS
  refine ⟨⟨upd_same, fun y hy => ?_, nS, fun b o n m tt eb => s _ _ (x _ _ (h.kb _ _ n tt eb) tt), hp'.ext (ExtN.of s), t.ext s⟩, fun b o eb tt => ?_⟩
  · rw [List.mem_singleton.mp hy]
    exact ⟨s _ _ e, ne_of_none e zS, bowl_ne w h.bowl⟩
  · by_cases hbp : b = p
    · rw [hbp]
      exact nS.symm
    · exact ne_of_none (x _ _ (h.kb _ _ hbp tt eb) tt) zS
theorem Seen.same (h : Seen p S T H0 H qs) (s : Same H H') : Seen p S T H0 H' qs := ⟨s _ _ h.at_, fun x hx => ⟨s _ _ (h.rows x hx).1, (h.rows x hx).2⟩, h.np, h.kb.trans (.kp (.of s)), h.bowl.ext (ExtN.of s), h.tabs.ext s⟩
theorem Seen.stir (h : Seen p S T H0 H qs) (R : Stir p H H') : Seen p S T H0 H' qs := ⟨R.1 _ _ h.np h.at_, fun x hx => ⟨R.1 _ _ (h.rows x hx).2.2 (h.rows x hx).1, (h.rows x hx).2⟩, h.np, h.kb.trans (.kp (.but R.1)), R.2, Tabs.keep h.tabs (let ⟨_, _, _, e⟩ := h.bowl; ⟨_, e⟩) R.1⟩
theorem Seen.base (h : Seen p S T H0 H qs) : Seen p S T H H qs := ⟨h.at_, h.rows, h.np, .refl, h.bowl, h.tabs⟩
theorem Seen.got (h : Seen p S T H0 H qs) (x : ExtN H H') (t : Tabs T H') {q : Addr} (w : New H q) {nm : Str} {v : V} (e : H' q = some (.lst [.str nm, v, .bl true])) :
    H' S = some (.lst (refsX qs)) ∧ Seen p S T H0 (upd H' S (.lst (refsX qs ++ [.ref q]))) (qs ++ [(q, nm, v)]) := by
  have eS := x _ _ h.at_ fun _ z => by cases z
  have nq := new_ne w h.at_
  have nqp := bowl_ne w h.bowl
  refine ⟨eS, ⟨?_, fun y hy => ?_, h.np, fun b o n m tt eb => ?_, ?_, tabs_put t eS⟩⟩
  · rw [upd_same]
    unfold refsX
    rw [List.map_append]
    rfl
  · rcases List.mem_append.mp hy with hy | hy
    · obtain ⟨a, b, c⟩ := h.rows y hy
      exact ⟨(upd_ne b).trans (x _ _ a fun _ z => by cases z), b, c⟩
    · rw [List.mem_singleton.mp hy]
      exact ⟨(upd_ne nq).trans e, nq, nqp⟩
  · rw [upd_ne m]
    exact x _ _ (h.kb _ _ n m tt eb) tt
  · obtain ⟨a, b, c, e⟩ := h.bowl.ext x
    exact ⟨a, b, c, (upd_ne h.np.symm).trans e⟩
end
/-! ### a history that is refused -/
def HB (K : PySem.W.Frag) (C CB CE : Addr) (H : Hp) (b : V) (ws : List V) (E : XK) : Prop := ws.length ≤ 1000 ∧ ((∃ t, TyX K H b t ∧ PySem.W.kitOne K t (.ref C) = some false ∧ Comes E H CB "value" b) ∨
  (∃ (a : Addr) (l : List Nat) (n : Int), b = .ref a ∧ Bd C H a l n ∧ ((20 < ws.length ∧ Comes E H CE "index" .non) ∨ (ws.length ≤ 20 ∧ ∃ k, FirstBad K H l n ws k ∧ Comes E H CE "index" (.int (k : Nat))))))
theorem hist_bad {K : PySem.W.Frag} {C CH CB CE : Addr} {H : Hp} {b : V} {ws : List V} {Q : VK} {E : XK} (h : HB K C CB CE H b ws E) :
    ∀ x dx, H x = none → H dx = none → dx ≠ x → spHInitRX K C CH CB CE (.ref x :: b :: ws) (upd (upd H dx (.own x)) x (.ins CH dx [])) Q E := by
  intro x dx nx nd ne
  obtain ⟨hl, h⟩ := h
  have sm : Same H (upd (upd H dx (.own x)) x (.ins CH dx [])) := fun c o e => by rw [upd_ne (ne_of_none e nx), upd_ne (ne_of_none e nd)]; exact e
  refine ⟨[.ref x, b], ws, rfl, rfl, by rw [sizeLine_eq]; omega, fun r zr => ?_⟩
  have nrx : x ≠ r := ne_of_none upd_same zr
  have sr : Same H (upd (upd (upd H dx (.own x)) x (.ins CH dx [])) r (.tup ws)) := fun c o e => same_upd (o := HO.tup ws) zr _ _ (sm _ _ e)
  refine ⟨x, dx, r, b, rfl, (upd_ne nrx).trans upd_same, ?_⟩
  rcases h with ⟨t, ty, no, ex⟩ | ⟨a, l, n, rfl, hb, h⟩
  · exact .inl ⟨t, ty.same sr, no, ex.same sr⟩
  · refine .inr ⟨a, l, n, ws, rfl, hb.same sr, upd_same, hl, ?_⟩
    rcases h with ⟨l20, ex⟩ | ⟨l20, k, fb, ex⟩
    · exact .inl ⟨l20, ex.same sr⟩
    · exact .inr ⟨l20, k, fb.same sr, ex.same sr⟩
theorem good_row {K : PySem.W.Frag} {H : Hp} {a : Addr} {l : List Nat} {n : Int} {r : Row} (h : RowAt H a r) (ok : RowOk l n r) (n6 : n ≤ 6) : AsR K H (.ref a) l n true := by
  have l1 := ok.1.1
  have l2 := ok.2.1
  exact .inl ⟨a, _, rfl, h, .inr ⟨_, _, true, true, rfl, .inl ⟨r.1, rfl, by omega, (decide_eq_true ok.1).symm⟩, .inl ⟨r.2, rfl, by omega, (decide_eq_true ok.2).symm⟩, rfl⟩⟩
def spManyX (K : PySem.W.Frag) (C CE : Addr) : Sp := fun vs H _ E => ∃ (p : Addr) (l : List Nat) (n : Int) (a b : V), vs = [.ref p, a, b] ∧ Bd C H p l n ∧ Comes E H CE "index" .non
def spFull (C CH : Addr) : Sp := fun vs H Q _ => ∃ (b : Addr), vs = [.ref b, .int 20] ∧ Bd C H b [97, 98] 2 ∧ ∀ H' q rows, Same H H' → H q = none → rows.length = 20 → HistAt C CH H' q [97, 98] 2 rows → Q (.ref q) H'
def spHLen (C CH : Addr) : Sp := fun vs H Q _ => ∃ (p : Addr) (l : List Nat) (n : Int) (rows : List Row), vs = [.ref p] ∧ HistAt C CH H p l n rows ∧ Q (.int rows.length) H
/-- a method of the class -/
structure Dm (K : PySem.W.Frag) (C : Addr) (x : Str) (f : Addr) (fd : FuncData) (ps : List Str) : Prop where
  at_ : PySem.W.findIn K (.ref C) x = some (some (.ref f))
  fn : PySem.W.isFn K (.ref f) = true
  b : Binds K fd ps []
section
variable {P : Program} {w : World} {K : PySem.W.Frag} {mg : Str → Option Value} {base : Heap}
theorem scHLen : FnScope ["self"] ["self"] (defScope sHLen) := ⟨rfl, rfl, rfl, by decide +kernel, rfl, by decide +kernel, by decide +kernel⟩
theorem ok_hlen {f C CH : Addr} {fd : FuncData} (F : Fun K "__len__" "History.__len__" sHLen f fd) (TH : TxH K mg CH) (tl : mg "len" = none) : FnOk P w K mg base L2.CX0 1 f fd ["self"] (spHLen C CH) := by
  refine F.ok scHLen (fun vs H Q E h => ?_) (fun cdv A outer s H vs Q E hr h => ?_)
  · obtain ⟨p, l, n, rows, rfl, _⟩ := h
    rfl
  · obtain ⟨p, l, n, rows, rfl, ⟨dx, b, r, hp, hb, ⟨vs, hv, hw⟩, ok⟩, q⟩ := h
    refine ⟨_, pss_one (ps_ret (pe_callB call_len_seq (by rfl) tl PySem.boot_len (pa_cons (pe_fld (pv 0) rfl) pa_nil))), ?_⟩
    refine ⟨_, rfl, p, CH, dx, _, _, rfl, hp, TH.cl, TH.nR, hf_rows b r, r, _, rfl, .inr (SqT.of hv), ?_⟩
    rw [hw.len]
    exact q
abbrev nFu : List Str := ["_law_box", "_law_many_here", "_law_made", "_law_k"]
theorem scFu : FnScope nFu ["_law_box", "_law_many_here"] (defScope sFull) := ⟨rfl, rfl, rfl, by decide +kernel, rfl, by decide +kernel, by decide +kernel⟩
theorem ok_full {f C CH fT fI : Addr} {fd fdT : FuncData} (F : Fun K "_law_full" "_law_full" sFull f fd) (TH : TxH K mg CH) (trg : mg "range" = none) (GT : FnOk P w K mg base L2.CX0 7 fT fdT ["self", "guess", "told"] (spThen C CH)) (mT : Meth K CH "then" fT) (bT : Binds K fdT ["self", "guess", "told"] [])
    (GI : FnR P w K mg base L2.CX0 5 fI (spHInitR C CH)) (M : Mk K CH fI) : FnOk P w K mg base L2.CX0 8 f fd ["_law_box", "_law_many_here"] (spFull C CH) := by
  refine F.ok scFu (fun vs H Q E h => ?_) (fun cdv A outer s H vs Q E hr h => ?_)
  · obtain ⟨b, rfl, _⟩ := h
    rfl
  · obtain ⟨b, rfl, hb, q⟩ := h
    have nd := scFu.nd
    have hr6 : Room 6 _ := hr.mono (by decide)
    refine ⟨_, pss_cons (ps_set (i := 2) nd rfl (Or.inl rfl) (StX.pe_makeR M GI hr6 (by rfl) TH.mgC L2.pass0 (pa_cons (pv 0) pa_nil)))
      (pss_cons (ps_for PassesOwn.never rfl (pi_range1 (by rfl) trg (pa_cons (pv 1) pa_nil)) (pg_name (i := 3) nd rfl (Or.inl rfl))
        (pss_one (ps_set (i := 2) nd rfl (Or.inl rfl) (pe_meth (pv 2) TH.cl mT GT hr bT .nil L2.pass0 (pa_cons (pe_ix ix_list (pe_lst (pa_cons pe_str (pa_cons pe_str (pa_cons pe_str pa_nil)))) (pe_op op_mod (pv 3) pe_int) (fun _ _ => rfl)) (pa_cons pe_str pa_nil))))))
      (pss_one (ps_ret (pv 2)))), ?_⟩
    refine ⟨_, rfl, ?_⟩
    refine hist_made (CH := CH) (rows := []) hb .nil (show RowsOk [97, 98] 2 [] from ⟨fun r m => (by cases m), Nat.zero_le _⟩) fun H1 x s1 nx hx => ?_
    refine ⟨_, rfl, 20, rfl, by decide, by decide, for_range (n := 20) (fun i σ H' => ∃ (x : Addr) (v3 : Option V) (rows : List Row), σ = [some (.ref b), some (.int 20), some (.ref x), v3] ∧ Same H H' ∧ H x = none ∧ rows.length = i ∧ HistAt C CH H' x [97, 98] 2 rows) ⟨x, _, [], rfl, s1, nx, rfl, hx⟩ ?_ ?_⟩
    · rintro i σ H2 hi ⟨x, v3, rows, rfl, sm, nx, hl, hx⟩
      obtain ⟨dx, b', r', e, _⟩ := id hx
      refine ⟨_, rfl, x, dx, _, rfl, e, hf_none _ _ (by decide +kernel) (by decide +kernel), ?_⟩
      refine ⟨by rw [sizeLine_eq]; show 3 ≤ 16777216; decide, fun L zL => ?_⟩
      have sL := same_upd (o := HO.lst [.str "aa", .str "ab", .str "bb"]) zL
      refine ⟨_, rfl, _, _, rfl, rfl, by show (0 : Int) < 3; decide, ?_⟩
      obtain ⟨g, eg, wg⟩ : ∃ g : List Nat, atI ([.str "aa", .str "ab", .str "bb"] : List V) ((0 + ((i : Nat) : Int)) % 3) = some (.str (tx g)) ∧ Wd [97, 98] 2 g := by
        have : ((0 + ((i : Nat) : Int)) % 3) = 0 ∨ ((0 + ((i : Nat) : Int)) % 3) = 1 ∨ ((0 + ((i : Nat) : Int)) % 3) = 2 := by omega
        rcases this with e | e | e
        · exact ⟨[97, 97], by rw [e]; rfl, by decide⟩
        · exact ⟨[97, 98], by rw [e]; rfl, by decide⟩
        · exact ⟨[98, 98], by rw [e]; rfl, by decide⟩
      refine ⟨L, _, _, _, rfl, rfl, SqL.of upd_same, eg, ?_⟩
      refine ⟨x, [97, 98], g, [50, 50], 2, rows, rfl, hx.same sL, ⟨wg, (show Wd [48, 49, 50] 2 [50, 50] from by decide)⟩, by omega, fun H4 x' s4 nx' hx' => ?_⟩
      have sm' : Same H H4 := fun c o z => s4 _ _ (sL _ _ (sm _ _ z))
      refine ⟨x', _, _, rfl, sm', ?_, by rw [List.length_append, hl]; rfl, hx'⟩
      cases z : H x' with
      | none => rfl
      | some o =>
        have := sL _ _ (sm _ _ z)
        rw [nx'] at this
        cases this
    · rintro σ H2 ⟨x, v3, rows, rfl, sm, nx, hl, hx⟩
      exact ⟨_, rfl, q _ x rows sm nx hl hx⟩
abbrev nMa : List Str := ["_law_box", "_law_a", "_law_b"]
theorem scMa : FnScope nMa nMa (defScope sMany) := ⟨rfl, rfl, rfl, by decide +kernel, rfl, by decide +kernel, by decide +kernel⟩
theorem ok_manyX {f C CH CB CE fI : Addr} {fd : FuncData} (F : Fun K "_law_many" "_law_many" sMany f fd) (TH : TxH K mg CH) (GI : FnR P w K mg base (L2.CX P w) 5 fI (spHInitRX K C CH CB CE)) (M : Mk K CH fI) : FnOk P w K mg base (L2.CX P w) 7 f fd nMa (spManyX K C CE) := by
  refine F.okX scMa (fun vs H Q E h => ?_) (fun cdv A outer s H vs Q E hr h => ?_)
  · obtain ⟨p, l, n, a, b, rfl, _⟩ := h
    rfl
  · obtain ⟨p, l, n, a, b, rfl, hb, ex⟩ := h
    refine ⟨_, pss_one (ps_ret (StX.pe_makeR M GI hr (by rfl) TH.mgC (passes_call (takes_of rfl rfl rfl rfl) fun _ _ _ _ h => h) (pa_cons (pv 0) (pa_cons (pv 1) (pa_cons (pv 1) (pa_cons (pv 1) (pa_cons (pv 1) (pa_cons (pv 1) (pa_cons (pv 1) (pa_cons (pv 1) (pa_cons (pv 1) (pa_cons (pv 1) (pa_cons (pv 1) (pa_cons (pv 1) (pa_cons (pv 1) (pa_cons (pv 1) (pa_cons (pv 1) (pa_cons (pv 1) (pa_cons (pv 1) (pa_cons (pv 1) (pa_cons (pv 1) (pa_cons (pv 1) (pa_cons (pv 1) (pa_cons (pv 2) pa_nil)))))))))))))))))))))))), ?_⟩
    refine ⟨_, rfl, _, rfl, _, rfl, _, rfl, _, rfl, _, rfl, _, rfl, _, rfl, _, rfl, _, rfl, _, rfl, _, rfl, _, rfl, _, rfl, _, rfl, _, rfl, _, rfl, _, rfl, _, rfl, _, rfl, _, rfl, _, rfl,  ?_⟩
    exact hist_bad (Q := fun _ _ => True) ⟨by simp, .inr ⟨p, l, n, rfl, hb, .inl ⟨by simp, ex⟩⟩⟩
end
end Gm

-- NOREN
namespace Gm
open PySem PySem.Spec PyProof.Rows L2 LamX
abbrev sRight : Stmt := top 42
abbrev nR : List Str := ["_law_bowl_here", "_law_some", "_law_seen_here", "_law_due", "_law_bad", "_law_box", "_law_full_here", "_law_good", "_law_none", "_law_odd", "_law_sign", "_law_six", "_law_spot", "_law_thing"]
theorem scR_ : FnScope nR ["_law_bowl_here"] (defScope sRight) := ⟨rfl, rfl, rfl, by decide +kernel, rfl, by decide +kernel, by decide +kernel⟩
def tabR (Pt : Addr) : List (Addr × Str) := [(Pt, (envOfC "_law_right" (defScope sRight) 0 0 .none).qual ++ "<lambda>")]
def spRight (Pt : Addr) : Sp := fun vs H Q _ => ∃ (p : Addr), vs = [.ref p] ∧ BowlAt H p ∧ Tabs (tabR Pt) H ∧ ∀ H', Kp p H H' → Tabs (tabR Pt) H' → BowlAt H' p → Q (.bl true) H'
theorem Kp.ofKq {p S : Addr} {H H' : Hp} (w : New H S) (k : Kq p S H H') : Kp p H H' := fun b o n t e => k b o n (w b o e t) t e
/-- no kind of a menu's thing is a board -/
structure TxK (K : PySem.W.Frag) (C : Addr) : Prop where
  n : PySem.W.kitOne K (.type "NoneType") (.ref C) = some false
  b : PySem.W.kitOne K (.type "bool") (.ref C) = some false
  i : PySem.W.kitOne K (.type "int") (.ref C) = some false
  s : PySem.W.kitOne K (.type "str") (.ref C) = some false
  t : PySem.W.kitOne K (.type "tuple") (.ref C) = some false
  l : PySem.W.kitOne K (.type "list") (.ref C) = some false
  d : PySem.W.kitOne K (.type "dict") (.ref C) = some false
theorem thing_kit {K : PySem.W.Frag} {C p : Addr} {H : Hp} {v : V} {d : PyData} {t : String} (T : TxK K C) (h : Thing p H v d t) : PySem.W.kitOne K (.type t) (.ref C) = some false := by
  cases h with
  | non => exact T.n
  | bl _ => exact T.b
  | int _ => exact T.i
  | str _ => exact T.s
  | tup _ _ _ => exact T.t
  | lst _ _ _ => exact T.l
  | dic _ _ => exact T.d
theorem thing_notIn9 {K : PySem.W.Frag} {p : Addr} {H : Hp} {v : V} {d : PyData} {t : String} {m : Int} (h : Thing p H v d t) (c : ∀ i, v = .int i → ¬ (0 ≤ i ∧ i ≤ m)) : (∃ i : Int, v = .int i ∧ ¬ (0 ≤ i ∧ i ≤ m)) ∨ (∃ t, TyX K H v t ∧ NoInt K t) := by
  have ty := h.ty (K := K)
  cases h with
  | int x => exact .inl ⟨x, rfl, c x rfl⟩
  | bl b => exact .inr ⟨_, ty, .inl (kit_ty (by decide +kernel))⟩
  | _ => exact .inr ⟨_, ty, .inr ⟨kit_ty (by decide +kernel), kit_ty (by decide +kernel)⟩⟩
structure TxR (mg : Str → Option Value) : Prop where
  repr : mg "repr" = none
  len : mg "len" = none
section
variable {P : Program} {w : World} {K : PySem.W.Frag} {mg : Str → Option Value} {base : Heap}
theorem ok_right {f c Pt C CH CIn CSi CMk CPl CRw CWd CNb CTm eMk ePl eRw eWd eNb eTm fG fO fI fHi fTh fWo fFi fMa fFu fLn : Addr} {fd fdG fdO fdI fdTh fdWo fdFi fdMa fdFu fdLn : FuncData} (F : FunC K "_law_right" "_law_right" sRight f fd c) (T : TxR mg) (TC : TxC K mg C) (TH : TxH K mg CH) (TK : TxK K C)
    (TG : TxG K mg CIn CSi CMk CPl CRw CWd CNb CTm) (EMk : ErrB K mg "InvalidMarks" "value" CMk eMk) (EPl : ErrB K mg "InvalidPlace" "value" CPl ePl) (ERw : ErrB K mg "InvalidRows" "index" CRw eRw) (EWd : ErrB K mg "InvalidWord" "value" CWd eWd) (ENb : ErrB K mg "NotABoard" "value" CNb eNb) (ETm : ErrB K mg "TooManyRows" "limit" CTm eTm)
    (FG : Fun K "_law_got" "_law_got" sGot fG fdG) (DG : Df K mg "_law_got" fG fdG ["_law_ask"])
    (GO : FnOk P w K mg base L2.CX0 2 fO fdO ["_law_bowl_here", "_law_things"] spOfL) (DO : Df K mg "_law_of" fO fdO ["_law_bowl_here", "_law_things"])
    (GI : FnOk P w K mg base L2.CX0 2 fI fdI ["self", "letters", "length"] (spInit C)) (MB : Mk K C fI) (bI : Binds K fdI ["self", "letters", "length"] [])
    (GHi : FnR P w K mg base L2.CX0 5 fHi (spHInitR C CH)) (GHX : FnR P w K mg base (L2.CX P w) 5 fHi (spHInitRX K C CH CNb CRw)) (MH : Mk K CH fHi)
    (GTh : FnOk P w K mg base (L2.CX P w) 4 fTh fdTh ["self", "guess", "told"] (spThenX K C CH CWd CMk CTm)) (mTh : Meth K CH "then" fTh) (bTh : Binds K fdTh ["self", "guess", "told"] [])
    (GWo : FnOk P w K mg base (L2.CX P w) 3 fWo fdWo ["self", "place"] (spWoX K C CH CPl)) (mWo : Meth K CH "without" fWo) (bWo : Binds K fdWo ["self", "place"] [])
    (GFi : FnOk P w K mg base (L2.CX P w) 4 fFi fdFi ["self", "word"] (spFitX K C CH CWd)) (mFi : Meth K CH "fits" fFi) (bFi : Binds K fdFi ["self", "word"] [])
    (GMa : FnOk P w K mg base (L2.CX P w) 7 fMa fdMa nMa (spManyX K C CRw)) (DMa : Df K mg "_law_many" fMa fdMa nMa)
    (GFu : FnOk P w K mg base L2.CX0 8 fFu fdFu ["_law_box", "_law_many_here"] (spFull C CH)) (DFu : Df K mg "_law_full" fFu fdFu ["_law_box", "_law_many_here"])
    (GLn : FnOk P w K mg base L2.CX0 1 fLn fdLn ["self"] (spHLen C CH)) (DLn : Dm K CH "__len__" fLn fdLn ["self"])
    (hM : ∃ mm, base.Ns sysModules mm) (TB : TabB base mg c Pt) : FnG P w K mg base L2.CX0 10 f fd ["_law_bowl_here"] (spRight Pt) := by
  refine F.okG scR_ (fun vs H Q E h => ?_) (fun A outer s H vs Q E g hr h => ?_)
  · obtain ⟨p, rfl, _⟩ := h
    rfl
  · obtain ⟨p, rfl, hp, hT, q⟩ := h
    have nd := scR_.nd
    have hr2 : Room 2 _ := hr.mono (by decide)
    have hr3 : Room 3 _ := hr.mono (by decide)
    have hr6 : Room 6 _ := hr.mono (by decide)
    have hr8 : Room 8 _ := hr.mono (by decide)
    obtain ⟨oc, od, kV, doc, pm, an, cdG, ct, osl, rfl, lk, hcd⟩ := FG.ex
    refine ⟨_, (pss_cons (ps_asg (pe_tup (pa_cons (pe_make MB GI hr3 (by rfl) TC.mgC bI .nil L2.pass0 (pa_cons pe_str (pa_cons pe_int pa_nil))) (pa_cons (pe_tup (pa_cons pe_str (pa_cons pe_str pa_nil))) pa_nil))) (pg_tup (by rfl) (pgs_cons (pg_name (i := 5) nd rfl (Or.inr rfl)) (pgs_cons (pg_name (i := 7) nd rfl (Or.inr rfl)) pgs_nil))))
      (pss_cons (ps_set (i := 1) nd rfl (Or.inl rfl) (pe_lst (pa_cons pe_non (pa_cons pe_str (pa_cons (pe_lst (pa_cons pe_str (pa_cons pe_str pa_nil))) (pa_cons (pe_tup (pa_cons pe_str pa_nil)) (pa_cons (pe_tup (pa_cons pe_str (pa_cons pe_str (pa_cons pe_int pa_nil)))) (pa_cons (pe_tup pa_nil) (pa_cons (pe_tup (pa_cons pe_str (pa_cons pe_str pa_nil))) (pa_cons (pe_tup (pa_cons pe_str (pa_cons pe_str pa_nil))) (pa_cons (pe_tup (pa_cons pe_str (pa_cons pe_int pa_nil))) pa_nil)))))))))))
      (pss_cons (ps_set (i := 4) nd rfl (Or.inr rfl) (pe_call GO hr2 (by rfl) DO.mg DO.kp DO.b .nil L2.pass0 (pa_cons (pv 0) (pa_cons (pv 1) pa_nil))))
      (pss_cons (ps_set (i := 9) nd rfl (Or.inr rfl) (pe_call GO hr2 (by rfl) DO.mg DO.kp DO.b .nil L2.pass0 (pa_cons (pv 0) (pa_cons (pe_lst (pa_cons (pe_tup (pa_cons pe_str (pa_cons pe_str pa_nil))) (pa_cons (pe_tup (pa_cons pe_str (pa_cons pe_str pa_nil))) (pa_cons (pe_tup (pa_cons pe_str (pa_cons pe_str pa_nil))) (pa_cons (pe_tup (pa_cons pe_non (pa_cons pe_str pa_nil))) (pa_cons (pe_tup (pa_cons pe_str (pa_cons pe_non pa_nil))) (pa_cons pe_int (pa_cons pe_bl (pa_cons pe_dnewK (pa_cons (pe_tup (pa_cons pe_str (pa_cons pe_str pa_nil))) pa_nil)))))))))) pa_nil))))
      (pss_cons (ps_set (i := 8) nd rfl (Or.inr rfl) (pe_call GO hr2 (by rfl) DO.mg DO.kp DO.b .nil L2.pass0 (pa_cons (pv 0) (pa_cons (pe_lst (pa_cons pe_non (pa_cons pe_str (pa_cons (pe_tup (pa_cons pe_str (pa_cons pe_int pa_nil))) (pa_cons (pv 7) (pa_cons pe_int (pa_cons pe_dnewK pa_nil))))))) pa_nil))))
      (pss_cons (ps_set (i := 2) nd rfl (Or.inl rfl) (pe_lst (pa_cons (pe_lamcall (T := tabR Pt) (TT := TTgot (catsG CMk CPl CRw CWd CNb CTm)) (k := 7) (by rfl) DG.mg DG.kp lk hcd DG.b scGot rfl (Or.inl rfl) (got_gives TG EMk EPl ERw EWd ENb ETm) TB rfl (by exact List.mem_singleton.mpr rfl) (fun z hz _ => by rw [List.mem_singleton.mp hz]; rfl) hr (show LamS (defScope sRight) _ from lamS_by (by decide +kernel)) rfl (fun _ _ _ _ _ => rfl)
          (fun A outer s H E f c' hr7 => StX.pe_makeR MH GHX (hr7.mono (by decide)) (by rfl) TH.mgC (passes_call (takes_of rfl rfl rfl rfl) fun _ _ _ _ h => h) (pa_cons (pv 8) (pa_cons (pv 4) pa_nil)))) pa_nil)))
      (pss_cons (ps_expr (pe_bm PySem.F.plainAttrs_list PySem.F.slot_list_append PySem.F.type_list_append mt_append (pv 2) (pa_cons (pe_lamcall (T := tabR Pt) (TT := TTgot (catsG CMk CPl CRw CWd CNb CTm)) (k := 7) (by rfl) DG.mg DG.kp lk hcd DG.b scGot rfl (Or.inl rfl) (got_gives TG EMk EPl ERw EWd ENb ETm) TB rfl (by exact List.mem_singleton.mpr rfl) (fun z hz _ => by rw [List.mem_singleton.mp hz]; rfl) hr (show LamS (defScope sRight) _ from lamS_by (by decide +kernel)) rfl (fun _ _ _ _ _ => rfl)
          (fun A outer s H E f c' hr7 => StX.pe_makeR MH GHX (hr7.mono (by decide)) (by rfl) TH.mgC (passes_call (takes_of rfl rfl rfl rfl) fun _ _ _ _ h => h) (pa_cons (pv 5) (pa_cons (pv 4) (pa_cons (pv 9) pa_nil))))) pa_nil)))
      (pss_cons (ps_expr (pe_bm PySem.F.plainAttrs_list PySem.F.slot_list_append PySem.F.type_list_append mt_append (pv 2) (pa_cons (pe_lamcall (T := tabR Pt) (TT := TTgot (catsG CMk CPl CRw CWd CNb CTm)) (k := 7) (by rfl) DG.mg DG.kp lk hcd DG.b scGot rfl (Or.inl rfl) (got_gives TG EMk EPl ERw EWd ENb ETm) TB rfl (by exact List.mem_singleton.mpr rfl) (fun z hz _ => by rw [List.mem_singleton.mp hz]; rfl) hr (show LamS (defScope sRight) _ from lamS_by (by decide +kernel)) rfl (fun _ _ _ _ _ => rfl)
          (fun A outer s H E f c' hr7 => StX.pe_makeR MH GHX (hr7.mono (by decide)) (by rfl) TH.mgC (passes_call (takes_of rfl rfl rfl rfl) fun _ _ _ _ h => h) (pa_cons (pv 5) (pa_cons (pv 7) (pa_cons (pv 7) (pa_cons (pv 9) (pa_cons (pv 4) pa_nil))))))) pa_nil)))
      (pss_cons (ps_expr (pe_bm PySem.F.plainAttrs_list PySem.F.slot_list_append PySem.F.type_list_append mt_append (pv 2) (pa_cons (pe_lamcall (T := tabR Pt) (TT := TTgot (catsG CMk CPl CRw CWd CNb CTm)) (k := 7) (by rfl) DG.mg DG.kp lk hcd DG.b scGot rfl (Or.inl rfl) (got_gives TG EMk EPl ERw EWd ENb ETm) TB rfl (by exact List.mem_singleton.mpr rfl) (fun z hz _ => by rw [List.mem_singleton.mp hz]; rfl) hr (show LamS (defScope sRight) _ from lamS_by (by decide +kernel)) rfl (fun _ _ _ _ _ => rfl)
          (fun A outer s H E f c' hr7 => StX.pe_makeR MH GHX (hr7.mono (by decide)) (by rfl) TH.mgC (passes_call (takes_of rfl rfl rfl rfl) fun _ _ _ _ h => h) (pa_cons (pv 5) (pa_cons (pv 7) (pa_cons (pv 4) pa_nil))))) pa_nil)))
      (pss_cons (ps_set (i := 3) nd rfl (Or.inl rfl) (pe_lst (pa_cons (pe_lst (pa_cons pe_str (pa_cons (pv 8) (pa_cons pe_bl pa_nil)))) (pa_cons (pe_lst (pa_cons pe_str (pa_cons pe_int (pa_cons pe_bl pa_nil)))) (pa_cons (pe_lst (pa_cons pe_str (pa_cons pe_int (pa_cons pe_bl pa_nil)))) (pa_cons (pe_lst (pa_cons pe_str (pa_cons pe_int (pa_cons pe_bl pa_nil)))) pa_nil))))))
      (pss_cons (ps_if (pt_cmpR op_ne (pe_callB (call_reprD g hr.units hM) (by rfl) T.repr (by decide +kernel) (pa_cons (pv 2) pa_nil)) (pe_callB (call_reprD g hr.units hM) (by rfl) T.repr (by decide +kernel) (pa_cons (pv 3) pa_nil)) (nomark _)) (pss_one (ps_ret pe_bl)) pss_nil)
      (pss_cons (ps_set (i := 11) nd rfl (Or.inr rfl) (StX.pe_makeR MH GHi hr6 (by rfl) TH.mgC L2.pass0 (pa_cons (pv 5) (pa_cons (pv 7) (pa_cons (pv 7) (pa_cons (pv 7) (pa_cons (pv 7) (pa_cons (pv 7) (pa_cons (pv 7) pa_nil)))))))))
      (pss_cons (ps_set (i := 6) nd rfl (Or.inr rfl) (pe_call GFu hr8 (by rfl) DFu.mg DFu.kp DFu.b .nil L2.pass0 (pa_cons (pv 5) (pa_cons pe_int pa_nil))))
      (pss_cons (ps_set (i := 2) nd rfl (Or.inl rfl) (pe_lst (pa_cons (pe_lamcall (T := tabR Pt) (TT := TTgot (catsG CMk CPl CRw CWd CNb CTm)) (k := 7) (by rfl) DG.mg DG.kp lk hcd DG.b scGot rfl (Or.inl rfl) (got_gives TG EMk EPl ERw EWd ENb ETm) TB rfl (by exact List.mem_singleton.mpr rfl) (fun z hz _ => by rw [List.mem_singleton.mp hz]; rfl) hr (show LamS (defScope sRight) _ from lamS_by (by decide +kernel)) rfl (fun _ _ _ _ _ => rfl)
          (fun A outer s H E f c' hr7 => pe_call GMa hr7 (by rfl) DMa.mg DMa.kp DMa.b .nil (passes_call (takes_of rfl rfl rfl rfl) fun _ _ _ _ h => h) (pa_cons (pv 5) (pa_cons (pv 7) (pa_cons (pv 4) pa_nil))))) pa_nil)))
      (pss_cons (ps_set (i := 13) nd rfl (Or.inr rfl) (pe_call GO hr2 (by rfl) DO.mg DO.kp DO.b .nil L2.pass0 (pa_cons (pv 0) (pa_cons (pe_lst (pa_cons pe_non (pa_cons pe_str (pa_cons pe_str (pa_cons pe_str (pa_cons pe_int (pa_cons (pe_tup (pa_cons pe_str (pa_cons pe_str pa_nil))) pa_nil))))))) pa_nil))))
      (C8.pss_cut (ps_set (i := 10) nd rfl (Or.inr rfl) (pe_call GO hr2 (by rfl) DO.mg DO.kp DO.b .nil L2.pass0 (pa_cons (pv 0) (pa_cons (pe_lst (pa_cons pe_non (pa_cons pe_str (pa_cons pe_str (pa_cons pe_str (pa_cons pe_str (pa_cons pe_int pa_nil))))))) pa_nil))))
      (pss_cons (ps_expr (pe_bm PySem.F.plainAttrs_list PySem.F.slot_list_append PySem.F.type_list_append mt_append (pv 2) (pa_cons (pe_lamcall (T := tabR Pt) (TT := TTgot (catsG CMk CPl CRw CWd CNb CTm)) (k := 7) (by rfl) DG.mg DG.kp lk hcd DG.b scGot rfl (Or.inl rfl) (got_gives TG EMk EPl ERw EWd ENb ETm) TB rfl (by exact List.mem_singleton.mpr rfl) (fun z hz _ => by rw [List.mem_singleton.mp hz]; rfl) hr (show LamS (defScope sRight) _ from lamS_by (by decide +kernel)) rfl (fun _ _ _ _ _ => rfl)
          (fun A outer s H E f c' hr7 => pe_meth (pv 11) TH.cl mTh GTh (hr7.mono (by decide)) bTh .nil (passes_call (takes_of rfl rfl rfl rfl) fun _ _ _ _ h => h) (pa_cons (pv 13) (pa_cons (pv 10) pa_nil)))) pa_nil)))
      (pss_cons (ps_expr (pe_bm PySem.F.plainAttrs_list PySem.F.slot_list_append PySem.F.type_list_append mt_append (pv 2) (pa_cons (pe_lamcall (T := tabR Pt) (TT := TTgot (catsG CMk CPl CRw CWd CNb CTm)) (k := 7) (by rfl) DG.mg DG.kp lk hcd DG.b scGot rfl (Or.inl rfl) (got_gives TG EMk EPl ERw EWd ENb ETm) TB rfl (by exact List.mem_singleton.mpr rfl) (fun z hz _ => by rw [List.mem_singleton.mp hz]; rfl) hr (show LamS (defScope sRight) _ from lamS_by (by decide +kernel)) rfl (fun _ _ _ _ _ => rfl)
          (fun A outer s H E f c' hr7 => pe_meth (pv 11) TH.cl mTh GTh (hr7.mono (by decide)) bTh .nil (passes_call (takes_of rfl rfl rfl rfl) fun _ _ _ _ h => h) (pa_cons pe_str (pa_cons (pv 10) pa_nil)))) pa_nil)))
      (pss_cons (ps_expr (pe_bm PySem.F.plainAttrs_list PySem.F.slot_list_append PySem.F.type_list_append mt_append (pv 2) (pa_cons (pe_lamcall (T := tabR Pt) (TT := TTgot (catsG CMk CPl CRw CWd CNb CTm)) (k := 7) (by rfl) DG.mg DG.kp lk hcd DG.b scGot rfl (Or.inl rfl) (got_gives TG EMk EPl ERw EWd ENb ETm) TB rfl (by exact List.mem_singleton.mpr rfl) (fun z hz _ => by rw [List.mem_singleton.mp hz]; rfl) hr (show LamS (defScope sRight) _ from lamS_by (by decide +kernel)) rfl (fun _ _ _ _ _ => rfl)
          (fun A outer s H E f c' hr7 => pe_meth (pv 6) TH.cl mTh GTh (hr7.mono (by decide)) bTh .nil (passes_call (takes_of rfl rfl rfl rfl) fun _ _ _ _ h => h) (pa_cons (pv 13) (pa_cons (pv 10) pa_nil)))) pa_nil)))
      (pss_cons (ps_expr (pe_bm PySem.F.plainAttrs_list PySem.F.slot_list_append PySem.F.type_list_append mt_append (pv 2) (pa_cons (pe_lamcall (T := tabR Pt) (TT := TTgot (catsG CMk CPl CRw CWd CNb CTm)) (k := 7) (by rfl) DG.mg DG.kp lk hcd DG.b scGot rfl (Or.inl rfl) (got_gives TG EMk EPl ERw EWd ENb ETm) TB rfl (by exact List.mem_singleton.mpr rfl) (fun z hz _ => by rw [List.mem_singleton.mp hz]; rfl) hr (show LamS (defScope sRight) _ from lamS_by (by decide +kernel)) rfl (fun _ _ _ _ _ => rfl)
          (fun A outer s H E f c' hr7 => pe_meth (pv 6) TH.cl mTh GTh (hr7.mono (by decide)) bTh .nil (passes_call (takes_of rfl rfl rfl rfl) fun _ _ _ _ h => h) (pa_cons pe_str (pa_cons (pv 10) pa_nil)))) pa_nil)))
      (pss_cons (ps_expr (pe_bm PySem.F.plainAttrs_list PySem.F.slot_list_append PySem.F.type_list_append mt_append (pv 2) (pa_cons (pe_lamcall (T := tabR Pt) (TT := TTgot (catsG CMk CPl CRw CWd CNb CTm)) (k := 7) (by rfl) DG.mg DG.kp lk hcd DG.b scGot rfl (Or.inl rfl) (got_gives TG EMk EPl ERw EWd ENb ETm) TB rfl (by exact List.mem_singleton.mpr rfl) (fun z hz _ => by rw [List.mem_singleton.mp hz]; rfl) hr (show LamS (defScope sRight) _ from lamS_by (by decide +kernel)) rfl (fun _ _ _ _ _ => rfl)
          (fun A outer s H E f c' hr7 => pe_meth (pv 6) TH.cl mTh GTh (hr7.mono (by decide)) bTh .nil (passes_call (takes_of rfl rfl rfl rfl) fun _ _ _ _ h => h) (pa_cons pe_str (pa_cons pe_str pa_nil)))) pa_nil)))
      (pss_cons (ps_set (i := 3) nd rfl (Or.inl rfl) (pe_lst (pa_cons (pe_lst (pa_cons pe_str (pa_cons pe_non (pa_cons pe_bl pa_nil)))) (pa_cons (pe_lst (pa_cons pe_str (pa_cons (pv 13) (pa_cons pe_bl pa_nil)))) (pa_cons (pe_lst (pa_cons pe_str (pa_cons (pv 10) (pa_cons pe_bl pa_nil)))) pa_nil)))))
      (pss_cons (ps_set (i := 3) nd rfl (Or.inl rfl) (pe_op op_cat (pv 3) (pe_lst (pa_cons (pe_lst (pa_cons pe_str (pa_cons (pv 13) (pa_cons pe_bl pa_nil)))) (pa_cons (pe_lst (pa_cons pe_str (pa_cons (pv 10) (pa_cons pe_bl pa_nil)))) (pa_cons (pe_lst (pa_cons pe_str (pa_cons pe_int (pa_cons pe_bl pa_nil)))) pa_nil))))))
      (C8.pss_cut (ps_if (PW.pt (pw_or (pt_cmpR op_ne (pe_callB (call_reprD g hr.units hM) (by rfl) T.repr (by decide +kernel) (pa_cons (pv 2) pa_nil)) (pe_callB (call_reprD g hr.units hM) (by rfl) T.repr (by decide +kernel) (pa_cons (pv 3) pa_nil)) (nomark _)) (pw_or1 (pt_cmpR (op_neD hr.units) (pe_lst (pa_cons (pe_callB (call_lenOwn (n := 1) hr2 GLn DLn.at_ DLn.fn DLn.b L2.pass0) (by rfl) T.len PySem.boot_len (pa_cons (pv 6) pa_nil)) (pa_cons (pe_callB (call_lenOwn (n := 1) hr2 GLn DLn.at_ DLn.fn DLn.b L2.pass0) (by rfl) T.len PySem.boot_len (pa_cons (pv 11) pa_nil)) pa_nil))) (pe_lst (pa_cons pe_int (pa_cons pe_int pa_nil))) (nomark _))))) (pss_one (ps_ret pe_bl)) pss_nil)
      (pss_cons (ps_set (i := 12) nd rfl (Or.inr rfl) (pe_call GO hr2 (by rfl) DO.mg DO.kp DO.b .nil L2.pass0 (pa_cons (pv 0) (pa_cons (pe_lst (pa_cons pe_non (pa_cons (pe_un un_neg pe_int) (pa_cons pe_int (pa_cons pe_bl (pa_cons pe_str (pa_cons (pe_tup pa_nil) (pa_cons (pe_op op_pow pe_int pe_int) pa_nil)))))))) pa_nil))))
      (pss_cons (ps_set (i := 2) nd rfl (Or.inl rfl) (pe_lst (pa_cons (pe_lamcall (T := tabR Pt) (TT := TTgot (catsG CMk CPl CRw CWd CNb CTm)) (k := 7) (by rfl) DG.mg DG.kp lk hcd DG.b scGot rfl (Or.inl rfl) (got_gives TG EMk EPl ERw EWd ENb ETm) TB rfl (by exact List.mem_singleton.mpr rfl) (fun z hz _ => by rw [List.mem_singleton.mp hz]; rfl) hr (show LamS (defScope sRight) _ from lamS_by (by decide +kernel)) rfl (fun _ _ _ _ _ => rfl)
          (fun A outer s H E f c' hr7 => pe_meth (pv 11) TH.cl mWo GWo (hr7.mono (by decide)) bWo .nil (passes_call (takes_of rfl rfl rfl rfl) fun _ _ _ _ h => h) (pa_cons (pv 12) pa_nil))) pa_nil)))
      (pss_cons (ps_expr (pe_bm PySem.F.plainAttrs_list PySem.F.slot_list_append PySem.F.type_list_append mt_append (pv 2) (pa_cons (pe_lamcall (T := tabR Pt) (TT := TTgot (catsG CMk CPl CRw CWd CNb CTm)) (k := 7) (by rfl) DG.mg DG.kp lk hcd DG.b scGot rfl (Or.inl rfl) (got_gives TG EMk EPl ERw EWd ENb ETm) TB rfl (by exact List.mem_singleton.mpr rfl) (fun z hz _ => by rw [List.mem_singleton.mp hz]; rfl) hr (show LamS (defScope sRight) _ from lamS_by (by decide +kernel)) rfl (fun _ _ _ _ _ => rfl)
          (fun A outer s H E f c' hr7 => pe_meth (StX.pe_makeR MH GHi (hr7.mono (by decide)) (by rfl) TH.mgC L2.pass0 (pa_cons (pv 5) pa_nil)) TH.cl mWo GWo (hr7.mono (by decide)) bWo .nil (passes_call (takes_of rfl rfl rfl rfl) fun _ _ _ _ h => h) (pa_cons pe_int pa_nil))) pa_nil)))
      (pss_cons (ps_expr (pe_bm PySem.F.plainAttrs_list PySem.F.slot_list_append PySem.F.type_list_append mt_append (pv 2) (pa_cons (pe_lamcall (T := tabR Pt) (TT := TTgot (catsG CMk CPl CRw CWd CNb CTm)) (k := 7) (by rfl) DG.mg DG.kp lk hcd DG.b scGot rfl (Or.inl rfl) (got_gives TG EMk EPl ERw EWd ENb ETm) TB rfl (by exact List.mem_singleton.mpr rfl) (fun z hz _ => by rw [List.mem_singleton.mp hz]; rfl) hr (show LamS (defScope sRight) _ from lamS_by (by decide +kernel)) rfl (fun _ _ _ _ _ => rfl)
          (fun A outer s H E f c' hr7 => pe_meth (pv 11) TH.cl mFi GFi (hr7.mono (by decide)) bFi .nil (passes_call (takes_of rfl rfl rfl rfl) fun _ _ _ _ h => h) (pa_cons (pv 13) pa_nil))) pa_nil)))
      (pss_cons (ps_set (i := 3) nd rfl (Or.inl rfl) (pe_lst (pa_cons (pe_lst (pa_cons pe_str (pa_cons (pv 12) (pa_cons pe_bl pa_nil)))) (pa_cons (pe_lst (pa_cons pe_str (pa_cons pe_int (pa_cons pe_bl pa_nil)))) (pa_cons (pe_lst (pa_cons pe_str (pa_cons (pv 13) (pa_cons pe_bl pa_nil)))) pa_nil)))))
      (pss_one (ps_ret (pe_cmpR op_eq (pe_callB (call_reprD g hr.units hM) (by rfl) T.repr (by decide +kernel) (pa_cons (pv 2) pa_nil)) (pe_callB (call_reprD g hr.units hM) (by rfl) T.repr (by decide +kernel) (pa_cons (pv 3) pa_nil)) (nomark _))))))))))))))))))))))))))))))))), ?_⟩
    have smb : Same H H := Same.refl H
    refine fun x dx nx nd_ ne => ⟨x, dx, _, _, rfl, by decide +kernel, by decide, by decide, upd_same, fun Hb bt ba => ⟨rfl, ?_⟩⟩
    have sb := made_same2 nx nd_ bt
    have eab : (Str.ofString "ab") = tx [97, 98] := by decide +kernel
    have e01 : (Str.ofString "01") = tx [48, 49] := by decide +kernel
    have e00 : (Str.ofString "00") = tx [48, 48] := by decide +kernel
    have bd : Bd C Hb x [97, 98] 2 := ⟨by rw [← eab]; exact ba, by decide, by decide, by decide⟩
    have st := (Bs.self hp hT).same sb
    obtain ⟨c0, c1, c2, hpc⟩ := st.bowl
    have sm : Same Hb Hb := Same.refl Hb
    refine ⟨by rw [sizeLine_eq]; show 2 ≤ 16777216; decide, fun gd z_gd => ?_⟩
    have p_gd : gd ≠ p := (ne_of_none hpc z_gd).symm
    have sx := same_upd (o := HO.tup [.str "ab", .str "01"]) z_gd
    have st := st.same sx
    have sm := fun b o z => sx b o (sm b o z)
    have hpc := sx _ _ hpc
    have e_gd := new_at (o := HO.tup [.str "ab", .str "01"]) z_gd
    refine ⟨by rw [sizeLine_eq]; show 2 ≤ 16777216; decide, fun T0 z_T0 => ?_⟩
    have p_T0 : T0 ≠ p := (ne_of_none hpc z_T0).symm
    have sx := same_upd (o := HO.tup [.ref x, .ref gd]) z_T0
    have st := st.same sx
    have e_gd := sx _ _ e_gd
    have sm := fun b o z => sx b o (sm b o z)
    have hpc := sx _ _ hpc
    have e_T0 := new_at (o := HO.tup [.ref x, .ref gd]) z_T0
    refine ⟨T0, _, rfl, SqT.of upd_same, rfl, _, _, rfl, _, _, rfl, rfl, ?_⟩
    refine ⟨by rw [sizeLine_eq]; show 2 ≤ 16777216; decide, fun a1 z_a1 => ?_⟩
    have p_a1 : a1 ≠ p := (ne_of_none hpc z_a1).symm
    have sx := same_upd (o := HO.lst [.str "ab", .str "01"]) z_a1
    have st := st.same sx
    have e_gd := sx _ _ e_gd
    have e_T0 := sx _ _ e_T0
    have sm := fun b o z => sx b o (sm b o z)
    have hpc := sx _ _ hpc
    have e_a1 := new_at (o := HO.lst [.str "ab", .str "01"]) z_a1
    refine ⟨by rw [sizeLine_eq]; show 1 ≤ 16777216; decide, fun a2 z_a2 => ?_⟩
    have p_a2 : a2 ≠ p := (ne_of_none hpc z_a2).symm
    have sx := same_upd (o := HO.tup [.str "ab"]) z_a2
    have st := st.same sx
    have e_gd := sx _ _ e_gd
    have e_T0 := sx _ _ e_T0
    have e_a1 := sx _ _ e_a1
    have sm := fun b o z => sx b o (sm b o z)
    have hpc := sx _ _ hpc
    have e_a2 := new_at (o := HO.tup [.str "ab"]) z_a2
    refine ⟨by rw [sizeLine_eq]; show 3 ≤ 16777216; decide, fun a3 z_a3 => ?_⟩
    have p_a3 : a3 ≠ p := (ne_of_none hpc z_a3).symm
    have sx := same_upd (o := HO.tup [.str "ab", .str "01", .int (1)]) z_a3
    have st := st.same sx
    have e_gd := sx _ _ e_gd
    have e_T0 := sx _ _ e_T0
    have e_a1 := sx _ _ e_a1
    have e_a2 := sx _ _ e_a2
    have sm := fun b o z => sx b o (sm b o z)
    have hpc := sx _ _ hpc
    have e_a3 := new_at (o := HO.tup [.str "ab", .str "01", .int (1)]) z_a3
    refine ⟨by rw [sizeLine_eq]; show 0 ≤ 16777216; decide, fun a4 z_a4 => ?_⟩
    have p_a4 : a4 ≠ p := (ne_of_none hpc z_a4).symm
    have sx := same_upd (o := HO.tup []) z_a4
    have st := st.same sx
    have e_gd := sx _ _ e_gd
    have e_T0 := sx _ _ e_T0
    have e_a1 := sx _ _ e_a1
    have e_a2 := sx _ _ e_a2
    have e_a3 := sx _ _ e_a3
    have sm := fun b o z => sx b o (sm b o z)
    have hpc := sx _ _ hpc
    have e_a4 := new_at (o := HO.tup []) z_a4
    refine ⟨by rw [sizeLine_eq]; show 2 ≤ 16777216; decide, fun a5 z_a5 => ?_⟩
    have p_a5 : a5 ≠ p := (ne_of_none hpc z_a5).symm
    have sx := same_upd (o := HO.tup [.str "ac", .str "01"]) z_a5
    have st := st.same sx
    have e_gd := sx _ _ e_gd
    have e_T0 := sx _ _ e_T0
    have e_a1 := sx _ _ e_a1
    have e_a2 := sx _ _ e_a2
    have e_a3 := sx _ _ e_a3
    have e_a4 := sx _ _ e_a4
    have sm := fun b o z => sx b o (sm b o z)
    have hpc := sx _ _ hpc
    have e_a5 := new_at (o := HO.tup [.str "ac", .str "01"]) z_a5
    refine ⟨by rw [sizeLine_eq]; show 2 ≤ 16777216; decide, fun a6 z_a6 => ?_⟩
    have p_a6 : a6 ≠ p := (ne_of_none hpc z_a6).symm
    have sx := same_upd (o := HO.tup [.str "ab", .str "03"]) z_a6
    have st := st.same sx
    have e_gd := sx _ _ e_gd
    have e_T0 := sx _ _ e_T0
    have e_a1 := sx _ _ e_a1
    have e_a2 := sx _ _ e_a2
    have e_a3 := sx _ _ e_a3
    have e_a4 := sx _ _ e_a4
    have e_a5 := sx _ _ e_a5
    have sm := fun b o z => sx b o (sm b o z)
    have hpc := sx _ _ hpc
    have e_a6 := new_at (o := HO.tup [.str "ab", .str "03"]) z_a6
    refine ⟨by rw [sizeLine_eq]; show 2 ≤ 16777216; decide, fun a7 z_a7 => ?_⟩
    have p_a7 : a7 ≠ p := (ne_of_none hpc z_a7).symm
    have sx := same_upd (o := HO.tup [.str "ab", .int (1)]) z_a7
    have st := st.same sx
    have e_gd := sx _ _ e_gd
    have e_T0 := sx _ _ e_T0
    have e_a1 := sx _ _ e_a1
    have e_a2 := sx _ _ e_a2
    have e_a3 := sx _ _ e_a3
    have e_a4 := sx _ _ e_a4
    have e_a5 := sx _ _ e_a5
    have e_a6 := sx _ _ e_a6
    have sm := fun b o z => sx b o (sm b o z)
    have hpc := sx _ _ hpc
    have e_a7 := new_at (o := HO.tup [.str "ab", .int (1)]) z_a7
    refine ⟨by rw [sizeLine_eq]; show 9 ≤ 16777216; decide, fun L8 z_L8 => ?_⟩
    have p_L8 : L8 ≠ p := (ne_of_none hpc z_L8).symm
    have sx := same_upd (o := HO.lst [.non, .str "ab 01", .ref a1, .ref a2, .ref a3, .ref a4, .ref a5, .ref a6, .ref a7]) z_L8
    have st := st.same sx
    have e_gd := sx _ _ e_gd
    have e_T0 := sx _ _ e_T0
    have e_a1 := sx _ _ e_a1
    have e_a2 := sx _ _ e_a2
    have e_a3 := sx _ _ e_a3
    have e_a4 := sx _ _ e_a4
    have e_a5 := sx _ _ e_a5
    have e_a6 := sx _ _ e_a6
    have e_a7 := sx _ _ e_a7
    have sm := fun b o z => sx b o (sm b o z)
    have hpc := sx _ _ hpc
    have e_L8 := new_at (o := HO.lst [.non, .str "ab 01", .ref a1, .ref a2, .ref a3, .ref a4, .ref a5, .ref a6, .ref a7]) z_L8
    refine ⟨_, rfl, _, rfl, ?_⟩
    have al := itd_heap (xs := ([V.non, V.str "ab 01", V.ref a1, V.ref a2, V.ref a3, V.ref a4, V.ref a5, V.ref a6, V.ref a7] : List V)) (P := (fun d => shortD d = true ∧ rowB [97, 98] 2 d = false)) (C := (fun _ => True)) hpc (List.forall_mem_cons.mpr ⟨itd_non (⟨by decide +kernel, by decide +kernel⟩) (trivial), (List.forall_mem_cons.mpr ⟨itd_str _ (by decide +kernel) (⟨by decide +kernel, by decide +kernel⟩) (trivial), (List.forall_mem_cons.mpr ⟨itd_lst p_a1 e_a1 (.cons (.str _) (.cons (.str _) (.nil))) (.cons (Sh.str _ (by decide +kernel : _ ≤ 20)) (.cons (Sh.str _ (by decide +kernel : _ ≤ 20)) (ShAll.nil))) (by decide) (⟨by decide +kernel, by decide +kernel⟩) (trivial), (List.forall_mem_cons.mpr ⟨itd_tup p_a2 e_a2 (.cons (.str _) (.nil)) (.cons (Sh.str _ (by decide +kernel : _ ≤ 20)) (ShAll.nil)) (by decide) (⟨by decide +kernel, by decide +kernel⟩) (trivial), (List.forall_mem_cons.mpr ⟨itd_tup p_a3 e_a3 (.cons (.str _) (.cons (.str _) (.cons (.int _) (.nil)))) (.cons (Sh.str _ (by decide +kernel : _ ≤ 20)) (.cons (Sh.str _ (by decide +kernel : _ ≤ 20)) (.cons (Sh.int _ (by decide +kernel) (by decide +kernel : _ ≤ 20)) (ShAll.nil)))) (by decide) (⟨by decide +kernel, by decide +kernel⟩) (trivial), (List.forall_mem_cons.mpr ⟨itd_tup p_a4 e_a4 (.nil) (ShAll.nil) (by decide) (⟨by decide +kernel, by decide +kernel⟩) (trivial), (List.forall_mem_cons.mpr ⟨itd_tup p_a5 e_a5 (.cons (.str _) (.cons (.str _) (.nil))) (.cons (Sh.str _ (by decide +kernel : _ ≤ 20)) (.cons (Sh.str _ (by decide +kernel : _ ≤ 20)) (ShAll.nil))) (by decide) (⟨by decide +kernel, by decide +kernel⟩) (trivial), (List.forall_mem_cons.mpr ⟨itd_tup p_a6 e_a6 (.cons (.str _) (.cons (.str _) (.nil))) (.cons (Sh.str _ (by decide +kernel : _ ≤ 20)) (.cons (Sh.str _ (by decide +kernel : _ ≤ 20)) (ShAll.nil))) (by decide) (⟨by decide +kernel, by decide +kernel⟩) (trivial), (List.forall_mem_cons.mpr ⟨itd_tup p_a7 e_a7 (.cons (.str _) (.cons (.int _) (.nil))) (.cons (Sh.str _ (by decide +kernel : _ ≤ 20)) (.cons (Sh.int _ (by decide +kernel) (by decide +kernel : _ ≤ 20)) (ShAll.nil))) (by decide) (⟨by decide +kernel, by decide +kernel⟩) (trivial), (fun _ h => by cases h)⟩)⟩)⟩)⟩)⟩)⟩)⟩)⟩)⟩)
    refine ⟨p, L8, _, rfl, ⟨_, _, _, hpc⟩, p_L8, e_L8, by show 0 < 9; decide, by show 9 ≤ 1000; decide, fun Ha bad R h_bad => ?_⟩
    have it_bad := (al bad h_bad).keep (.but R.1)
    clear al h_bad
    have st := st.stir R
    obtain ⟨c0, c1, c2, hpc⟩ := R.2
    have e_gd := R.1 _ _ p_gd e_gd
    have kb : Kp p Hb Ha := (Kp.of sm).trans (.but R.1)
    have sm : Same Ha Ha := Same.refl Ha
    refine ⟨_, rfl, ?_⟩
    refine ⟨by rw [sizeLine_eq]; show 2 ≤ 16777216; decide, fun b9 z_b9 => ?_⟩
    have p_b9 : b9 ≠ p := (ne_of_none hpc z_b9).symm
    have sx := same_upd (o := HO.tup [.str "abb", .str "01"]) z_b9
    have st := st.same sx
    have e_gd := sx _ _ e_gd
    have sm := fun b o z => sx b o (sm b o z)
    have hpc := sx _ _ hpc
    have e_b9 := new_at (o := HO.tup [.str "abb", .str "01"]) z_b9
    refine ⟨by rw [sizeLine_eq]; show 2 ≤ 16777216; decide, fun b10 z_b10 => ?_⟩
    have p_b10 : b10 ≠ p := (ne_of_none hpc z_b10).symm
    have sx := same_upd (o := HO.tup [.str "ab", .str "011"]) z_b10
    have st := st.same sx
    have e_gd := sx _ _ e_gd
    have e_b9 := sx _ _ e_b9
    have sm := fun b o z => sx b o (sm b o z)
    have hpc := sx _ _ hpc
    have e_b10 := new_at (o := HO.tup [.str "ab", .str "011"]) z_b10
    refine ⟨by rw [sizeLine_eq]; show 2 ≤ 16777216; decide, fun b11 z_b11 => ?_⟩
    have p_b11 : b11 ≠ p := (ne_of_none hpc z_b11).symm
    have sx := same_upd (o := HO.tup [.str "", .str ""]) z_b11
    have st := st.same sx
    have e_gd := sx _ _ e_gd
    have e_b9 := sx _ _ e_b9
    have e_b10 := sx _ _ e_b10
    have sm := fun b o z => sx b o (sm b o z)
    have hpc := sx _ _ hpc
    have e_b11 := new_at (o := HO.tup [.str "", .str ""]) z_b11
    refine ⟨by rw [sizeLine_eq]; show 2 ≤ 16777216; decide, fun b12 z_b12 => ?_⟩
    have p_b12 : b12 ≠ p := (ne_of_none hpc z_b12).symm
    have sx := same_upd (o := HO.tup [.non, .str "01"]) z_b12
    have st := st.same sx
    have e_gd := sx _ _ e_gd
    have e_b9 := sx _ _ e_b9
    have e_b10 := sx _ _ e_b10
    have e_b11 := sx _ _ e_b11
    have sm := fun b o z => sx b o (sm b o z)
    have hpc := sx _ _ hpc
    have e_b12 := new_at (o := HO.tup [.non, .str "01"]) z_b12
    refine ⟨by rw [sizeLine_eq]; show 2 ≤ 16777216; decide, fun b13 z_b13 => ?_⟩
    have p_b13 : b13 ≠ p := (ne_of_none hpc z_b13).symm
    have sx := same_upd (o := HO.tup [.str "ab", .non]) z_b13
    have st := st.same sx
    have e_gd := sx _ _ e_gd
    have e_b9 := sx _ _ e_b9
    have e_b10 := sx _ _ e_b10
    have e_b11 := sx _ _ e_b11
    have e_b12 := sx _ _ e_b12
    have sm := fun b o z => sx b o (sm b o z)
    have hpc := sx _ _ hpc
    have e_b13 := new_at (o := HO.tup [.str "ab", .non]) z_b13
    refine fun b14 z_b14 => ?_
    have p_b14 : b14 ≠ p := (ne_of_none hpc z_b14).symm
    have sx := same_upd (o := HO.dK []) z_b14
    have st := st.same sx
    have e_gd := sx _ _ e_gd
    have e_b9 := sx _ _ e_b9
    have e_b10 := sx _ _ e_b10
    have e_b11 := sx _ _ e_b11
    have e_b12 := sx _ _ e_b12
    have e_b13 := sx _ _ e_b13
    have sm := fun b o z => sx b o (sm b o z)
    have hpc := sx _ _ hpc
    have e_b14 := new_at (o := HO.dK []) z_b14
    refine ⟨by rw [sizeLine_eq]; show 2 ≤ 16777216; decide, fun b15 z_b15 => ?_⟩
    have p_b15 : b15 ≠ p := (ne_of_none hpc z_b15).symm
    have sx := same_upd (o := HO.tup [.str "01", .str "ab"]) z_b15
    have st := st.same sx
    have e_gd := sx _ _ e_gd
    have e_b9 := sx _ _ e_b9
    have e_b10 := sx _ _ e_b10
    have e_b11 := sx _ _ e_b11
    have e_b12 := sx _ _ e_b12
    have e_b13 := sx _ _ e_b13
    have e_b14 := sx _ _ e_b14
    have sm := fun b o z => sx b o (sm b o z)
    have hpc := sx _ _ hpc
    have e_b15 := new_at (o := HO.tup [.str "01", .str "ab"]) z_b15
    refine ⟨by rw [sizeLine_eq]; show 9 ≤ 16777216; decide, fun L16 z_L16 => ?_⟩
    have p_L16 : L16 ≠ p := (ne_of_none hpc z_L16).symm
    have sx := same_upd (o := HO.lst [.ref b9, .ref b10, .ref b11, .ref b12, .ref b13, .int (7), .bl true, .ref b14, .ref b15]) z_L16
    have st := st.same sx
    have e_gd := sx _ _ e_gd
    have e_b9 := sx _ _ e_b9
    have e_b10 := sx _ _ e_b10
    have e_b11 := sx _ _ e_b11
    have e_b12 := sx _ _ e_b12
    have e_b13 := sx _ _ e_b13
    have e_b14 := sx _ _ e_b14
    have e_b15 := sx _ _ e_b15
    have sm := fun b o z => sx b o (sm b o z)
    have hpc := sx _ _ hpc
    have e_L16 := new_at (o := HO.lst [.ref b9, .ref b10, .ref b11, .ref b12, .ref b13, .int (7), .bl true, .ref b14, .ref b15]) z_L16
    have al := itd_heap (xs := ([V.ref b9, V.ref b10, V.ref b11, V.ref b12, V.ref b13, V.int (7), V.bl true, V.ref b14, V.ref b15] : List V)) (P := (fun d => shortD d = true ∧ rowB [97, 98] 2 d = false)) (C := (fun _ => True)) hpc (List.forall_mem_cons.mpr ⟨itd_tup p_b9 e_b9 (.cons (.str _) (.cons (.str _) (.nil))) (.cons (Sh.str _ (by decide +kernel : _ ≤ 20)) (.cons (Sh.str _ (by decide +kernel : _ ≤ 20)) (ShAll.nil))) (by decide) (⟨by decide +kernel, by decide +kernel⟩) (trivial), (List.forall_mem_cons.mpr ⟨itd_tup p_b10 e_b10 (.cons (.str _) (.cons (.str _) (.nil))) (.cons (Sh.str _ (by decide +kernel : _ ≤ 20)) (.cons (Sh.str _ (by decide +kernel : _ ≤ 20)) (ShAll.nil))) (by decide) (⟨by decide +kernel, by decide +kernel⟩) (trivial), (List.forall_mem_cons.mpr ⟨itd_tup p_b11 e_b11 (.cons (.str _) (.cons (.str _) (.nil))) (.cons (Sh.str _ (by decide +kernel : _ ≤ 20)) (.cons (Sh.str _ (by decide +kernel : _ ≤ 20)) (ShAll.nil))) (by decide) (⟨by decide +kernel, by decide +kernel⟩) (trivial), (List.forall_mem_cons.mpr ⟨itd_tup p_b12 e_b12 (.cons (.non) (.cons (.str _) (.nil))) (.cons ((Sh.non (m := 0)).le (by decide : 4 ≤ 20) (by decide : 0 ≤ 0)) (.cons (Sh.str _ (by decide +kernel : _ ≤ 20)) (ShAll.nil))) (by decide) (⟨by decide +kernel, by decide +kernel⟩) (trivial), (List.forall_mem_cons.mpr ⟨itd_tup p_b13 e_b13 (.cons (.str _) (.cons (.non) (.nil))) (.cons (Sh.str _ (by decide +kernel : _ ≤ 20)) (.cons ((Sh.non (m := 0)).le (by decide : 4 ≤ 20) (by decide : 0 ≤ 0)) (ShAll.nil))) (by decide) (⟨by decide +kernel, by decide +kernel⟩) (trivial), (List.forall_mem_cons.mpr ⟨itd_int _ (by decide +kernel) (by decide +kernel) (⟨by decide +kernel, by decide +kernel⟩) (trivial), (List.forall_mem_cons.mpr ⟨itd_bl _ (⟨by decide +kernel, by decide +kernel⟩) (trivial), (List.forall_mem_cons.mpr ⟨itd_dic p_b14 e_b14 (⟨by decide +kernel, by decide +kernel⟩) (trivial), (List.forall_mem_cons.mpr ⟨itd_tup p_b15 e_b15 (.cons (.str _) (.cons (.str _) (.nil))) (.cons (Sh.str _ (by decide +kernel : _ ≤ 20)) (.cons (Sh.str _ (by decide +kernel : _ ≤ 20)) (ShAll.nil))) (by decide) (⟨by decide +kernel, by decide +kernel⟩) (trivial), (fun _ h => by cases h)⟩)⟩)⟩)⟩)⟩)⟩)⟩)⟩)⟩)
    refine ⟨p, L16, _, rfl, ⟨_, _, _, hpc⟩, p_L16, e_L16, by show 0 < 9; decide, by show 9 ≤ 1000; decide, fun Hc odd R h_odd => ?_⟩
    have it_odd := (al odd h_odd).keep (.but R.1)
    clear al h_odd
    have st := st.stir R
    obtain ⟨c0, c1, c2, hpc⟩ := R.2
    have e_gd := R.1 _ _ p_gd e_gd
    have it_bad := it_bad.keep ((Kp.of sm).trans (.but R.1))
    have kb := kb.trans ((Kp.of sm).trans (.but R.1))
    have sm : Same Hc Hc := Same.refl Hc
    refine ⟨_, rfl, ?_⟩
    refine ⟨by rw [sizeLine_eq]; show 2 ≤ 16777216; decide, fun n17 z_n17 => ?_⟩
    have p_n17 : n17 ≠ p := (ne_of_none hpc z_n17).symm
    have sx := same_upd (o := HO.tup [.str "ab", .int (2)]) z_n17
    have st := st.same sx
    have e_gd := sx _ _ e_gd
    have sm := fun b o z => sx b o (sm b o z)
    have hpc := sx _ _ hpc
    have e_n17 := new_at (o := HO.tup [.str "ab", .int (2)]) z_n17
    refine ⟨_, rfl, ?_⟩
    refine fun n18 z_n18 => ?_
    have p_n18 : n18 ≠ p := (ne_of_none hpc z_n18).symm
    have sx := same_upd (o := HO.dK []) z_n18
    have st := st.same sx
    have e_gd := sx _ _ e_gd
    have e_n17 := sx _ _ e_n17
    have sm := fun b o z => sx b o (sm b o z)
    have hpc := sx _ _ hpc
    have e_n18 := new_at (o := HO.dK []) z_n18
    refine ⟨by rw [sizeLine_eq]; show 6 ≤ 16777216; decide, fun L19 z_L19 => ?_⟩
    have p_L19 : L19 ≠ p := (ne_of_none hpc z_L19).symm
    have sx := same_upd (o := HO.lst [.non, .str "ab 2", .ref n17, .ref gd, .int (2), .ref n18]) z_L19
    have st := st.same sx
    have e_gd := sx _ _ e_gd
    have e_n17 := sx _ _ e_n17
    have e_n18 := sx _ _ e_n18
    have sm := fun b o z => sx b o (sm b o z)
    have hpc := sx _ _ hpc
    have e_L19 := new_at (o := HO.lst [.non, .str "ab 2", .ref n17, .ref gd, .int (2), .ref n18]) z_L19
    have al := itd_heap (xs := ([V.non, V.str "ab 2", V.ref n17, V.ref gd, V.int (2), V.ref n18] : List V)) (P := (fun _ => True)) (C := (fun _ => True)) hpc (List.forall_mem_cons.mpr ⟨itd_non (trivial) (trivial), (List.forall_mem_cons.mpr ⟨itd_str _ (by decide +kernel) (trivial) (trivial), (List.forall_mem_cons.mpr ⟨itd_tup p_n17 e_n17 (.cons (.str _) (.cons (.int _) (.nil))) (.cons (Sh.str _ (by decide +kernel : _ ≤ 20)) (.cons (Sh.int _ (by decide +kernel) (by decide +kernel : _ ≤ 20)) (ShAll.nil))) (by decide) (trivial) (trivial), (List.forall_mem_cons.mpr ⟨itd_tup p_gd e_gd (.cons (.str _) (.cons (.str _) (.nil))) (.cons (Sh.str _ (by decide +kernel : _ ≤ 20)) (.cons (Sh.str _ (by decide +kernel : _ ≤ 20)) (ShAll.nil))) (by decide) (trivial) (trivial), (List.forall_mem_cons.mpr ⟨itd_int _ (by decide +kernel) (by decide +kernel) (trivial) (trivial), (List.forall_mem_cons.mpr ⟨itd_dic p_n18 e_n18 (trivial) (trivial), (fun _ h => by cases h)⟩)⟩)⟩)⟩)⟩)⟩)
    refine ⟨p, L19, _, rfl, ⟨_, _, _, hpc⟩, p_L19, e_L19, by show 0 < 6; decide, by show 6 ≤ 1000; decide, fun B1 non R h_non => ?_⟩
    have it_non := (al non h_non).keep (.but R.1)
    clear al h_non
    have st := st.stir R
    obtain ⟨c0, c1, c2, hpc⟩ := R.2
    have e_gd := R.1 _ _ p_gd e_gd
    have kx : Kp p Hc B1 := (Kp.of sm).trans (.but R.1)
    have it_bad := it_bad.keep kx
    have it_odd := it_odd.keep kx
    have kb := kb.trans kx
    have bd : Bd C B1 x [97, 98] 2 := bd.kq (S := p) (hp.ext (ExtN.of sb)) (NewL.at_ (hp.ext (ExtN.of sb)).choose_spec.choose_spec.choose_spec) (.kp kb)
    have kall : Kp p H B1 := (Kp.of sb).trans kb
    have st := st.base
    have hb1 : BowlAt B1 p := st.bowl
    have nlp : NewL B1 p := NewL.at_ hpc
    have rg : RowAt B1 gd ([97, 98], [48, 49]) := by unfold RowAt; rw [← eab, ← e01]; exact e_gd
    clear e_gd
    obtain ⟨d_bad, y_bad, th_bad, sh_bad, pr_bad, _⟩ := it_bad
    obtain ⟨d_odd, y_odd, th_odd, sh_odd, pr_odd, _⟩ := it_odd
    obtain ⟨d_non, y_non, th_non, sh_non, pr_non, _⟩ := it_non
    refine ⟨st.tabs, fun H3 x3 t3 => ?_⟩
    refine ⟨_, rfl, _, rfl, hist_bad (Q := fun _ _ => True) ⟨by show 1 ≤ 1000; decide, .inl ⟨_, (th_non.keep (st.kb.trans (.ext x3))).ty, thing_kit TK th_non, comes_got (c := ⟨CNb, "NotABoard", "value"⟩) (.tail _ (.tail _ (.tail _ (.tail _ (.head _))))) x3 t3 fun H4 q1 x4 t4 w4 e4 => ?_⟩⟩⟩
    refine ⟨by rw [sizeLine_eq]; show 1 ≤ 16777216; decide, fun S zS => ?_⟩
    obtain ⟨sn, wS⟩ := st.start x4 t4 w4 e4 zS
    refine ⟨_, rfl, .inl ⟨rfl, _, SqL.of sn.at_⟩, sn.tabs, fun H3 x3 t3 => ?_⟩
    have kq := sn.kb.trans (.kp (.ext x3))
    refine ⟨_, rfl, _, rfl, _, rfl, hist_bad (Q := fun _ _ => True) ⟨by show 2 ≤ 1000; decide, .inr ⟨x, [97, 98], 2, rfl, (bd.kq hb1 (NewL.of wS) kq), .inr ⟨by show 2 ≤ 20; decide, 0, .here (by have h := thing_row (K := K) (l := [97, 98]) (n := 2) (Gm.Thing.kq th_bad (Gm.Thing.new th_bad wS) kq) pr_bad.1; rw [pr_bad.2] at h; exact h), comes_got (c := ⟨CRw, "InvalidRows", "index"⟩) (.tail _ (.tail _ (.head _))) x3 t3 fun H4 q2 x4 t4 w4 e4 => ?_⟩⟩⟩⟩
    obtain ⟨eS, sn⟩ := sn.got x4 t4 w4 e4
    refine ⟨S, _, _, rfl, rfl, eS, by rw [sizeLine_eq]; show 1 < 16777216; decide, ?_⟩
    refine ⟨_, rfl, .inl ⟨rfl, _, SqL.of sn.at_⟩, sn.tabs, fun H3 x3 t3 => ?_⟩
    have kq := sn.kb.trans (.kp (.ext x3))
    refine ⟨_, rfl, _, rfl, _, rfl, _, rfl, _, rfl, hist_bad (Q := fun _ _ => True) ⟨by show 4 ≤ 1000; decide, .inr ⟨x, [97, 98], 2, rfl, (bd.kq hb1 (NewL.of wS) kq), .inr ⟨by show 4 ≤ 20; decide, 2, .next (good_row (keep1 hb1 (NewL.of wS) kq (fun _ z => by cases z) (fun _ z => by cases z) rg) (show RowOk [97, 98] 2 ([97, 98], [48, 49]) from ⟨by decide, by decide⟩) (by decide)) (.next (good_row (keep1 hb1 (NewL.of wS) kq (fun _ z => by cases z) (fun _ z => by cases z) rg) (show RowOk [97, 98] 2 ([97, 98], [48, 49]) from ⟨by decide, by decide⟩) (by decide)) (.here (by have h := thing_row (K := K) (l := [97, 98]) (n := 2) (Gm.Thing.kq th_odd (Gm.Thing.new th_odd wS) kq) pr_odd.1; rw [pr_odd.2] at h; exact h))), comes_got (c := ⟨CRw, "InvalidRows", "index"⟩) (.tail _ (.tail _ (.head _))) x3 t3 fun H4 q3 x4 t4 w4 e4 => ?_⟩⟩⟩⟩
    obtain ⟨eS, sn⟩ := sn.got x4 t4 w4 e4
    refine ⟨S, _, _, rfl, rfl, eS, by rw [sizeLine_eq]; show 2 < 16777216; decide, ?_⟩
    refine ⟨_, rfl, .inl ⟨rfl, _, SqL.of sn.at_⟩, sn.tabs, fun H3 x3 t3 => ?_⟩
    have kq := sn.kb.trans (.kp (.ext x3))
    refine ⟨_, rfl, _, rfl, _, rfl, hist_bad (Q := fun _ _ => True) ⟨by show 2 ≤ 1000; decide, .inr ⟨x, [97, 98], 2, rfl, (bd.kq hb1 (NewL.of wS) kq), .inr ⟨by show 2 ≤ 20; decide, 1, .next (good_row (keep1 hb1 (NewL.of wS) kq (fun _ z => by cases z) (fun _ z => by cases z) rg) (show RowOk [97, 98] 2 ([97, 98], [48, 49]) from ⟨by decide, by decide⟩) (by decide)) (.here (by have h := thing_row (K := K) (l := [97, 98]) (n := 2) (Gm.Thing.kq th_bad (Gm.Thing.new th_bad wS) kq) pr_bad.1; rw [pr_bad.2] at h; exact h)), comes_got (c := ⟨CRw, "InvalidRows", "index"⟩) (.tail _ (.tail _ (.head _))) x3 t3 fun H4 q4 x4 t4 w4 e4 => ?_⟩⟩⟩⟩
    obtain ⟨eS, sn⟩ := sn.got x4 t4 w4 e4
    refine ⟨S, _, _, rfl, rfl, eS, by rw [sizeLine_eq]; show 3 < 16777216; decide, ?_⟩
    obtain ⟨c0, c1, c2, hpc⟩ := sn.bowl
    refine ⟨_, rfl, by rw [sizeLine_eq]; show 3 ≤ 16777216; decide, fun r20 z_r20 => ?_⟩
    have p_r20 : r20 ≠ p := (ne_of_none hpc z_r20).symm
    have s_r20 : r20 ≠ S := (ne_of_none sn.at_ z_r20).symm
    have sx := same_upd (o := HO.lst [.str "NotABoard", non, .bl true]) z_r20
    have sn := sn.same sx
    have hpc := sx _ _ hpc
    have e_r20 := new_at (o := HO.lst [.str "NotABoard", non, .bl true]) z_r20
    refine ⟨by rw [sizeLine_eq]; show 3 ≤ 16777216; decide, fun r21 z_r21 => ?_⟩
    have p_r21 : r21 ≠ p := (ne_of_none hpc z_r21).symm
    have s_r21 : r21 ≠ S := (ne_of_none sn.at_ z_r21).symm
    have sx := same_upd (o := HO.lst [.str "InvalidRows", .int (0), .bl true]) z_r21
    have sn := sn.same sx
    have e_r20 := sx _ _ e_r20
    have hpc := sx _ _ hpc
    have e_r21 := new_at (o := HO.lst [.str "InvalidRows", .int (0), .bl true]) z_r21
    refine ⟨by rw [sizeLine_eq]; show 3 ≤ 16777216; decide, fun r22 z_r22 => ?_⟩
    have p_r22 : r22 ≠ p := (ne_of_none hpc z_r22).symm
    have s_r22 : r22 ≠ S := (ne_of_none sn.at_ z_r22).symm
    have sx := same_upd (o := HO.lst [.str "InvalidRows", .int (2), .bl true]) z_r22
    have sn := sn.same sx
    have e_r20 := sx _ _ e_r20
    have e_r21 := sx _ _ e_r21
    have hpc := sx _ _ hpc
    have e_r22 := new_at (o := HO.lst [.str "InvalidRows", .int (2), .bl true]) z_r22
    refine ⟨by rw [sizeLine_eq]; show 3 ≤ 16777216; decide, fun r23 z_r23 => ?_⟩
    have p_r23 : r23 ≠ p := (ne_of_none hpc z_r23).symm
    have s_r23 : r23 ≠ S := (ne_of_none sn.at_ z_r23).symm
    have sx := same_upd (o := HO.lst [.str "InvalidRows", .int (1), .bl true]) z_r23
    have sn := sn.same sx
    have e_r20 := sx _ _ e_r20
    have e_r21 := sx _ _ e_r21
    have e_r22 := sx _ _ e_r22
    have hpc := sx _ _ hpc
    have e_r23 := new_at (o := HO.lst [.str "InvalidRows", .int (1), .bl true]) z_r23
    refine ⟨by rw [sizeLine_eq]; show 4 ≤ 16777216; decide, fun D z_D => ?_⟩
    have p_D : D ≠ p := (ne_of_none hpc z_D).symm
    have s_D : D ≠ S := (ne_of_none sn.at_ z_D).symm
    have sx := same_upd (o := HO.lst [.ref r20, .ref r21, .ref r22, .ref r23]) z_D
    have sn := sn.same sx
    have e_r20 := sx _ _ e_r20
    have e_r21 := sx _ _ e_r21
    have e_r22 := sx _ _ e_r22
    have e_r23 := sx _ _ e_r23
    have hpc := sx _ _ hpc
    have e_D := new_at (o := HO.lst [.ref r20, .ref r21, .ref r22, .ref r23]) z_D
    have row1 : ∀ {r : Addr} {Hx : Hp} {nm : Str} {v : V} {d : PyData}, Hx r = some (.lst [.str nm, v, .bl true]) → Dq K Hx v d → Dq K Hx (.ref r) (.list [.str nm, d, .bool true]) := fun h k => .lst (SqL.of h) (.cons (.str _) (.cons k (.cons (.bl true) .nil)))
    have q_non := (Gm.Thing.kq th_non (Gm.Thing.new th_non wS) sn.kb).dq (K := K)
    have sh : Sh (.list [.list [.str "NotABoard", d_non, .bool true], .list [.str "InvalidRows", .int 0, .bool true], .list [.str "InvalidRows", .int 2, .bool true], .list [.str "InvalidRows", .int 1, .bool true]]) 16777216 60 := (Sh.lst (.cons ((Sh.lst (.cons (.str _ (by decide +kernel : _ ≤ 20)) (.cons sh_non (.cons (Sh.bl true) .nil)))).le (n' := 400) (m' := 3) (by decide) (by decide)) (.cons ((Sh.lst (.cons (.str _ (by decide +kernel : _ ≤ 20)) (.cons (show Sh _ 20 2 from Sh.int _ (by decide +kernel) (by decide +kernel)) (.cons (Sh.bl true) .nil)))).le (n' := 400) (m' := 3) (by decide) (by decide)) (.cons ((Sh.lst (.cons (.str _ (by decide +kernel : _ ≤ 20)) (.cons (show Sh _ 20 2 from Sh.int _ (by decide +kernel) (by decide +kernel)) (.cons (Sh.bl true) .nil)))).le (n' := 400) (m' := 3) (by decide) (by decide)) (.cons ((Sh.lst (.cons (.str _ (by decide +kernel : _ ≤ 20)) (.cons (show Sh _ 20 2 from Sh.int _ (by decide +kernel) (by decide +kernel)) (.cons (Sh.bl true) .nil)))).le (n' := 400) (m' := 3) (by decide) (by decide)) .nil))))).le (by decide) (by decide)
    refine ⟨_, rfl, S, _, rfl, .lst (SqL.of sn.at_) (.cons (row1 (show _ from (sn.rows (q1, "NotABoard", non) (by simp)).1) q_non) (.cons (row1 (show _ from (sn.rows (q2, "InvalidRows", V.int 0) (by simp)).1) (.int _)) (.cons (row1 (show _ from (sn.rows (q3, "InvalidRows", V.int 2) (by simp)).1) (.int _)) (.cons (row1 (show _ from (sn.rows (q4, "InvalidRows", V.int 1) (by simp)).1) (.int _)) .nil)))), sh, ?_⟩
    refine ⟨_, rfl, D, _, rfl, .lst (SqL.of e_D) (.cons (row1 e_r20 q_non) (.cons (row1 e_r21 (.int _)) (.cons (row1 e_r22 (.int _)) (.cons (row1 e_r23 (.int _)) .nil)))), sh, ?_⟩
    refine ⟨rfl, _, rfl, ?_⟩
    rw [decide_eq_true rfl]
    refine iteF ?_
    have kp1 : Kp p B1 _ := Kp.ofKq wS sn.kb
    have bd := bd.kq hb1 (NewL.of wS) sn.kb
    have rg : RowAt _ gd ([97, 98], [48, 49]) := keep1 hb1 (NewL.of wS) sn.kb (fun _ z => by cases z) (fun _ z => by cases z) rg
    have th_bad := Gm.Thing.kq th_bad (Gm.Thing.new th_bad wS) sn.kb
    refine ⟨_, rfl, _, rfl, _, rfl, _, rfl, _, rfl, _, rfl, _, rfl, ?_⟩
    refine hist_made (rows := List.replicate 6 ([97, 98], [48, 49])) bd (.cons rg (.cons rg (.cons rg (.cons rg (.cons rg (.cons rg .nil)))))) ⟨fun r hr => ?_, by decide⟩ fun H6 six s6 n6 h6 => ?_
    · rw [List.eq_of_mem_replicate hr]
      exact (show RowOk [97, 98] 2 ([97, 98], [48, 49]) from ⟨by decide, by decide⟩)
    refine ⟨_, rfl, x, rfl, bd.same s6, fun B2 ful rws s7 n7 l20 h7 => ?_⟩
    have sn7 := (sn.same s6).same s7
    have s67 : Same _ B2 := fun b o z => s7 _ _ (s6 _ _ z)
    have kall := (kall.trans kp1).trans (.of s67)
    have hsix := h6.same s7
    have bd := bd.same s67
    have rg : RowAt B2 gd ([97, 98], [48, 49]) := s67 _ _ rg
    have st : Bs p (tabR Pt) B2 B2 := ⟨Kp.refl, sn7.bowl, sn7.tabs⟩
    have hb1 : BowlAt B2 p := st.bowl
    clear sn sn7 wS e_D e_r20 e_r21 e_r22 e_r23
    obtain ⟨c0, c1, c2, hpc⟩ := st.bowl
    refine ⟨st.tabs, fun H3 x3 t3 => ?_⟩
    refine ⟨_, rfl, _, rfl, _, rfl, x, [97, 98], 2, _, _, rfl, bd.kq (S := p) hb1 (NewL.at_ hpc) (.kp (.ext x3)), comes_got (c := ⟨CRw, "InvalidRows", "index"⟩) (.tail _ (.tail _ (.head _))) x3 t3 fun H4 q5 x4 t4 w4 e4 => ?_⟩
    refine ⟨by rw [sizeLine_eq]; show 1 ≤ 16777216; decide, fun S zS => ?_⟩
    obtain ⟨sn, wS⟩ := st.start x4 t4 w4 e4 zS
    obtain ⟨c0, c1, c2, hpc⟩ := sn.bowl
    refine ⟨_, rfl, ?_⟩
    refine ⟨by rw [sizeLine_eq]; show 2 ≤ 16777216; decide, fun t24 z_t24 => ?_⟩
    have p_t24 : t24 ≠ p := (ne_of_none hpc z_t24).symm
    have s_t24 : t24 ≠ S := (ne_of_none sn.at_ z_t24).symm
    have sx := same_upd (o := HO.tup [.str "a", .str "b"]) z_t24
    have sn := sn.same sx
    have hpc := sx _ _ hpc
    have e_t24 := new_at (o := HO.tup [.str "a", .str "b"]) z_t24
    refine ⟨by rw [sizeLine_eq]; show 6 ≤ 16777216; decide, fun L25 z_L25 => ?_⟩
    have p_L25 : L25 ≠ p := (ne_of_none hpc z_L25).symm
    have s_L25 : L25 ≠ S := (ne_of_none sn.at_ z_L25).symm
    have sx := same_upd (o := HO.lst [.non, .str "a", .str "abc", .str "ac", .int (7), .ref t24]) z_L25
    have sn := sn.same sx
    have e_t24 := sx _ _ e_t24
    have hpc := sx _ _ hpc
    have e_L25 := new_at (o := HO.lst [.non, .str "a", .str "abc", .str "ac", .int (7), .ref t24]) z_L25
    have al := itd_heap (xs := ([V.non, V.str "a", V.str "abc", V.str "ac", V.int (7), V.ref t24] : List V)) (P := (fun d => shortD d = true ∧ wordB [97, 98] 2 d = false)) (C := (fun v => v ≠ .ref S)) hpc (List.forall_mem_cons.mpr ⟨itd_non (⟨by decide +kernel, by decide +kernel⟩) (fun z => by cases z), (List.forall_mem_cons.mpr ⟨itd_str _ (by decide +kernel) (⟨by decide +kernel, by decide +kernel⟩) (fun z => by cases z), (List.forall_mem_cons.mpr ⟨itd_str _ (by decide +kernel) (⟨by decide +kernel, by decide +kernel⟩) (fun z => by cases z), (List.forall_mem_cons.mpr ⟨itd_str _ (by decide +kernel) (⟨by decide +kernel, by decide +kernel⟩) (fun z => by cases z), (List.forall_mem_cons.mpr ⟨itd_int _ (by decide +kernel) (by decide +kernel) (⟨by decide +kernel, by decide +kernel⟩) (fun z => by cases z), (List.forall_mem_cons.mpr ⟨itd_tup p_t24 e_t24 (.cons (.str _) (.cons (.str _) (.nil))) (.cons (Sh.str _ (by decide +kernel : _ ≤ 20)) (.cons (Sh.str _ (by decide +kernel : _ ≤ 20)) (ShAll.nil))) (by decide) (⟨by decide +kernel, by decide +kernel⟩) (fun z => s_t24 (V.ref.inj z)), (fun _ h => by cases h)⟩)⟩)⟩)⟩)⟩)⟩)
    refine ⟨p, L25, _, rfl, ⟨_, _, _, hpc⟩, p_L25, e_L25, by show 0 < 6; decide, by show 6 ≤ 1000; decide, fun Hd thi R h_thi => ?_⟩
    have it_thi := (al thi h_thi).keep (.but R.1)
    clear al h_thi
    have sn := sn.stir R
    obtain ⟨c0, c1, c2, hpc⟩ := R.2
    refine ⟨fun σ' H' => ∃ (sig : V) (v1 v3 : Option V), σ' = [some (.ref p), v1, some (.ref S), v3, some bad, some (.ref x), some (.ref ful), some (.ref gd), some non, some odd, some sig, some (.ref six), none, some thi] ∧ Seen p S (tabR Pt) B2 H' [(q5, "InvalidRows", V.non)] ∧ ItemD p H' (fun d => shortD d = true ∧ wordB [48, 49, 50] 2 d = false) (fun v => v ≠ .ref S) sig ∧ ItemD p H' (fun d => shortD d = true ∧ wordB [97, 98] 2 d = false) (fun v => v ≠ .ref S) thi, ?_, ?_⟩
    · have sm : Same Hd Hd := Same.refl Hd
      refine ⟨_, rfl, ?_⟩
      refine ⟨by rw [sizeLine_eq]; show 6 ≤ 16777216; decide, fun L26 z_L26 => ?_⟩
      have p_L26 : L26 ≠ p := (ne_of_none hpc z_L26).symm
      have s_L26 : L26 ≠ S := (ne_of_none sn.at_ z_L26).symm
      have sx := same_upd (o := HO.lst [.non, .str "", .str "0", .str "012", .str "09", .int (12)]) z_L26
      have sn := sn.same sx
      have sm := fun b o z => sx b o (sm b o z)
      have hpc := sx _ _ hpc
      have e_L26 := new_at (o := HO.lst [.non, .str "", .str "0", .str "012", .str "09", .int (12)]) z_L26
      have al := itd_heap (xs := ([V.non, V.str "", V.str "0", V.str "012", V.str "09", V.int (12)] : List V)) (P := (fun d => shortD d = true ∧ wordB [48, 49, 50] 2 d = false)) (C := (fun v => v ≠ .ref S)) hpc (List.forall_mem_cons.mpr ⟨itd_non (⟨by decide +kernel, by decide +kernel⟩) (fun z => by cases z), (List.forall_mem_cons.mpr ⟨itd_str _ (by decide +kernel) (⟨by decide +kernel, by decide +kernel⟩) (fun z => by cases z), (List.forall_mem_cons.mpr ⟨itd_str _ (by decide +kernel) (⟨by decide +kernel, by decide +kernel⟩) (fun z => by cases z), (List.forall_mem_cons.mpr ⟨itd_str _ (by decide +kernel) (⟨by decide +kernel, by decide +kernel⟩) (fun z => by cases z), (List.forall_mem_cons.mpr ⟨itd_str _ (by decide +kernel) (⟨by decide +kernel, by decide +kernel⟩) (fun z => by cases z), (List.forall_mem_cons.mpr ⟨itd_int _ (by decide +kernel) (by decide +kernel) (⟨by decide +kernel, by decide +kernel⟩) (fun z => by cases z), (fun _ h => by cases h)⟩)⟩)⟩)⟩)⟩)⟩)
      refine ⟨p, L26, _, rfl, ⟨_, _, _, hpc⟩, p_L26, e_L26, by show 0 < 6; decide, by show 6 ≤ 1000; decide, fun B3 sig R h_sig => ?_⟩
      have it_sig := (al sig h_sig).keep (.but R.1)
      clear al h_sig
      have sn := sn.stir R
      obtain ⟨c0, c1, c2, hpc⟩ := R.2
      exact ⟨sig, _, _, rfl, sn, it_sig, it_thi.keep ((Kp.of sm).trans (.but R.1))⟩
    rintro σ' B3 ⟨sig, v1, v3, rfl, sn, it_sig, it_thi⟩
    have hsix := hsix.kq hb1 (NewL.of wS) sn.kb
    have hful := h7.kq hb1 (NewL.of wS) sn.kb
    have sn3 := sn.base
    have nl3 : NewL B3 S := NewL.at_ sn3.at_
    have hb3 : BowlAt B3 p := sn3.bowl
    obtain ⟨d_thi, y_thi, th_thi, sh_thi, pr_thi, ne_thi⟩ := it_thi
    obtain ⟨d_sig, y_sig, th_sig, sh_sig, pr_sig, ne_sig⟩ := it_sig
    refine ⟨_, rfl, .inl ⟨rfl, _, SqL.of sn3.at_⟩, sn3.tabs, fun H3 x3 t3 => ?_⟩
    have kq := sn3.kb.trans (.kp (.ext x3))
    have hh := hsix.kq hb3 nl3 kq
    obtain ⟨dh, bh, rh, eh, _⟩ := id hh
    refine ⟨_, rfl, six, dh, _, rfl, eh, hf_none _ _ (by decide +kernel) (by decide +kernel), _, rfl, _, rfl, six, [97, 98], 2, _, _, _, false, rfl, hh, (by have h := thing_word (K := K) (ch := [97, 98]) (n := 2) (Gm.Thing.kq th_thi ne_thi kq) pr_thi.1; rw [pr_thi.2] at h; exact h), .inl ⟨rfl, comes_got (c := ⟨CWd, "InvalidWord", "value"⟩) (.tail _ (.tail _ (.tail _ (.head _)))) x3 t3 fun H4 q6 x4 t4 w4 e4 => ?_⟩⟩
    obtain ⟨eS, sn3⟩ := sn3.got x4 t4 w4 e4
    obtain ⟨eS, sn⟩ := sn.got x4 t4 w4 e4
    refine ⟨S, _, _, rfl, rfl, eS, by rw [sizeLine_eq]; show 1 < 16777216; decide, ?_⟩
    refine ⟨_, rfl, .inl ⟨rfl, _, SqL.of sn3.at_⟩, sn3.tabs, fun H3 x3 t3 => ?_⟩
    have kq := sn3.kb.trans (.kp (.ext x3))
    have hh := hsix.kq hb3 nl3 kq
    obtain ⟨dh, bh, rh, eh, _⟩ := id hh
    refine ⟨_, rfl, six, dh, _, rfl, eh, hf_none _ _ (by decide +kernel) (by decide +kernel), _, rfl, six, [97, 98], 2, _, _, _, true, rfl, hh, (show AsW K H3 (.str "ab") [97, 98] 2 true from .inl ⟨[97, 98], by rw [← eab], by decide, by decide⟩), .inr ⟨rfl, false, (by have h := thing_word (K := K) (ch := [48, 49, 50]) (n := 2) (Gm.Thing.kq th_sig ne_sig kq) pr_sig.1; rw [pr_sig.2] at h; exact h), .inl ⟨rfl, comes_got (c := ⟨CMk, "InvalidMarks", "value"⟩) (.head _) x3 t3 fun H4 q7 x4 t4 w4 e4 => ?_⟩⟩⟩
    obtain ⟨eS, sn3⟩ := sn3.got x4 t4 w4 e4
    obtain ⟨eS, sn⟩ := sn.got x4 t4 w4 e4
    refine ⟨S, _, _, rfl, rfl, eS, by rw [sizeLine_eq]; show 2 < 16777216; decide, ?_⟩
    refine ⟨_, rfl, .inl ⟨rfl, _, SqL.of sn3.at_⟩, sn3.tabs, fun H3 x3 t3 => ?_⟩
    have kq := sn3.kb.trans (.kp (.ext x3))
    have hh := hful.kq hb3 nl3 kq
    obtain ⟨dh, bh, rh, eh, _⟩ := id hh
    refine ⟨_, rfl, ful, dh, _, rfl, eh, hf_none _ _ (by decide +kernel) (by decide +kernel), _, rfl, _, rfl, ful, [97, 98], 2, _, _, _, false, rfl, hh, (by have h := thing_word (K := K) (ch := [97, 98]) (n := 2) (Gm.Thing.kq th_thi ne_thi kq) pr_thi.1; rw [pr_thi.2] at h; exact h), .inl ⟨rfl, comes_got (c := ⟨CWd, "InvalidWord", "value"⟩) (.tail _ (.tail _ (.tail _ (.head _)))) x3 t3 fun H4 q8 x4 t4 w4 e4 => ?_⟩⟩
    obtain ⟨eS, sn3⟩ := sn3.got x4 t4 w4 e4
    obtain ⟨eS, sn⟩ := sn.got x4 t4 w4 e4
    refine ⟨S, _, _, rfl, rfl, eS, by rw [sizeLine_eq]; show 3 < 16777216; decide, ?_⟩
    refine ⟨_, rfl, .inl ⟨rfl, _, SqL.of sn3.at_⟩, sn3.tabs, fun H3 x3 t3 => ?_⟩
    have kq := sn3.kb.trans (.kp (.ext x3))
    have hh := hful.kq hb3 nl3 kq
    obtain ⟨dh, bh, rh, eh, _⟩ := id hh
    refine ⟨_, rfl, ful, dh, _, rfl, eh, hf_none _ _ (by decide +kernel) (by decide +kernel), _, rfl, ful, [97, 98], 2, _, _, _, true, rfl, hh, (show AsW K H3 (.str "ab") [97, 98] 2 true from .inl ⟨[97, 98], by rw [← eab], by decide, by decide⟩), .inr ⟨rfl, false, (by have h := thing_word (K := K) (ch := [48, 49, 50]) (n := 2) (Gm.Thing.kq th_sig ne_sig kq) pr_sig.1; rw [pr_sig.2] at h; exact h), .inl ⟨rfl, comes_got (c := ⟨CMk, "InvalidMarks", "value"⟩) (.head _) x3 t3 fun H4 q9 x4 t4 w4 e4 => ?_⟩⟩⟩
    obtain ⟨eS, sn3⟩ := sn3.got x4 t4 w4 e4
    obtain ⟨eS, sn⟩ := sn.got x4 t4 w4 e4
    refine ⟨S, _, _, rfl, rfl, eS, by rw [sizeLine_eq]; show 4 < 16777216; decide, ?_⟩
    refine ⟨_, rfl, .inl ⟨rfl, _, SqL.of sn3.at_⟩, sn3.tabs, fun H3 x3 t3 => ?_⟩
    have kq := sn3.kb.trans (.kp (.ext x3))
    have hh := hful.kq hb3 nl3 kq
    obtain ⟨dh, bh, rh, eh, _⟩ := id hh
    refine ⟨_, rfl, ful, dh, _, rfl, eh, hf_none _ _ (by decide +kernel) (by decide +kernel), ful, [97, 98], 2, _, _, _, true, rfl, hh, (show AsW K H3 (.str "ab") [97, 98] 2 true from .inl ⟨[97, 98], by rw [← eab], by decide, by decide⟩), .inr ⟨rfl, true, (show AsW K H3 (.str "00") [48, 49, 50] 2 true from .inl ⟨[48, 48], by rw [← e00], by decide, by decide⟩), .inr ⟨rfl, l20, comes_got (c := ⟨CTm, "TooManyRows", "limit"⟩) (.tail _ (.tail _ (.tail _ (.tail _ (.tail _ (.head _)))))) x3 t3 fun H4 q10 x4 t4 w4 e4 => ?_⟩⟩⟩
    obtain ⟨eS, sn3⟩ := sn3.got x4 t4 w4 e4
    obtain ⟨eS, sn⟩ := sn.got x4 t4 w4 e4
    refine ⟨S, _, _, rfl, rfl, eS, by rw [sizeLine_eq]; show 5 < 16777216; decide, ?_⟩
    obtain ⟨c0, c1, c2, hpc⟩ := sn.bowl
    refine ⟨by rw [sizeLine_eq]; show 3 ≤ 16777216; decide, fun r27 z_r27 => ?_⟩
    have p_r27 : r27 ≠ p := (ne_of_none hpc z_r27).symm
    have s_r27 : r27 ≠ S := (ne_of_none sn3.at_ z_r27).symm
    have sx := same_upd (o := HO.lst [.str "InvalidRows", .non, .bl true]) z_r27
    have sn3 := sn3.same sx
    have sn := sn.same sx
    have hpc := sx _ _ hpc
    have e_r27 := new_at (o := HO.lst [.str "InvalidRows", .non, .bl true]) z_r27
    refine ⟨_, rfl, by rw [sizeLine_eq]; show 3 ≤ 16777216; decide, fun r28 z_r28 => ?_⟩
    have p_r28 : r28 ≠ p := (ne_of_none hpc z_r28).symm
    have s_r28 : r28 ≠ S := (ne_of_none sn3.at_ z_r28).symm
    have sx := same_upd (o := HO.lst [.str "InvalidWord", thi, .bl true]) z_r28
    have sn3 := sn3.same sx
    have sn := sn.same sx
    have e_r27 := sx _ _ e_r27
    have hpc := sx _ _ hpc
    have e_r28 := new_at (o := HO.lst [.str "InvalidWord", thi, .bl true]) z_r28
    refine ⟨_, rfl, by rw [sizeLine_eq]; show 3 ≤ 16777216; decide, fun r29 z_r29 => ?_⟩
    have p_r29 : r29 ≠ p := (ne_of_none hpc z_r29).symm
    have s_r29 : r29 ≠ S := (ne_of_none sn3.at_ z_r29).symm
    have sx := same_upd (o := HO.lst [.str "InvalidMarks", sig, .bl true]) z_r29
    have sn3 := sn3.same sx
    have sn := sn.same sx
    have e_r27 := sx _ _ e_r27
    have e_r28 := sx _ _ e_r28
    have hpc := sx _ _ hpc
    have e_r29 := new_at (o := HO.lst [.str "InvalidMarks", sig, .bl true]) z_r29
    refine ⟨by rw [sizeLine_eq]; show 3 ≤ 16777216; decide, fun D1 z_D1 => ?_⟩
    have p_D1 : D1 ≠ p := (ne_of_none hpc z_D1).symm
    have s_D1 : D1 ≠ S := (ne_of_none sn3.at_ z_D1).symm
    have sx := same_upd (o := HO.lst [.ref r27, .ref r28, .ref r29]) z_D1
    have sn3 := sn3.same sx
    have sn := sn.same sx
    have e_r27 := sx _ _ e_r27
    have e_r28 := sx _ _ e_r28
    have e_r29 := sx _ _ e_r29
    have hpc := sx _ _ hpc
    have e_D1 := new_at (o := HO.lst [.ref r27, .ref r28, .ref r29]) z_D1
    refine ⟨_, rfl, _, rfl, by rw [sizeLine_eq]; show 3 ≤ 16777216; decide, fun r30 z_r30 => ?_⟩
    have p_r30 : r30 ≠ p := (ne_of_none hpc z_r30).symm
    have s_r30 : r30 ≠ S := (ne_of_none sn3.at_ z_r30).symm
    have sx := same_upd (o := HO.lst [.str "InvalidWord", thi, .bl true]) z_r30
    have sn3 := sn3.same sx
    have sn := sn.same sx
    have e_r27 := sx _ _ e_r27
    have e_r28 := sx _ _ e_r28
    have e_r29 := sx _ _ e_r29
    have e_D1 := sx _ _ e_D1
    have hpc := sx _ _ hpc
    have e_r30 := new_at (o := HO.lst [.str "InvalidWord", thi, .bl true]) z_r30
    refine ⟨_, rfl, by rw [sizeLine_eq]; show 3 ≤ 16777216; decide, fun r31 z_r31 => ?_⟩
    have p_r31 : r31 ≠ p := (ne_of_none hpc z_r31).symm
    have s_r31 : r31 ≠ S := (ne_of_none sn3.at_ z_r31).symm
    have sx := same_upd (o := HO.lst [.str "InvalidMarks", sig, .bl true]) z_r31
    have sn3 := sn3.same sx
    have sn := sn.same sx
    have e_r27 := sx _ _ e_r27
    have e_r28 := sx _ _ e_r28
    have e_r29 := sx _ _ e_r29
    have e_D1 := sx _ _ e_D1
    have e_r30 := sx _ _ e_r30
    have hpc := sx _ _ hpc
    have e_r31 := new_at (o := HO.lst [.str "InvalidMarks", sig, .bl true]) z_r31
    refine ⟨by rw [sizeLine_eq]; show 3 ≤ 16777216; decide, fun r32 z_r32 => ?_⟩
    have p_r32 : r32 ≠ p := (ne_of_none hpc z_r32).symm
    have s_r32 : r32 ≠ S := (ne_of_none sn3.at_ z_r32).symm
    have sx := same_upd (o := HO.lst [.str "TooManyRows", .int (20), .bl true]) z_r32
    have sn3 := sn3.same sx
    have sn := sn.same sx
    have e_r27 := sx _ _ e_r27
    have e_r28 := sx _ _ e_r28
    have e_r29 := sx _ _ e_r29
    have e_D1 := sx _ _ e_D1
    have e_r30 := sx _ _ e_r30
    have e_r31 := sx _ _ e_r31
    have hpc := sx _ _ hpc
    have e_r32 := new_at (o := HO.lst [.str "TooManyRows", .int (20), .bl true]) z_r32
    refine ⟨by rw [sizeLine_eq]; show 3 ≤ 16777216; decide, fun D2 z_D2 => ?_⟩
    have p_D2 : D2 ≠ p := (ne_of_none hpc z_D2).symm
    have s_D2 : D2 ≠ S := (ne_of_none sn3.at_ z_D2).symm
    have sx := same_upd (o := HO.lst [.ref r30, .ref r31, .ref r32]) z_D2
    have sn3 := sn3.same sx
    have sn := sn.same sx
    have e_r27 := sx _ _ e_r27
    have e_r28 := sx _ _ e_r28
    have e_r29 := sx _ _ e_r29
    have e_D1 := sx _ _ e_D1
    have e_r30 := sx _ _ e_r30
    have e_r31 := sx _ _ e_r31
    have e_r32 := sx _ _ e_r32
    have hpc := sx _ _ hpc
    have e_D2 := new_at (o := HO.lst [.ref r30, .ref r31, .ref r32]) z_D2
    refine ⟨D1, D2, _, _, rfl, rfl, e_D1, e_D2, by rw [sizeLine_eq]; show 6 ≤ 16777216; decide, fun D z_D => ?_⟩
    have sx := same_upd (o := HO.lst ([.ref r27, .ref r28, .ref r29] ++ [.ref r30, .ref r31, .ref r32])) z_D
    have sn3 := sn3.same sx
    have sn := sn.same sx
    have e_r27 := sx _ _ e_r27
    have e_r28 := sx _ _ e_r28
    have e_r29 := sx _ _ e_r29
    have e_D1 := sx _ _ e_D1
    have e_r30 := sx _ _ e_r30
    have e_r31 := sx _ _ e_r31
    have e_r32 := sx _ _ e_r32
    have e_D2 := sx _ _ e_D2
    have hpc := sx _ _ hpc
    have e_D := new_at (o := HO.lst ([.ref r27, .ref r28, .ref r29] ++ [.ref r30, .ref r31, .ref r32])) z_D
    have row1 : ∀ {r : Addr} {Hx : Hp} {nm : Str} {v : V} {d : PyData}, Hx r = some (.lst [.str nm, v, .bl true]) → Dq K Hx v d → Dq K Hx (.ref r) (.list [.str nm, d, .bool true]) := fun h k => .lst (SqL.of h) (.cons (.str _) (.cons k (.cons (.bl true) .nil)))
    have q_thi := (Gm.Thing.kq th_thi ne_thi sn3.kb).dq (K := K)
    have q_sig := (Gm.Thing.kq th_sig ne_sig sn3.kb).dq (K := K)
    refine ⟨fun σ' H' => (∃ v1 v2 v3 : Option V, σ' = [some (.ref p), v1, v2, v3, some bad, some (.ref x), some (.ref ful), some (.ref gd), some non, some odd, some sig, some (.ref six), none, some thi]) ∧ Bs p (tabR Pt) B2 H' ∧ HistAt C CH H' six [97, 98] 2 (List.replicate 6 ([97, 98], [48, 49])) ∧ Bd C H' x [97, 98] 2 ∧ ∃ d t, Thing p H' thi d t ∧ Sh d 300 2 ∧ (fun d => shortD d = true ∧ wordB [97, 98] 2 d = false) d, ?_, ?_⟩
    · have sh : Sh (.list [.list [.str "InvalidRows", .none, .bool true], .list [.str "InvalidWord", d_thi, .bool true], .list [.str "InvalidMarks", d_sig, .bool true], .list [.str "InvalidWord", d_thi, .bool true], .list [.str "InvalidMarks", d_sig, .bool true], .list [.str "TooManyRows", .int 20, .bool true]]) 16777216 60 := (Sh.lst (.cons ((Sh.lst (.cons (.str _ (by decide +kernel : _ ≤ 20)) (.cons ((Sh.non (m := 0)).le (by decide : 4 ≤ 20) (by decide : 0 ≤ 2)) (.cons (Sh.bl true) .nil)))).le (n' := 400) (m' := 3) (by decide) (by decide)) (.cons ((Sh.lst (.cons (.str _ (by decide +kernel : _ ≤ 20)) (.cons sh_thi (.cons (Sh.bl true) .nil)))).le (n' := 400) (m' := 3) (by decide) (by decide)) (.cons ((Sh.lst (.cons (.str _ (by decide +kernel : _ ≤ 20)) (.cons sh_sig (.cons (Sh.bl true) .nil)))).le (n' := 400) (m' := 3) (by decide) (by decide)) (.cons ((Sh.lst (.cons (.str _ (by decide +kernel : _ ≤ 20)) (.cons sh_thi (.cons (Sh.bl true) .nil)))).le (n' := 400) (m' := 3) (by decide) (by decide)) (.cons ((Sh.lst (.cons (.str _ (by decide +kernel : _ ≤ 20)) (.cons sh_sig (.cons (Sh.bl true) .nil)))).le (n' := 400) (m' := 3) (by decide) (by decide)) (.cons ((Sh.lst (.cons (.str _ (by decide +kernel : _ ≤ 20)) (.cons (show Sh _ 20 2 from Sh.int _ (by decide +kernel) (by decide +kernel)) (.cons (Sh.bl true) .nil)))).le (n' := 400) (m' := 3) (by decide) (by decide)) .nil))))))).le (by decide) (by decide)
      refine ⟨_, rfl, S, _, rfl, .lst (SqL.of sn.at_) (.cons (row1 (show _ from (sn.rows (q5, "InvalidRows", V.non) (by simp)).1) .non) (.cons (row1 (show _ from (sn.rows (q6, "InvalidWord", thi) (by simp)).1) q_thi) (.cons (row1 (show _ from (sn.rows (q7, "InvalidMarks", sig) (by simp)).1) q_sig) (.cons (row1 (show _ from (sn.rows (q8, "InvalidWord", thi) (by simp)).1) q_thi) (.cons (row1 (show _ from (sn.rows (q9, "InvalidMarks", sig) (by simp)).1) q_sig) (.cons (row1 (show _ from (sn.rows (q10, "TooManyRows", V.int 20) (by simp)).1) (.int _)) .nil)))))), sh, ?_⟩
      refine ⟨_, rfl, D, _, rfl, .lst (SqL.of e_D) (.cons (row1 e_r27 .non) (.cons (row1 e_r28 q_thi) (.cons (row1 e_r29 q_sig) (.cons (row1 e_r30 q_thi) (.cons (row1 e_r31 q_sig) (.cons (row1 e_r32 (.int _)) .nil)))))), sh, ?_⟩
      refine ⟨rfl, _, rfl, ?_⟩
      rw [decide_eq_true rfl]
      refine iteF ?_
      have hful := hful.kq hb3 nl3 sn3.kb
      have hsix := hsix.kq hb3 nl3 sn3.kb
      have th_thi := Gm.Thing.kq th_thi ne_thi sn3.kb
      have bd := bd.kq hb1 (NewL.of wS) sn.kb
      obtain ⟨df, bf, rf, ef, _⟩ := id hful
      obtain ⟨ds, bs, rs_, es, _⟩ := id hsix
      refine ⟨_, rfl, ful, df, _, rfl, ef, ful, _, _, _, rfl, hful, _, rfl, by omega, by omega, ?_⟩
      refine ⟨_, rfl, six, ds, _, rfl, es, six, _, _, _, rfl, hsix, _, rfl, by decide, by decide, ?_⟩
      rw [l20]
      refine ⟨by rw [sizeLine_eq]; show 2 ≤ 16777216; decide, fun M1 z1 => ?_⟩
      refine ⟨by rw [sizeLine_eq]; show 2 ≤ 16777216; decide, fun M2 z2 => ?_⟩
      have sxx : Same _ _ := fun b o z => same_upd (o := HO.lst [.int 20, .int 6]) z2 b o (same_upd (o := HO.lst [.int 20, .int 6]) z1 b o z)
      refine ⟨.list [.int 20, .int 6], .list [.int 20, .int 6], .lst (SqL.of (same_upd (o := HO.lst [.int 20, .int 6]) z2 _ _ upd_same)) (.cons (.int _) (.cons (.int _) .nil)), .lst (SqL.of upd_same) (.cons (.int _) (.cons (.int _) .nil)), by decide +kernel, by decide +kernel, _, rfl, ?_⟩
      rw [show PyData.eqv (.list [.int 20, .int 6]) (.list [.int 20, .int 6]) = true from by decide +kernel]
      refine iteF ?_
      have sn := sn.same sxx
      exact ⟨⟨_, _, _, rfl⟩, ⟨Kp.ofKq wS sn.kb, sn.bowl, sn.tabs⟩, hsix.same sxx, bd.same sxx, d_thi, y_thi, th_thi.same sxx, sh_thi, pr_thi⟩
    rintro σ' G ⟨⟨v1, v2, v3, rfl⟩, stG, hsix, bd, d_thi, y_thi, th_thi, sh_thi, pr_thi⟩
    have kall := kall.trans stG.kb
    have st := stG.base
    have hbG : BowlAt G p := st.bowl
    clear sn sn3 e_r27 e_r28 e_r29 e_D1 e_r30 e_r31 e_r32 e_D2 e_D
    obtain ⟨c0, c1, c2, hpc⟩ := st.bowl
    have hpG := hpc
    refine ⟨_, rfl, ?_⟩
    have sm : Same G G := Same.refl G
    refine ⟨_, rfl, by rw [sizeLine_eq]; show 0 ≤ 16777216; decide, fun v33 z_v33 => ?_⟩
    have p_v33 : v33 ≠ p := (ne_of_none hpc z_v33).symm
    have sx := same_upd (o := HO.tup []) z_v33
    have st := st.same sx
    have sm := fun b o z => sx b o (sm b o z)
    have hpc := sx _ _ hpc
    have e_v33 := new_at (o := HO.tup []) z_v33
    refine ⟨_, _, rfl, rfl, ⟨by decide, by decide, by decide⟩, by rw [sizeLine_eq]; show 7 ≤ 16777216; decide, fun L34 z_L34 => ?_⟩
    have p_L34 : L34 ≠ p := (ne_of_none hpc z_L34).symm
    have sx := same_upd (o := HO.lst [.non, .int (-1), .int (6), .bl true, .str "0", .ref v33, .int (10 ^ 19)]) z_L34
    have st := st.same sx
    have e_v33 := sx _ _ e_v33
    have sm := fun b o z => sx b o (sm b o z)
    have hpc := sx _ _ hpc
    have e_L34 := new_at (o := HO.lst [.non, .int (-1), .int (6), .bl true, .str "0", .ref v33, .int (10 ^ 19)]) z_L34
    have al := itd_heap (xs := ([V.non, V.int (-1), V.int (6), V.bl true, V.str "0", V.ref v33, V.int (10 ^ 19)] : List V)) (P := (fun _ => True)) (C := (fun v => ∀ i, v = .int i → ¬ (0 ≤ i ∧ i ≤ 5))) hpc (List.forall_mem_cons.mpr ⟨itd_non (trivial) (fun i z => by cases z), (List.forall_mem_cons.mpr ⟨itd_int _ (by decide +kernel) (by decide +kernel) (trivial) (fun i z => by cases z; decide), (List.forall_mem_cons.mpr ⟨itd_int _ (by decide +kernel) (by decide +kernel) (trivial) (fun i z => by cases z; decide), (List.forall_mem_cons.mpr ⟨itd_bl _ (trivial) (fun i z => by cases z), (List.forall_mem_cons.mpr ⟨itd_str _ (by decide +kernel) (trivial) (fun i z => by cases z), (List.forall_mem_cons.mpr ⟨itd_tup p_v33 e_v33 (.nil) (ShAll.nil) (by decide) (trivial) (fun i z => by cases z), (List.forall_mem_cons.mpr ⟨itd_int _ (by decide +kernel) (by decide +kernel) (trivial) (fun i z => by cases z; decide), (fun _ h => by cases h)⟩)⟩)⟩)⟩)⟩)⟩)⟩)
    refine ⟨p, L34, _, rfl, ⟨_, _, _, hpc⟩, p_L34, e_L34, by show 0 < 7; decide, by show 7 ≤ 1000; decide, fun B4 spo R h_spo => ?_⟩
    have it_spo := (al spo h_spo).keep (.but R.1)
    clear al h_spo
    have st := st.stir R
    obtain ⟨c0, c1, c2, hpc⟩ := R.2
    have k4 : Kp p G B4 := (Kp.of sm).trans (.but R.1)
    have hsix := hsix.kq (S := p) hbG (NewL.at_ hpG) (.kp k4)
    have bd := bd.kq (S := p) hbG (NewL.at_ hpG) (.kp k4)
    have th_thi := th_thi.keep k4
    have kall := kall.trans k4
    have st := st.base
    have hb4 : BowlAt B4 p := st.bowl
    obtain ⟨d_spo, y_spo, th_spo, sh_spo, _, ne_spo⟩ := it_spo
    refine ⟨st.tabs, fun H3 x3 t3 => ?_⟩
    have hh := hsix.kq (S := p) hb4 (NewL.at_ hpc) (.kp (.ext x3))
    obtain ⟨dh, bh, rh, eh, _⟩ := id hh
    refine ⟨_, rfl, six, dh, _, rfl, eh, hf_none _ _ (by decide +kernel) (by decide +kernel), _, rfl, six, [97, 98], 2, _, _, rfl, hh, (thing_notIn9 (th_spo.keep (.ext x3)) ne_spo), comes_got (c := ⟨CPl, "InvalidPlace", "value"⟩) (.tail _ (.head _)) x3 t3 fun H4 q11 x4 t4 w4 e4 => ?_⟩
    refine ⟨by rw [sizeLine_eq]; show 1 ≤ 16777216; decide, fun S zS => ?_⟩
    obtain ⟨sn, wS⟩ := st.start x4 t4 w4 e4 zS
    refine ⟨_, rfl, .inl ⟨rfl, _, SqL.of sn.at_⟩, sn.tabs, fun H3 x3 t3 => ?_⟩
    have kq := sn.kb.trans (.kp (.ext x3))
    refine ⟨_, rfl, ?_⟩
    refine hist_made (rows := []) (bd.kq hb4 (NewL.of wS) kq) .nil ⟨fun r m => (by cases m), Nat.zero_le _⟩ fun H5 h0 s5 n5 hh => ?_
    obtain ⟨dh, bh, rh, eh, _⟩ := id hh
    refine ⟨h0, dh, _, rfl, eh, hf_none _ _ (by decide +kernel) (by decide +kernel), h0, [97, 98], 2, _, _, rfl, hh, .inl ⟨0, rfl, by decide⟩, comes_got (c := ⟨CPl, "InvalidPlace", "value"⟩) (.tail _ (.head _)) (x3.trans (ExtN.of s5)) (t3.ext s5) fun H4 q12 x4 t4 w4 e4 => ?_⟩
    obtain ⟨eS, sn⟩ := sn.got x4 t4 w4 e4
    refine ⟨S, _, _, rfl, rfl, eS, by rw [sizeLine_eq]; show 1 < 16777216; decide, ?_⟩
    refine ⟨_, rfl, .inl ⟨rfl, _, SqL.of sn.at_⟩, sn.tabs, fun H3 x3 t3 => ?_⟩
    have kq := sn.kb.trans (.kp (.ext x3))
    have hh := hsix.kq hb4 (NewL.of wS) kq
    obtain ⟨dh, bh, rh, eh, _⟩ := id hh
    refine ⟨_, rfl, six, dh, _, rfl, eh, hf_none _ _ (by decide +kernel) (by decide +kernel), _, rfl, six, [97, 98], 2, _, _, rfl, hh, (by have h := thing_word (K := K) (ch := [97, 98]) (n := 2) (Gm.Thing.kq th_thi (Gm.Thing.new th_thi wS) kq) pr_thi.1; rw [pr_thi.2] at h; exact h), comes_got (c := ⟨CWd, "InvalidWord", "value"⟩) (.tail _ (.tail _ (.tail _ (.head _)))) x3 t3 fun H4 q13 x4 t4 w4 e4 => ?_⟩
    obtain ⟨eS, sn⟩ := sn.got x4 t4 w4 e4
    refine ⟨S, _, _, rfl, rfl, eS, by rw [sizeLine_eq]; show 2 < 16777216; decide, ?_⟩
    obtain ⟨c0, c1, c2, hpc⟩ := sn.bowl
    refine ⟨_, rfl, by rw [sizeLine_eq]; show 3 ≤ 16777216; decide, fun r35 z_r35 => ?_⟩
    have p_r35 : r35 ≠ p := (ne_of_none hpc z_r35).symm
    have s_r35 : r35 ≠ S := (ne_of_none sn.at_ z_r35).symm
    have sx := same_upd (o := HO.lst [.str "InvalidPlace", spo, .bl true]) z_r35
    have sn := sn.same sx
    have hpc := sx _ _ hpc
    have e_r35 := new_at (o := HO.lst [.str "InvalidPlace", spo, .bl true]) z_r35
    refine ⟨by rw [sizeLine_eq]; show 3 ≤ 16777216; decide, fun r36 z_r36 => ?_⟩
    have p_r36 : r36 ≠ p := (ne_of_none hpc z_r36).symm
    have s_r36 : r36 ≠ S := (ne_of_none sn.at_ z_r36).symm
    have sx := same_upd (o := HO.lst [.str "InvalidPlace", .int (0), .bl true]) z_r36
    have sn := sn.same sx
    have e_r35 := sx _ _ e_r35
    have hpc := sx _ _ hpc
    have e_r36 := new_at (o := HO.lst [.str "InvalidPlace", .int (0), .bl true]) z_r36
    refine ⟨_, rfl, by rw [sizeLine_eq]; show 3 ≤ 16777216; decide, fun r37 z_r37 => ?_⟩
    have p_r37 : r37 ≠ p := (ne_of_none hpc z_r37).symm
    have s_r37 : r37 ≠ S := (ne_of_none sn.at_ z_r37).symm
    have sx := same_upd (o := HO.lst [.str "InvalidWord", thi, .bl true]) z_r37
    have sn := sn.same sx
    have e_r35 := sx _ _ e_r35
    have e_r36 := sx _ _ e_r36
    have hpc := sx _ _ hpc
    have e_r37 := new_at (o := HO.lst [.str "InvalidWord", thi, .bl true]) z_r37
    refine ⟨by rw [sizeLine_eq]; show 3 ≤ 16777216; decide, fun D z_D => ?_⟩
    have p_D : D ≠ p := (ne_of_none hpc z_D).symm
    have s_D : D ≠ S := (ne_of_none sn.at_ z_D).symm
    have sx := same_upd (o := HO.lst [.ref r35, .ref r36, .ref r37]) z_D
    have sn := sn.same sx
    have e_r35 := sx _ _ e_r35
    have e_r36 := sx _ _ e_r36
    have e_r37 := sx _ _ e_r37
    have hpc := sx _ _ hpc
    have e_D := new_at (o := HO.lst [.ref r35, .ref r36, .ref r37]) z_D
    have row1 : ∀ {r : Addr} {Hx : Hp} {nm : Str} {v : V} {d : PyData}, Hx r = some (.lst [.str nm, v, .bl true]) → Dq K Hx v d → Dq K Hx (.ref r) (.list [.str nm, d, .bool true]) := fun h k => .lst (SqL.of h) (.cons (.str _) (.cons k (.cons (.bl true) .nil)))
    have q_thi := (Gm.Thing.kq th_thi (Gm.Thing.new th_thi wS) sn.kb).dq (K := K)
    have q_spo := (Gm.Thing.kq th_spo (Gm.Thing.new th_spo wS) sn.kb).dq (K := K)
    have sh : Sh (.list [.list [.str "InvalidPlace", d_spo, .bool true], .list [.str "InvalidPlace", .int 0, .bool true], .list [.str "InvalidWord", d_thi, .bool true]]) 16777216 60 := (Sh.lst (.cons ((Sh.lst (.cons (.str _ (by decide +kernel : _ ≤ 20)) (.cons sh_spo (.cons (Sh.bl true) .nil)))).le (n' := 400) (m' := 3) (by decide) (by decide)) (.cons ((Sh.lst (.cons (.str _ (by decide +kernel : _ ≤ 20)) (.cons (show Sh _ 20 2 from Sh.int _ (by decide +kernel) (by decide +kernel)) (.cons (Sh.bl true) .nil)))).le (n' := 400) (m' := 3) (by decide) (by decide)) (.cons ((Sh.lst (.cons (.str _ (by decide +kernel : _ ≤ 20)) (.cons sh_thi (.cons (Sh.bl true) .nil)))).le (n' := 400) (m' := 3) (by decide) (by decide)) .nil)))).le (by decide) (by decide)
    refine ⟨_, rfl, S, _, rfl, .lst (SqL.of sn.at_) (.cons (row1 (show _ from (sn.rows (q11, "InvalidPlace", spo) (by simp)).1) q_spo) (.cons (row1 (show _ from (sn.rows (q12, "InvalidPlace", V.int 0) (by simp)).1) (.int _)) (.cons (row1 (show _ from (sn.rows (q13, "InvalidWord", thi) (by simp)).1) q_thi) .nil))), sh, ?_⟩
    refine ⟨_, rfl, D, _, rfl, .lst (SqL.of e_D) (.cons (row1 e_r35 q_spo) (.cons (row1 e_r36 (.int _)) (.cons (row1 e_r37 q_thi) .nil))), sh, ?_⟩
    refine ⟨rfl, ?_⟩
    rw [decide_eq_true rfl]
    exact q _ (kall.trans (Kp.ofKq wS sn.kb)) sn.tabs sn.bowl
end
end Gm

-- NOREN
namespace Gm
open PySem PySem.Spec PyProof.Rows L2 LamX
abbrev sLaw : Stmt := top 43
def spLaw (K : PySem.W.Frag) : Sp := fun vs H Q _ => ∃ (a : Addr) (ns : List Int), vs = [.ref a] ∧ SqL K H a (ns.map V.int) ∧ ns.length ≤ 63 ∧ ∀ H', Q (.bl true) H'
def spLawT (K : PySem.W.Frag) (c Pt : Addr) : Sp := fun vs H Q E => (∀ p ∈ [(c, Pt)], H p.2 = some (.tbl #[])) ∧ spLaw K vs H Q E
structure TxL (mg : Str → Option Value) : Prop where
  all : mg "all" = none
  range : mg "range" = none
  max : mg "max" = none
  min : mg "min" = none
  len : mg "len" = none
theorem SqL.extN {K : PySem.W.Frag} {H H' : Hp} {a : Addr} {xs : List V} (h : SqL K H a xs) (e : ExtN H H') : SqL K H' a xs := by
  rcases h with (h | ⟨o, h⟩) | h
  · exact .inl (.inl (e _ _ h fun _ z => by cases z))
  · exact .inl (.inr ⟨o, e _ _ h fun _ z => by cases z⟩)
  · exact .inr h
section
variable {P : Program} {w : World} {K : PySem.W.Frag} {mg : Str → Option Value} {base : Heap}
abbrev nL : List Str := ["_law_script", "_law_k"]
theorem scL : FnScope nL ["_law_script"] (defScope sLaw) := ⟨rfl, rfl, rfl, by decide +kernel, rfl, by decide +kernel, by decide +kernel⟩
theorem ok_law {f fB fR c Pt : Addr} {fd fdB fdR : FuncData} (F : Fun K "law" "law" sLaw f fd) (T : TxL mg)
    (GB : FnOk P w K mg base L2.CX0 1 fB fdB ["_law_script", "_law_k"] (spBowl K)) (DB : Df K mg "_law_bowl" fB fdB ["_law_script", "_law_k"])
    (GR : FnG P w K mg base L2.CX0 10 fR fdR ["_law_bowl_here"] (spRight Pt)) (DR : Df K mg "_law_right" fR fdR ["_law_bowl_here"]) : FnG P w K mg base L2.CX0 11 f fd ["_law_script"] (spLawT K c Pt) := by
  refine F.okG scL (fun vs H Q E h => ?_) (fun cdv A outer s H vs Q E g hr h => ?_)
  · obtain ⟨_, a, ns, rfl, _⟩ := h
    rfl
  · obtain ⟨hT, a, ns, rfl, hS, hlen, q⟩ := h
    have nd := scL.nd
    have hr1 : Room 1 _ := hr.mono (by decide)
    refine ⟨_, pss_one (ps_ret (pe_callB (cr_all rfl) (by rfl) T.all (by decide +kernel) (pa_cons
      (pe_lc (own := [("_law_k", 1)]) (g := gName 1) (by rfl) nd
        (pi_range1 (by rfl) T.range (pa_cons (pe_callB (call_max2 rfl) (by rfl) T.max (by decide +kernel) (pa_cons pe_int (pa_cons (pe_callB (call_min2 rfl) (by rfl) T.min (by decide +kernel)
          (pa_cons (pe_callB call_len_seq (by rfl) T.len PySem.boot_len (pa_cons (pv 0) pa_nil)) (pa_cons pe_int pa_nil))) pa_nil))) pa_nil))
        (blkOk_by (own := [("_law_k", 1)]) (N := nL) (sc := defScope sLaw) (by decide +kernel))
        (fun _ _ _ _ _ => pg_name (i := 1) nd rfl (Or.inl rfl)) (fun _ _ _ _ _ => pts_nil)
        (fun _ _ _ _ _ => pe_callG GR g hr (by rfl) DR.mg DR.kp DR.b L2.pass0 (pa_cons (pe_call GB hr1 (by rfl) DB.mg DB.kp DB.b .nil L2.pass0 (pa_cons (pv 0) (pa_cons (pv 1) pa_nil))) pa_nil))) pa_nil))), ?_⟩
    have hline : sizeLine = 16777216 := sizeLine_eq
    refine ⟨_, rfl, a, _, rfl, .inl hS, _, _, rfl, _, _, rfl, ?_⟩
    refine ⟨_, rfl, ?_, ?_, fun D hD => ?_⟩
    · rw [List.length_map]
      split <;> (try split) <;> omega
    · rw [List.length_map]
      split <;> (try split) <;> omega
    have hn : ∀ L : Int, (if (if (6 : Int) < L then (6 : Int) else L) > 2 then (if (6 : Int) < L then (6 : Int) else L) else 2).toNat ≤ 6 := fun L => by
      split <;> (try split) <;> omega
    have tab0 : Tabs (tabR Pt) H := fun z hz => by
      rw [List.mem_singleton.mp hz]
      exact TabS.nil (hT _ (List.mem_singleton.mpr rfl))
    refine lc_range (lo := 0) (fun i H' => ExtN H H' ∧ Tabs (tabR Pt) H' ∧ H' D = some (.lst ((List.replicate i true).map V.bl))) ⟨ExtN.of (same_upd hD), tab0.ext (same_upd hD), upd_same⟩ ?_ ?_
    · rintro i H1 hi ⟨sm, tb, hDi⟩
      have hi6 : i < 6 := Nat.lt_of_lt_of_le hi (hn _)
      refine ⟨rfl, ⟨_, rfl, _, rfl, a, ns, _, rfl, SqL.extN hS sm, hlen, by omega, fun H2 p s2 np B => ⟨p, rfl, B, tb.ext s2, fun H3 k3 t3 B3 => ?_⟩⟩⟩
      have keep : ExtN H1 H3 := fun b o e t => k3 b o (ne_of_none e np) t (s2 b o e)
      have hD3 := keep _ _ hDi fun _ z => by cases z
      refine ⟨_, hD3, ?_, fun b u e t => ?_, ?_, ?_⟩
      · rw [List.length_map, List.length_replicate]
        omega
      · rw [upd_ne (ne_of_none e hD)]
        exact keep b u (sm b u e t) t
      · exact tabs_put t3 hD3
      · rw [upd_same, List.replicate_succ', List.map_append]
        rfl
    · rintro H1 ⟨sm, tb, hD1⟩
      refine ⟨D, _, rfl, SqL.of hD1, ?_⟩
      rw [List.all_replicate]
      simp only [id, if_true, ite_self]
      exact q _
end
end Gm

-- NOREN
namespace Gm
open PySem PySem.Spec PyProof.Rows L2 LamX
abbrev sEMk : Stmt := inClass (top 6) 0
abbrev sEPl : Stmt := inClass (top 8) 0
abbrev sERw : Stmt := inClass (top 9) 0
abbrev sEWd : Stmt := inClass (top 5) 0
abbrev sENb : Stmt := inClass (top 2) 0
abbrev sETm : Stmt := inClass (top 11) 0
theorem kit_ref {K : PySem.W.Frag} {t : Value} {C : Addr} (h2 : PySem.W.isClsIn K C = true) (h3 : PySem.W.typeIn K (.ref C) = some (.type "type")) (h4 : PySem.W.subIn K t (.ref C) = some true) : PySem.W.kitOne K t (.ref C) = some true := by
  unfold PySem.W.kitOne
  split
  · rfl
  · have e2 : ((PySem.W.clsIn K C).isSome && PySem.W.typeIn K (.ref C) == some (.type "type")) = true := by
      have h2' : (PySem.W.clsIn K C).isSome = true := h2
      rw [h2', h3] <;> rfl
    exact (if_pos e2).trans h4
theorem kit_type {K : PySem.W.Frag} {t : Value} {T : String} (h1 : PySem.W.kitMeta T = true) (h4 : PySem.W.subIn K t (.type T) = some true) : PySem.W.kitOne K t (.type T) = some true := by
  unfold PySem.W.kitOne
  split
  · rfl
  · exact (if_pos h1).trans h4
/-- the code table of a def of the top -/
theorem tab_of {q : Program} {K : PySem.W.Frag} {h : Heap} {mg : Str → Option Value} {x : Str} {f c P : Addr} {oc kV doc pm ct ok : Value} {o2 an dk : Option Addr} {sl sk : Array (Option Value)} {vs : Array Value} {qn : Str} {ar : Arguments} {bd : List Stmt} {sc : Scope} (X : K.In h) (hm : mg x = some (.ref f))
    (lk : K.lookup f = some ⟨oc, o2, .func (PySem.W.fnOf x qn ar bd sc .none kV doc pm an (.ref c) ct), sl⟩) (lc : K.lookup c = some ⟨ok, dk, .fields vs, sk⟩) (hP : vs[11]? = some (.ref P))
    (tab : ∀ d ∈ recsOf q, ∃ a o fd c P, mg d.name = some (.ref a) ∧ h.get? a = some o ∧ o.data = .func fd ∧ fd.code = .ref c ∧ h.IsCode c P #[] ∧ h.TableAt c P #[]) (hr : ∃ d ∈ recsOf q, d.name = x) :
    h.get? P = some { cls := .none, data := .fields #[] } ∧ PySem.W.CodeHd h c P := by
  obtain ⟨d, hd, e⟩ := hr
  obtain ⟨a, o, fd, c', P', m, ho, hof, hc, ic, ta⟩ := tab d hd
  rw [e, hm] at m
  cases m
  have h1 := X _ _ lk
  rw [ho] at h1
  cases h1
  cases hof
  have ec : c = c' := Value.ref.inj hc
  subst ec
  obtain ⟨⟨o', vs', g1, _, g3, g4⟩, g5⟩ := id ta
  have h2 := X _ _ lc
  rw [g1] at h2
  cases h2
  cases g3
  rw [hP] at g4
  cases g4
  exact ⟨g5, .of ic ta⟩
/-- an error class one step below a class over the built-in error B -/
theorem oexB_one {K : PySem.W.Frag} {C S N : Addr} {nm q : Str} {bs sub bmB : List Value} {sn : List Str} {ab : Bool} {col : Option Bool} {dd : Option Addr} {k0 k1 k2 k3 k5 : Option Value} {B n1 n2 : String}
    (x : K.lookup C = some (excClassObj nm q C N bs (.ref S :: bmB) true sn sub ab col dd k0 k1 k2 k3 k5 n1)) (F : ExcBaseFacts B n1 n2 bmB) (pass : ∀ self : Value, refuseLoop self "__setattr__" bmB = pure ()) (ob : bmB.contains (.type "object") = true)
    (sa : PySem.W.findIn K (.ref C) "__setattr__" = some (some (.builtin "object.__setattr__"))) (eb : PySem.W.subIn K (.ref C) (.type "BaseException") = some true) (ty : PySem.W.typeIn K (.ref C) = some (.type "type")) (kp : PySem.W.keepIn K (.ref C) = true) : OexB K C :=
  ⟨⟨nm, q, N, bs, .ref S :: bmB, sub, bmB, sn, ab, col, dd, k0, k1, k2, k3, k5, B, n1, n2, x, F, fun Y => by rw [List.contains_cons]; rfl, fun self => (PySem.refuseLoop_ref _ _ _ _).trans (pass self), ob⟩, sa, eb, ty, kp⟩
end Gm

namespace Gm
open PySem PySem.Spec PyProof.Rows L2 LamX
theorem all_mk {P : Program} {w : World} {q : Program} {K : PySem.W.Frag} {h : Heap} {mg : Str → Option Value} {fa CB CH CIn CSi CMk CPl CRw CWd CNb CTm fB fD fOf fGt fFu fMa fR fL fW fA fCn fOv fIw fAm fIr fCw fCm fCb fCr fI fHi fTh fWt fFi fLn fIMk fIPl fIRw fIWd fINb fITm adR ptR : Addr} (X : K.In h) (G : h.Ns mainGlobals mg) (hfa : mg "law" = some (.ref fa))
    {odB anB odD anD odOf anOf odGt anGt odFu anFu odMa anMa odR anR odL anL odW anW odA anA odCn anCn odOv anOv odIw anIw odAm anAm odIr anIr odCw anCw odCm anCm odCb anCb odCr anCr odI anI odHi anHi odTh anTh odWt anWt odFi anFi odLn anLn odIMk anIMk odIPl anIPl odIRw anIRw odIWd anIWd odINb anINb odITm anITm dkR : Option Addr} {slB slD slOf slGt slFu slMa slR slL slW slA slCn slOv slIw slAm slIr slCw slCm slCb slCr slI slHi slTh slWt slFi slLn slIMk slIPl slIRw slIWd slINb slITm skR : Array (Option Value)} {ocB kVB dcB pmB cdB ctB ocD kVD dcD pmD cdD ctD ocOf kVOf dcOf pmOf cdOf ctOf ocGt kVGt dcGt pmGt cdGt ctGt ocFu kVFu dcFu pmFu cdFu ctFu ocMa kVMa dcMa pmMa cdMa ctMa ocR kVR dcR pmR ctR ocL kVL dcL pmL cdL ctL ocW kVW dcW pmW cdW ctW ocA kVA dcA pmA cdA ctA ocCn kVCn dcCn pmCn cdCn ctCn ocOv kVOv dcOv pmOv cdOv ctOv ocIw kVIw dcIw pmIw cdIw ctIw ocAm kVAm dcAm pmAm cdAm ctAm ocIr kVIr dcIr pmIr cdIr ctIr ocCw kVCw dcCw pmCw cdCw ctCw ocCm kVCm dcCm pmCm cdCm ctCm ocCb kVCb dcCb pmCb cdCb ctCb ocCr kVCr dcCr pmCr cdCr ctCr ocI kVI dcI pmI cdI ctI ocHi kVHi dcHi pmHi cdHi ctHi ocTh kVTh dcTh pmTh cdTh ctTh ocWt kVWt dcWt pmWt cdWt ctWt ocFi kVFi dcFi pmFi cdFi ctFi ocLn kVLn dcLn pmLn cdLn ctLn ocIMk kVIMk dcIMk pmIMk cdIMk ctIMk ocIPl kVIPl dcIPl pmIPl cdIPl ctIPl ocIRw kVIRw dcIRw pmIRw cdIRw ctIRw ocIWd kVIWd dcIWd pmIWd cdIWd ctIWd ocINb kVINb dcINb pmINb cdINb ctINb ocITm kVITm dcITm pmITm cdITm ctITm okR : Value}
    {vsR : Array Value}
    {tkML tkMM tkMR tkLO tkMA : Tok}
    {nmMk qnMk : Str} {NSMk : Addr} {bsMk sbMk : List Value} {snMk : List Str} {abMk : Bool} {clMk : Option Bool} {ddMk : Option Addr} {m0Mk m1Mk m2Mk m3Mk m5Mk : Option Value}
    {nmPl qnPl : Str} {NSPl : Addr} {bsPl sbPl : List Value} {snPl : List Str} {abPl : Bool} {clPl : Option Bool} {ddPl : Option Addr} {m0Pl m1Pl m2Pl m3Pl m5Pl : Option Value}
    {nmRw qnRw : Str} {NSRw : Addr} {bsRw sbRw : List Value} {snRw : List Str} {abRw : Bool} {clRw : Option Bool} {ddRw : Option Addr} {m0Rw m1Rw m2Rw m3Rw m5Rw : Option Value}
    {nmWd qnWd : Str} {NSWd : Addr} {bsWd sbWd : List Value} {snWd : List Str} {abWd : Bool} {clWd : Option Bool} {ddWd : Option Addr} {m0Wd m1Wd m2Wd m3Wd m5Wd : Option Value}
    {nmNb qnNb : Str} {NSNb : Addr} {bsNb sbNb : List Value} {snNb : List Str} {abNb : Bool} {clNb : Option Bool} {ddNb : Option Addr} {m0Nb m1Nb m2Nb m3Nb m5Nb : Option Value}
    {nmTm qnTm : Str} {NSTm : Addr} {bsTm sbTm : List Value} {snTm : List Str} {abTm : Bool} {clTm : Option Bool} {ddTm : Option Addr} {m0Tm m1Tm m2Tm m3Tm m5Tm : Option Value}
    (gCB : PySem.W.nsIn K mainGlobals "Board" = some (some (.ref CB)))
    (gCH : PySem.W.nsIn K mainGlobals "History" = some (some (.ref CH)))
    (gCIn : PySem.W.nsIn K mainGlobals "InputError" = some (some (.ref CIn)))
    (gCSi : PySem.W.nsIn K mainGlobals "SizeError" = some (some (.ref CSi)))
    (gCMk : PySem.W.nsIn K mainGlobals "InvalidMarks" = some (some (.ref CMk)))
    (gCPl : PySem.W.nsIn K mainGlobals "InvalidPlace" = some (some (.ref CPl)))
    (gCRw : PySem.W.nsIn K mainGlobals "InvalidRows" = some (some (.ref CRw)))
    (gCWd : PySem.W.nsIn K mainGlobals "InvalidWord" = some (some (.ref CWd)))
    (gCNb : PySem.W.nsIn K mainGlobals "NotABoard" = some (some (.ref CNb)))
    (gCTm : PySem.W.nsIn K mainGlobals "TooManyRows" = some (some (.ref CTm)))
    (aB : PySem.W.nsIn K mainGlobals "_law_bowl" = some (some (.ref fB)))
    (lB : K.lookup fB = some ⟨ocB, odB, .func (PySem.W.fnOf "_law_bowl" "_law_bowl" (defArgs sBowl) (defBody sBowl) (defScope sBowl) .none kVB dcB pmB anB cdB ctB), slB⟩)
    (cB : PySem.W.codeIn K cdB "_law_bowl" = true)
    (kB : PySem.W.keepIn K (.ref fB) = true)
    (aD : PySem.W.nsIn K mainGlobals "_law_dip" = some (some (.ref fD)))
    (lD : K.lookup fD = some ⟨ocD, odD, .func (PySem.W.fnOf "_law_dip" "_law_dip" (defArgs sDip) (defBody sDip) (defScope sDip) .none kVD dcD pmD anD cdD ctD), slD⟩)
    (cD : PySem.W.codeIn K cdD "_law_dip" = true)
    (kD : PySem.W.keepIn K (.ref fD) = true)
    (aOf : PySem.W.nsIn K mainGlobals "_law_of" = some (some (.ref fOf)))
    (lOf : K.lookup fOf = some ⟨ocOf, odOf, .func (PySem.W.fnOf "_law_of" "_law_of" (defArgs sOf) (defBody sOf) (defScope sOf) .none kVOf dcOf pmOf anOf cdOf ctOf), slOf⟩)
    (cOf : PySem.W.codeIn K cdOf "_law_of" = true)
    (kOf : PySem.W.keepIn K (.ref fOf) = true)
    (aGt : PySem.W.nsIn K mainGlobals "_law_got" = some (some (.ref fGt)))
    (lGt : K.lookup fGt = some ⟨ocGt, odGt, .func (PySem.W.fnOf "_law_got" "_law_got" (defArgs sGot) (defBody sGot) (defScope sGot) .none kVGt dcGt pmGt anGt cdGt ctGt), slGt⟩)
    (cGt : PySem.W.codeIn K cdGt "_law_got" = true)
    (kGt : PySem.W.keepIn K (.ref fGt) = true)
    (aFu : PySem.W.nsIn K mainGlobals "_law_full" = some (some (.ref fFu)))
    (lFu : K.lookup fFu = some ⟨ocFu, odFu, .func (PySem.W.fnOf "_law_full" "_law_full" (defArgs sFull) (defBody sFull) (defScope sFull) .none kVFu dcFu pmFu anFu cdFu ctFu), slFu⟩)
    (cFu : PySem.W.codeIn K cdFu "_law_full" = true)
    (kFu : PySem.W.keepIn K (.ref fFu) = true)
    (aMa : PySem.W.nsIn K mainGlobals "_law_many" = some (some (.ref fMa)))
    (lMa : K.lookup fMa = some ⟨ocMa, odMa, .func (PySem.W.fnOf "_law_many" "_law_many" (defArgs sMany) (defBody sMany) (defScope sMany) .none kVMa dcMa pmMa anMa cdMa ctMa), slMa⟩)
    (cMa : PySem.W.codeIn K cdMa "_law_many" = true)
    (kMa : PySem.W.keepIn K (.ref fMa) = true)
    (aR : PySem.W.nsIn K mainGlobals "_law_right" = some (some (.ref fR)))
    (lR : K.lookup fR = some ⟨ocR, odR, .func (PySem.W.fnOf "_law_right" "_law_right" (defArgs sRight) (defBody sRight) (defScope sRight) .none kVR dcR pmR anR (.ref adR) ctR), slR⟩)
    (cR : PySem.W.codeIn K (.ref adR) "_law_right" = true)
    (kR : PySem.W.keepIn K (.ref fR) = true)
    (aL : PySem.W.nsIn K mainGlobals "law" = some (some (.ref fL)))
    (lL : K.lookup fL = some ⟨ocL, odL, .func (PySem.W.fnOf "law" "law" (defArgs sLaw) (defBody sLaw) (defScope sLaw) .none kVL dcL pmL anL cdL ctL), slL⟩)
    (cL : PySem.W.codeIn K cdL "law" = true)
    (kL : PySem.W.keepIn K (.ref fL) = true)
    (aW : PySem.W.nsIn K mainGlobals "is_integer_within" = some (some (.ref fW)))
    (lW : K.lookup fW = some ⟨ocW, odW, .func (PySem.W.fnOf "is_integer_within" "is_integer_within" (defArgs sWithin) (defBody sWithin) (defScope sWithin) .none kVW dcW pmW anW cdW ctW), slW⟩)
    (cW : PySem.W.codeIn K cdW "is_integer_within" = true)
    (kW : PySem.W.keepIn K (.ref fW) = true)
    (aA : PySem.W.nsIn K mainGlobals "is_alphabet" = some (some (.ref fA)))
    (lA : K.lookup fA = some ⟨ocA, odA, .func (PySem.W.fnOf "is_alphabet" "is_alphabet" (defArgs sAlpha) (defBody sAlpha) (defScope sAlpha) .none kVA dcA pmA anA cdA ctA), slA⟩)
    (cA : PySem.W.codeIn K cdA "is_alphabet" = true)
    (kA : PySem.W.keepIn K (.ref fA) = true)
    (aCn : PySem.W.nsIn K mainGlobals "count_words" = some (some (.ref fCn)))
    (lCn : K.lookup fCn = some ⟨ocCn, odCn, .func (PySem.W.fnOf "count_words" "count_words" (defArgs sCount) (defBody sCount) (defScope sCount) .none kVCn dcCn pmCn anCn cdCn ctCn), slCn⟩)
    (cCn : PySem.W.codeIn K cdCn "count_words" = true)
    (kCn : PySem.W.keepIn K (.ref fCn) = true)
    (aOv : PySem.W.nsIn K mainGlobals "is_text_over" = some (some (.ref fOv)))
    (lOv : K.lookup fOv = some ⟨ocOv, odOv, .func (PySem.W.fnOf "is_text_over" "is_text_over" (defArgs sOver) (defBody sOver) (defScope sOver) .none kVOv dcOv pmOv anOv cdOv ctOv), slOv⟩)
    (cOv : PySem.W.codeIn K cdOv "is_text_over" = true)
    (kOv : PySem.W.keepIn K (.ref fOv) = true)
    (aIw : PySem.W.nsIn K mainGlobals "is_word" = some (some (.ref fIw)))
    (lIw : K.lookup fIw = some ⟨ocIw, odIw, .func (PySem.W.fnOf "is_word" "is_word" (defArgs sIsW) (defBody sIsW) (defScope sIsW) .none kVIw dcIw pmIw anIw cdIw ctIw), slIw⟩)
    (cIw : PySem.W.codeIn K cdIw "is_word" = true)
    (kIw : PySem.W.keepIn K (.ref fIw) = true)
    (aAm : PySem.W.nsIn K mainGlobals "are_marks" = some (some (.ref fAm)))
    (lAm : K.lookup fAm = some ⟨ocAm, odAm, .func (PySem.W.fnOf "are_marks" "are_marks" (defArgs sAreM) (defBody sAreM) (defScope sAreM) .none kVAm dcAm pmAm anAm cdAm ctAm), slAm⟩)
    (cAm : PySem.W.codeIn K cdAm "are_marks" = true)
    (kAm : PySem.W.keepIn K (.ref fAm) = true)
    (aIr : PySem.W.nsIn K mainGlobals "is_row" = some (some (.ref fIr)))
    (lIr : K.lookup fIr = some ⟨ocIr, odIr, .func (PySem.W.fnOf "is_row" "is_row" (defArgs sIsRow) (defBody sIsRow) (defScope sIsRow) .none kVIr dcIr pmIr anIr cdIr ctIr), slIr⟩)
    (cIr : PySem.W.codeIn K cdIr "is_row" = true)
    (kIr : PySem.W.keepIn K (.ref fIr) = true)
    (aCw : PySem.W.nsIn K mainGlobals "check_word" = some (some (.ref fCw)))
    (lCw : K.lookup fCw = some ⟨ocCw, odCw, .func (PySem.W.fnOf "check_word" "check_word" (defArgs sChkW) (defBody sChkW) (defScope sChkW) .none kVCw dcCw pmCw anCw cdCw ctCw), slCw⟩)
    (cCw : PySem.W.codeIn K cdCw "check_word" = true)
    (kCw : PySem.W.keepIn K (.ref fCw) = true)
    (aCm : PySem.W.nsIn K mainGlobals "check_marks" = some (some (.ref fCm)))
    (lCm : K.lookup fCm = some ⟨ocCm, odCm, .func (PySem.W.fnOf "check_marks" "check_marks" (defArgs sChkM) (defBody sChkM) (defScope sChkM) .none kVCm dcCm pmCm anCm cdCm ctCm), slCm⟩)
    (cCm : PySem.W.codeIn K cdCm "check_marks" = true)
    (kCm : PySem.W.keepIn K (.ref fCm) = true)
    (aCb : PySem.W.nsIn K mainGlobals "check_board" = some (some (.ref fCb)))
    (lCb : K.lookup fCb = some ⟨ocCb, odCb, .func (PySem.W.fnOf "check_board" "check_board" (defArgs sChkB) (defBody sChkB) (defScope sChkB) .none kVCb dcCb pmCb anCb cdCb ctCb), slCb⟩)
    (cCb : PySem.W.codeIn K cdCb "check_board" = true)
    (kCb : PySem.W.keepIn K (.ref fCb) = true)
    (aCr : PySem.W.nsIn K mainGlobals "check_rows" = some (some (.ref fCr)))
    (lCr : K.lookup fCr = some ⟨ocCr, odCr, .func (PySem.W.fnOf "check_rows" "check_rows" (defArgs sChkR) (defBody sChkR) (defScope sChkR) .none kVCr dcCr pmCr anCr cdCr ctCr), slCr⟩)
    (cCr : PySem.W.codeIn K cdCr "check_rows" = true)
    (kCr : PySem.W.keepIn K (.ref fCr) = true)
    (aI : PySem.W.findIn K (.ref CB) "__init__" = some (some (.ref fI)))
    (iI : PySem.W.isFn K (.ref fI) = true)
    (lI : K.lookup fI = some ⟨ocI, odI, .func (PySem.W.fnOf "__init__" "Board.__init__" (defArgs sInit) (defBody sInit) (defScope sInit) .none kVI dcI pmI anI cdI ctI), slI⟩)
    (cI : PySem.W.codeIn K cdI "Board.__init__" = true)
    (kI : PySem.W.keepIn K (.ref fI) = true)
    (aHi : PySem.W.findIn K (.ref CH) "__init__" = some (some (.ref fHi)))
    (iHi : PySem.W.isFn K (.ref fHi) = true)
    (lHi : K.lookup fHi = some ⟨ocHi, odHi, .func (PySem.W.fnOf "__init__" "History.__init__" (defArgs sHInit) (defBody sHInit) (defScope sHInit) .none kVHi dcHi pmHi anHi cdHi ctHi), slHi⟩)
    (cHi : PySem.W.codeIn K cdHi "History.__init__" = true)
    (kHi : PySem.W.keepIn K (.ref fHi) = true)
    (aTh : PySem.W.findIn K (.ref CH) "then" = some (some (.ref fTh)))
    (iTh : PySem.W.isFn K (.ref fTh) = true)
    (lTh : K.lookup fTh = some ⟨ocTh, odTh, .func (PySem.W.fnOf "then" "History.then" (defArgs sThen) (defBody sThen) (defScope sThen) .none kVTh dcTh pmTh anTh cdTh ctTh), slTh⟩)
    (cTh : PySem.W.codeIn K cdTh "History.then" = true)
    (kTh : PySem.W.keepIn K (.ref fTh) = true)
    (aWt : PySem.W.findIn K (.ref CH) "without" = some (some (.ref fWt)))
    (iWt : PySem.W.isFn K (.ref fWt) = true)
    (lWt : K.lookup fWt = some ⟨ocWt, odWt, .func (PySem.W.fnOf "without" "History.without" (defArgs sWo) (defBody sWo) (defScope sWo) .none kVWt dcWt pmWt anWt cdWt ctWt), slWt⟩)
    (cWt : PySem.W.codeIn K cdWt "History.without" = true)
    (kWt : PySem.W.keepIn K (.ref fWt) = true)
    (aFi : PySem.W.findIn K (.ref CH) "fits" = some (some (.ref fFi)))
    (iFi : PySem.W.isFn K (.ref fFi) = true)
    (lFi : K.lookup fFi = some ⟨ocFi, odFi, .func (PySem.W.fnOf "fits" "History.fits" (defArgs sFits) (defBody sFits) (defScope sFits) .none kVFi dcFi pmFi anFi cdFi ctFi), slFi⟩)
    (cFi : PySem.W.codeIn K cdFi "History.fits" = true)
    (kFi : PySem.W.keepIn K (.ref fFi) = true)
    (aLn : PySem.W.findIn K (.ref CH) "__len__" = some (some (.ref fLn)))
    (iLn : PySem.W.isFn K (.ref fLn) = true)
    (lLn : K.lookup fLn = some ⟨ocLn, odLn, .func (PySem.W.fnOf "__len__" "History.__len__" (defArgs sHLen) (defBody sHLen) (defScope sHLen) .none kVLn dcLn pmLn anLn cdLn ctLn), slLn⟩)
    (cLn : PySem.W.codeIn K cdLn "History.__len__" = true)
    (kLn : PySem.W.keepIn K (.ref fLn) = true)
    (aIMk : PySem.W.findIn K (.ref CMk) "__init__" = some (some (.ref fIMk)))
    (iIMk : PySem.W.isFn K (.ref fIMk) = true)
    (lIMk : K.lookup fIMk = some ⟨ocIMk, odIMk, .func (PySem.W.fnOf "__init__" "InvalidMarks.__init__" (defArgs sEMk) (defBody sEMk) (defScope sEMk) .none kVIMk dcIMk pmIMk anIMk cdIMk ctIMk), slIMk⟩)
    (cIMk : PySem.W.codeIn K cdIMk "InvalidMarks.__init__" = true)
    (kIMk : PySem.W.keepIn K (.ref fIMk) = true)
    (aIPl : PySem.W.findIn K (.ref CPl) "__init__" = some (some (.ref fIPl)))
    (iIPl : PySem.W.isFn K (.ref fIPl) = true)
    (lIPl : K.lookup fIPl = some ⟨ocIPl, odIPl, .func (PySem.W.fnOf "__init__" "InvalidPlace.__init__" (defArgs sEPl) (defBody sEPl) (defScope sEPl) .none kVIPl dcIPl pmIPl anIPl cdIPl ctIPl), slIPl⟩)
    (cIPl : PySem.W.codeIn K cdIPl "InvalidPlace.__init__" = true)
    (kIPl : PySem.W.keepIn K (.ref fIPl) = true)
    (aIRw : PySem.W.findIn K (.ref CRw) "__init__" = some (some (.ref fIRw)))
    (iIRw : PySem.W.isFn K (.ref fIRw) = true)
    (lIRw : K.lookup fIRw = some ⟨ocIRw, odIRw, .func (PySem.W.fnOf "__init__" "InvalidRows.__init__" (defArgs sERw) (defBody sERw) (defScope sERw) .none kVIRw dcIRw pmIRw anIRw cdIRw ctIRw), slIRw⟩)
    (cIRw : PySem.W.codeIn K cdIRw "InvalidRows.__init__" = true)
    (kIRw : PySem.W.keepIn K (.ref fIRw) = true)
    (aIWd : PySem.W.findIn K (.ref CWd) "__init__" = some (some (.ref fIWd)))
    (iIWd : PySem.W.isFn K (.ref fIWd) = true)
    (lIWd : K.lookup fIWd = some ⟨ocIWd, odIWd, .func (PySem.W.fnOf "__init__" "InvalidWord.__init__" (defArgs sEWd) (defBody sEWd) (defScope sEWd) .none kVIWd dcIWd pmIWd anIWd cdIWd ctIWd), slIWd⟩)
    (cIWd : PySem.W.codeIn K cdIWd "InvalidWord.__init__" = true)
    (kIWd : PySem.W.keepIn K (.ref fIWd) = true)
    (aINb : PySem.W.findIn K (.ref CNb) "__init__" = some (some (.ref fINb)))
    (iINb : PySem.W.isFn K (.ref fINb) = true)
    (lINb : K.lookup fINb = some ⟨ocINb, odINb, .func (PySem.W.fnOf "__init__" "NotABoard.__init__" (defArgs sENb) (defBody sENb) (defScope sENb) .none kVINb dcINb pmINb anINb cdINb ctINb), slINb⟩)
    (cINb : PySem.W.codeIn K cdINb "NotABoard.__init__" = true)
    (kINb : PySem.W.keepIn K (.ref fINb) = true)
    (aITm : PySem.W.findIn K (.ref CTm) "__init__" = some (some (.ref fITm)))
    (iITm : PySem.W.isFn K (.ref fITm) = true)
    (lITm : K.lookup fITm = some ⟨ocITm, odITm, .func (PySem.W.fnOf "__init__" "TooManyRows.__init__" (defArgs sETm) (defBody sETm) (defScope sETm) .none kVITm dcITm pmITm anITm cdITm ctITm), slITm⟩)
    (cITm : PySem.W.codeIn K cdITm "TooManyRows.__init__" = true)
    (kITm : PySem.W.keepIn K (.ref fITm) = true)
    (oR : K.lookup adR = some ⟨okR, dkR, .fields vsR, skR⟩)
    (pR : vsR[11]? = some (.ref ptR))
    (nnR : K.lookup ptR = none)
    (gtc : PySem.W.specialIn K (.builtin "object.__class__") "__get__" = some (some (.builtin "getset_descriptor.__get__")))
    (tkc : PySem.W.takesIn K (.builtin "object.__class__") = some true)
    (ibIn : PySem.W.isClsIn K CIn = true)
    (tbIn : PySem.W.typeIn K (.ref CIn) = some (.type "type"))
    (ibSi : PySem.W.isClsIn K CSi = true)
    (tbSi : PySem.W.typeIn K (.ref CSi) = some (.type "type"))
    (xMk : K.lookup CMk = some (excClassObj nmMk qnMk CMk NSMk bsMk [.ref CIn, .type "ValueError", .type "Exception", .type "BaseException", .type "object"] true snMk sbMk abMk clMk ddMk m0Mk m1Mk m2Mk m3Mk m5Mk "ValueError.__new__"))
    (saMk : PySem.W.findIn K (.ref CMk) "__setattr__" = some (some (.builtin "object.__setattr__")))
    (ebMk : PySem.W.subIn K (.ref CMk) (.type "BaseException") = some true)
    (tyMk : PySem.W.typeIn K (.ref CMk) = some (.type "type"))
    (kpMk : PySem.W.keepIn K (.ref CMk) = true)
    (noMk : PySem.W.findIn K (.ref CMk) "value" = some none)
    (tiMk : PySem.W.typeIn K (.ref fIMk) = some (.type "function"))
    (gaMk : PySem.W.findIn K (.ref CMk) "__getattribute__" = some (some (.builtin "BaseException.__getattribute__")))
    (ggMk : PySem.W.findIn K (.ref CMk) "__getattr__" = some none)
    (hdMk : PySem.W.hasDictIn K CMk = true)
    (acMk : PySem.W.findIn K (.ref CMk) "__class__" = some (some (.builtin "object.__class__")))
    (obMk : PySem.W.mroIn K CMk (.type "object") = some true)
    (ssMk : PySem.W.subIn K (.ref CMk) (.ref CMk) = some true)
    (sBMk : PySem.W.subIn K (.ref CMk) (.ref CIn) = some true)
    (sPMk : PySem.W.subIn K (.ref CMk) (.type "ValueError") = some true)
    (xPl : K.lookup CPl = some (excClassObj nmPl qnPl CPl NSPl bsPl [.ref CIn, .type "ValueError", .type "Exception", .type "BaseException", .type "object"] true snPl sbPl abPl clPl ddPl m0Pl m1Pl m2Pl m3Pl m5Pl "ValueError.__new__"))
    (saPl : PySem.W.findIn K (.ref CPl) "__setattr__" = some (some (.builtin "object.__setattr__")))
    (ebPl : PySem.W.subIn K (.ref CPl) (.type "BaseException") = some true)
    (tyPl : PySem.W.typeIn K (.ref CPl) = some (.type "type"))
    (kpPl : PySem.W.keepIn K (.ref CPl) = true)
    (noPl : PySem.W.findIn K (.ref CPl) "value" = some none)
    (tiPl : PySem.W.typeIn K (.ref fIPl) = some (.type "function"))
    (gaPl : PySem.W.findIn K (.ref CPl) "__getattribute__" = some (some (.builtin "BaseException.__getattribute__")))
    (ggPl : PySem.W.findIn K (.ref CPl) "__getattr__" = some none)
    (hdPl : PySem.W.hasDictIn K CPl = true)
    (acPl : PySem.W.findIn K (.ref CPl) "__class__" = some (some (.builtin "object.__class__")))
    (obPl : PySem.W.mroIn K CPl (.type "object") = some true)
    (ssPl : PySem.W.subIn K (.ref CPl) (.ref CPl) = some true)
    (sBPl : PySem.W.subIn K (.ref CPl) (.ref CIn) = some true)
    (sPPl : PySem.W.subIn K (.ref CPl) (.type "ValueError") = some true)
    (xRw : K.lookup CRw = some (excClassObj nmRw qnRw CRw NSRw bsRw [.ref CIn, .type "ValueError", .type "Exception", .type "BaseException", .type "object"] true snRw sbRw abRw clRw ddRw m0Rw m1Rw m2Rw m3Rw m5Rw "ValueError.__new__"))
    (saRw : PySem.W.findIn K (.ref CRw) "__setattr__" = some (some (.builtin "object.__setattr__")))
    (ebRw : PySem.W.subIn K (.ref CRw) (.type "BaseException") = some true)
    (tyRw : PySem.W.typeIn K (.ref CRw) = some (.type "type"))
    (kpRw : PySem.W.keepIn K (.ref CRw) = true)
    (noRw : PySem.W.findIn K (.ref CRw) "index" = some none)
    (tiRw : PySem.W.typeIn K (.ref fIRw) = some (.type "function"))
    (gaRw : PySem.W.findIn K (.ref CRw) "__getattribute__" = some (some (.builtin "BaseException.__getattribute__")))
    (ggRw : PySem.W.findIn K (.ref CRw) "__getattr__" = some none)
    (hdRw : PySem.W.hasDictIn K CRw = true)
    (acRw : PySem.W.findIn K (.ref CRw) "__class__" = some (some (.builtin "object.__class__")))
    (obRw : PySem.W.mroIn K CRw (.type "object") = some true)
    (ssRw : PySem.W.subIn K (.ref CRw) (.ref CRw) = some true)
    (sBRw : PySem.W.subIn K (.ref CRw) (.ref CIn) = some true)
    (sPRw : PySem.W.subIn K (.ref CRw) (.type "ValueError") = some true)
    (xWd : K.lookup CWd = some (excClassObj nmWd qnWd CWd NSWd bsWd [.ref CIn, .type "ValueError", .type "Exception", .type "BaseException", .type "object"] true snWd sbWd abWd clWd ddWd m0Wd m1Wd m2Wd m3Wd m5Wd "ValueError.__new__"))
    (saWd : PySem.W.findIn K (.ref CWd) "__setattr__" = some (some (.builtin "object.__setattr__")))
    (ebWd : PySem.W.subIn K (.ref CWd) (.type "BaseException") = some true)
    (tyWd : PySem.W.typeIn K (.ref CWd) = some (.type "type"))
    (kpWd : PySem.W.keepIn K (.ref CWd) = true)
    (noWd : PySem.W.findIn K (.ref CWd) "value" = some none)
    (tiWd : PySem.W.typeIn K (.ref fIWd) = some (.type "function"))
    (gaWd : PySem.W.findIn K (.ref CWd) "__getattribute__" = some (some (.builtin "BaseException.__getattribute__")))
    (ggWd : PySem.W.findIn K (.ref CWd) "__getattr__" = some none)
    (hdWd : PySem.W.hasDictIn K CWd = true)
    (acWd : PySem.W.findIn K (.ref CWd) "__class__" = some (some (.builtin "object.__class__")))
    (obWd : PySem.W.mroIn K CWd (.type "object") = some true)
    (ssWd : PySem.W.subIn K (.ref CWd) (.ref CWd) = some true)
    (sBWd : PySem.W.subIn K (.ref CWd) (.ref CIn) = some true)
    (sPWd : PySem.W.subIn K (.ref CWd) (.type "ValueError") = some true)
    (xNb : K.lookup CNb = some (excClassObj nmNb qnNb CNb NSNb bsNb [.ref CIn, .type "ValueError", .type "Exception", .type "BaseException", .type "object"] true snNb sbNb abNb clNb ddNb m0Nb m1Nb m2Nb m3Nb m5Nb "ValueError.__new__"))
    (saNb : PySem.W.findIn K (.ref CNb) "__setattr__" = some (some (.builtin "object.__setattr__")))
    (ebNb : PySem.W.subIn K (.ref CNb) (.type "BaseException") = some true)
    (tyNb : PySem.W.typeIn K (.ref CNb) = some (.type "type"))
    (kpNb : PySem.W.keepIn K (.ref CNb) = true)
    (noNb : PySem.W.findIn K (.ref CNb) "value" = some none)
    (tiNb : PySem.W.typeIn K (.ref fINb) = some (.type "function"))
    (gaNb : PySem.W.findIn K (.ref CNb) "__getattribute__" = some (some (.builtin "BaseException.__getattribute__")))
    (ggNb : PySem.W.findIn K (.ref CNb) "__getattr__" = some none)
    (hdNb : PySem.W.hasDictIn K CNb = true)
    (acNb : PySem.W.findIn K (.ref CNb) "__class__" = some (some (.builtin "object.__class__")))
    (obNb : PySem.W.mroIn K CNb (.type "object") = some true)
    (ssNb : PySem.W.subIn K (.ref CNb) (.ref CNb) = some true)
    (sBNb : PySem.W.subIn K (.ref CNb) (.ref CIn) = some true)
    (sPNb : PySem.W.subIn K (.ref CNb) (.type "ValueError") = some true)
    (xTm : K.lookup CTm = some (excClassObj nmTm qnTm CTm NSTm bsTm [.ref CSi, .type "ArithmeticError", .type "Exception", .type "BaseException", .type "object"] true snTm sbTm abTm clTm ddTm m0Tm m1Tm m2Tm m3Tm m5Tm "ArithmeticError.__new__"))
    (saTm : PySem.W.findIn K (.ref CTm) "__setattr__" = some (some (.builtin "object.__setattr__")))
    (ebTm : PySem.W.subIn K (.ref CTm) (.type "BaseException") = some true)
    (tyTm : PySem.W.typeIn K (.ref CTm) = some (.type "type"))
    (kpTm : PySem.W.keepIn K (.ref CTm) = true)
    (noTm : PySem.W.findIn K (.ref CTm) "limit" = some none)
    (tiTm : PySem.W.typeIn K (.ref fITm) = some (.type "function"))
    (gaTm : PySem.W.findIn K (.ref CTm) "__getattribute__" = some (some (.builtin "BaseException.__getattribute__")))
    (ggTm : PySem.W.findIn K (.ref CTm) "__getattr__" = some none)
    (hdTm : PySem.W.hasDictIn K CTm = true)
    (acTm : PySem.W.findIn K (.ref CTm) "__class__" = some (some (.builtin "object.__class__")))
    (obTm : PySem.W.mroIn K CTm (.type "object") = some true)
    (ssTm : PySem.W.subIn K (.ref CTm) (.ref CTm) = some true)
    (sBTm : PySem.W.subIn K (.ref CTm) (.ref CSi) = some true)
    (sPTm : PySem.W.subIn K (.ref CTm) (.type "ArithmeticError") = some true)
    (sPl_Mk : PySem.W.subIn K (.ref CPl) (.ref CMk) = some false)
    (sRw_Mk : PySem.W.subIn K (.ref CRw) (.ref CMk) = some false)
    (sRw_Pl : PySem.W.subIn K (.ref CRw) (.ref CPl) = some false)
    (sWd_Mk : PySem.W.subIn K (.ref CWd) (.ref CMk) = some false)
    (sWd_Pl : PySem.W.subIn K (.ref CWd) (.ref CPl) = some false)
    (sWd_Rw : PySem.W.subIn K (.ref CWd) (.ref CRw) = some false)
    (sNb_Mk : PySem.W.subIn K (.ref CNb) (.ref CMk) = some false)
    (sNb_Pl : PySem.W.subIn K (.ref CNb) (.ref CPl) = some false)
    (sNb_Rw : PySem.W.subIn K (.ref CNb) (.ref CRw) = some false)
    (sNb_Wd : PySem.W.subIn K (.ref CNb) (.ref CWd) = some false)
    (sTm_Mk : PySem.W.subIn K (.ref CTm) (.ref CMk) = some false)
    (sTm_Pl : PySem.W.subIn K (.ref CTm) (.ref CPl) = some false)
    (sTm_Rw : PySem.W.subIn K (.ref CTm) (.ref CRw) = some false)
    (sTm_Wd : PySem.W.subIn K (.ref CTm) (.ref CWd) = some false)
    (sTm_Nb : PySem.W.subIn K (.ref CTm) (.ref CNb) = some false)
    (nML : PySem.W.nsIn K mainGlobals "MOST_LENGTH" = some (some (.int 6 tkML)))
    (nMM : PySem.W.nsIn K mainGlobals "MOST_LETTERS" = some (some (.int 26 tkMM)))
    (nMR : PySem.W.nsIn K mainGlobals "MOST_ROWS" = some (some (.int 20 tkMR)))
    (nLO : PySem.W.nsIn K mainGlobals "LOWERCASE" = some (some (.str lowTxt tkLO)))
    (nMA : PySem.W.nsIn K mainGlobals "MARKS" = some (some (.str (Str.ofString "012") tkMA)))
    (zlen : PySem.W.nsIn K mainGlobals "len" = some none)
    (zint : PySem.W.nsIn K mainGlobals "int" = some none)
    (zabs : PySem.W.nsIn K mainGlobals "abs" = some none)
    (zdivmod : PySem.W.nsIn K mainGlobals "divmod" = some none)
    (zisinstance : PySem.W.nsIn K mainGlobals "isinstance" = some none)
    (zbool : PySem.W.nsIn K mainGlobals "bool" = some none)
    (zstr : PySem.W.nsIn K mainGlobals "str" = some none)
    (zrange : PySem.W.nsIn K mainGlobals "range" = some none)
    (zrepr : PySem.W.nsIn K mainGlobals "repr" = some none)
    (zall : PySem.W.nsIn K mainGlobals "all" = some none)
    (zmax : PySem.W.nsIn K mainGlobals "max" = some none)
    (zmin : PySem.W.nsIn K mainGlobals "min" = some none)
    (ztuple : PySem.W.nsIn K mainGlobals "tuple" = some none)
    (zenumerate : PySem.W.nsIn K mainGlobals "enumerate" = some none)
    (zValueError : PySem.W.nsIn K mainGlobals "ValueError" = some none)
    (zArithmeticError : PySem.W.nsIn K mainGlobals "ArithmeticError" = some none)
    (pg : PySem.W.plainGet K CB Str.empty = true)
    (hd : PySem.W.hasDictIn K CB = true)
    (po : PySem.W.plainOver K CB = true)
    (sa : PySem.W.findIn K (.ref CB) "__setattr__" = some (some (.builtin "object.__setattr__")))
    (mk : PySem.W.makesIn K CB = true)
    (kc : PySem.W.keepIn K (.ref CB) = true)
    (pgH : PySem.W.plainGet K CH Str.empty = true)
    (hdH : PySem.W.hasDictIn K CH = true)
    (poH : PySem.W.plainOver K CH = true)
    (saH : PySem.W.findIn K (.ref CH) "__setattr__" = some (some (.builtin "object.__setattr__")))
    (mkH : PySem.W.makesIn K CH = true)
    (kcH : PySem.W.keepIn K (.ref CH) = true)
    (naL : PySem.W.findIn K (.ref CB) "letters" = some none)
    (naN : PySem.W.findIn K (.ref CB) "length" = some none)
    (naS : PySem.W.findIn K (.ref CB) "size" = some none)
    (nbB : PySem.W.findIn K (.ref CH) "board" = some none)
    (nbR : PySem.W.findIn K (.ref CH) "rows" = some none)
    (ac : PySem.W.findIn K (.ref CB) "__class__" = some (some (.builtin "object.__class__")))
    (ob : PySem.W.mroIn K CB (.type "object") = some true)
    (kitO : PySem.W.kitOne K (.ref CB) (.ref CB) = some true)
    (kitNoneType : PySem.W.kitOne K (.type "NoneType") (.ref CB) = some false)
    (kitbool : PySem.W.kitOne K (.type "bool") (.ref CB) = some false)
    (kitint : PySem.W.kitOne K (.type "int") (.ref CB) = some false)
    (kitstr : PySem.W.kitOne K (.type "str") (.ref CB) = some false)
    (kittuple : PySem.W.kitOne K (.type "tuple") (.ref CB) = some false)
    (kitlist : PySem.W.kitOne K (.type "list") (.ref CB) = some false)
    (kitdict : PySem.W.kitOne K (.type "dict") (.ref CB) = some false)
    (tab : ∀ d ∈ recsOf q, ∃ a o fd c P, mg d.name = some (.ref a) ∧ h.get? a = some o ∧ o.data = .func fd ∧ fd.code = .ref c ∧ h.IsCode c P #[] ∧ h.TableAt c P #[])
    (hrec : ∃ d ∈ recsOf q, d.name = "_law_right") :
    ∃ (fd : FuncData) (cs : List (Addr × Addr)), (∀ p ∈ cs, h.get? p.2 = some { cls := .none, data := .fields #[] } ∧ K.lookup p.2 = none ∧ PySem.W.CodeHd h p.1 p.2) ∧ (∀ (s : Shared) (u : Value), BindsTo s fd ⟨[u], []⟩ [("_law_script", u)]) ∧
      ∀ base : Heap, K.In base → base.Ns mainGlobals mg → (∃ mm, base.Ns sysModules mm) → (∀ p ∈ cs, TabB base mg p.1 p.2) → FnG P w K mg base L2.CX0 11 fa fd ["_law_script"] (fun vs H Q E => (∀ p ∈ cs, H p.2 = some (.tbl #[])) ∧ spLaw K vs H Q E) := by
  have e := hfa.symm.trans (PySem.W.mg_of X G aL)
  cases e
  have FB := fun_mk (st := sBowl) lB cB kB
  have FD := fun_mk (st := sDip) lD cD kD
  have FOf := fun_mk (st := sOf) lOf cOf kOf
  have FGt := fun_mk (st := sGot) lGt cGt kGt
  have FFu := fun_mk (st := sFull) lFu cFu kFu
  have FMa := fun_mk (st := sMany) lMa cMa kMa
  have FR := fun_mk (st := sRight) lR cR kR
  have FL := fun_mk (st := sLaw) lL cL kL
  have FW := fun_mk (st := sWithin) lW cW kW
  have FA := fun_mk (st := sAlpha) lA cA kA
  have FCn := fun_mk (st := sCount) lCn cCn kCn
  have FOv := fun_mk (st := sOver) lOv cOv kOv
  have FIw := fun_mk (st := sIsW) lIw cIw kIw
  have FAm := fun_mk (st := sAreM) lAm cAm kAm
  have FIr := fun_mk (st := sIsRow) lIr cIr kIr
  have FCw := fun_mk (st := sChkW) lCw cCw kCw
  have FCm := fun_mk (st := sChkM) lCm cCm kCm
  have FCb := fun_mk (st := sChkB) lCb cCb kCb
  have FCr := fun_mk (st := sChkR) lCr cCr kCr
  have FI := fun_mk (st := sInit) lI cI kI
  have FHi := fun_mk (st := sHInit) lHi cHi kHi
  have FTh := fun_mk (st := sThen) lTh cTh kTh
  have FWt := fun_mk (st := sWo) lWt cWt kWt
  have FFi := fun_mk (st := sFits) lFi cFi kFi
  have FLn := fun_mk (st := sHLen) lLn cLn kLn
  have FIMk := fun_mk (st := sEMk) lIMk cIMk kIMk
  have FIPl := fun_mk (st := sEPl) lIPl cIPl kIPl
  have FIRw := fun_mk (st := sERw) lIRw cIRw kIRw
  have FIWd := fun_mk (st := sEWd) lIWd cIWd kIWd
  have FINb := fun_mk (st := sENb) lINb cINb kINb
  have FITm := fun_mk (st := sETm) lITm cITm kITm
  have bB := FB.binds (ps := ["_law_script", "_law_k"]) fun _ _ _ _ _ _ us hl => match us, hl with | [_, _], _ => rfl
  have bD := FD.binds (ps := ["_law_bowl_here", "_law_many_here"]) fun _ _ _ _ _ _ us hl => match us, hl with | [_, _], _ => rfl
  have bOf := FOf.binds (ps := ["_law_bowl_here", "_law_things"]) fun _ _ _ _ _ _ us hl => match us, hl with | [_, _], _ => rfl
  have bGt := FGt.binds (ps := ["_law_ask"]) fun _ _ _ _ _ _ us hl => match us, hl with | [_], _ => rfl
  have bFu := FFu.binds (ps := ["_law_box", "_law_many_here"]) fun _ _ _ _ _ _ us hl => match us, hl with | [_, _], _ => rfl
  have bMa := FMa.binds (ps := ["_law_box", "_law_a", "_law_b"]) fun _ _ _ _ _ _ us hl => match us, hl with | [_, _, _], _ => rfl
  have bR := FR.binds (ps := ["_law_bowl_here"]) fun _ _ _ _ _ _ us hl => match us, hl with | [_], _ => rfl
  have bW := FW.binds (ps := ["value", "least", "most"]) fun _ _ _ _ _ _ us hl => match us, hl with | [_, _, _], _ => rfl
  have bA := FA.binds (ps := ["letters"]) fun _ _ _ _ _ _ us hl => match us, hl with | [_], _ => rfl
  have bCn := FCn.binds (ps := ["many", "length"]) fun _ _ _ _ _ _ us hl => match us, hl with | [_, _], _ => rfl
  have bOv := FOv.binds (ps := ["value", "characters", "length"]) fun _ _ _ _ _ _ us hl => match us, hl with | [_, _, _], _ => rfl
  have bIw := FIw.binds (ps := ["board", "value"]) fun _ _ _ _ _ _ us hl => match us, hl with | [_, _], _ => rfl
  have bAm := FAm.binds (ps := ["board", "value"]) fun _ _ _ _ _ _ us hl => match us, hl with | [_, _], _ => rfl
  have bIr := FIr.binds (ps := ["board", "value"]) fun _ _ _ _ _ _ us hl => match us, hl with | [_, _], _ => rfl
  have bCw := FCw.binds (ps := ["board", "word"]) fun _ _ _ _ _ _ us hl => match us, hl with | [_, _], _ => rfl
  have bCm := FCm.binds (ps := ["board", "told"]) fun _ _ _ _ _ _ us hl => match us, hl with | [_, _], _ => rfl
  have bCb := FCb.binds (ps := ["board"]) fun _ _ _ _ _ _ us hl => match us, hl with | [_], _ => rfl
  have bCr := FCr.binds (ps := ["board", "rows"]) fun _ _ _ _ _ _ us hl => match us, hl with | [_, _], _ => rfl
  have bI := FI.binds (ps := ["self", "letters", "length"]) fun _ _ _ _ _ _ us hl => match us, hl with | [_, _, _], _ => rfl
  have bTh := FTh.binds (ps := ["self", "guess", "told"]) fun _ _ _ _ _ _ us hl => match us, hl with | [_, _, _], _ => rfl
  have bWt := FWt.binds (ps := ["self", "place"]) fun _ _ _ _ _ _ us hl => match us, hl with | [_, _], _ => rfl
  have bFi := FFi.binds (ps := ["self", "word"]) fun _ _ _ _ _ _ us hl => match us, hl with | [_, _], _ => rfl
  have bLn := FLn.binds (ps := ["self"]) fun _ _ _ _ _ _ us hl => match us, hl with | [_], _ => rfl
  have bIMk := FIMk.binds (ps := ["self", "value"]) fun _ _ _ _ _ _ us hl => match us, hl with | [_, _], _ => rfl
  have bIPl := FIPl.binds (ps := ["self", "value"]) fun _ _ _ _ _ _ us hl => match us, hl with | [_, _], _ => rfl
  have bIRw := FIRw.binds (ps := ["self", "index"]) fun _ _ _ _ _ _ us hl => match us, hl with | [_, _], _ => rfl
  have bIWd := FIWd.binds (ps := ["self", "value"]) fun _ _ _ _ _ _ us hl => match us, hl with | [_, _], _ => rfl
  have bINb := FINb.binds (ps := ["self", "value"]) fun _ _ _ _ _ _ us hl => match us, hl with | [_, _], _ => rfl
  have bITm := FITm.binds (ps := ["self", "limit"]) fun _ _ _ _ _ _ us hl => match us, hl with | [_, _], _ => rfl
  have DB : Df K mg "_law_bowl" _ _ _ := ⟨PySem.W.mg_of X G aB, kB, bB⟩
  have DD : Df K mg "_law_dip" _ _ _ := ⟨PySem.W.mg_of X G aD, kD, bD⟩
  have DOf : Df K mg "_law_of" _ _ _ := ⟨PySem.W.mg_of X G aOf, kOf, bOf⟩
  have DGt : Df K mg "_law_got" _ _ _ := ⟨PySem.W.mg_of X G aGt, kGt, bGt⟩
  have DFu : Df K mg "_law_full" _ _ _ := ⟨PySem.W.mg_of X G aFu, kFu, bFu⟩
  have DMa : Df K mg "_law_many" _ _ _ := ⟨PySem.W.mg_of X G aMa, kMa, bMa⟩
  have DR : Df K mg "_law_right" _ _ _ := ⟨PySem.W.mg_of X G aR, kR, bR⟩
  have DW : Df K mg "is_integer_within" _ _ _ := ⟨PySem.W.mg_of X G aW, kW, bW⟩
  have DA : Df K mg "is_alphabet" _ _ _ := ⟨PySem.W.mg_of X G aA, kA, bA⟩
  have DCn : Df K mg "count_words" _ _ _ := ⟨PySem.W.mg_of X G aCn, kCn, bCn⟩
  have DOv : Df K mg "is_text_over" _ _ _ := ⟨PySem.W.mg_of X G aOv, kOv, bOv⟩
  have DIw : Df K mg "is_word" _ _ _ := ⟨PySem.W.mg_of X G aIw, kIw, bIw⟩
  have DAm : Df K mg "are_marks" _ _ _ := ⟨PySem.W.mg_of X G aAm, kAm, bAm⟩
  have DIr : Df K mg "is_row" _ _ _ := ⟨PySem.W.mg_of X G aIr, kIr, bIr⟩
  have DCw : Df K mg "check_word" _ _ _ := ⟨PySem.W.mg_of X G aCw, kCw, bCw⟩
  have DCm : Df K mg "check_marks" _ _ _ := ⟨PySem.W.mg_of X G aCm, kCm, bCm⟩
  have DCb : Df K mg "check_board" _ _ _ := ⟨PySem.W.mg_of X G aCb, kCb, bCb⟩
  have DCr : Df K mg "check_rows" _ _ _ := ⟨PySem.W.mg_of X G aCr, kCr, bCr⟩
  have EMk : ErrB K mg "InvalidMarks" "value" CMk fIMk := ⟨PySem.W.mg_of X G gCMk, oexB_one xMk PySem.F.excBase_ValueError PySem.F.store_ValueError.passes (by decide +kernel) saMk ebMk tyMk kpMk, noMk, aIMk, tiMk, gaMk, ggMk, hdMk, acMk, gtc, tkc, obMk⟩
  have EPl : ErrB K mg "InvalidPlace" "value" CPl fIPl := ⟨PySem.W.mg_of X G gCPl, oexB_one xPl PySem.F.excBase_ValueError PySem.F.store_ValueError.passes (by decide +kernel) saPl ebPl tyPl kpPl, noPl, aIPl, tiPl, gaPl, ggPl, hdPl, acPl, gtc, tkc, obPl⟩
  have ERw : ErrB K mg "InvalidRows" "index" CRw fIRw := ⟨PySem.W.mg_of X G gCRw, oexB_one xRw PySem.F.excBase_ValueError PySem.F.store_ValueError.passes (by decide +kernel) saRw ebRw tyRw kpRw, noRw, aIRw, tiRw, gaRw, ggRw, hdRw, acRw, gtc, tkc, obRw⟩
  have EWd : ErrB K mg "InvalidWord" "value" CWd fIWd := ⟨PySem.W.mg_of X G gCWd, oexB_one xWd PySem.F.excBase_ValueError PySem.F.store_ValueError.passes (by decide +kernel) saWd ebWd tyWd kpWd, noWd, aIWd, tiWd, gaWd, ggWd, hdWd, acWd, gtc, tkc, obWd⟩
  have ENb : ErrB K mg "NotABoard" "value" CNb fINb := ⟨PySem.W.mg_of X G gCNb, oexB_one xNb PySem.F.excBase_ValueError PySem.F.store_ValueError.passes (by decide +kernel) saNb ebNb tyNb kpNb, noNb, aINb, tiNb, gaNb, ggNb, hdNb, acNb, gtc, tkc, obNb⟩
  have ETm : ErrB K mg "TooManyRows" "limit" CTm fITm := ⟨PySem.W.mg_of X G gCTm, oexB_one xTm PySem.F.excBase_ArithmeticError PySem.HandSPX.passAE (by decide +kernel) saTm ebTm tyTm kpTm, noTm, aITm, tiTm, gaTm, ggTm, hdTm, acTm, gtc, tkc, obTm⟩
  obtain ⟨hPR, hCR⟩ := tab_of X (PySem.W.mg_of X G aR) lR oR pR tab hrec
  have FC : FunC K "_law_right" "_law_right" sRight fR _ adR := ⟨⟨_, _, _, _, _, _, _, _, rfl, lR, cR⟩, kR⟩
  have TBx : TxB mg := ⟨ PySem.W.mg_none_of X G zlen, PySem.W.mg_none_of X G zint, PySem.W.mg_none_of X G zabs, PySem.W.mg_none_of X G zdivmod⟩
  have TW : TxW mg := ⟨ PySem.W.mg_none_of X G zisinstance, PySem.W.mg_none_of X G zbool, PySem.W.mg_none_of X G zint, PySem.W.mg_none_of X G zstr, PySem.W.mg_none_of X G zlen, PySem.W.mg_none_of X G zrange, ⟨_, PySem.W.mg_of X G nMM⟩, ⟨_, PySem.W.mg_of X G nML⟩, ⟨_, PySem.W.mg_of X G nLO⟩⟩
  have TC : TxC K mg CB := ⟨⟨pg, hd, po, sa⟩, PySem.W.mg_of X G gCB, naL, naN, naS, ac, gtc, tkc, ob, kitO⟩
  have THx : TxH K mg CH := ⟨⟨pgH, hdH, poH, saH⟩, PySem.W.mg_of X G gCH, nbB, nbR⟩
  have TKx : TxK K CB := ⟨kitNoneType, kitbool, kitint, kitstr, kittuple, kitlist, kitdict⟩
  have TL : TxL mg := ⟨ PySem.W.mg_none_of X G zall, PySem.W.mg_none_of X G zrange, PySem.W.mg_none_of X G zmax, PySem.W.mg_none_of X G zmin, PySem.W.mg_none_of X G zlen⟩
  have TG : TxG K mg CIn CSi CMk CPl CRw CWd CNb CTm := ⟨ PySem.W.mg_none_of X G zisinstance, PySem.W.mg_none_of X G zValueError, PySem.W.mg_none_of X G zArithmeticError, PySem.W.mg_of X G gCIn, PySem.W.mg_of X G gCSi, PySem.W.exm_ref ebMk hdMk tyMk ssMk, PySem.W.exm_ref ebMk hdMk tyMk sPl_Mk, PySem.W.exm_ref ebPl hdPl tyPl ssPl, PySem.W.exm_ref ebMk hdMk tyMk sRw_Mk, PySem.W.exm_ref ebPl hdPl tyPl sRw_Pl, PySem.W.exm_ref ebRw hdRw tyRw ssRw, PySem.W.exm_ref ebMk hdMk tyMk sWd_Mk, PySem.W.exm_ref ebPl hdPl tyPl sWd_Pl, PySem.W.exm_ref ebRw hdRw tyRw sWd_Rw, PySem.W.exm_ref ebWd hdWd tyWd ssWd, PySem.W.exm_ref ebMk hdMk tyMk sNb_Mk, PySem.W.exm_ref ebPl hdPl tyPl sNb_Pl, PySem.W.exm_ref ebRw hdRw tyRw sNb_Rw, PySem.W.exm_ref ebWd hdWd tyWd sNb_Wd, PySem.W.exm_ref ebNb hdNb tyNb ssNb, PySem.W.exm_ref ebMk hdMk tyMk sTm_Mk, PySem.W.exm_ref ebPl hdPl tyPl sTm_Pl, PySem.W.exm_ref ebRw hdRw tyRw sTm_Rw, PySem.W.exm_ref ebWd hdWd tyWd sTm_Wd, PySem.W.exm_ref ebNb hdNb tyNb sTm_Nb, PySem.W.exm_ref ebTm hdTm tyTm ssTm, kit_ref ibIn tbIn sBMk, kit_type (by decide +kernel) sPMk, kit_ref ibIn tbIn sBPl, kit_type (by decide +kernel) sPPl, kit_ref ibIn tbIn sBRw, kit_type (by decide +kernel) sPRw, kit_ref ibIn tbIn sBWd, kit_type (by decide +kernel) sPWd, kit_ref ibIn tbIn sBNb, kit_type (by decide +kernel) sPNb, kit_ref ibSi tbSi sBTm, kit_type (by decide +kernel) sPTm⟩
  have eM : (Str.ofString "012") = tx [48, 49, 50] := by decide +kernel
  have mMA : ∃ t, mg "MARKS" = some (.str (tx [48, 49, 50]) t) := ⟨_, eM ▸ PySem.W.mg_of X G nMA⟩
  have mMR : ∃ t, mg "MOST_ROWS" = some (.int 20 t) := ⟨_, PySem.W.mg_of X G nMR⟩
  refine ⟨PySem.W.fnOf "law" "law" (defArgs sLaw) (defBody sLaw) (defScope sLaw) .none kVL dcL pmL anL cdL ctL, [(adR, ptR)], fun p hp => by rw [List.mem_singleton.mp hp]; exact ⟨hPR, nnR, hCR⟩, fun s v => .of_eq rfl, fun base _ _ hM TB0 => ?_⟩
  have TB := TB0 _ (List.mem_singleton.mpr rfl)
  have GD : FnOk P w K mg base L2.CX0 1 fD _ _ spDip := ok_dip FD TBx
  have GIMk : FnOk P w K mg base L2.CX0 1 fIMk _ _ (spErr CMk "value") := ok_errB (par := "value") FIMk EMk rfl ⟨rfl, rfl, rfl, by decide +kernel, rfl, by decide +kernel, by decide +kernel⟩ (.inl rfl) (.inl rfl)
  have GIPl : FnOk P w K mg base L2.CX0 1 fIPl _ _ (spErr CPl "value") := ok_errB (par := "value") FIPl EPl rfl ⟨rfl, rfl, rfl, by decide +kernel, rfl, by decide +kernel, by decide +kernel⟩ (.inl rfl) (.inl rfl)
  have GIRw : FnOk P w K mg base L2.CX0 1 fIRw _ _ (spErr CRw "index") := ok_errB (par := "index") FIRw ERw rfl ⟨rfl, rfl, rfl, by decide +kernel, rfl, by decide +kernel, by decide +kernel⟩ (.inl rfl) (.inl rfl)
  have GIWd : FnOk P w K mg base L2.CX0 1 fIWd _ _ (spErr CWd "value") := ok_errB (par := "value") FIWd EWd rfl ⟨rfl, rfl, rfl, by decide +kernel, rfl, by decide +kernel, by decide +kernel⟩ (.inl rfl) (.inl rfl)
  have GINb : FnOk P w K mg base L2.CX0 1 fINb _ _ (spErr CNb "value") := ok_errB (par := "value") FINb ENb rfl ⟨rfl, rfl, rfl, by decide +kernel, rfl, by decide +kernel, by decide +kernel⟩ (.inl rfl) (.inl rfl)
  have GITm : FnOk P w K mg base L2.CX0 1 fITm _ _ (spErr CTm "limit") := ok_errB (par := "limit") FITm ETm rfl ⟨rfl, rfl, rfl, by decide +kernel, rfl, by decide +kernel, by decide +kernel⟩ (.inl rfl) (.inl rfl)
  have GWi : FnOk P w K mg base L2.CX0 1 fW _ _ (spWithin K) := ok_within FW TW
  have GI : FnOk P w K mg base L2.CX0 2 fI _ _ (spInit CB) := ok_init FI TW TC (ok_alpha FA TW) DA GWi DW (ok_count FCn TW) DCn
  have GOf : FnOk P w K mg base L2.CX0 2 fOf _ _ spOfL := ok_ofL FOf ( PySem.W.mg_none_of X G zlen) GD DD
  have GOv : FnOk P w K mg base L2.CX0 1 fOv _ _ (spOver K) := ok_over FOv TW ( PySem.W.mg_none_of X G zall)
  have GIw : FnOk P w K mg base L2.CX0 2 fIw _ _ (spIsW K CB none) := ok_isW FIw TC GOv DOv
  have GAm : FnOk P w K mg base L2.CX0 2 fAm _ _ (spIsW K CB (some [48, 49, 50])) := ok_areM FAm TC mMA GOv DOv
  have GIr : FnOk P w K mg base L2.CX0 3 fIr _ _ (spIsRow CB) := ok_isRow FIr TW ( PySem.W.mg_none_of X G ztuple) GIw DIw GAm DAm
  have GIrX : FnOk P w K mg base L2.CX0 3 fIr _ _ (spIsRowX K CB) := ok_isRowX FIr TW ( PySem.W.mg_none_of X G ztuple) GIw DIw GAm DAm
  have GCw : FnOk P w K mg base L2.CX0 3 fCw _ _ (spChkW CB) := ok_chkW FCw GIw DIw
  have GCm : FnOk P w K mg base L2.CX0 3 fCm _ _ (spChkM CB) := ok_chkM FCm GAm DAm
  have GCb : FnOk P w K mg base L2.CX0 1 fCb _ _ (spChkB CB) := ok_chkB FCb TW TC
  have GCr : FnOk P w K mg base L2.CX0 4 fCr _ _ (spChkR CB) := ok_chkR FCr ( PySem.W.mg_none_of X G zlen) ( PySem.W.mg_none_of X G zenumerate) mMR GIr DIr
  have GHi : FnR P w K mg base L2.CX0 5 fHi (spHInitR CB CH) := ok_hinit FHi THx GCb DCb GCr DCr
  have MH : Mk K CH fHi := ⟨mkH, aHi, iHi, kcH⟩
  have GTh : FnOk P w K mg base L2.CX0 7 fTh _ _ (spThen CB CH) := ok_then FTh THx ( PySem.W.mg_none_of X G zlen) mMR GCw DCw GCm DCm GHi MH
  have GFu : FnOk P w K mg base L2.CX0 8 fFu _ _ (spFull CB CH) := ok_full FFu THx ( PySem.W.mg_none_of X G zrange) GTh ⟨aTh, iTh, kTh⟩ bTh GHi MH
  have GLn : FnOk P w K mg base L2.CX0 1 fLn _ _ (spHLen CB CH) := ok_hlen FLn THx ( PySem.W.mg_none_of X G zlen)
  have GCwX : FnOk P w K mg base (L2.CX P w) 3 fCw _ _ (spChkWX K CB CWd none) := ok_chkWX FCw GIw DIw EWd GIWd bIWd
  have GCmX : FnOk P w K mg base (L2.CX P w) 3 fCm _ _ (spChkWX K CB CMk (some [48, 49, 50])) := ok_chkMX FCm GAm DAm EMk GIMk bIMk
  have GCbX : FnOk P w K mg base (L2.CX P w) 3 fCb _ _ (spChkBX K CB CNb) := ok_chkBX FCb TW TC ENb GINb bINb
  have GCrX : FnOk P w K mg base (L2.CX P w) 4 fCr _ _ (spChkRX K CB CRw) := ok_chkRX FCr ( PySem.W.mg_none_of X G zlen) ( PySem.W.mg_none_of X G zenumerate) mMR GIrX DIr ERw GIRw bIRw
  have GHX : FnR P w K mg base (L2.CX P w) 5 fHi (spHInitRX K CB CH CNb CRw) := ok_hinitX FHi GCbX DCb TC GCrX DCr
  have GThX : FnOk P w K mg base (L2.CX P w) 4 fTh _ _ (spThenX K CB CH CWd CMk CTm) := ok_thenX FTh THx ( PySem.W.mg_none_of X G zlen) mMR GCwX DCw GCmX DCm ETm GITm bITm
  have GWoX : FnOk P w K mg base (L2.CX P w) 3 fWt _ _ (spWoX K CB CH CPl) := ok_woX FWt THx ( PySem.W.mg_none_of X G zlen) GWi DW EPl GIPl bIPl
  have GFiX : FnOk P w K mg base (L2.CX P w) 4 fFi _ _ (spFitX K CB CH CWd) := ok_fitX FFi THx GCwX DCw
  have GMaX : FnOk P w K mg base (L2.CX P w) 7 fMa _ _ (spManyX K CB CRw) := ok_manyX FMa THx GHX MH
  have GR : FnG P w K mg base L2.CX0 10 fR _ _ (spRight ptR) := ok_right FC ⟨ PySem.W.mg_none_of X G zrepr, PySem.W.mg_none_of X G zlen⟩ TC THx TKx TG EMk EPl ERw EWd ENb ETm FGt DGt GOf DOf GI ⟨mk, aI, iI, kc⟩ bI GHi GHX MH GThX ⟨aTh, iTh, kTh⟩ bTh GWoX ⟨aWt, iWt, kWt⟩ bWt GFiX ⟨aFi, iFi, kFi⟩ bFi GMaX DMa GFu DFu GLn ⟨aLn, iLn, bLn⟩ hM TB
  exact ok_law FL TL (ok_bowl FB TBx) DB GR DR
end Gm
open PySem PySem.W PyProof.Rows in
set_option maxRecDepth 100000 in
set_option maxHeartbeats 0 in
theorem PySem.Challenge.cw_guessmarks_k09_histories_refused_holds : PySem.Challenge.rw_guessmarks_k09_histories_refused.Holds := by
  w_on; o_law; k_head; (case hw => w_witness2)
  k_fill
  refine L2.walkG (l := PySem.Challenge.rw_guessmarks_k09_histories_refused) (k := 11) (x := "_law_script") (sp := Gm.spLaw) rfl (by decide) rfl ⟨rfl, by decide, by decide⟩ ?him (fun w h Y => PySem.W.km_in_of Y) ?F (fun K H a ns hl hS => ⟨a, ns, rfl, hS, hl, fun _ => rfl⟩)
  case him => decide +kernel
  case F =>
    intro w mg fa h KX G hmg tab
    refine' Gm.all_mk KX G hmg ?gCB ?gCH ?gCIn ?gCSi ?gCMk ?gCPl ?gCRw ?gCWd ?gCNb ?gCTm ?aB ?lB ?cB ?kB ?aD ?lD ?cD ?kD ?aOf ?lOf ?cOf ?kOf ?aGt ?lGt ?cGt ?kGt ?aFu ?lFu ?cFu ?kFu ?aMa ?lMa ?cMa ?kMa ?aR ?lR ?cR ?kR ?aL ?lL ?cL ?kL ?aW ?lW ?cW ?kW ?aA ?lA ?cA ?kA ?aCn ?lCn ?cCn ?kCn ?aOv ?lOv ?cOv ?kOv ?aIw ?lIw ?cIw ?kIw ?aAm ?lAm ?cAm ?kAm ?aIr ?lIr ?cIr ?kIr ?aCw ?lCw ?cCw ?kCw ?aCm ?lCm ?cCm ?kCm ?aCb ?lCb ?cCb ?kCb ?aCr ?lCr ?cCr ?kCr ?aI ?iI ?lI ?cI ?kI ?aHi ?iHi ?lHi ?cHi ?kHi ?aTh ?iTh ?lTh ?cTh ?kTh ?aWt ?iWt ?lWt ?cWt ?kWt ?aFi ?iFi ?lFi ?cFi ?kFi ?aLn ?iLn ?lLn ?cLn ?kLn ?aIMk ?iIMk ?lIMk ?cIMk ?kIMk ?aIPl ?iIPl ?lIPl ?cIPl ?kIPl ?aIRw ?iIRw ?lIRw ?cIRw ?kIRw ?aIWd ?iIWd ?lIWd ?cIWd ?kIWd ?aINb ?iINb ?lINb ?cINb ?kINb ?aITm ?iITm ?lITm ?cITm ?kITm ?oR ?pR ?nnR ?gtc ?tkc ?ibIn ?tbIn ?ibSi ?tbSi ?xMk ?saMk ?ebMk ?tyMk ?kpMk ?noMk ?tiMk ?gaMk ?ggMk ?hdMk ?acMk ?obMk ?ssMk ?sBMk ?sPMk ?xPl ?saPl ?ebPl ?tyPl ?kpPl ?noPl ?tiPl ?gaPl ?ggPl ?hdPl ?acPl ?obPl ?ssPl ?sBPl ?sPPl ?xRw ?saRw ?ebRw ?tyRw ?kpRw ?noRw ?tiRw ?gaRw ?ggRw ?hdRw ?acRw ?obRw ?ssRw ?sBRw ?sPRw ?xWd ?saWd ?ebWd ?tyWd ?kpWd ?noWd ?tiWd ?gaWd ?ggWd ?hdWd ?acWd ?obWd ?ssWd ?sBWd ?sPWd ?xNb ?saNb ?ebNb ?tyNb ?kpNb ?noNb ?tiNb ?gaNb ?ggNb ?hdNb ?acNb ?obNb ?ssNb ?sBNb ?sPNb ?xTm ?saTm ?ebTm ?tyTm ?kpTm ?noTm ?tiTm ?gaTm ?ggTm ?hdTm ?acTm ?obTm ?ssTm ?sBTm ?sPTm ?sPl_Mk ?sRw_Mk ?sRw_Pl ?sWd_Mk ?sWd_Pl ?sWd_Rw ?sNb_Mk ?sNb_Pl ?sNb_Rw ?sNb_Wd ?sTm_Mk ?sTm_Pl ?sTm_Rw ?sTm_Wd ?sTm_Nb ?nML ?nMM ?nMR ?nLO ?nMA ?zlen ?zint ?zabs ?zdivmod ?zisinstance ?zbool ?zstr ?zrange ?zrepr ?zall ?zmax ?zmin ?ztuple ?zenumerate ?zValueError ?zArithmeticError ?pg ?hd ?po ?sa ?mk ?kc ?pgH ?hdH ?poH ?saH ?mkH ?kcH ?naL ?naN ?naS ?nbB ?nbR ?ac ?ob ?kitO ?kitNoneType ?kitbool ?kitint ?kitstr ?kittuple ?kitlist ?kitdict tab ?hrec
    (case gCB => k_is)
    (case gCH => k_is)
    (case gCIn => k_is)
    (case gCSi => k_is)
    (case gCMk => k_is)
    (case gCPl => k_is)
    (case gCRw => k_is)
    (case gCWd => k_is)
    (case gCNb => k_is)
    (case gCTm => k_is)
    (case aB => k_is)
    (case lB => k_is)
    (case cB => k_is)
    (case kB => k_is)
    (case aD => k_is)
    (case lD => k_is)
    (case cD => k_is)
    (case kD => k_is)
    (case aOf => k_is)
    (case lOf => k_is)
    (case cOf => k_is)
    (case kOf => k_is)
    (case aGt => k_is)
    (case lGt => k_is)
    (case cGt => k_is)
    (case kGt => k_is)
    (case aFu => k_is)
    (case lFu => k_is)
    (case cFu => k_is)
    (case kFu => k_is)
    (case aMa => k_is)
    (case lMa => k_is)
    (case cMa => k_is)
    (case kMa => k_is)
    (case aR => k_is)
    (case lR => k_is)
    (case cR => k_is)
    (case kR => k_is)
    (case aL => k_is)
    (case lL => k_is)
    (case cL => k_is)
    (case kL => k_is)
    (case aW => k_is)
    (case lW => k_is)
    (case cW => k_is)
    (case kW => k_is)
    (case aA => k_is)
    (case lA => k_is)
    (case cA => k_is)
    (case kA => k_is)
    (case aCn => k_is)
    (case lCn => k_is)
    (case cCn => k_is)
    (case kCn => k_is)
    (case aOv => k_is)
    (case lOv => k_is)
    (case cOv => k_is)
    (case kOv => k_is)
    (case aIw => k_is)
    (case lIw => k_is)
    (case cIw => k_is)
    (case kIw => k_is)
    (case aAm => k_is)
    (case lAm => k_is)
    (case cAm => k_is)
    (case kAm => k_is)
    (case aIr => k_is)
    (case lIr => k_is)
    (case cIr => k_is)
    (case kIr => k_is)
    (case aCw => k_is)
    (case lCw => k_is)
    (case cCw => k_is)
    (case kCw => k_is)
    (case aCm => k_is)
    (case lCm => k_is)
    (case cCm => k_is)
    (case kCm => k_is)
    (case aCb => k_is)
    (case lCb => k_is)
    (case cCb => k_is)
    (case kCb => k_is)
    (case aCr => k_is)
    (case lCr => k_is)
    (case cCr => k_is)
    (case kCr => k_is)
    (case aI => k_is)
    (case iI => k_is)
    (case lI => k_is)
    (case cI => k_is)
    (case kI => k_is)
    (case aHi => k_is)
    (case iHi => k_is)
    (case lHi => k_is)
    (case cHi => k_is)
    (case kHi => k_is)
    (case aTh => k_is)
    (case iTh => k_is)
    (case lTh => k_is)
    (case cTh => k_is)
    (case kTh => k_is)
    (case aWt => k_is)
    (case iWt => k_is)
    (case lWt => k_is)
    (case cWt => k_is)
    (case kWt => k_is)
    (case aFi => k_is)
    (case iFi => k_is)
    (case lFi => k_is)
    (case cFi => k_is)
    (case kFi => k_is)
    (case aLn => k_is)
    (case iLn => k_is)
    (case lLn => k_is)
    (case cLn => k_is)
    (case kLn => k_is)
    (case aIMk => k_is)
    (case iIMk => k_is)
    (case lIMk => k_is)
    (case cIMk => k_is)
    (case kIMk => k_is)
    (case aIPl => k_is)
    (case iIPl => k_is)
    (case lIPl => k_is)
    (case cIPl => k_is)
    (case kIPl => k_is)
    (case aIRw => k_is)
    (case iIRw => k_is)
    (case lIRw => k_is)
    (case cIRw => k_is)
    (case kIRw => k_is)
    (case aIWd => k_is)
    (case iIWd => k_is)
    (case lIWd => k_is)
    (case cIWd => k_is)
    (case kIWd => k_is)
    (case aINb => k_is)
    (case iINb => k_is)
    (case lINb => k_is)
    (case cINb => k_is)
    (case kINb => k_is)
    (case aITm => k_is)
    (case iITm => k_is)
    (case lITm => k_is)
    (case cITm => k_is)
    (case kITm => k_is)
    (case oR => k_is)
    (case pR => rfl)
    (case nnR => rfl)
    (case gtc => k_is)
    (case tkc => k_is)
    (case ibIn => k_is)
    (case tbIn => k_is)
    (case ibSi => k_is)
    (case tbSi => k_is)
    (case xMk => k_is)
    (case saMk => k_is)
    (case ebMk => k_is)
    (case tyMk => k_is)
    (case kpMk => k_is)
    (case noMk => k_is)
    (case tiMk => k_is)
    (case gaMk => k_is)
    (case ggMk => k_is)
    (case hdMk => k_is)
    (case acMk => k_is)
    (case obMk => k_is)
    (case ssMk => k_is)
    (case sBMk => k_is)
    (case sPMk => k_is)
    (case xPl => k_is)
    (case saPl => k_is)
    (case ebPl => k_is)
    (case tyPl => k_is)
    (case kpPl => k_is)
    (case noPl => k_is)
    (case tiPl => k_is)
    (case gaPl => k_is)
    (case ggPl => k_is)
    (case hdPl => k_is)
    (case acPl => k_is)
    (case obPl => k_is)
    (case ssPl => k_is)
    (case sBPl => k_is)
    (case sPPl => k_is)
    (case xRw => k_is)
    (case saRw => k_is)
    (case ebRw => k_is)
    (case tyRw => k_is)
    (case kpRw => k_is)
    (case noRw => k_is)
    (case tiRw => k_is)
    (case gaRw => k_is)
    (case ggRw => k_is)
    (case hdRw => k_is)
    (case acRw => k_is)
    (case obRw => k_is)
    (case ssRw => k_is)
    (case sBRw => k_is)
    (case sPRw => k_is)
    (case xWd => k_is)
    (case saWd => k_is)
    (case ebWd => k_is)
    (case tyWd => k_is)
    (case kpWd => k_is)
    (case noWd => k_is)
    (case tiWd => k_is)
    (case gaWd => k_is)
    (case ggWd => k_is)
    (case hdWd => k_is)
    (case acWd => k_is)
    (case obWd => k_is)
    (case ssWd => k_is)
    (case sBWd => k_is)
    (case sPWd => k_is)
    (case xNb => k_is)
    (case saNb => k_is)
    (case ebNb => k_is)
    (case tyNb => k_is)
    (case kpNb => k_is)
    (case noNb => k_is)
    (case tiNb => k_is)
    (case gaNb => k_is)
    (case ggNb => k_is)
    (case hdNb => k_is)
    (case acNb => k_is)
    (case obNb => k_is)
    (case ssNb => k_is)
    (case sBNb => k_is)
    (case sPNb => k_is)
    (case xTm => k_is)
    (case saTm => k_is)
    (case ebTm => k_is)
    (case tyTm => k_is)
    (case kpTm => k_is)
    (case noTm => k_is)
    (case tiTm => k_is)
    (case gaTm => k_is)
    (case ggTm => k_is)
    (case hdTm => k_is)
    (case acTm => k_is)
    (case obTm => k_is)
    (case ssTm => k_is)
    (case sBTm => k_is)
    (case sPTm => k_is)
    (case sPl_Mk => k_is)
    (case sRw_Mk => k_is)
    (case sRw_Pl => k_is)
    (case sWd_Mk => k_is)
    (case sWd_Pl => k_is)
    (case sWd_Rw => k_is)
    (case sNb_Mk => k_is)
    (case sNb_Pl => k_is)
    (case sNb_Rw => k_is)
    (case sNb_Wd => k_is)
    (case sTm_Mk => k_is)
    (case sTm_Pl => k_is)
    (case sTm_Rw => k_is)
    (case sTm_Wd => k_is)
    (case sTm_Nb => k_is)
    (case nML => k_is)
    (case nMM => k_is)
    (case nMR => k_is)
    (case nLO => k_is)
    (case nMA => k_is)
    (case zlen => k_is)
    (case zint => k_is)
    (case zabs => k_is)
    (case zdivmod => k_is)
    (case zisinstance => k_is)
    (case zbool => k_is)
    (case zstr => k_is)
    (case zrange => k_is)
    (case zrepr => k_is)
    (case zall => k_is)
    (case zmax => k_is)
    (case zmin => k_is)
    (case ztuple => k_is)
    (case zenumerate => k_is)
    (case zValueError => k_is)
    (case zArithmeticError => k_is)
    (case pg => k_is)
    (case hd => k_is)
    (case po => k_is)
    (case sa => k_is)
    (case mk => k_is)
    (case kc => k_is)
    (case pgH => k_is)
    (case hdH => k_is)
    (case poH => k_is)
    (case saH => k_is)
    (case mkH => k_is)
    (case kcH => k_is)
    (case naL => k_is)
    (case naN => k_is)
    (case naS => k_is)
    (case nbB => k_is)
    (case nbR => k_is)
    (case ac => k_is)
    (case ob => k_is)
    (case kitO => first | rfl | k_is)
    (case kitNoneType => first | rfl | k_is)
    (case kitbool => first | rfl | k_is)
    (case kitint => first | rfl | k_is)
    (case kitstr => first | rfl | k_is)
    (case kittuple => first | rfl | k_is)
    (case kitlist => first | rfl | k_is)
    (case kitdict => first | rfl | k_is)
    (case hrec => decide +kernel)
