import PyProof.Rows.All
import Wide.All
import OpenK.AllK
import Wide.FinOn
import KE.KCallOwn
import PyProof.InstEq
import HandS.ForMost
import HandS.OwnEq
import HandS.IsInst
import HandS.Walk
import HandS.Codes
import HandS.FStr
import HandS.Style
import KE.GoesMore
import KE.GoesZip
import HandS.Zip
import HandS.SetFor
import PyProof.StrLawsFirst
import PyProof.StrLawsOcc
import PyProof.FitsReplace
import PyProof.Rows.RegReprOcc
import HandS.Replace
import PySem.Challenge.RW_guessmarks_k06_whole_marks_that_can_come
set_option Elab.async false
set_option linter.all false
set_option maxRecDepth 100000
set_option maxHeartbeats 8000000
namespace PySem.W
open PySem PySem.Spec PySem.Calls PyProof.Rows Builtin
section
variable {prog : Program} {w : World} {M : Model} {A : Around} {E : Value → Shared → Prop} {s : Shared} {K : Frag} {x C f L : Addr} {ox : Obj} {od : Option Obj} {h₀ : Heap} {m : Str → Option Value} {b tb : Value}
theorem gm_ifBound {name : Str} {id : String} {args : List Value} {Q : Option Value → Shared → Prop} (X : K.In s.heap) (I : InstAt s.heap x ox C od) (hs : findIn K (.ref C) name = some (some (.builtin id)))
    (hb : ∀ self, bindSpecial (.builtin id) self = pure (.builtin id, [self])) (h : wpAny M A (call (.builtin id) (.ref x :: args)) (fun v => Q (some v)) E s) : wpAny M A (callSpecialIfBound? (.ref x) name args) Q E s := by
  simp only [callSpecialIfBound?, bindSpecialIfBound?]
  refine wpAny_holding <| wpAny_bind <| wpAny_bind <| wpAny_bind <| I.type.here <| (looks_findIn X hs).here ?_
  refine wpAny_bind <| wpAny_askSetting <| wpAny_ite ?_
  have z : wpAny M A (call (.builtin id) ([.ref x] ++ args) >>= fun v => pure (some v)) Q E s := wpAny_bind <| wpAny_mono h (fun v s' h' => wpAny_pure h') fun _ _ h' => h'
  split
  · exact wpAny_bind <| (Looks.of_pure (hb _)).here <| wpAny_pure z
  · exact wpAny_tryCatch <| wpAny_bind <| (Looks.of_pure (hb _)).here <| wpAny_pure z
def NeBack (Q : Value → Shared → Prop) (v : Value) (s' : Shared) : Prop := ∃ r, v = .bool r ∧ Q (.bool (!r)) s'
theorem gm_objNe {Q : Value → Shared → Prop} (hu : A.in1.units < cLine) (X : K.In s.heap) (I : InstAt s.heap x ox C od) (hm : mroIn K C (.type "object") = some true) (hs : findIn K (.ref C) "__eq__" = some (some (.ref f))) (hf : isFn K (.ref f) = true)
    (h : wpAny (model prog w) A.in1 (call (.ref f) [.ref x, b]) (NeBack Q) E s) : wpAny (model prog w) A (call (.builtin "object.__ne__") [.ref x, b]) Q E s := by
  refine wpAny_call <| codeAny_call_builtin PySem.F.cmp_object.ne.plain PySem.F.cmpEntry_ne <| check_slot (owner := "object") (n := "__ne__") PySem.F.cmpKind_ne PySem.F.cmpSplit_ne (I.type.andThen (looks_mroIn X hm)) (PySem.F.cmpArgs_ne _ _) ?_
  unfold Builtin.«object.__ne__»
  refine wpAny_bind (m := slotArgs "__ne__" 1 _) <| wpAny_pure ?_
  refine wpAny_bind (m := cRoomFor _ _) <| wpAny_cRoomFor hu ?_
  refine wpAny_bind (m := callSpecialIfBound? (.ref x) (Str.ofString "__eq__") _) <| ifBound_K X I hs hf <| wpAny_mono h (fun r s' hq => ?_) fun _ _ y => y
  obtain ⟨r, rfl, hq⟩ := hq
  refine wpAny_bind <| wpAny_truthy_bool ?_
  exact wpAny_pure hq
theorem gm_ne {Q : Value → Shared → Prop} (hu : A.units < cLine) (hu1 : A.in1.units < cLine) (X : K.In s.heap) (I : InstAt s.heap x ox C od) (hb : Looks (model prog w) s.heap (typeOf b) tb) (hn : notFirst K C tb = true)
    (hN : findIn K (.ref C) "__ne__" = some (some (.builtin "object.__ne__"))) (hm : mroIn K C (.type "object") = some true)
    (hs : findIn K (.ref C) "__eq__" = some (some (.ref f))) (hf : isFn K (.ref f) = true)
    (h : wpAny (model prog w) A.in1 (call (.ref f) [.ref x, b]) (NeBack Q) E s) : wpAny (model prog w) A (richCompare .NotEq (.ref x) b) Q E s := by
  have one : wpAny (model prog w) A (tryCompare (.ref x) (cmpInfo .NotEq).2.1 b) (fun r s' => ∃ v, r = some v ∧ Q v s') E s := by
    unfold tryCompare
    refine wpAny_bind <| gm_ifBound X I hN PySem.F.cmp_object.ne.bind ?_
    refine wpAny_mono (gm_objNe (Q := fun v s' => (∃ r, v = .bool r) ∧ Q v s') hu1 X I hm hs hf (wpAny_mono h (fun v s' hv => ?_) fun _ _ e => e)) (fun v s' hv => ?_) fun _ _ e => e
    · obtain ⟨r, e, hv⟩ := hv
      exact ⟨r, e, ⟨_, rfl⟩, hv⟩
    · obtain ⟨⟨r, rfl⟩, hv⟩ := hv
      exact wpAny_pure ⟨_, rfl, hv⟩
  unfold richCompare
  simp only [oneThing_ref]
  refine wpAny_holding <| wpAny_bind <| wpAny_cRoomFor hu ?_
  refine wpAny_bind <| I.type.here <| wpAny_bind <| hb.here ?_
  split
  · rename_i q
    have e : subIn K tb (.ref C) = some false := by
      rcases Bool.or_eq_true_iff.mp hn with e | e
      · rw [beq_iff_eq.mp e] at q
        simp at q
      · exact beq_iff_eq.mp e
    refine wpAny_bind <| (looks_subIn X e).here ?_
    simp only [Bool.false_eq_true, if_false]
    refine wpAny_bind <| wpAny_mono one (fun r s' z => ?_) fun _ _ e => e
    obtain ⟨v, rfl, hq⟩ := z
    exact wpAny_pure hq
  · refine wpAny_bind (wpAny_pure ?_)
    simp only [Bool.false_eq_true, if_false]
    refine wpAny_bind <| wpAny_mono one (fun r s' z => ?_) fun _ _ e => e
    obtain ⟨v, rfl, hq⟩ := z
    exact wpAny_pure hq
end
end PySem.W

namespace L2
open PySem PySem.Spec PyProof.Rows
section
variable {X : Cx} {n : Nat} {pins : List (Addr × Obj)} {σ : St} {H : Hp} {s : Shared}
theorem gm_call {A : Around} {CX : CXT} {f : Addr} {fd : FuncData} {ps : List Str} {sp : Sp} {E : XK} {vs : List V} {us : List Value} {Q : VK} (sb : Sub X n A) (I : Inv X pins σ H s) (F : FnOk X.prog X.w X.K X.mg X.base CX n f fd ps sp)
    (hb : Binds X.K fd ps []) (hx : Passes CX X E) (r2 : Vals vs us) (hsp : sp vs H Q E) : wpAny (model X.prog X.w) A (call (.ref f) us) (EP X pins σ Q) X.xe s := by
  have e0 : Env0 X.prog X.w X.K X.mg X.base A X.stack s H := by
    have e := I.env0
    exact ⟨by rw [sb.fr]; exact e.frames, e.mod, e.bs, e.bsz, e.funs, e.frf, e.hok, e.bare⟩
  have hl := F.len _ _ _ _ hsp
  have hl2 : us.length = ps.length := by rw [← r2.length]; exact hl
  refine wpAny_call <| codeAny_mono (F.run A X.stack s H ⟨us, []⟩ us vs Q E sb.room e0 (by
    have := hb s us I.kIn (by simpa using hl2)
    simpa using this) r2 hsp) fun r s' hq => ?_
  cases r with
  | error e => exact hx pins σ H s e s' I hq
  | ok fl =>
    cases fl with
    | ret w => exact I.after hq
    | next => exact hq.elim
    | brk => exact hq.elim
    | cont => exact hq.elim
/-- x == y, x != y by the class's own == -/
def rOwn (K : PySem.W.Frag) (C : Addr) (sp : Sp) (E : XK) (g : Bool → Bool) : R2 := fun x y H Q => ∃ a dx fs t, x = .ref a ∧ H a = some (.ins C dx fs) ∧ TyX K H y t ∧ PySem.W.notFirst K C t = true ∧ sp [.ref a, y] H (fun v H' => ∃ r, v = .bl r ∧ Q (.bl (g r)) H') E
theorem op_eqOwn {CX : CXT} {C f : Addr} {fd : FuncData} {ps : List Str} {sp : Sp} {E : XK} (hr : Room n X.A) (F : FnOk X.prog X.w X.K X.mg X.base CX n f fd ps sp) (hs : PySem.W.findIn X.K (.ref C) "__eq__" = some (some (.ref f))) (hf : PySem.W.isFn X.K (.ref f) = true)
    (hb : Binds X.K fd ps []) (hx : Passes CX X E) : OpR X (compareOp .Eq) (rOwn X.K C sp E id) := by
  intro pins s σ H x y u v Q I rx ry d
  obtain ⟨a, dx, fs, t, rfl, ha, ty, hn, hsp⟩ := d
  cases rx
  obtain ⟨mA, J, _⟩ := ins_get I.hok ha
  obtain ⟨od, J, _⟩ := J.look
  obtain ⟨m, hF⟩ := I.fr
  obtain ⟨Pv, Z, pv, _⟩ := kit_of I ry ty
  refine PySem.W.cmp_K (op := .Eq) hr.units0 hF I.ok.mod.kin J (Z.ty _ _ I.kIn pv) hn hs hf ?_
  refine wpAny_mono (gm_call ⟨hr, rfl⟩ I F hb hx (vs := [.ref a, y]) (us := [.ref a, v]) (.cons rfl (.cons ry .nil)) hsp) (fun z s' hz => ?_) fun _ _ e => e
  obtain ⟨z', H', I', rz, r, rfl, q⟩ := hz
  cases rz
  exact ⟨.bl r, H', I', rfl, q⟩
theorem op_neOwn {CX : CXT} {C f : Addr} {fd : FuncData} {ps : List Str} {sp : Sp} {E : XK} (hr : Room (n + 1) X.A) (F : FnOk X.prog X.w X.K X.mg X.base CX n f fd ps sp) (hs : PySem.W.findIn X.K (.ref C) "__eq__" = some (some (.ref f))) (hf : PySem.W.isFn X.K (.ref f) = true)
    (hN : PySem.W.findIn X.K (.ref C) "__ne__" = some (some (.builtin "object.__ne__"))) (hm : PySem.W.mroIn X.K C (.type "object") = some true)
    (hb : Binds X.K fd ps []) (hx : Passes CX X E) : OpR X (compareOp .NotEq) (rOwn X.K C sp E not) := by
  intro pins s σ H x y u v Q I rx ry d
  obtain ⟨a, dx, fs, t, rfl, ha, ty, hn, hsp⟩ := d
  cases rx
  obtain ⟨mA, J, _⟩ := ins_get I.hok ha
  obtain ⟨od, J, _⟩ := J.look
  obtain ⟨Pv, Z, pv, _⟩ := kit_of I ry ty
  refine PySem.W.gm_ne hr.units0 hr.in1.units0 I.kIn J (Z.ty _ _ I.kIn pv) hn hN hm hs hf ?_
  refine wpAny_mono (gm_call ⟨hr.in1, rfl⟩ I F hb hx (vs := [.ref a, y]) (us := [.ref a, v]) (.cons rfl (.cons ry .nil)) hsp) (fun z s' hz => ?_) fun _ _ e => e
  obtain ⟨z', H', I', rz, r, rfl, q⟩ := hz
  cases rz
  exact ⟨_, rfl, .bl (!r), H', I', rfl, q⟩
/-- str(x), repr(x) by the class's own -/
def rTxt (C : Addr) (sp : Sp) (E : XK) : List V → Hp → VK → Prop := fun xs H Q => ∃ a dx fs, xs = [.ref a] ∧ H a = some (.ins C dx fs) ∧ sp [.ref a] H (fun v H' => ∃ r, v = .str r ∧ Q (.str r) H') E
theorem call_reprOwn {CX : CXT} {C f : Addr} {fd : FuncData} {ps : List Str} {sp : Sp} {E : XK} (hr : Room (n + 1) X.A) (F : FnOk X.prog X.w X.K X.mg X.base CX n f fd ps sp) (hs : PySem.W.findIn X.K (.ref C) "__repr__" = some (some (.ref f))) (hf : PySem.W.isFn X.K (.ref f) = true)
    (hb : Binds X.K fd ps []) (hx : Passes CX X E) : CallR X (.builtin "repr") (rTxt C sp E) := by
  intro pins s σ H xs us Q I r h
  obtain ⟨a, dx, fs, rfl, ha, hsp⟩ := h
  obtain ⟨mA, J, _⟩ := ins_get I.hok ha
  obtain ⟨od, J, _⟩ := J.look
  obtain ⟨m, hF⟩ := I.fr
  cases r with
  | cons r1 r2 =>
    cases r2
    cases r1
    refine PySem.W.repr_K hr.in1.units0 hF I.ok.mod.kin J hs hf ?_
    refine wpAny_mono (gm_call ⟨hr.in1, rfl⟩ I F hb hx (vs := [.ref a]) (us := [.ref a]) (.cons rfl .nil) hsp) (fun z s' hz => ?_) fun _ _ e => e
    obtain ⟨z', H', I', rz, r, rfl, q⟩ := hz
    obtain ⟨t, rfl⟩ := rz
    exact ⟨.str r, H', I', ⟨_, rfl⟩, q⟩
theorem call_strOwn {CX : CXT} {C f : Addr} {fd : FuncData} {ps : List Str} {sp : Sp} {E : XK} (hr : Room (n + 2) X.A) (F : FnOk X.prog X.w X.K X.mg X.base CX n f fd ps sp) (hs : PySem.W.findIn X.K (.ref C) "__str__" = some (some (.ref f))) (hf : PySem.W.isFn X.K (.ref f) = true)
    (hb : Binds X.K fd ps []) (hx : Passes CX X E) : CallR X (.type "str") (rTxt C sp E) := by
  intro pins s σ H xs us Q I r h
  obtain ⟨a, dx, fs, rfl, ha, hsp⟩ := h
  obtain ⟨mA, J, _⟩ := ins_get I.hok ha
  obtain ⟨od, J, _⟩ := J.look
  cases r with
  | cons r1 r2 =>
    cases r2
    cases r1
    refine PySem.W.kso_call hr.in1.in1.units0 I.kIn J hs hf ?_
    refine wpAny_mono (gm_call ⟨hr.in1.in1, rfl⟩ I F hb hx (vs := [.ref a]) (us := [.ref a]) (.cons rfl .nil) hsp) (fun z s' hz => ?_) fun _ _ e => e
    obtain ⟨z', H', I', rz, r, rfl, q⟩ := hz
    obtain ⟨t, rfl⟩ := rz
    exact ⟨.str r, H', I', ⟨_, rfl⟩, q⟩
/-- an instance without __bool__ and __len__ is true -/
def tTru (C : Addr) (ta : TE) : TT := fun σ H Q => ta σ H fun x H' => ∃ a dx fs, x = .ref a ∧ H' a = some (.ins C dx fs) ∧ Q true H'
theorem pt_inst {a : Expr} {ta : TE} {C : Addr} (hb : PySem.W.findIn X.K (.ref C) "__bool__" = some none) (hl : PySem.W.findIn X.K (.ref C) "__len__" = some none) (ha : PE X a ta) (he : ∀ whole, isTrue a X.env whole = (do let v ← whole; standAt a.pos; holding [v] (truthy v))) :
    PT X a (tTru C ta) := by
  refine ⟨fun pins s σ H Q I h => ?_⟩
  refine isTrue_plain (thn (ha.run pins s σ H _ I h) fun v s1 hh => ?_) (he _)
  obtain ⟨x, H1, I1, r1, p, dx, fs, rfl, hp, q⟩ := hh
  cases r1
  obtain ⟨mA, J, _⟩ := ins_get I1.hok hp
  obtain ⟨od, J, _⟩ := J.look
  obtain ⟨m, hF⟩ := I1.fr
  exact PySem.W.truthy_K0 hF I1.ok.mod.kin J hb hl ⟨H1, I1, q⟩
end
end L2

namespace Gm
open PySem L2
def top (i : Nat) : Stmt := PySem.Challenge.pw_guessmarks_k06_whole_marks_that_can_come.main.body.getD i (.Pass ⟨0, 0, 0, 0⟩)
abbrev sBowl : Stmt := top 28
abbrev sDip : Stmt := top 29

/-- three ints stand at p -/
def BowlAt (H : Hp) (p : Addr) : Prop := ∃ x y z : Int, H p = some (.lst [.int x, .int y, .int z])
/-- all but p stands as it stood, and p is a bowl -/
def Stir (p : Addr) (H H' : Hp) : Prop := (∀ b o, b ≠ p → H b = some o → H' b = some o) ∧ BowlAt H' p
theorem Stir.trans {p : Addr} {H H1 H2 : Hp} (a : Stir p H H1) (b : Stir p H1 H2) : Stir p H H2 := ⟨fun c o n h => b.1 c o n (a.1 c o n h), b.2⟩
theorem Stir.same {p : Addr} {H H1 H2 : Hp} (a : Stir p H H1) (b : Same H1 H2) : Stir p H H2 := ⟨fun c o n h => b _ _ (a.1 c o n h), let ⟨x, y, z, h⟩ := a.2; ⟨x, y, z, b _ _ h⟩⟩
theorem Stir.refl {p : Addr} {H : Hp} (h : BowlAt H p) : Stir p H H := ⟨fun _ _ _ h => h, h⟩
theorem same_upd {H : Hp} {p : Addr} {o : HO} (h : H p = none) : Same H (upd H p o) := fun b u e => by rw [upd_ne (ne_of_none e h)]; exact e

theorem stir_upd (H : Hp) (p : Addr) (x y z : Int) : Stir p H (upd H p (.lst [.int x, .int y, .int z])) := ⟨fun b o n e => by rw [upd_ne n]; exact e, _, _, _, upd_same⟩
def spBowl (K : PySem.W.Frag) : Sp := fun vs H Q _ => ∃ (a : Addr) (ns : List Int) (k : Int), vs = [.ref a, .int k] ∧ SqL K H a (ns.map V.int) ∧ ns.length ≤ 63 ∧ 0 ≤ k ∧
  ∀ H' p, Same H H' → H p = none → BowlAt H' p → Q (.ref p) H'
def spDip : Sp := fun vs H Q _ => ∃ (p : Addr) (m : Int), vs = [.ref p, .int m] ∧ BowlAt H p ∧ 0 < m ∧ m < 1073741824 ∧
  ∀ H' d, Stir p H H' → 0 ≤ d → d < m → Q (.int d) H'

structure TxB (mg : Str → Option Value) : Prop where
  len : mg "len" = none
  int : mg "int" = none
  abs : mg "abs" = none
  divmod : mg "divmod" = none

theorem int_at {ns : List Int} {k : Int} (h0 : 0 ≤ k) (h : k < ns.length) : ∃ u, atI (ns.map V.int) k = some (V.int u) := by
  obtain ⟨j, rfl⟩ := Int.eq_ofNat_of_zero_le h0
  have hj : j < ns.length := by omega
  exact ⟨ns[j], atI_nat (by rw [List.getElem?_map, List.getElem?_eq_getElem hj]; rfl)⟩

theorem cut_int {ns : List Int} {lo hi : Option Int} {i : Nat} {y : V} (h : (cutV (ns.map V.int) lo hi)[i]? = some y) : ∃ u, y = V.int u := by
  have hm := List.mem_of_getElem? h
  unfold cutV at hm
  have := List.mem_of_mem_drop (List.mem_of_mem_take hm)
  obtain ⟨u, _, rfl⟩ := List.mem_map.mp this
  exact ⟨u, rfl⟩
theorem pos1 : (0 : Int) < 1999999943 := by decide
theorem cutIfV {tA : TT} {ta tb : TE} {σ : St} {H : Hp} {Q : V → Hp → Prop} (C : V → Prop) (k : ∀ v, C v → Q v H) (h : (∀ v, C v → Q v H) → tIf tA ta tb σ H Q) : tIf tA ta tb σ H Q := h k
theorem cutIf {tA : TT} {ta tb : TE} {σ : St} {H : Hp} {Q : V → Hp → Prop} (C : V → Hp → Prop) (k : ∀ v H', C v H' → Q v H') (h : (∀ v H', C v H' → Q v H') → tIf tA ta tb σ H Q) : tIf tA ta tb σ H Q := h k
section
variable {P : Program} {w : World} {K : PySem.W.Frag} {mg : Str → Option Value} {base : Heap}
abbrev nB : List Str := ["_law_script", "_law_k", "_law_own", "_law_mixed", "_law_entry"]
theorem scB : FnScope nB ["_law_script", "_law_k"] (defScope sBowl) := ⟨rfl, rfl, rfl, by decide +kernel, rfl, by decide +kernel, by decide +kernel⟩
theorem ok_bowl {f : Addr} {fd : FuncData} (F : Fun K "_law_bowl" "_law_bowl" sBowl f fd) (T : TxB mg) : FnOk P w K mg base CX0 1 f fd ["_law_script", "_law_k"] (spBowl K) := by
  refine F.ok scB (fun vs H Q E h => ?_) (fun cdv A outer s H vs Q E hr h => ?_)
  · obtain ⟨a, ns, k, rfl, _⟩ := h
    rfl
  · obtain ⟨a, ns, k, rfl, hS, hlen, h0, q⟩ := h
    refine ⟨_, pss_cons (ps_set (i := 2) scB.nd rfl (Or.inl rfl)
        (pe_ifExp (pt_cmpR op_lt (pv 1) (pe_callB call_len_seq (by rfl) T.len PySem.boot_len (pa_cons (pv 0) pa_nil)) (nomark _))
          (pe_callTy call_int1 (by rfl) T.int (by decide +kernel) (pa_cons (pe_ix ix_list (pv 0) (pv 1) (fun _ _ => rfl)) pa_nil))
          (pe_op op_add (pe_op op_mul pe_int (pv 1)) pe_int)))
      (pss_cons (ps_set (i := 3) scB.nd rfl (Or.inl rfl) (pe_op op_add pe_int (pe_op op_mul pe_int (pv 1))))
      (pss_cons (ps_for PassesOwn.never rfl (pi_list (pe_slice sl_list (pv 0) po_none (po_some pe_int))) (pg_name (i := 4) scB.nd rfl (Or.inl rfl))
          (pss_one (ps_set (i := 3) scB.nd rfl (Or.inl rfl)
            (pe_op op_mod (pe_callTy call_int1 (by rfl) T.int (by decide +kernel) (pa_cons (pe_op op_add (pe_op op_mul (pv 3) pe_int)
              (pe_op op_mod (pe_callTy call_int1 (by rfl) T.int (by decide +kernel) (pa_cons (pv 4) pa_nil)) pe_int)) pa_nil)) pe_int))))
      (pss_one (ps_ret (pe_lst (pa_cons (pe_op op_mod (pe_callTy call_int1 (by rfl) T.int (by decide +kernel) (pa_cons (pe_op op_add (pv 3) (pe_op op_mod (pv 2) pe_int)) pa_nil)) pe_int)
        (pa_cons (pe_ifExp (PW.pt (pw_or (pt_cmpR op_lt (pv 2) pe_int (nomark _)) (pw_or1 (pt_cmpR op_ge (pv 2) (pe_op op_pow pe_int pe_int) (nomark _)))))
            (pe_callB call_abs (by rfl) T.abs (by decide +kernel) (pa_cons (pv 2) pa_nil)) pe_int)
        (pa_cons pe_int pa_nil)))))))), ?_⟩
    refine cutIfV (fun v => ∃ u, v = .int u) ?_ (fun c => ?_)
    · rintro _ ⟨u, rfl⟩
      refine ⟨_, rfl, _, _, rfl, rfl, .inl ⟨by decide, by decide⟩, _, _, rfl, rfl, ?_⟩
      refine ⟨_, rfl, 12, rfl, a, _, rfl, hS, fun pl hpl => ?_⟩
      have s1 := same_upd (o := .lst (cutV (ns.map V.int) none (some 12))) hpl
      refine ⟨pl, rfl, ⟨_, SqL.of upd_same⟩, for_list (K := K) (a := pl) (xs := cutV (ns.map V.int) none (some 12))
        (fun i σ H' => H' = upd _ pl (.lst (cutV (ns.map V.int) none (some 12))) ∧ ∃ (z : Int) (v : Option V), σ = [some (.ref a), some (.int k), some (.int u), some (.int z), v]) ⟨rfl, _, _, rfl⟩ ?_ ?_ ?_⟩
      · rintro i σ H' _ ⟨rfl, _⟩
        exact SqL.of upd_same
      · rintro i y σ H' hi ⟨rfl, z, v, rfl⟩
        obtain ⟨e, rfl⟩ := cut_int hi
        refine ⟨_, rfl, _, _, rfl, rfl, .inr ⟨by decide, by decide⟩, ?_⟩
        refine ⟨_, rfl, .inl ⟨_, rfl, _, _, rfl, rfl, pos1, _, _, rfl, rfl, .inl ⟨_, rfl, _, _, rfl, rfl, pos1, rfl, _, _, rfl⟩⟩⟩
      · rintro σ H' ⟨rfl, z, v, rfl⟩
        refine ⟨_, rfl, _, rfl, _, _, rfl, rfl, pos1, _, _, rfl, rfl, .inl ⟨_, rfl, _, _, rfl, rfl, pos1, ?_⟩⟩
        refine cutIfV (fun v => ∃ u, v = .int u) ?_ (fun c => ?_)
        · rintro _ ⟨y, rfl⟩
          refine ⟨by show 3 ≤ sizeLine; decide, fun p hp => ?_⟩
          refine q _ p (s1.trans (same_upd hp)) (s1.free hp) ⟨_, _, _, upd_same⟩
        · refine ⟨_, rfl, _, _, rfl, rfl, _, rfl, ?_⟩
          refine ite2 (fun h => ?_) (fun h => ?_)
          · refine iteT ⟨_, rfl, _, rfl, c _ ⟨_, rfl⟩⟩
          · refine ⟨_, rfl, _, _, rfl, rfl, ⟨by decide, by decide, by decide⟩, _, _, rfl, rfl, _, rfl, ?_⟩
            refine ite2 (fun h => ?_) (fun h => ?_)
            · exact ⟨_, rfl, _, rfl, c _ ⟨_, rfl⟩⟩
            · exact c _ ⟨_, rfl⟩
    · refine ⟨_, rfl, _, rfl, a, _, rfl, .inl hS, _, _, rfl, rfl, _, rfl, ?_⟩
      refine ite2 (fun h => ?_) (fun h => ?_)
      · have h' : k < ns.length := by
          have := of_decide_eq_true h
          rw [List.length_map] at this
          exact this
        obtain ⟨e, he⟩ := int_at h0 h'
        exact ⟨_, rfl, _, rfl, a, _, _, _, rfl, rfl, hS, he, .inl ⟨_, rfl, c _ ⟨_, rfl⟩⟩⟩
      · exact ⟨_, rfl, _, _, rfl, rfl, .inl ⟨by decide, by decide⟩, _, _, rfl, rfl, c _ ⟨_, rfl⟩⟩
abbrev nD : List Str := ["_law_bowl_here", "_law_many", "_law_digit"]
theorem scD : FnScope nD ["_law_bowl_here", "_law_many"] (defScope sDip) := ⟨rfl, rfl, rfl, by decide +kernel, rfl, by decide +kernel, by decide +kernel⟩
theorem ok_dip {f : Addr} {fd : FuncData} (F : Fun K "_law_dip" "_law_dip" sDip f fd) (T : TxB mg) : FnOk P w K mg base CX0 1 f fd ["_law_bowl_here", "_law_many"] spDip := by
  refine F.ok scD (fun vs H Q E h => ?_) (fun cdv A outer s H vs Q E hr h => ?_)
  · obtain ⟨p, m, rfl, _⟩ := h
    rfl
  · obtain ⟨p, m, rfl, ⟨x, y, z, hp⟩, hm0, hm1, q⟩ := h
    refine ⟨_, pss_cons (ps_asg (pe_op op_add (pe_ix ix_list (pv 0) pe_int (fun _ _ => rfl)) pe_int) (pg_sub (pv 0) pe_int set_list))
      (pss_cons (ps_if (pt_cmpR op_gt (pe_ix ix_list (pv 0) pe_int (fun _ _ => rfl)) pe_int (nomark _))
        (pss_cons (ps_asg (pe_callB call_divmod (by rfl) T.divmod (by decide +kernel) (pa_cons (pe_callTy call_int1 (by rfl) T.int (by decide +kernel) (pa_cons (pe_ix ix_list (pv 0) pe_int (fun _ _ => rfl)) pa_nil)) (pa_cons (pv 1) pa_nil)))
            (pg_tup (by rfl) (pgs_cons (pg_sub (pv 0) pe_int set_list) (pgs_cons (pg_name (i := 2) scD.nd rfl (Or.inl rfl)) pgs_nil))))
          (pss_one (ps_ret (pv 2)))) pss_nil)
      (pss_cons (ps_asg (pe_op op_mod (pe_callTy call_int1 (by rfl) T.int (by decide +kernel) (pa_cons (pe_op op_add (pe_op op_add (pe_op op_mul (pe_ix ix_list (pv 0) pe_int (fun _ _ => rfl)) pe_int)
            (pe_op op_mul (pe_ix ix_list (pv 0) pe_int (fun _ _ => rfl)) pe_int))
            (pe_op op_mul (pe_op op_fdiv (pe_ix ix_list (pv 0) pe_int (fun _ _ => rfl)) pe_int) pe_int)) pa_nil)) pe_int) (pg_sub (pv 0) pe_int set_list))
      (pss_one (ps_ret (pe_op op_mod (pe_callTy call_int1 (by rfl) T.int (by decide +kernel) (pa_cons (pe_op op_fdiv (pe_ix ix_list (pv 0) pe_int (fun _ _ => rfl)) pe_int) pa_nil)) (pv 1)))))), ?_⟩
    refine ⟨_, rfl, p, _, 2, _, rfl, rfl, SqL.of hp, rfl, _, _, rfl, rfl, _, rfl, p, _, 2, 2, rfl, rfl, hp, rfl, ?_⟩
    have h1 : upd H p (.lst [.int x, .int y, .int (z + 1)]) p = some (.lst [.int x, .int y, .int (z + 1)]) := upd_same
    refine ⟨_, rfl, p, _, 1, _, rfl, rfl, SqL.of h1, rfl, _, _, rfl, rfl, _, rfl, ?_⟩
    refine ite2 (fun h => ?_) (fun h => ?_)
    · refine ⟨_, rfl, p, _, 1, _, rfl, rfl, SqL.of h1, rfl, .inl ⟨_, rfl, _, rfl, _, _, rfl, ⟨hm0, hm1⟩, fun t ht => ?_⟩⟩
      have ntp : t ≠ p := fun e => by rw [e] at ht; exact absurd (h1.symm.trans ht) (by simp)
      refine ⟨t, _, rfl, SqT.of upd_same, rfl, _, _, rfl, _, rfl, p, _, 1, 1, rfl, rfl, ((upd_ne ntp.symm).trans h1), rfl, ?_⟩
      refine ⟨_, _, rfl, rfl, _, rfl, ?_⟩
      exact q _ _ (((stir_upd H p _ _ _).same (same_upd ht)).trans (stir_upd _ p _ _ _)) (Int.emod_nonneg _ (by omega)) (Int.emod_lt_of_pos _ hm0)
    · refine ⟨_, rfl, p, _, 0, _, rfl, rfl, SqL.of h1, rfl, _, _, rfl, rfl, .inr ⟨by decide, by decide⟩, _, rfl, p, _, 2, _, rfl, rfl, SqL.of h1, rfl, _, _, rfl, rfl, .inr ⟨by decide, by decide⟩, _, _, rfl, rfl, _, rfl, p, _, 0, _, rfl, rfl, SqL.of h1, rfl, _, _, rfl, rfl, ⟨by decide, by decide⟩, _, _, rfl, rfl, .inr ⟨by decide, by decide⟩, _, _, rfl, rfl, .inl ⟨_, rfl, _, _, rfl, rfl, pos1, _, rfl, p, _, 0, 0, rfl, rfl, h1, rfl, _, rfl, p, _, 0, _, rfl, rfl, SqL.of upd_same, rfl, _, _, rfl, rfl, ⟨by decide, by decide⟩, .inl ⟨_, rfl, _, rfl, _, _, rfl, rfl, hm0, ?_⟩⟩⟩
      exact q _ _ ((stir_upd H p _ _ _).trans (stir_upd _ p _ _ _)) (Int.emod_nonneg _ (by omega)) (Int.emod_lt_of_pos _ hm0)
end
end Gm

namespace Gm
open PySem L2
abbrev sWithin : Stmt := top 10
abbrev sInit : Stmt := inClass (top 18) 0
abbrev sEq : Stmt := inClass (top 18) 3
abbrev sStr : Stmt := inClass (top 18) 4
abbrev sRepr : Stmt := inClass (top 18) 5
abbrev sAlpha : Stmt := top 19
abbrev sCount : Stmt := top 20

/-! ### mathematics -/
def lowTxt : Str := "abcdefghijklmnopqrstuvwxyz"
def low : List Nat := lowTxt.cps.toList
def pick (s : Str) : List Nat := low.filter fun c => decide (c ∈ s.cps.toList)
def Alph (s : Str) : Prop := 2 ≤ s.length ∧ s.length ≤ 26 ∧ s.cps.toList = pick s
instance (s : Str) : Decidable (Alph s) := by unfold Alph; infer_instance
theorem join_one (cs : List Nat) : Txt.join (Str.ofString "") (cs.map fun c => (⟨#[c]⟩ : Str)) = ⟨cs.toArray⟩ := by
  have h : (cs.map fun c => (⟨#[c]⟩ : Str)) = (cs.map fun c => [c]).map SX.S := by rw [List.map_map]; rfl
  have e : (Str.ofString "" : Str) = SX.S [] := rfl
  rw [h, e, SX.join_S]
  have j : ∀ l : List Nat, TL.joinL [] (l.map fun c => [c]) = l := by
    intro l
    induction l with
    | nil => rfl
    | cons a l ih =>
      cases l with
      | nil => rfl
      | cons b l =>
        show [a] ++ ([] ++ TL.joinL [] ((b :: l).map fun c => [c])) = a :: b :: l
        rw [ih]
        rfl
  rw [j]
theorem str_len (s : Str) : s.cps.toList.length = s.length := by simp [Str.length]
theorem take_filter {p : Nat → Bool} (l : List Nat) (i : Nat) (h : i < l.length) : (l.take (i + 1)).filter p = (l.take i).filter p ++ (if p l[i] = true then [l[i]] else []) := by
  rw [List.take_succ_eq_append_getElem h, List.filter_append]
  congr 1
  by_cases c : p l[i] = true
  · rw [if_pos c]; simp [c]
  · rw [if_neg c]; simp [c]

theorem low_len : low.length = 26 := by decide +kernel
theorem sum_one (cs : List Nat) : ((cs.map fun c => (⟨#[c]⟩ : Str)).map (·.length)).sum = cs.length := by
  induction cs with
  | nil => rfl
  | cons c cs ih =>
    rw [List.map_cons, List.map_cons, List.sum_cons, ih, List.length_cons]
    show 1 + cs.length = cs.length + 1
    omega
/-! ### promises -/
def NoInt (K : PySem.W.Frag) (t : Value) : Prop := PySem.W.kitOne K t (.type "bool") = some true ∨ (PySem.W.kitOne K t (.type "bool") = some false ∧ PySem.W.kitOne K t (.type "int") = some false)
def spWithin (K : PySem.W.Frag) : Sp := fun vs H Q _ => ∃ (v : V) (lo hi : Int), vs = [v, .int lo, .int hi] ∧
  ((∃ n, v = .int n ∧ Q (.bl (decide (lo ≤ n ∧ n ≤ hi))) H) ∨ (∃ t, TyX K H v t ∧ NoInt K t ∧ Q (.bl false) H))
def spAlpha (K : PySem.W.Frag) : Sp := fun vs H Q _ => ∃ (v : V), vs = [v] ∧
  ((∃ s, v = .str s ∧ s.length ≤ 1000 ∧ ∀ H', Same H H' → Q (.bl (decide (Alph s))) H') ∨ (∃ t, TyX K H v t ∧ PySem.W.kitOne K t (.type "str") = some false ∧ Q (.bl false) H))
def spCount : Sp := fun vs H Q _ => ∃ (m n : Int), vs = [.int m, .int n] ∧ 0 ≤ m ∧ m ≤ 26 ∧ 0 ≤ n ∧ n ≤ 6 ∧ Q (.int (m ^ n.toNat)) H
def boardF (s : Str) (n : Int) : List (Str × V) := putF "size" (.int ((s.length : Int) ^ n.toNat)) (putF "length" (.int n) (putF "letters" (.str s) []))
def BoardAt (C : Addr) (H : Hp) (p : Addr) (s : Str) (n : Int) : Prop := ∃ dx, H p = some (.ins C dx (boardF s n))
/-- all but p as it stood -/
def But (p : Addr) (H H' : Hp) : Prop := ∀ b o, b ≠ p → H b = some o → H' b = some o
def spInit (C : Addr) : Sp := fun vs H Q _ => ∃ (p dx : Addr) (s : Str) (n : Int), vs = [.ref p, .str s, .int n] ∧ Alph s ∧ 1 ≤ n ∧ n ≤ 6 ∧ H p = some (.ins C dx []) ∧
  ∀ H', But p H H' → BoardAt C H' p s n → Q .non H'
/-- what another object is, beside a board -/
def spEqB (K : PySem.W.Frag) (C : Addr) : Sp := fun vs H Q _ => ∃ (p : Addr) (s : Str) (n : Int) (y : V), vs = [.ref p, y] ∧ BoardAt C H p s n ∧ s.length ≤ 1000 ∧
  ((∃ q s' n', y = .ref q ∧ BoardAt C H q s' n' ∧ s'.length ≤ 1000 ∧ Q (.bl (decide (s = s' ∧ n = n'))) H) ∨ (∃ t, TyX K H y t ∧ PySem.W.kitOne K t (.ref C) = some false ∧ Q (.bl false) H))
def digit (n : Int) : Str := (toString n : String)
def spStr (C : Addr) : Sp := fun vs H Q _ => ∃ (p : Addr) (s : Str) (n : Int), vs = [.ref p] ∧ BoardAt C H p s n ∧ s.length ≤ 26 ∧ 1 ≤ n ∧ n ≤ 6 ∧ Q (.str (s ++ " " ++ digit n)) H
def spRepr (C : Addr) : Sp := fun vs H Q _ => ∃ (p : Addr) (s : Str) (n : Int), vs = [.ref p] ∧ BoardAt C H p s n ∧ s.length ≤ 26 ∧ 1 ≤ n ∧ n ≤ 6 ∧ Q (.str ("Board(" ++ s ++ " " ++ digit n ++ ")")) H

structure TxW (mg : Str → Option Value) : Prop where
  isi : mg "isinstance" = none
  bool : mg "bool" = none
  int : mg "int" = none
  str : mg "str" = none
  len : mg "len" = none
  range : mg "range" = none
  most : ∃ t, mg "MOST_LETTERS" = some (.int 26 t)
  mlen : ∃ t, mg "MOST_LENGTH" = some (.int 6 t)
  low : ∃ t, mg "LOWERCASE" = some (.str lowTxt t)

section
variable {P : Program} {w : World} {K : PySem.W.Frag} {mg : Str → Option Value} {base : Heap}
theorem scW : FnScope ["value", "least", "most"] ["value", "least", "most"] (defScope sWithin) := ⟨rfl, rfl, rfl, by decide +kernel, rfl, by decide +kernel, by decide +kernel⟩
theorem ok_within {f : Addr} {fd : FuncData} (F : Fun K "is_integer_within" "is_integer_within" sWithin f fd) (T : TxW mg) : FnOk P w K mg base CX0 1 f fd ["value", "least", "most"] (spWithin K) := by
  refine F.ok scW (fun vs H Q E h => ?_) (fun cdv A outer s H vs Q E hr h => ?_)
  · obtain ⟨v, lo, hi, rfl, _⟩ := h
    rfl
  · obtain ⟨v, lo, hi, rfl, h⟩ := h
    refine ⟨_, pss_cons (ps_if (PW.pt (pw_or (pt_val (pe_callB call_isi (by rfl) T.isi (by decide +kernel) (pa_cons (pv 0) (pa_cons (pe_bltn (v := .ty "bool") (by rfl) T.bool (by decide +kernel) rfl) pa_nil))))
        (pw_or1 (pt_not (pt_val (pe_callB call_isi (by rfl) T.isi (by decide +kernel) (pa_cons (pv 0) (pa_cons (pe_bltn (v := .ty "int") (by rfl) T.int (by decide +kernel) rfl) pa_nil))))))))
        (pss_one (ps_ret pe_bl)) pss_nil)
      (pss_one (ps_ret (pe_chain op_le op_le (pv 1) (pv 0) (pv 2)))), ?_⟩
    rcases h with ⟨n, rfl, q⟩ | ⟨t, ty, no, q⟩
    · refine ⟨_, rfl, _, _, _, _, _, rfl, .ty "bool", .base (.int n), kit_ty (r := false) (by decide +kernel), _, rfl, iteF ?_⟩
      refine ⟨_, rfl, _, _, _, _, _, rfl, .ty "int", .base (.int n), kit_ty (r := true) (by decide +kernel), _, rfl, ?_⟩
      refine ⟨_, rfl, _, rfl, _, _, rfl, rfl, _, rfl, ?_⟩
      refine ite2 (fun h => ?_) (fun h => ?_)
      · refine ⟨_, rfl, _, _, rfl, rfl, ?_⟩
        have e : decide (lo ≤ n ∧ n ≤ hi) = decide (n ≤ hi) := by
          have := of_decide_eq_true h
          simp [this]
        rw [e] at q
        exact q
      · have e : decide (lo ≤ n ∧ n ≤ hi) = false := by
          simp only [decide_eq_true_eq] at h
          simp [h]
        rw [e] at q
        exact q
    · rcases no with no | ⟨no, no2⟩
      · exact ⟨_, rfl, _, _, _, _, _, rfl, .ty "bool", ty, no, _, rfl, iteT q⟩
      · refine ⟨_, rfl, _, _, _, _, _, rfl, .ty "bool", ty, no, _, rfl, iteF ?_⟩
        exact ⟨_, rfl, _, _, _, _, _, rfl, .ty "int", ty, no2, _, rfl, q⟩
abbrev nA : List Str := ["letters", "letter"]
theorem scAl : FnScope nA ["letters"] (defScope sAlpha) := ⟨rfl, rfl, rfl, by decide +kernel, rfl, by decide +kernel, by decide +kernel⟩
theorem ok_alpha {f : Addr} {fd : FuncData} (F : Fun K "is_alphabet" "is_alphabet" sAlpha f fd) (T : TxW mg) : FnOk P w K mg base CX0 1 f fd ["letters"] (spAlpha K) := by
  refine F.ok scAl (fun vs H Q E h => ?_) (fun cdv A outer s H vs Q E hr h => ?_)
  · obtain ⟨v, rfl, _⟩ := h
    rfl
  · obtain ⟨v, rfl, h⟩ := h
    obtain ⟨t1, mg1⟩ := T.most
    obtain ⟨t2, mg2⟩ := T.low
    refine ⟨_, pss_cons (ps_if (PW.pt (pw_or (pt_not (pt_val (pe_callB call_isi (by rfl) T.isi (by decide +kernel) (pa_cons (pv 0) (pa_cons (pe_bltn (v := .ty "str") (by rfl) T.str (by decide +kernel) rfl) pa_nil)))))
        (pw_or1 (pt_not (pt_chain op_le op_le pe_int (pe_callB call_len_str (by rfl) T.len PySem.boot_len (pa_cons (pv 0) pa_nil)) (pe_glob (v := .int 26) (by rfl) mg1 ⟨_, rfl⟩))))))
        (pss_one (ps_ret pe_bl)) pss_nil)
      (pss_one (ps_ret (pe_cmpR op_eq (pv 0) (pe_join pe_str
        (pe_lc (own := [("letter", 1)]) (g := gName 1) (by rfl) scAl.nd (pi_str (pe_glob (v := .str lowTxt) (by rfl) mg2 ⟨_, rfl⟩)) (blkOk_by (own := [("letter", 1)]) (N := nA) (sc := defScope sAlpha) (by decide +kernel))
          (fun _ _ _ _ _ => pg_name (i := 1) scAl.nd rfl (Or.inl rfl)) (fun _ _ _ _ _ => pts_one (pt_cmpR op_in_sign (pv 1) (pv 0) rfl)) (fun _ _ _ _ _ => pv 1))) (nomark _)))), ?_⟩
    rcases h with ⟨z, rfl, hz, q⟩ | ⟨t, ty, no, q⟩
    · refine ⟨_, rfl, _, _, _, _, _, rfl, .ty "str", .base (.str z), kit_ty (r := true) (by decide +kernel), _, rfl, ?_⟩
      refine ⟨_, rfl, _, rfl, by have : sizeLine = 16777216 := sizeLine_eq; omega, _, _, rfl, rfl, _, rfl, ?_⟩
      have hf : ¬ Alph z → decide (Alph z) = false := decide_eq_false
      refine ite2 (fun h2 => ?_) (fun h2 => ?_)
      · refine ⟨_, _, rfl, rfl, _, rfl, ?_⟩
        have h2 := of_decide_eq_true h2
        refine ite2 (fun h3 => ?_) (fun h3 => ?_)
        · have n : ¬ Alph z := fun a => by
            have := a.2.1
            simp at h3
            omega
          rw [hf n] at q
          exact q _ (Same.refl H)
        · have h3 : (z.length : Int) ≤ 26 := by simpa using h3
          refine ⟨_, rfl, ⟨_, rfl⟩, lowTxt, rfl, fun D hD => ?_⟩
          refine lc_it (walk_str (z := lowTxt)) (fun i H' => Same H H' ∧ H' D = some (.lst (((low.take i).filter fun c => decide (c ∈ z.cps.toList)).map fun c => V.str ⟨#[c]⟩))) ⟨same_upd hD, upd_same⟩ (fun _ _ _ _ => trivial) ?_ ?_
          · rintro i x H1 H2 hi ⟨sm, hD1⟩ ⟨rfl, c, hc, rfl⟩
            have hi' : i < low.length := hi
            have ec : low[i] = c := by
              have : lowTxt.cps[i] = c := (Array.getElem?_eq_some_iff.mp hc).2
              exact this
            have st := take_filter (p := fun c => decide (c ∈ z.cps.toList)) low i hi'
            rw [ec] at st
            refine ⟨rfl, _, rfl, _, rfl, c, z, rfl, rfl, _, rfl, ?_⟩
            refine ite2 (fun hm => ?_) (fun hm => ?_)
            · rw [if_pos hm] at st
              refine ⟨_, rfl, _, hD1, ?_, fun b o e => ?_, ?_⟩
              · have h1 := List.length_filter_le (fun c => decide (c ∈ z.cps.toList)) (low.take i)
                have h2 : (low.take i).length ≤ i := by rw [List.length_take]; omega
                have h3 : sizeLine = 16777216 := sizeLine_eq
                rw [low_len] at hi'
                rw [List.length_map]
                omega
              · rw [upd_ne (ne_of_none e hD)]
                exact sm b o e
              · rw [upd_same, st, List.map_append]
                rfl
            · rw [if_neg hm, List.append_nil] at st
              exact ⟨sm, by rw [st]; exact hD1⟩
          · rintro H1 ⟨sm, hD1⟩
            have el : low.take lowTxt.cps.size = low := List.take_of_length_le (Nat.le_of_eq (by simp [low]))
            rw [el] at hD1
            refine ⟨_, D, (pick z).map (fun c => (⟨#[c]⟩ : Str)), rfl, rfl, .inl (SqL.of ?_), ?_, rfl, ?_⟩
            · rw [List.map_map]
              exact hD1
            · have h1 := List.length_filter_le (fun c => decide (c ∈ z.cps.toList)) low
              have h2 : (pick z).length ≤ 26 := h1
              rw [sum_one, List.length_map]
              show (pick z).length + (pick z).length * 0 ≤ 16777216
              omega
            · have e : decide (V.str z = V.str (Txt.join (Str.ofString "") ((pick z).map fun c => (⟨#[c]⟩ : Str)))) = decide (Alph z) := by
                rw [join_one]
                refine decide_eq_decide.mpr ⟨fun e => ⟨by omega, by omega, ?_⟩, fun a => ?_⟩
                · have e := V.str.inj e
                  have := congrArg (fun s : Str => s.cps.toList) e
                  simpa using this
                · have := a.2.2
                  rw [← this]
              rw [← e] at q
              exact q _ sm
      · have n : ¬ Alph z := fun a => by
          have := a.1
          simp at h2
          omega
        rw [hf n] at q
        exact ⟨_, rfl, q _ (Same.refl H)⟩
    · exact ⟨_, rfl, _, _, _, _, _, rfl, .ty "str", ty, no, _, rfl, iteT q⟩

theorem scC : FnScope ["many", "length", "total", "place"] ["many", "length"] (defScope sCount) := ⟨rfl, rfl, rfl, by decide +kernel, rfl, by decide +kernel, by decide +kernel⟩
theorem ok_count {f : Addr} {fd : FuncData} (F : Fun K "count_words" "count_words" sCount f fd) (T : TxW mg) : FnOk P w K mg base CX0 1 f fd ["many", "length"] spCount := by
  refine F.ok scC (fun vs H Q E h => ?_) (fun cdv A outer s H vs Q E hr h => ?_)
  · obtain ⟨m, n, rfl, _⟩ := h
    rfl
  · obtain ⟨m, n, rfl, m0, m1, n0, n1, q⟩ := h
    refine ⟨_, pss_cons (ps_set (i := 2) scC.nd rfl (Or.inl rfl) pe_int)
      (pss_cons (ps_for PassesOwn.never rfl (pi_range1 (by rfl) T.range (pa_cons (pv 1) pa_nil)) (pg_name (i := 3) scC.nd rfl (Or.inl rfl)) (pss_one (ps_aug (i := 2) scC.nd rfl (Or.inl rfl) (pv 0) iop_mul)))
      (pss_one (ps_ret (pv 2)))), ?_⟩
    refine ⟨_, rfl, n, rfl, by omega, by omega, for_range (n := n.toNat) (fun i σ H' => H' = H ∧ ∃ v, σ = [some (.int m), some (.int n), some (.int (m ^ i)), v]) ⟨rfl, none, by rw [Int.pow_zero]; rfl⟩ ?_ ?_⟩
    · rintro i σ H' hi ⟨rfl, v, rfl⟩
      exact ⟨_, rfl, _, rfl, _, _, rfl, rfl, .inr ⟨by omega, by omega⟩, rfl, _, by rw [Int.pow_succ]; rfl⟩
    · rintro σ H' ⟨rfl, v, rfl⟩
      exact ⟨_, rfl, q⟩
/-- a def of the top, as it is called -/
structure Df (K : PySem.W.Frag) (mg : Str → Option Value) (x : Str) (f : Addr) (fd : FuncData) (ps : List Str) : Prop where
  mg : mg x = some (.ref f)
  kp : PySem.W.keepIn K (.ref f) = true
  b : Binds K fd ps []
/-- the class Board -/
structure TxC (K : PySem.W.Frag) (mg : Str → Option Value) (C : Addr) : Prop where
  cl : Cls K C
  mgC : mg "Board" = some (.ref C)
  nL : NoAttr K C "letters"
  nN : NoAttr K C "length"
  nS : NoAttr K C "size"
  ac : PySem.W.findIn K (.ref C) "__class__" = some (some (.builtin "object.__class__"))
  gt : PySem.W.specialIn K (.builtin "object.__class__") "__get__" = some (some (.builtin "getset_descriptor.__get__"))
  tk : PySem.W.takesIn K (.builtin "object.__class__") = some true
  ob : PySem.W.mroIn K C (.type "object") = some true
  own : PySem.W.kitOne K (.ref C) (.ref C) = some true
theorem bf_eq (s : Str) (n : Int) : boardF s n = ([("letters", V.str s), ("length", V.int n), ("size", V.int ((s.length : Int) ^ n.toNat))] : List (Str × V)) := by
  have h1 : ¬ (("letters" : Str) = "length") := by decide +kernel
  have h2 : ¬ (("letters" : Str) = "size") := by decide +kernel
  have h3 : ¬ (("length" : Str) = "size") := by decide +kernel
  show putF "size" _ (if ("letters" : Str) = "length" then _ else (("letters" : Str), V.str s) :: putF "length" (V.int n) []) = _
  rw [if_neg h1]
  show (if ("letters" : Str) = "size" then _ else (("letters" : Str), V.str s) :: (if ("length" : Str) = "size" then _ else (("length" : Str), V.int n) :: putF "size" _ [])) = _
  rw [if_neg h2, if_neg h3]
  rfl
theorem pf2_eq (s : Str) (n : Int) : putF "length" (.int n) (putF "letters" (.str s) []) = ([("letters", V.str s), ("length", V.int n)] : List (Str × V)) := by
  have h1 : ¬ (("letters" : Str) = "length") := by decide +kernel
  show (if ("letters" : Str) = "length" then _ else (("letters" : Str), V.str s) :: putF "length" (V.int n) []) = _
  rw [if_neg h1]
  rfl
theorem bf_letters (s : Str) (n : Int) : (boardF s n).lookup ("letters" : Str) = some (.str s) := by rw [bf_eq]; rfl
theorem bf_length (s : Str) (n : Int) : (boardF s n).lookup ("length" : Str) = some (.int n) := by
  have h1 : (("length" : Str) == "letters") = false := by decide +kernel
  rw [bf_eq, List.lookup_cons, h1]
  rfl
theorem bf_size (s : Str) (n : Int) : (boardF s n).lookup ("size" : Str) = some (.int ((s.length : Int) ^ n.toNat)) := by
  have h1 : (("size" : Str) == "letters") = false := by decide +kernel
  have h2 : (("size" : Str) == "length") = false := by decide +kernel
  rw [bf_eq, List.lookup_cons, h1, List.lookup_cons, h2]
  rfl
theorem But.upd {p : Addr} {H : Hp} {o : HO} : But p H (L2.upd H p o) := fun b u n e => by rw [upd_ne n]; exact e
theorem But.trans {p : Addr} {H H1 H2 : Hp} (a : But p H H1) (b : But p H1 H2) : But p H H2 := fun c o n h => b c o n (a c o n h)
theorem But.of {p : Addr} {H H1 : Hp} (a : Same H H1) : But p H H1 := fun c o n h => a c o h
theorem scI : FnScope ["self", "letters", "length"] ["self", "letters", "length"] (defScope sInit) := ⟨rfl, rfl, rfl, by decide +kernel, rfl, by decide +kernel, by decide +kernel⟩
theorem ok_init {f C fA fW fC : Addr} {fd fdA fdW fdC : FuncData} (F : Fun K "__init__" "Board.__init__" sInit f fd) (T : TxW mg) (TC : TxC K mg C)
    (GA : FnOk P w K mg base CX0 1 fA fdA ["letters"] (spAlpha K)) (DA : Df K mg "is_alphabet" fA fdA ["letters"]) (GW : FnOk P w K mg base CX0 1 fW fdW ["value", "least", "most"] (spWithin K)) (DW : Df K mg "is_integer_within" fW fdW ["value", "least", "most"])
    (GC : FnOk P w K mg base CX0 1 fC fdC ["many", "length"] spCount) (DC : Df K mg "count_words" fC fdC ["many", "length"]) : FnOk P w K mg base CX0 2 f fd ["self", "letters", "length"] (spInit C) := by
  refine F.ok scI (fun vs H Q E h => ?_) (fun cdv A outer s H vs Q E hr h => ?_)
  · obtain ⟨p, dx, s, n, rfl, _⟩ := h
    rfl
  · obtain ⟨p, dx, z, n, rfl, hz, n0, n1, hp, q⟩ := h
    obtain ⟨t1, mg1⟩ := T.mlen
    refine ⟨_, pss_cons (ps_if (pt_not (pt_val (pe_call GA hr (by rfl) DA.mg DA.kp DA.b .nil pass0 (pa_cons (pv 1) pa_nil)))) (pss_one ps_never) pss_nil)
      (pss_cons (ps_if (pt_not (pt_val (pe_call GW hr (by rfl) DW.mg DW.kp DW.b .nil pass0 (pa_cons (pv 2) (pa_cons pe_int (pa_cons (pe_glob (v := .int 6) (by rfl) mg1 ⟨_, rfl⟩) pa_nil)))))) (pss_one ps_never) pss_nil)
      (pss_cons (ps_fld (pv 0) (pv 1) rfl) (pss_cons (ps_fld (pv 0) (pv 2) rfl)
      (pss_one (ps_fld (pv 0) (pe_call GC hr (by rfl) DC.mg DC.kp DC.b .nil pass0 (pa_cons (pe_callB call_len_str (by rfl) T.len PySem.boot_len (pa_cons (pv 1) pa_nil)) (pa_cons (pv 2) pa_nil))) rfl))))), ?_⟩
    have hl : z.length ≤ 26 := hz.2.1
    have hline : sizeLine = 16777216 := sizeLine_eq
    refine ⟨_, rfl, _, rfl, .inl ⟨z, rfl, by omega, fun H1 s1 => ⟨_, rfl, ?_⟩⟩⟩
    rw [decide_eq_true hz]
    refine iteF ?_
    refine ⟨_, rfl, _, _, _, rfl, .inl ⟨n, rfl, _, rfl, ?_⟩⟩
    rw [decide_eq_true (show 1 ≤ n ∧ n ≤ 6 from ⟨n0, n1⟩)]
    refine iteF ?_
    have hp1 := s1 _ _ hp
    refine ⟨_, rfl, _, rfl, p, C, dx, _, rfl, hp1, TC.cl, TC.nL, by show 0 < 1000; decide, ?_⟩
    refine ⟨_, rfl, _, rfl, p, C, dx, _, rfl, upd_same, TC.cl, TC.nN, by show 1 < 1000; decide, ?_⟩
    refine ⟨_, rfl, _, rfl, by omega, _, rfl, _, _, rfl, by omega, by omega, by omega, n1, ?_⟩
    refine ⟨_, rfl, p, C, dx, _, rfl, upd_same, TC.cl, TC.nS, (by rw [pf2_eq]; show 2 < 1000; decide), ?_⟩
    refine q _ ?_ ⟨dx, upd_same⟩
    exact (But.of s1).trans (But.upd.trans (But.upd.trans But.upd))
theorem digit_len {n : Int} (h0 : 1 ≤ n) (h1 : n ≤ 6) : (digit n).length = 1 := by
  have : n = 1 ∨ n = 2 ∨ n = 3 ∨ n = 4 ∨ n = 5 ∨ n = 6 := by omega
  rcases this with rfl | rfl | rfl | rfl | rfl | rfl <;> decide +kernel
theorem digit_log {n : Int} (h0 : 1 ≤ n) (h1 : n ≤ 6) : n.natAbs.log2 < 1920 := by
  have : n = 1 ∨ n = 2 ∨ n = 3 ∨ n = 4 ∨ n = 5 ∨ n = 6 := by omega
  rcases this with rfl | rfl | rfl | rfl | rfl | rfl <;> decide +kernel
theorem app_len (a b : Str) : (a ++ b).length = a.length + b.length := by
  rw [← str_len, ← str_len, ← str_len, ← List.length_append]
  exact congrArg List.length (TL.tl_append a b)
theorem empty_app (a : Str) : Str.empty ++ a = a := TL.ext_tl (by rw [TL.tl_append]; rfl)
theorem ty_board {C p dx : Addr} {H : Hp} {fs : List (Str × V)} (T : TxC K mg C) (h : H p = some (.ins C dx fs)) : TyX K H (.ref p) (.ref C) := .base (.ins h T.cl T.ac T.gt T.tk T.ob)
theorem scE : FnScope ["self", "other"] ["self", "other"] (defScope sEq) := ⟨rfl, rfl, rfl, by decide +kernel, rfl, by decide +kernel, by decide +kernel⟩
theorem ok_eq {f C : Addr} {fd : FuncData} (F : Fun K "__eq__" "Board.__eq__" sEq f fd) (T : TxW mg) (TC : TxC K mg C) : FnOk P w K mg base CX0 1 f fd ["self", "other"] (spEqB K C) := by
  refine F.ok scE (fun vs H Q E h => ?_) (fun cdv A outer s H vs Q E hr h => ?_)
  · obtain ⟨p, s, n, y, rfl, _⟩ := h
    rfl
  · obtain ⟨p, z, n, y, rfl, ⟨dx, hp⟩, hz, h⟩ := h
    refine ⟨_, pss_one (ps_ret (pe_and (pe_callB call_isi (by rfl) T.isi (by decide +kernel) (pa_cons (pv 1) (pa_cons (pe_glob (v := .ref C) (by rfl) TC.mgC rfl) pa_nil)))
      (pe_and (pe_cmpR op_eq (pe_fld (pv 0) rfl) (pe_fld (pv 1) rfl) (nomark _)) (pe_one (pe_cmpR op_eq (pe_fld (pv 0) rfl) (pe_fld (pv 1) rfl) (nomark _)))))), ?_⟩
    rcases h with ⟨q, z', n', rfl, ⟨dy, hq⟩, hz', k⟩ | ⟨t, ty, no, k⟩
    · refine ⟨_, rfl, _, _, _, _, _, rfl, .own C, ty_board TC hq, TC.own, _, rfl, ?_⟩
      refine iteT ⟨_, rfl, p, C, dx, _, _, rfl, hp, TC.cl, TC.nL, bf_letters z n, _, rfl, q, C, dy, _, _, rfl, hq, TC.cl, TC.nL, bf_letters z' n', rfl, _, rfl, ?_⟩
      refine ite2 (fun e => ?_) (fun e => ?_)
      · refine ⟨_, rfl, p, C, dx, _, _, rfl, hp, TC.cl, TC.nN, bf_length z n, _, rfl, q, C, dy, _, _, rfl, hq, TC.cl, TC.nN, bf_length z' n', rfl, ?_⟩
        have e := V.str.inj (of_decide_eq_true e)
        have e2 : decide (z = z' ∧ n = n') = decide (V.int n = V.int n') := decide_eq_decide.mpr ⟨fun x => by rw [x.2], fun x => ⟨e, V.int.inj x⟩⟩
        rw [e2] at k
        exact k
      · have e2 : decide (z = z' ∧ n = n') = false := decide_eq_false fun x => e (decide_eq_true (by rw [x.1]))
        rw [e2] at k
        exact k
    · exact ⟨_, rfl, _, _, _, _, _, rfl, .own C, ty, no, _, rfl, iteF k⟩
theorem scS : FnScope ["self"] ["self"] (defScope sStr) := ⟨rfl, rfl, rfl, by decide +kernel, rfl, by decide +kernel, by decide +kernel⟩
theorem ok_str {f C : Addr} {fd : FuncData} (F : Fun K "__str__" "Board.__str__" sStr f fd) (TC : TxC K mg C) : FnOk P w K mg base CX0 1 f fd ["self"] (spStr C) := by
  refine F.ok scS (fun vs H Q E h => ?_) (fun cdv A outer s H vs Q E hr h => ?_)
  · obtain ⟨p, s, n, rfl, _⟩ := h
    rfl
  · obtain ⟨p, z, n, rfl, ⟨dx, hp⟩, hz, n0, n1, q⟩ := h
    refine ⟨_, pss_one (ps_ret (pe_joined (.cons (pe_fmt (pe_fld (pv 0) rfl)) (.cons pe_str (.cons (pe_fmt (pe_fld (pv 0) rfl)) .nil))))), ?_⟩
    have hline : sizeLine = 16777216 := sizeLine_eq
    have d := digit_len n0 n1
    refine ⟨_, rfl, p, C, dx, _, _, rfl, hp, TC.cl, TC.nL, bf_letters z n, .inl ⟨z, rfl, by omega, z, rfl, by rw [empty_app]; omega, ?_⟩⟩
    refine ⟨_, rfl, by rw [empty_app, app_len]; have : (Str.ofString " ").length = 1 := rfl; omega, ?_⟩
    refine ⟨_, rfl, p, C, dx, _, _, rfl, hp, TC.cl, TC.nN, bf_length z n, .inr ⟨n, rfl, digit_log n0 n1, digit n, rfl, ?_, ?_⟩⟩
    · rw [empty_app, app_len, app_len]; have : (Str.ofString " ").length = 1 := rfl; omega
    · show Q (.str (Str.empty ++ z ++ Str.ofString " " ++ digit n)) H
      rw [empty_app]
      exact q
theorem scR : FnScope ["self"] ["self"] (defScope sRepr) := ⟨rfl, rfl, rfl, by decide +kernel, rfl, by decide +kernel, by decide +kernel⟩
theorem ok_repr {f C : Addr} {fd : FuncData} (F : Fun K "__repr__" "Board.__repr__" sRepr f fd) (TC : TxC K mg C) : FnOk P w K mg base CX0 1 f fd ["self"] (spRepr C) := by
  refine F.ok scR (fun vs H Q E h => ?_) (fun cdv A outer s H vs Q E hr h => ?_)
  · obtain ⟨p, s, n, rfl, _⟩ := h
    rfl
  · obtain ⟨p, z, n, rfl, ⟨dx, hp⟩, hz, n0, n1, q⟩ := h
    refine ⟨_, pss_one (ps_ret (pe_joined (.cons pe_str (.cons (pe_fmt (pe_fld (pv 0) rfl)) (.cons pe_str (.cons (pe_fmt (pe_fld (pv 0) rfl)) (.cons pe_str .nil))))))), ?_⟩
    have hline : sizeLine = 16777216 := sizeLine_eq
    have d := digit_len n0 n1
    have l1 : (Str.ofString " ").length = 1 := rfl
    have l2 : (Str.ofString "Board(").length = 6 := rfl
    have l3 : (Str.ofString ")").length = 1 := rfl
    refine ⟨_, rfl, by rw [empty_app, l2]; omega, ?_⟩
    refine ⟨_, rfl, p, C, dx, _, _, rfl, hp, TC.cl, TC.nL, bf_letters z n, .inl ⟨z, rfl, by omega, z, rfl, by rw [empty_app, app_len, l2]; omega, ?_⟩⟩
    refine ⟨_, rfl, by rw [empty_app, app_len, app_len, l1, l2]; omega, ?_⟩
    refine ⟨_, rfl, p, C, dx, _, _, rfl, hp, TC.cl, TC.nN, bf_length z n, .inr ⟨n, rfl, digit_log n0 n1, digit n, rfl, by rw [empty_app, app_len, app_len, app_len, l1, l2]; omega, ?_⟩⟩
    refine ⟨_, rfl, by rw [empty_app, app_len, app_len, app_len, app_len, l1, l2, l3]; omega, ?_⟩
    show Q (.str (Str.empty ++ Str.ofString "Board(" ++ z ++ Str.ofString " " ++ digit n ++ Str.ofString ")")) H
    rw [empty_app]
    exact q
end
end Gm

namespace Gm
open PySem L2
/-- the text of these codes -/
abbrev tx (l : List Nat) : Str := ⟨l.toArray⟩
theorem tx_len (l : List Nat) : (tx l).length = l.length := by simp [Str.length]
theorem cut_pre (z : Str) (i : Nat) (h : i ≤ z.length) : cutS z none (some (i : Int)) = tx (z.cps.toList.take i) := by
  unfold cutS
  rw [HT.sIx_none, HT.sIx_nat, Nat.min_eq_left h]
  rfl
theorem cut_suf (z : Str) (i : Nat) (h : i ≤ z.length) : cutS z (some (i : Int)) none = tx (z.cps.toList.drop i) := by
  unfold cutS
  rw [HT.sIx_none, HT.sIx_nat, Nat.min_eq_left h]
  have e : (z.cps.toList.drop i).length = z.length - i := by rw [List.length_drop, str_len]
  rw [← e, List.take_length]
theorem alph_take : ∀ m : Fin 27, 2 ≤ m.val → Alph (tx (low.take m.val)) := by decide +kernel
theorem low_sorted : low.Pairwise (· < ·) := by decide +kernel
theorem sorted_eq : ∀ (l1 l2 : List Nat), l1.Pairwise (· < ·) → l2.Pairwise (· < ·) → (∀ x, x ∈ l1 ↔ x ∈ l2) → l1 = l2
  | [], [], _, _, _ => rfl
  | [], b :: l2, _, _, h => by have := (h b).mpr List.mem_cons_self; cases this
  | a :: l1, [], _, _, h => by have := (h a).mp List.mem_cons_self; cases this
  | a :: l1, b :: l2, h1, h2, h => by
    have p1 := List.pairwise_cons.mp h1
    have p2 := List.pairwise_cons.mp h2
    have e : a = b := by
      have ha := (h a).mp List.mem_cons_self
      have hb := (h b).mpr List.mem_cons_self
      rcases List.mem_cons.mp ha with e | ha
      · exact e
      · rcases List.mem_cons.mp hb with e | hb
        · exact e.symm
        · have := p1.1 b hb
          have := p2.1 a ha
          omega
    subst e
    rw [sorted_eq l1 l2 p1.2 p2.2 fun x => ⟨fun m => ?_, fun m => ?_⟩]
    · rcases List.mem_cons.mp ((h x).mp (List.mem_cons_of_mem _ m)) with e | q
      · have := p1.1 x m
        omega
      · exact q
    · rcases List.mem_cons.mp ((h x).mpr (List.mem_cons_of_mem _ m)) with e | q
      · have := p2.1 x m
        omega
      · exact q
/-- letters that ascend are an alphabet -/
theorem alph_of {zs : List Nat} (hs : zs.Pairwise (· < ·)) (hl : ∀ c ∈ zs, c ∈ low) (h0 : 2 ≤ zs.length) (h1 : zs.length ≤ 26) : Alph (tx zs) := by
  refine ⟨by rw [tx_len]; exact h0, by rw [tx_len]; exact h1, ?_⟩
  show zs = low.filter fun c => decide (c ∈ (tx zs).cps.toList)
  refine sorted_eq _ _ hs (low_sorted.sublist List.filter_sublist) fun x => ?_
  rw [List.mem_filter]
  show x ∈ zs ↔ x ∈ low ∧ decide (x ∈ zs) = true
  exact ⟨fun h => ⟨hl x h, decide_eq_true h⟩, fun h => of_decide_eq_true h.2⟩
abbrev one (c : Nat) : Str := ⟨#[c]⟩
def codeOf (s : Str) : Nat := s.cps.toList.headD 0
/-- what sorted leaves of signs -/
theorem sorted_one {fs : List Nat} {ys : List Str} (hp : ys.Perm (fs.map one)) : ∃ zs : List Nat, zs.Perm fs ∧ ys = zs.map one := by
  refine ⟨ys.map codeOf, ?_, ?_⟩
  · have := hp.map codeOf
    rw [List.map_map] at this
    have e : fs.map (codeOf ∘ one) = fs := by
      have : (codeOf ∘ one) = id := by funext c; rfl
      rw [this, List.map_id]
    rw [e] at this
    exact this
  · rw [List.map_map]
    have : ∀ y ∈ ys, (one ∘ codeOf) y = y := fun y hy => by
      obtain ⟨c, _, rfl⟩ := List.mem_map.mp (hp.mem_iff.mp hy)
      rfl
    exact (List.map_congr_left this |>.trans (List.map_id' ys)).symm
open PyProof.Rows in
theorem rising_le : ∀ (zs : List Nat) (a : Nat), risingS (one a) (zs.map one) = true → (a :: zs).Pairwise (· ≤ ·)
  | [], a, _ => List.pairwise_singleton _ _
  | b :: zs, a, h => by
    have h' : (!Spec.ltCps [b] [a] && risingS (one b) (zs.map one)) = true := h
    rw [Bool.and_eq_true] at h'
    have ih := rising_le zs b h'.2
    have e : a ≤ b := by
      refine Nat.le_of_not_lt fun q => ?_
      have : Spec.ltCps [b] [a] = true := by simp [Spec.ltCps, q]
      rw [this] at h'
      exact absurd h'.1 (by decide)
    refine List.pairwise_cons.mpr ⟨fun c hc => ?_, ih⟩
    rcases List.mem_cons.mp hc with rfl | hc
    · exact e
    · exact Nat.le_trans e ((List.pairwise_cons.mp ih).1 c hc)
open PyProof.Rows in
theorem sorted_le {zs : List Nat} (h : sortedS (zs.map one) = true) : zs.Pairwise (· ≤ ·) := by
  cases zs with
  | nil => exact List.Pairwise.nil
  | cons a zs => exact rising_le zs a h
theorem strict {zs : List Nat} (h : zs.Pairwise (· ≤ ·)) (n : zs.Nodup) : zs.Pairwise (· < ·) := by
  refine (h.and n).imp fun ⟨a, b⟩ => ?_
  omega
theorem low_nodup : low.Nodup := by decide +kernel
theorem drawn_perm {fs l : List Nat} {i : Nat} {c : Nat} (h : (fs ++ l).Perm low) (hc : l[i]? = some c) : (fs ++ [c] ++ (l.take i ++ l.drop (i + 1))).Perm low := by
  refine List.Perm.trans ?_ h
  rw [List.append_assoc]
  refine List.Perm.append_left fs ?_
  have hi := (List.getElem?_eq_some_iff.mp hc).1
  have e : l = l.take i ++ c :: l.drop (i + 1) := by
    have := (List.getElem?_eq_some_iff.mp hc).2
    rw [← this, List.getElem_cons_drop, List.take_append_drop]
  have q : (c :: (l.take i ++ l.drop (i + 1))).Perm (l.take i ++ c :: l.drop (i + 1)) := List.perm_middle.symm
  rw [← e] at q
  exact q
theorem drawn_alph {fs lf : List Nat} {ys : List Str} (h : (fs ++ lf).Perm low) (h0 : 2 ≤ fs.length) (hp : ys.Perm (fs.map one)) (hs : PyProof.Rows.sortedS ys = true) : ∃ zs : List Nat, ys = zs.map one ∧ Alph (tx zs) ∧ zs.length = fs.length := by
  obtain ⟨zs, q, rfl⟩ := sorted_one hp
  have nd : fs.Nodup := (List.nodup_append.mp (h.nodup_iff.mpr low_nodup)).1
  have hl := h.length_eq
  rw [List.length_append, low_len] at hl
  refine ⟨zs, rfl, alph_of (strict (sorted_le hs) (q.nodup_iff.mpr nd)) (fun c hc => h.mem_iff.mp (List.mem_append_left _ (q.mem_iff.mp hc))) (by rw [q.length_eq]; exact h0) (by rw [q.length_eq]; omega), q.length_eq⟩
end Gm

namespace Gm
open PySem L2
abbrev sSigns : Stmt := top 31
def spSigns : Sp := fun vs H Q _ => ∃ (p : Addr) (lo hi : Int), vs = [.ref p, .int lo, .int hi] ∧ BowlAt H p ∧ 2 ≤ lo ∧ lo ≤ hi ∧ hi ≤ 26 ∧
  ∀ H' s, Stir p H H' → Alph s → lo ≤ s.length → s.length ≤ hi → Q (.str s) H'
structure TxS (mg : Str → Option Value) : Prop where
  len : mg "len" = none
  range : mg "range" = none
  sorted : mg "sorted" = none
section
variable {P : Program} {w : World} {K : PySem.W.Frag} {mg : Str → Option Value} {base : Heap}
abbrev nS : List Str := ["_law_bowl_here", "_law_least", "_law_most", "_law_many", "_law_left", "_law_found", "_law_turn", "_law_at"]
theorem scSg : FnScope nS ["_law_bowl_here", "_law_least", "_law_most"] (defScope sSigns) := ⟨rfl, rfl, rfl, by decide +kernel, rfl, by decide +kernel, by decide +kernel⟩
theorem ok_signs {f fD : Addr} {fd fdD : FuncData} (F : Fun K "_law_signs" "_law_signs" sSigns f fd) (T : TxS mg) (GD : FnOk P w K mg base CX0 1 fD fdD ["_law_bowl_here", "_law_many"] spDip) (DD : Df K mg "_law_dip" fD fdD ["_law_bowl_here", "_law_many"]) :
    FnOk P w K mg base CX0 2 f fd ["_law_bowl_here", "_law_least", "_law_most"] spSigns := by
  refine F.ok scSg (fun vs H Q E h => ?_) (fun cdv A outer s H vs Q E hr h => ?_)
  · obtain ⟨p, lo, hi, rfl, _⟩ := h
    rfl
  · obtain ⟨p, lo, hi, rfl, hp, h2, hlh, h26, q⟩ := h
    have nd := scSg.nd
    refine ⟨_, pss_cons (ps_par3 (i := 3) (j := 4) (l := 5) (by rfl) nd rfl rfl rfl (by decide) (by decide) (by decide) rfl rfl rfl
        (pa_cons (pe_op op_add (pv 1) (pe_call GD hr (by rfl) DD.mg DD.kp DD.b .nil pass0 (pa_cons (pv 0) (pa_cons (pe_op op_add (pe_op op_sub (pv 2) (pv 1)) pe_int) pa_nil)))) (pa_cons pe_str (pa_cons (pe_lst pa_nil) pa_nil))) (by rfl))
      (pss_cons (ps_if (pt_cmpR op_gt (pe_call GD hr (by rfl) DD.mg DD.kp DD.b .nil pass0 (pa_cons (pv 0) (pa_cons pe_int pa_nil))) pe_int (nomark _))
        (pss_one (ps_ret (pe_slice sl_str (pv 4) po_none (po_some (pv 3))))) pss_nil)
      (pss_cons (ps_for PassesOwn.never rfl (pi_range1 (by rfl) T.range (pa_cons (pv 3) pa_nil)) (pg_name (i := 6) nd rfl (Or.inl rfl))
        (pss_cons (ps_set (i := 7) nd rfl (Or.inl rfl) (pe_call GD hr (by rfl) DD.mg DD.kp DD.b .nil pass0 (pa_cons (pv 0) (pa_cons (pe_callB call_len_str (by rfl) T.len PySem.boot_len (pa_cons (pv 4) pa_nil)) pa_nil))))
        (pss_cons (ps_expr (pe_bm PySem.F.plainAttrs_list PySem.F.slot_list_append PySem.F.type_list_append mt_append (pv 5) (pa_cons (pe_ix ix_str (pv 4) (pv 7) (fun _ _ => rfl)) pa_nil)))
        (pss_one (ps_set (i := 4) nd rfl (Or.inl rfl) (pe_op op_add_str (pe_slice sl_str (pv 4) po_none (po_some (pv 7))) (pe_slice sl_str (pv 4) (po_some (pe_op op_add (pv 7) pe_int)) po_none)))))))
      (pss_one (ps_ret (pe_join pe_str (pe_callB cr_sortedS (by rfl) T.sorted (by decide +kernel) (pa_cons (pv 5) pa_nil))))))), ?_⟩
    refine ⟨_, rfl, _, rfl, _, rfl, _, rfl, _, _, rfl, rfl, _, _, rfl, rfl, p, _, rfl, hp, by omega, by omega, fun H1 d R1 d0 d1 => ?_⟩
    refine ⟨_, _, rfl, rfl, Nat.zero_le _, fun l hl => ⟨_, _, _, rfl, ?_⟩⟩
    have hline : sizeLine = 16777216 := sizeLine_eq
    have npl : ∀ {H : Hp}, BowlAt H p → H l = none → l ≠ p := fun ⟨_, _, _, h⟩ h0 e => by rw [e, h] at h0; cases h0
    have nlp : l ≠ p := npl R1.2 hl
    have R2 : Stir p H (upd H1 l (.lst [])) := R1.same (same_upd hl)
    have hl0 : H l = none := by
      cases e : H l with
      | none => rfl
      | some o => exact absurd ((R1.1 l o nlp e).symm.trans hl) (by simp)
    obtain ⟨m, hm⟩ : ∃ m : Nat, lo + d = (m : Int) := ⟨(lo + d).toNat, by omega⟩
    refine ⟨_, rfl, p, _, rfl, R2.2, by decide, by decide, fun H3 e R3 e0 e1 => ⟨_, _, rfl, rfl, _, rfl, ite2 (fun h => ?_) (fun h => ?_)⟩⟩
    · refine ⟨_, rfl, _, rfl, _, rfl, lowTxt, rfl, by have : lowTxt.length = 26 := rfl; omega, ?_⟩
      have hz : lowTxt.length = 26 := rfl
      have ec : cutS lowTxt none (some (lo + d)) = tx (low.take m) := by
        rw [hm]
        exact cut_pre lowTxt m (by omega)
      show Q (.str (cutS lowTxt none (some (lo + d)))) H3
      rw [ec]
      have ln : (tx (low.take m)).length = m := by rw [tx_len, List.length_take, low_len]; omega
      exact q _ _ (R2.trans R3) (alph_take ⟨m, by omega⟩ (by show 2 ≤ m; omega)) (by rw [ln]; omega) (by rw [ln]; omega)
    · have hl3 : H3 l = some (.lst []) := R3.1 l _ nlp upd_same
      refine ⟨_, rfl, _, rfl, by omega, by omega, for_range (n := (lo + d).toNat) (fun i σ H' => ∃ (fs lf : List Nat) (v6 v7 : Option V), σ = [some (.ref p), some (.int lo), some (.int hi), some (.int (lo + d)), some (.str (tx lf)), some (.ref l), v6, v7] ∧ Stir p H H' ∧
        H' l = some (.lst (fs.map fun c => V.str (one c))) ∧ (fs ++ lf).Perm low ∧ fs.length = i) ⟨[], low, none, none, rfl, R2.trans R3, hl3, .refl _, rfl⟩ ?_ ?_⟩
      · rintro i σ H' hi' ⟨fs, lf, v6, v7, rfl, R, hF, hP, hi''⟩
        have hlen := hP.length_eq
        rw [List.length_append, low_len] at hlen
        have tl : (tx lf).length = lf.length := tx_len lf
        refine ⟨_, rfl, _, rfl, _, rfl, by omega, p, _, rfl, R.2, by omega, by omega, fun H4 a R4 a0 a1 => ?_⟩
        obtain ⟨j, rfl⟩ := Int.eq_ofNat_of_zero_le a0
        have hj : j < lf.length := by omega
        have hc : lf[j]? = some lf[j] := List.getElem?_eq_getElem hj
        have hF4 := R4.1 l _ nlp hF
        refine ⟨_, rfl, .inl ⟨rfl, _, SqL.of hF4⟩, _, rfl, _, rfl, tx lf, _, lf[j], rfl, rfl, by omega, atI_nat hc, l, _, _, rfl, rfl, hF4, by rw [List.length_map]; omega, ?_⟩
        refine ⟨_, rfl, _, rfl, _, rfl, tx lf, rfl, by omega, _, rfl, _, rfl, _, _, rfl, rfl, _, rfl, tx lf, rfl, by omega, _, _, rfl, rfl, ?_⟩
        have e1 : cutS (tx lf) none (some ((j : Nat) : Int)) = tx (lf.take j) := cut_pre _ _ (by omega)
        have e2 : cutS (tx lf) (some (((j : Nat) : Int) + 1)) none = tx (lf.drop (j + 1)) := cut_suf _ (j + 1) (by omega)
        have e3 : tx (lf.take j) ++ tx (lf.drop (j + 1)) = tx (lf.take j ++ lf.drop (j + 1)) := TL.ext_tl (TL.tl_append _ _)
        show (cutS (tx lf) none (some ((j : Nat) : Int))).length + (cutS (tx lf) (some (((j : Nat) : Int) + 1)) none).length ≤ sizeLine ∧ _
        rw [e1, e2]
        refine ⟨by rw [tx_len, tx_len, List.length_take, List.length_drop]; omega, fs ++ [lf[j]], lf.take j ++ lf.drop (j + 1), some (.int (0 + (i : Nat))), some (.int (j : Nat)), by rw [← e3]; rfl, ?_, ?_, drawn_perm hP hc, by rw [List.length_append, hi'']; rfl⟩
        · have S4 := R.trans R4
          refine ⟨fun b o n e => ?_, ?_⟩
          · rw [upd_ne (ne_of_none e hl0)]
            exact S4.1 b o n e
          · obtain ⟨x, y, z, h⟩ := S4.2
            exact ⟨x, y, z, by rw [upd_ne nlp.symm]; exact h⟩
        · rw [upd_same, List.map_append]
          rfl
      · rintro σ H' ⟨fs, lf, v6, v7, rfl, R, hF, hP, hi⟩
        refine ⟨⟨_, rfl⟩, _, rfl, l, fs.map one, rfl, SqL.of (by rw [List.map_map]; exact hF), ?_, fun ys p' hp' hs hn => ?_⟩
        · have hlen := hP.length_eq
          rw [List.length_append, low_len] at hlen
          rw [List.length_map]
          omega
        · obtain ⟨zs, rfl, hA, hz⟩ := drawn_alph hP (by omega) hp' hs
          have h26 := hA.2.1
          rw [tx_len] at h26
          refine ⟨_, p', zs.map one, rfl, rfl, .inl (SqL.of upd_same), ?_, ?_⟩
          · rw [sum_one, List.length_map]
            show zs.length + zs.length * 0 ≤ 16777216
            omega
          · show Q (.str (Txt.join (Str.ofString "") (zs.map one))) _
            rw [join_one]
            have ln : (tx zs).length = (lo + d).toNat := by rw [tx_len, hz, hi]
            exact q _ _ (R.same (same_upd hn)) hA (by rw [ln]; omega) (by rw [ln]; omega)
end
end Gm

namespace Gm
open PySem L2
abbrev sOf : Stmt := top 30
abbrev sWord : Stmt := top 32
def spOfT : Sp := fun vs H Q _ => ∃ (p : Addr) (l : List Nat), vs = [.ref p, .str (tx l)] ∧ BowlAt H p ∧ 0 < l.length ∧ l.length ≤ 1000 ∧ ∀ H' c, Stir p H H' → c ∈ l → Q (.str (one c)) H'
def spWord : Sp := fun vs H Q _ => ∃ (p : Addr) (l : List Nat) (n : Int), vs = [.ref p, .str (tx l), .int n] ∧ BowlAt H p ∧ 0 < l.length ∧ l.length ≤ 1000 ∧ 0 ≤ n ∧ n ≤ 6 ∧
  ∀ H' ws, Stir p H H' → ws.length = n.toNat → (∀ c ∈ ws, c ∈ l) → Q (.str (tx ws)) H'
section
variable {P : Program} {w : World} {K : PySem.W.Frag} {mg : Str → Option Value} {base : Heap}
theorem scOf : FnScope ["_law_bowl_here", "_law_things"] ["_law_bowl_here", "_law_things"] (defScope sOf) := ⟨rfl, rfl, rfl, by decide +kernel, rfl, by decide +kernel, by decide +kernel⟩
theorem ok_ofT {f fD : Addr} {fd fdD : FuncData} (F : Fun K "_law_of" "_law_of" sOf f fd) (T : TxS mg) (GD : FnOk P w K mg base CX0 1 fD fdD ["_law_bowl_here", "_law_many"] spDip) (DD : Df K mg "_law_dip" fD fdD ["_law_bowl_here", "_law_many"]) :
    FnOk P w K mg base CX0 2 f fd ["_law_bowl_here", "_law_things"] spOfT := by
  refine F.ok scOf (fun vs H Q E h => ?_) (fun cdv A outer s H vs Q E hr h => ?_)
  · obtain ⟨p, l, rfl, _⟩ := h
    rfl
  · obtain ⟨p, l, rfl, hp, l0, l1, q⟩ := h
    have hline : sizeLine = 16777216 := sizeLine_eq
    have tl : (tx l).length = l.length := tx_len l
    refine ⟨_, pss_one (ps_ret (pe_ix ix_str (pv 1) (pe_call GD hr (by rfl) DD.mg DD.kp DD.b .nil pass0 (pa_cons (pv 0) (pa_cons (pe_callB call_len_str (by rfl) T.len PySem.boot_len (pa_cons (pv 1) pa_nil)) pa_nil))) (fun _ _ => rfl))), ?_⟩
    refine ⟨_, rfl, _, rfl, _, rfl, _, rfl, by omega, p, _, rfl, hp, by omega, by omega, fun H1 d R d0 d1 => ?_⟩
    obtain ⟨j, rfl⟩ := Int.eq_ofNat_of_zero_le d0
    have hj : j < l.length := by omega
    exact ⟨tx l, _, l[j], rfl, rfl, by omega, atI_nat (List.getElem?_eq_getElem hj), q H1 _ R (List.getElem_mem hj)⟩
abbrev nW : List Str := ["_law_bowl_here", "_law_signs_here", "_law_size", "_law_some", "_law_k"]
theorem scWd : FnScope nW ["_law_bowl_here", "_law_signs_here", "_law_size"] (defScope sWord) := ⟨rfl, rfl, rfl, by decide +kernel, rfl, by decide +kernel, by decide +kernel⟩
theorem ok_word {f fD fO : Addr} {fd fdD fdO : FuncData} (F : Fun K "_law_word" "_law_word" sWord f fd) (T : TxS mg) (GD : FnOk P w K mg base CX0 1 fD fdD ["_law_bowl_here", "_law_many"] spDip) (DD : Df K mg "_law_dip" fD fdD ["_law_bowl_here", "_law_many"])
    (GO : FnOk P w K mg base CX0 2 fO fdO ["_law_bowl_here", "_law_things"] spOfT) (DO : Df K mg "_law_of" fO fdO ["_law_bowl_here", "_law_things"]) :
    FnOk P w K mg base CX0 3 f fd ["_law_bowl_here", "_law_signs_here", "_law_size"] spWord := by
  refine F.ok scWd (fun vs H Q E h => ?_) (fun cdv A outer s H vs Q E hr h => ?_)
  · obtain ⟨p, l, n, rfl, _⟩ := h
    rfl
  · obtain ⟨p, l, n, rfl, hp, l0, l1, n0, n6, q⟩ := h
    have nd := scWd.nd
    have hr1 : Room 1 _ := hr.mono (by decide)
    have hline : sizeLine = 16777216 := sizeLine_eq
    refine ⟨_, pss_cons (ps_set (i := 3) nd rfl (Or.inr rfl) (pv 1))
      (C8.pss_cut (ps_if (pt_cmpR op_eq (pe_call GD hr1 (by rfl) DD.mg DD.kp DD.b .nil pass0 (pa_cons (pv 0) (pa_cons pe_int pa_nil))) pe_int (nomark _))
        (pss_one (ps_set (i := 3) nd rfl (Or.inr rfl) (pe_op op_add_str (pe_call GO hr (by rfl) DO.mg DO.kp DO.b .nil pass0 (pa_cons (pv 0) (pa_cons (pv 1) pa_nil))) (pe_call GO hr (by rfl) DO.mg DO.kp DO.b .nil pass0 (pa_cons (pv 0) (pa_cons (pv 1) pa_nil)))))) pss_nil)
      (pss_one (ps_ret (pe_join pe_str (pe_lc (own := [("_law_k", 4)]) (g := gName 4) (by rfl) nd (pi_range1 (by rfl) T.range (pa_cons (pv 2) pa_nil)) (blkOk_by (own := [("_law_k", 4)]) (N := nW) (sc := defScope sWord) (by decide +kernel))
        (fun _ _ _ _ _ => pg_name (i := 4) nd rfl (Or.inl rfl)) (fun _ _ _ _ _ => pts_nil)
        (fun _ _ _ _ _ => pe_call GO hr (by rfl) DO.mg DO.kp DO.b .nil pass0 (pa_cons (pv 0) (pa_cons (pv 3) pa_nil)))))))), ?_⟩
    refine ⟨_, rfl, fun σ' H' => ∃ zs : List Nat, σ' = [some (.ref p), some (.str (tx l)), some (.int n), some (.str (tx zs)), none] ∧ Stir p H H' ∧ 0 < zs.length ∧ zs.length ≤ 1000 ∧ ∀ c ∈ zs, c ∈ l, ?_, ?_⟩
    · refine ⟨_, rfl, p, _, rfl, hp, by decide, by decide, fun H1 d R d0 d1 => ⟨rfl, _, rfl, ?_⟩⟩
      refine ite2 (fun h => ?_) (fun h => ?_)
      · refine ⟨_, rfl, _, rfl, p, l, rfl, R.2, l0, l1, fun H2 a R2 ha => ?_⟩
        refine ⟨_, rfl, _, rfl, p, l, rfl, R2.2, l0, l1, fun H3 b R3 hb => ?_⟩
        refine ⟨_, _, rfl, rfl, by show 1 + 1 ≤ sizeLine; omega, [a, b], ?_, (R.trans R2).trans R3, by show 0 < 2; omega, by show 2 ≤ 1000; omega, fun c hc => ?_⟩
        · have e : one a ++ one b = tx [a, b] := TL.ext_tl (TL.tl_append _ _)
          rw [← e]
          rfl
        · simp only [List.mem_cons, List.not_mem_nil, or_false] at hc
          rcases hc with rfl | rfl
          · exact ha
          · exact hb
      · exact ⟨l, rfl, R, l0, l1, fun c hc => hc⟩
    · rintro σ' H' ⟨zs, rfl, R, z0, z1, hz⟩
      refine ⟨⟨_, rfl⟩, _, rfl, n, rfl, by omega, by omega, fun D hD => ?_⟩
      refine lc_range (lo := 0) (n := n.toNat) (fun i H2 => ∃ ws : List Nat, Stir p H H2 ∧ (∀ b o, b ≠ p → b ≠ D → H' b = some o → H2 b = some o) ∧ H2 D = some (.lst (ws.map fun c => V.str (one c))) ∧ ws.length = i ∧ ∀ c ∈ ws, c ∈ l)
        ⟨[], R.same (same_upd hD), fun b o _ n2 e => by rw [upd_ne n2]; exact e, upd_same, rfl, fun c hc => by cases hc⟩ ?_ ?_
      · rintro i H2 hi ⟨ws, R2, k2, h2, hw, hl⟩
        have nDp : D ≠ p := by
          obtain ⟨x, y, z, e⟩ := R.2
          exact fun q => by rw [q, e] at hD; cases hD
        refine ⟨rfl, ⟨_, rfl, _, rfl, p, zs, rfl, R2.2, z0, z1, fun H3 c R3 hc => ⟨_, R3.1 D _ nDp h2, by rw [List.length_map]; omega, ws ++ [c], ?_, fun b o n1 n2 e => ?_, ?_, by rw [List.length_append, hw]; rfl, fun a ha => ?_⟩⟩⟩
        · refine ⟨fun b o n e => ?_, ?_⟩
          · rw [upd_ne]
            · exact R3.1 b o n (R2.1 b o n e)
            · intro q
              have := R.1 b o n e
              rw [q, hD] at this
              cases this
          · obtain ⟨x, y, z, e⟩ := R3.2
            exact ⟨x, y, z, by rw [upd_ne nDp.symm]; exact e⟩
        · rw [upd_ne n2]
          exact R3.1 b o n1 (k2 b o n1 n2 e)
        · rw [upd_same, List.map_append]
          rfl
        · rcases List.mem_append.mp ha with ha | ha
          · exact hl a ha
          · rw [List.mem_singleton.mp ha]
            exact hz c hc
      · rintro H2 ⟨ws, R2, k2, h2, hw, hl⟩
        refine ⟨_, D, ws.map one, rfl, rfl, .inl (SqL.of (by rw [List.map_map]; exact h2)), ?_, ?_⟩
        · rw [sum_one, List.length_map]
          show ws.length + ws.length * 0 ≤ 16777216
          omega
        · show Q (.str (Txt.join (Str.ofString "") (ws.map one))) H2
          rw [join_one]
          exact q H2 ws R2 hw hl
end
end Gm

/-! marks as lists of codes: the mirror of marks_of -/
namespace Gm
def un (g w : List Nat) : List Nat := ((g.zip w).filter fun p => !decide (p.1 = p.2)).map (·.2)
def go : List (Nat × Nat) → List Nat → List Nat
  | [], _ => []
  | (a, b) :: r, u => if a = b then 50 :: go r u else if a ∈ u then 49 :: go r (u.erase a) else 48 :: go r u
def mk (g w : List Nat) : List Nat := go (g.zip w) (un g w)
theorem drop_at {α : Type} {l : List α} {i : Nat} {x : α} (h : l[i]? = some x) : l.drop i = x :: l.drop (i + 1) := by
  have hi := (List.getElem?_eq_some_iff.mp h).1
  have e := (List.getElem?_eq_some_iff.mp h).2
  rw [← e, List.getElem_cons_drop]
theorem zip_at {g w : List Nat} {i c e : Nat} (h1 : g[i]? = some c) (h2 : w[i]? = some e) : (g.zip w)[i]? = some (c, e) := by
  rw [List.getElem?_zip_eq_some]
  exact ⟨h1, h2⟩
theorem take_map_filter {l : List (Nat × Nat)} {i : Nat} {x : Nat × Nat} (p : Nat × Nat → Bool) (f : Nat × Nat → Nat) (h : l[i]? = some x) :
    ((l.take (i + 1)).filter p).map f = ((l.take i).filter p).map f ++ (if p x = true then [f x] else []) := by
  have hi := (List.getElem?_eq_some_iff.mp h).1
  have e := (List.getElem?_eq_some_iff.mp h).2
  rw [List.take_succ_eq_append_getElem hi, e, List.filter_append, List.map_append]
  congr 1
  by_cases c : p x = true
  · rw [if_pos c]; simp [c]
  · rw [if_neg c]; simp [c]
theorem go_length : ∀ (l : List (Nat × Nat)) (u : List Nat), (go l u).length = l.length
  | [], _ => rfl
  | (a, b) :: r, u => by
    unfold go
    split
    · rw [List.length_cons, go_length r u, List.length_cons]
    · split <;> rw [List.length_cons, go_length r _, List.length_cons]
end Gm

namespace L2
open PySem PySem.Spec PyProof.Rows
/-- two texts, sign by sign, in new pairs -/
def Itzs (x y : Str) : It :=
  ⟨fun i _ => i < x.cps.size ∧ i < y.cps.size,
    fun i H v H' => ∃ (T : Addr) (c e : Nat), v = .ref T ∧ H T = none ∧ H' = upd H T (.tup [.str ⟨#[c]⟩, .str ⟨#[e]⟩]) ∧ x.cps[i]? = some c ∧ y.cps[i]? = some e,
    fun i _ => i = x.cps.size ∧ i = y.cps.size⟩
theorem zs_sep (n : Nat) : ZipSep2 (n + 4) (n + 2) (n + 3) n (n + 1) [n] [n + 1] := by
  constructor <;> first | (simp; done) | (refine PySem.W.neN ?_; omega) | (simp; omega)
theorem turn_zips {P : Program} {w : World} {K : PySem.W.Frag} {elts : List Expr} {kk : Nat} {tpos : Pos} {z TI TO i1 i2 : Addr} {x y : Str} {t1 t2 : Tok} (D : ZipSep2 z TI TO i1 i2 [i1] [i2]) :
    Turn P w K (.Tuple elts kk tpos) (Itzs x y) [z, TI, TO, i1, i2] z (fun i h => IsZip h z TI TO .none ∧ IsTupOf2 h TI (.ref i1) (.ref i2) ∧ (∃ a b, IsTupOf2 h TO a b) ∧ h.IsStrIter i1 (strIterType x) x t1 i ∧ h.IsStrIter i2 (strIterType y) y t2 i) where
  mem := by simp
  obj := fun i h st c hc => by
    obtain ⟨hz, hTI, ⟨a, b, hTO⟩, ⟨o1, e1, _, d1⟩, ⟨o2, e2, _, d2⟩⟩ := st
    have q : c = z ∨ c = TI ∨ c = TO ∨ c = i1 ∨ c = i2 := by simpa using hc
    rcases q with rfl | rfl | rfl | rfl | rfl
    · exact ⟨_, hz, fun v q => nomatch q⟩
    · exact ⟨_, hTI, fun v q => nomatch q⟩
    · exact ⟨_, hTO, fun v q => nomatch q⟩
    · exact ⟨o1, e1, fun v q => by rw [d1] at q; cases q⟩
    · exact ⟨o2, e2, fun v q => by rw [d2] at q; cases q⟩
  keep := fun i h h' st k => by
    obtain ⟨hz, hTI, ⟨a, b, hTO⟩, ⟨o1, e1, r1⟩, ⟨o2, e2, r2⟩⟩ := st
    exact ⟨k z (by simp) _ hz, k TI (by simp) _ hTI, ⟨a, b, k TO (by simp) _ hTO⟩, ⟨o1, k i1 (by simp) _ e1, r1⟩, ⟨o2, k i2 (by simp) _ e2, r2⟩⟩
  item := by
    intro X hP hw hK hc i pins s σ H E I hf st hg
    subst hP hw hK
    obtain ⟨hz, hTI, ⟨a0, b0, hTO⟩, h1, h2⟩ := st
    have lz : z < s.heap.objs.size := Heap.lt_size hz
    refine wpAny_pyNext_zipD2_item (St1 := fun i h => h.IsStrIter i1 (strIterType x) x t1 i) (St2 := fun i h => h.IsStrIter i2 (strIterType y) y t2 i) D (Draws.text (A := X.A.in1) (show X.A.in1.handled = none from I.ok.hd hc) i1 x t1) (Draws.text (A := X.A.in1) (show X.A.in1.handled = none from I.ok.hd hc) i2 y t2) hz hTI hTO h1 h2 hg.1 hg.2 fun u u2 h' tk p1 p2 z' TO' h1' h2' hT hsz hk => ?_
    obtain ⟨c, v1, hcx, rfl⟩ := p1
    obtain ⟨e, v2, hey, rfl⟩ := p2
    refine ⟨_, rfl, wpAny_letOwnedTupleGo_zip (s := { s with heap := h', toks := tk }) z' fun g z'' sb => ?_⟩
    have hT2 := (sb.2 _ (Nat.ne_of_gt lz)).trans hT
    have fresh : ObjOk X.prog X.w (upd H s.heap.objs.size (.tup [.str ⟨#[c]⟩, .str ⟨#[e]⟩])) g s.heap.objs.size (.tup [.str ⟨#[c]⟩, .str ⟨#[e]⟩]) :=
      ⟨by show 2 ≤ sizeLine; decide, _, .cons ⟨v1, rfl⟩ (.cons ⟨v2, rfl⟩ .nil), ⟨_, hT2, rfl, _, rfl⟩⟩
    have J : Inv X pins σ (upd H s.heap.objs.size (.tup [.str ⟨#[c]⟩, .str ⟨#[e]⟩])) { s with heap := g, toks := tk } := by
      refine I.turnedNew (ch := [z, TI, TO, i1, i2]) (fun b o hb q => ?_) hf (Nat.le_refl _) fresh
      have nb : b ≠ z ∧ b ≠ TI ∧ b ≠ TO ∧ b ≠ i1 ∧ b ≠ i2 := by simpa using hb
      exact (sb.2 b nb.1).trans (hk b o nb.1 nb.2.2.1 nb.2.2.2.1 nb.2.2.2.2 q)
    refine ⟨.ref s.heap.objs.size, _, J, rfl, ⟨_, c, e, rfl, I.hok.fresh (Nat.le_refl _), rfl, hcx, hey⟩, ⟨z'', ?_, ⟨_, _, (sb.2 _ D.TOz).trans TO'⟩, ?_, ?_⟩, fun b hb => ?_⟩
    · exact (sb.2 _ D.TIz).trans (hk _ _ D.TIz D.TITO D.TIi1 D.TIi2 hTI)
    · obtain ⟨o1, e1, r1⟩ := h1'
      exact ⟨o1, (sb.2 _ D.zi1.symm).trans e1, r1⟩
    · obtain ⟨o2, e2, r2⟩ := h2'
      exact ⟨o2, (sb.2 _ D.zi2.symm).trans e2, r2⟩
    · have hlt : b < s.heap.objs.size := by
        have q : b = z ∨ b = TI ∨ b = TO ∨ b = i1 ∨ b = i2 := by simpa using hb
        obtain ⟨o1, e1, _⟩ := h1
        obtain ⟨o2, e2, _⟩ := h2
        rcases q with rfl | rfl | rfl | rfl | rfl
        · exact lz
        · exact Heap.lt_size hTI
        · exact Heap.lt_size hTO
        · exact Heap.lt_size e1
        · exact Heap.lt_size e2
      rw [upd_ne (Nat.ne_of_lt hlt)]
      exact (hf b hb).1
  done := by
    intro X hP hw hK hc i pins s σ H E I hf st hg
    subst hP hw hK
    obtain ⟨hz, hTI, ⟨a0, b0, hTO⟩, h1, h2⟩ := st
    refine wpAny_pyNext_zipD2_end (St1 := fun i h => h.IsStrIter i1 (strIterType x) x t1 i) (St2 := fun i h => h.IsStrIter i2 (strIterType y) y t2 i) D (Draws.text (A := X.A.in1) (show X.A.in1.handled = none from I.ok.hd hc) i1 x t1) (Draws.text (A := X.A.in1) (show X.A.in1.handled = none from I.ok.hd hc) i2 y t2) hz hTI hTO h1 h2 (Nat.le_of_eq hg.1) (Nat.le_of_eq hg.2) (.inl hg.1) fun h' tk hk => ⟨rfl, I.turnedL (ch := [z, TI, TO, i1, i2]) (fun b o hb q => ?_) hf⟩
    have nb : b ≠ z ∧ b ≠ TI ∧ b ≠ TO ∧ b ≠ i1 ∧ b ≠ i2 := by simpa using hb
    exact hk b o nb.1 nb.2.2.1 nb.2.2.2.1 nb.2.2.2.2 q
  self := fun A i s Q E st h => wpAny_pyIter_zip st.1 h
def iZips (ta : TA) : TI := fun σ H R => ta σ H fun vs H1 => ∃ x y, vs = [.str x, .str y] ∧ x.cps.size = y.cps.size ∧ R (Itzs x y) H1
theorem pi_zips {X : Cx} {e e2 : Expr} {ta : TA} {p pos tpos : Pos} {elts : List Expr} {kk : Nat} (hg : Gl X "zip") (hm : X.mg "zip" = none) (ha : PA X [e, e2] ta)
    (hs : starEach [e, e2] X.env = (false, eval e X.env) :: starEach [e2] X.env := by rfl) (hpl : (backTo pos (starEach [e2] X.env)).any (·.1) = false := by rfl) :
    PI X (.Tuple elts kk tpos) (.Call (.Name "zip" p) [e, e2] [] pos) (iZips ta) := by
  refine ⟨fun pins s σ H R I h => ?_⟩
  refine Call_ (ld_blt I hg hm PyProof.Rows.boot_zip (PyProof.Rows.callWith_type1 (thn (ha.run pos pins s σ H _ I h) fun us s1 hh => ?_) hs hpl))
  obtain ⟨vs, H1, I1, r1, x, y, rfl, hxy, q⟩ := hh
  cases r1 with
  | cons r rr =>
    cases rr with
    | cons r' rr =>
      cases rr
      obtain ⟨t1, rfl⟩ := r
      obtain ⟨t2, rfl⟩ := r'
      refine zip_begins2 (begins_text x t1) (begins_text y t2) trivial trivial fun h' hz hTI hTO h1 h2 hsz hk => wpAny_pyIter_zip hz ?_
      have J : Inv X pins σ H1 { s1 with heap := h' } := I1.kept (t' := s1.toks) hk
      refine ⟨s1.heap.objs.size + 4, [s1.heap.objs.size + 4, s1.heap.objs.size + 2, s1.heap.objs.size + 3, s1.heap.objs.size, s1.heap.objs.size + 1], _, _, H1, rfl, J, turn_zips (t1 := t1) (t2 := t2) (zs_sep s1.heap.objs.size), ⟨hz, hTI, ⟨_, _, hTO⟩, ⟨_, h1, rfl, rfl⟩, ⟨_, h2, rfl, rfl⟩⟩, fun b hb => ?_, q⟩
      have hle : s1.heap.objs.size ≤ b := by
        have q : b = s1.heap.objs.size + 4 ∨ b = s1.heap.objs.size + 2 ∨ b = s1.heap.objs.size + 3 ∨ b = s1.heap.objs.size ∨ b = s1.heap.objs.size + 1 := by simpa using hb
        rcases q with rfl | rfl | rfl | rfl | rfl
        · exact Nat.le_add_right _ _
        · exact Nat.le_add_right _ _
        · exact Nat.le_add_right _ _
        · exact Nat.le_refl _
        · exact Nat.le_add_right _ _
      exact I1.fpOk hle (I1.hok.fresh hle)
theorem walk_zips {x y : Str} (hxy : x.cps.size = y.cps.size) : Walk (Itzs x y) x.cps.size (fun _ => True) (fun i H v H' => ∃ (T : Addr) (c e : Nat), v = .ref T ∧ H T = none ∧ H' = upd H T (.tup [.str ⟨#[c]⟩, .str ⟨#[e]⟩]) ∧ x.cps[i]? = some c ∧ y.cps[i]? = some e) :=
  ⟨fun i _ hi _ => ⟨hi, hxy ▸ hi⟩, fun _ _ => ⟨rfl, hxy⟩, fun _ _ _ _ _ _ y => y⟩
end L2

namespace L2
open PySem PySem.Spec PyProof.Rows
section
variable {X : Cx} {CX : CXT} {k : Nat} {f : Addr} {fd : FuncData} {ps ks : List Str} {sp : Sp} {E : XK} {x : Str} {p pos : Pos} {kws : List Keyword} {tk : TA} {g : List Value → List Value → List Value} {gV : List V → List V → List V}
/-- f(k = v, ..), keywords alone -/
theorem pe_callK0 (F : FnOk X.prog X.w X.K X.mg X.base CX k f fd ps sp) (hr : Room k X.A) (hg : Gl X x) (hm : X.mg x = some (.ref f)) (hk : PySem.W.keepIn X.K (.ref f) = true) (hb : KBinds X.K fd ps ks g gV) (hx : Passes CX X E) (hkw : PK X kws tk)
    (hall : (backToKw pos (keywordEach kws X.env)).all (·.1.isSome) = true := by rfl) (hks : (backToKw pos (keywordEach kws X.env)).filterMap (·.1) = ks := by rfl) (hdb : (x == ("__debug__" : Str)) = false := by decide)
    (hpl : ((backTo pos (starEach [] X.env)).any (·.1) || (backToKw pos (keywordEach kws X.env)).any (·.1.isNone)) = false := by rfl) : PE X (.Call (.Name x p) [] kws pos) (tCallK sp gV E tNil tk) := by
  refine ⟨fun pins s σ H Q I h => wpAny_Call_Name_kw (ld_glob I hg hm ?_ hdb)⟩
  refine PySem.W.callWith_KW0 (h₀ := X.base) I.ok.mod.kin hk hall (thn (hkw.run pos pins s σ H _ I h) fun ws s2 hh => ?_) hpl
  obtain ⟨zs, H2, I2, rz, q2⟩ := hh
  refine ⟨I2.kIn, ?_⟩
  rw [hks]
  exact run_fnk (us := []) (vs := []) F hr hb hx I2 .nil rz q2
end
/-- list.remove of a text that is there -/
def rRemS : V → List V → Hp → VK → Prop := fun x xs H Q => ∃ (l : Addr) (ss : List Str) (k : Str) (j : Nat), x = .ref l ∧ xs = [.str k] ∧ H l = some (.lst (ss.map V.str)) ∧ ss[j]? = some k ∧ (∀ m : Nat, m < j → ss[m]? ≠ some k) ∧ Q .non (upd H l (.lst ((ss.eraseIdx j).map V.str)))
def eqs (k : Str) (v : Value) : Bool := match v with
  | .str n _ => n.cps.toList == k.cps.toList
  | _ => false
theorem erase_mapS : ∀ (l : List Str) (j : Nat), (l.map V.str).eraseIdx j = (l.eraseIdx j).map V.str
  | [], j => by simp
  | a :: r, 0 => by simp
  | a :: r, j + 1 => by simp [erase_mapS r j]
theorem eqs_gives {k : Str} {t : Tok} : ∀ {us : List Value} {ss : List Str}, Vals (ss.map V.str) us → ∀ y ∈ us, MeetsSeq.EqGives y (.str k t) (eqs k y)
  | _, [], .nil => fun y hy => by cases hy
  | _, n :: ss, .cons ⟨t', e⟩ h => fun y hy => by
    rcases List.mem_cons.mp hy with q | q
    · rw [q, e]
      exact SeqRoads2.EqGives.str n k t' t
    · exact eqs_gives h y q
theorem mt_removeS {X : Cx} : MtM X "list.remove" rRemS := by
  intro pins s σ H x xs v us Q I rx rxs h
  obtain ⟨l, ss, k, j, rfl, rfl, hH, hj, hno, q⟩ := h
  cases rx
  obtain ⟨u, rfl, t, rfl⟩ := rxs.one
  obtain ⟨z, its, n, r, hl, e⟩ := I.lstM hH
  have len := r.length
  rw [List.length_map] at hl z len
  have hjn : j < ss.length := (List.getElem?_eq_some_iff.mp hj).1
  have item : ∀ m (hm : m < ss.length) (hm' : m < its.toArray.size), ∃ tm, its.toArray[m] = .str ss[m] tm := fun m hm hm' => by
    obtain ⟨u, hu, ru⟩ := r.get (i := m) (x := V.str ss[m]) (by rw [List.getElem?_map, List.getElem?_eq_getElem hm]; rfl)
    obtain ⟨tm, rfl⟩ := ru
    exact ⟨tm, by simpa using (List.getElem?_eq_some_iff.mp hu).2⟩
  have sz : its.toArray.size = its.length := by simp
  have hjl : j < its.toArray.size := by omega
  refine call_meets PySem.F.slot_list_remove ⟨_, e, rfl⟩ PySem.F.entry_list_remove (PySem.F.args_list_remove_2 _ _)
    (MeetsSeq.list_remove l its.toArray n (.str k t) (eqs k) (fun y hy => eqs_gives r y (by simpa using hy)) j hjl ?_ ?_ (by omega)) ⟨e, ?_⟩
  · obtain ⟨tj, e1⟩ := item j hjn hjl
    have e2 : ss[j] = k := (List.getElem?_eq_some_iff.mp hj).2
    rw [e1, e2]
    exact beq_self_eq_true _
  · intro m hm hmj
    have hmn : m < ss.length := by omega
    obtain ⟨tm, e1⟩ := item m hmn hm
    rw [e1]
    refine beq_eq_false_iff_ne.mpr fun e2 => hno m hmj ?_
    rw [List.getElem?_eq_getElem hmn]
    exact congrArg some (TL.ext_tl e2)
  · have rr := r.eraseIdx j
    rw [erase_mapS] at rr
    refine ⟨.non, _, I.lset (its' := its.eraseIdx j) (t' := s.toks) hH e ?_ rr ?_, rfl, q⟩
    · show its.toArray.eraseIdxIfInBounds j = (its.eraseIdx j).toArray
      rw [List.eraseIdxIfInBounds_toArray]
    · have := List.length_eraseIdx_le ss j
      rw [List.length_map]
      omega
end L2

namespace Gm
open PySem L2
def spMarksOf : Sp := fun vs H Q _ => ∃ (g w : List Nat), vs = [.str (tx g), .str (tx w)] ∧ g.length = w.length ∧ g.length ≤ 6 ∧ ∀ H', Same H H' → Q (.str (tx (mk g w))) H'
theorem tx_app (a b : List Nat) : tx a ++ tx b = tx (a ++ b) := TL.ext_tl (TL.tl_append _ _)
theorem tx_at {g : List Nat} {i c : Nat} (h : (tx g).cps[i]? = some c) : g[i]? = some c := by simpa using h
theorem tx_size (g : List Nat) : (tx g).cps.size = g.length := by simp
theorem in_ones (a : Nat) (u : List Nat) : inV (.str (one a)) (u.map fun c => V.str (one c)) = decide (a ∈ u) := by
  induction u with
  | nil => rfl
  | cons b u ih =>
    have e : eqV (.str (one b)) (.str (one a)) = decide (a = b) := by
      show (one b == one a) = _
      by_cases h : a = b
      · subst h; simp
      · rw [decide_eq_false h]
        refine beq_eq_false_iff_ne.mpr fun q => h ?_
        have := congrArg (fun s : Str => s.cps.toList) q
        simpa using this.symm
    show (eqV (.str (one b)) (.str (one a)) || inV (.str (one a)) (u.map fun c => V.str (one c))) = _
    rw [ih, e]
    by_cases h : a = b <;> simp [h]
theorem flat_ones (u : List Nat) : (u.map fun c => V.str (one c)).all flatV = true := by
  rw [List.all_map, List.all_eq_true]
  exact fun c _ => rfl
theorem ones_inj {a b : Nat} (h : one a = one b) : a = b := by
  have := congrArg (fun s : Str => s.cps.toList) h
  simpa using this
/-- the first place of a in u -/
theorem first_at {u : List Nat} {a : Nat} (h : a ∈ u) : ∃ j, u[j]? = some a ∧ (∀ m : Nat, m < j → u[m]? ≠ some a) ∧ u.eraseIdx j = u.erase a := by
  induction u with
  | nil => cases h
  | cons b u ih =>
    by_cases hb : b = a
    · subst hb
      exact ⟨0, rfl, fun m hm => by omega, by simp⟩
    · have h' : a ∈ u := by
        rcases List.mem_cons.mp h with q | q
        · exact absurd q.symm hb
        · exact q
      obtain ⟨j, h1, h2, h3⟩ := ih h'
      refine ⟨j + 1, by simpa using h1, fun m hm => ?_, ?_⟩
      · cases m with
        | zero => simpa using hb
        | succ m => simpa using h2 m (by omega)
      · rw [List.erase_cons_tail (by simpa using hb)]
        simp [h3]
end Gm

/-! can_come as lists of codes -/
namespace Gm
def lm (g t wd : List Nat) : List Nat := ((g.zip t).filter fun p => decide (p.2 ∈ wd)).map (·.1)
def ordB : List (Nat × Nat) → List Nat → Bool
  | [], _ => true
  | (a, m) :: r, u => if m = 49 ∧ a ∈ u then false else ordB r (if m = 48 then u ++ [a] else u)
def fillB : List Nat → List Nat → List Nat → Bool
  | [], o, _ => o.isEmpty
  | g :: gs, o, s => if gs.length + 1 < o.length then false else (o.any fun c => !decide (c = g) && fillB gs (o.erase c) s) || (s.any (fun c => !decide (c = g)) && fillB gs o s)
def spare (l used : List Nat) : List Nat := l.filter fun c => !decide (c ∈ used)
def comeB (l g t : List Nat) : Bool := ordB (g.zip t) [] && fillB (lm g t [48, 49]) (lm g t [49]) (spare l (lm g t [48]))
end Gm

namespace Gm
open PySem L2
abbrev sOver : Stmt := top 11
abbrev sChkW : Stmt := top 12
abbrev sChkM : Stmt := top 13
abbrev sChkB : Stmt := top 21
abbrev sLm : Stmt := top 24
abbrev sOrd : Stmt := top 25
def spOver (K : PySem.W.Frag) : Sp := fun vs H Q _ => ∃ (v : V) (ch : List Nat) (n : Int), vs = [v, .str (tx ch), .int n] ∧
  ((∃ s : List Nat, v = .str (tx s) ∧ s.length ≤ 1000 ∧ ∀ H', Same H H' → Q (.bl (decide ((s.length : Int) = n ∧ ∀ c ∈ s, c ∈ ch))) H') ∨ (∃ t, TyX K H v t ∧ PySem.W.kitOne K t (.type "str") = some false ∧ Q (.bl false) H))
/-- words of the board of l and n -/
def Wd (l : List Nat) (n : Int) (s : List Nat) : Prop := (s.length : Int) = n ∧ ∀ c ∈ s, c ∈ l
def Bd (C : Addr) (H : Hp) (p : Addr) (l : List Nat) (n : Int) : Prop := BoardAt C H p (tx l) n ∧ l.length ≤ 26 ∧ 1 ≤ n ∧ n ≤ 6
theorem Bd.same {C p : Addr} {H H' : Hp} {l : List Nat} {n : Int} (h : Bd C H p l n) (e : Same H H') : Bd C H' p l n := ⟨let ⟨dx, h⟩ := h.1; ⟨dx, e _ _ h⟩, h.2⟩
def spChkW (C : Addr) : Sp := fun vs H Q _ => ∃ (p : Addr) (l s : List Nat) (n : Int), vs = [.ref p, .str (tx s)] ∧ Bd C H p l n ∧ Wd l n s ∧ ∀ H', Same H H' → Q .non H'
def spChkM (C : Addr) : Sp := fun vs H Q _ => ∃ (p : Addr) (l s : List Nat) (n : Int), vs = [.ref p, .str (tx s)] ∧ Bd C H p l n ∧ Wd [48, 49, 50] n s ∧ ∀ H', Same H H' → Q .non H'
def spChkB (C : Addr) : Sp := fun vs H Q _ => ∃ (p : Addr) (l : List Nat) (n : Int), vs = [.ref p] ∧ Bd C H p l n ∧ Q .non H
def spMarks (C : Addr) : Sp := fun vs H Q _ => ∃ (p : Addr) (l g w : List Nat) (n : Int), vs = [.ref p, .str (tx g), .str (tx w)] ∧ Bd C H p l n ∧ Wd l n g ∧ Wd l n w ∧ ∀ H', Same H H' → Q (.str (tx (mk g w))) H'
def spLm : Sp := fun vs H Q _ => ∃ (g t wd : List Nat), vs = [.str (tx g), .str (tx t), .str (tx wd)] ∧ g.length = t.length ∧ g.length ≤ 6 ∧ ∀ H', Same H H' → Q (.str (tx (lm g t wd))) H'
def spOrd : Sp := fun vs H Q _ => ∃ (g t : List Nat), vs = [.str (tx g), .str (tx t)] ∧ g.length = t.length ∧ g.length ≤ 6 ∧ ∀ H', Same H H' → Q (.bl (ordB (g.zip t) [])) H'
theorem in_tx {c : Nat} {l : List Nat} : decide (c ∈ (tx l).cps.toList) = decide (c ∈ l) := by simp
section
variable {P : Program} {w : World} {K : PySem.W.Frag} {mg : Str → Option Value} {base : Heap}
abbrev nO : List Str := ["value", "characters", "length", "character"]
theorem scOv : FnScope nO ["value", "characters", "length"] (defScope sOver) := ⟨rfl, rfl, rfl, by decide +kernel, rfl, by decide +kernel, by decide +kernel⟩
theorem ok_over {f : Addr} {fd : FuncData} (F : Fun K "is_text_over" "is_text_over" sOver f fd) (T : TxW mg) (mall : mg "all" = none) : FnOk P w K mg base CX0 1 f fd ["value", "characters", "length"] (spOver K) := by
  refine F.ok scOv (fun vs H Q E h => ?_) (fun cdv A outer s H vs Q E hr h => ?_)
  · obtain ⟨v, ch, n, rfl, _⟩ := h
    rfl
  · obtain ⟨v, ch, n, rfl, h⟩ := h
    have nd := scOv.nd
    have hline : sizeLine = 16777216 := sizeLine_eq
    refine ⟨_, pss_cons (ps_if (PW.pt (pw_or (pt_not (pt_val (pe_callB call_isi (by rfl) T.isi (by decide +kernel) (pa_cons (pv 0) (pa_cons (pe_bltn (v := .ty "str") (by rfl) T.str (by decide +kernel) rfl) pa_nil)))))
        (pw_or1 (pt_cmpR op_ne (pe_callB call_len_str (by rfl) T.len PySem.boot_len (pa_cons (pv 0) pa_nil)) (pv 2) (nomark _)))))
        (pss_one (ps_ret pe_bl)) pss_nil)
      (pss_one (ps_ret (pe_callB (cr_all rfl) (by rfl) mall (by decide +kernel) (pa_cons
        (pe_lc (own := [("character", 3)]) (g := gName 3) (by rfl) nd (pi_str (pv 0)) (blkOk_by (own := [("character", 3)]) (N := nO) (sc := defScope sOver) (by decide +kernel))
          (fun _ _ _ _ _ => pg_name (i := 3) nd rfl (Or.inl rfl)) (fun _ _ _ _ _ => pts_nil) (fun _ _ _ _ _ => pe_cmpR op_in_sign (pv 3) (pv 1) rfl)) pa_nil)))), ?_⟩
    rcases h with ⟨z, rfl, hz, q⟩ | ⟨t, ty, no, q⟩
    · have zl : (tx z).length = z.length := tx_len z
      refine ⟨_, rfl, _, _, _, _, _, rfl, .ty "str", .base (.str _), kit_ty (r := true) (by decide +kernel), _, rfl, iteF ?_⟩
      refine ⟨_, rfl, _, rfl, by omega, _, rfl, rfl, _, rfl, ?_⟩
      have ei : decide (V.int ((tx z).length : Nat) = V.int n) = decide ((z.length : Int) = n) := decide_eq_decide.mpr ⟨fun e => by rw [← zl]; exact V.int.inj e, fun e => by rw [zl, e]⟩
      rw [ei]
      refine ite2 (fun h => ?_) (fun h => ?_)
      · have e : decide ((z.length : Int) = n ∧ ∀ c ∈ z, c ∈ ch) = false := decide_eq_false fun a => by rw [decide_eq_true a.1] at h; cases h
        rw [e] at q
        exact q _ (Same.refl H)
      · have hn : (z.length : Int) = n := by
          refine Decidable.byContradiction fun c => h ?_
          rw [decide_eq_false c]
          rfl
        refine ⟨_, rfl, tx z, rfl, fun D hD => ?_⟩
        refine lc_it (walk_str (z := tx z)) (fun i H' => Same H H' ∧ H' D = some (.lst (((z.take i).map fun c => decide (c ∈ ch)).map V.bl))) ⟨same_upd hD, upd_same⟩ (fun _ _ _ _ => trivial) ?_ ?_
        · rintro i x H1 H2 hi ⟨sm, hDi⟩ ⟨rfl, c, hc, rfl⟩
          have hc' := tx_at hc
          have hi' : i < z.length := (List.getElem?_eq_some_iff.mp hc').1
          refine ⟨rfl, ⟨_, rfl, _, rfl, c, tx ch, rfl, rfl, _, hDi, ?_, fun b o q => ?_, ?_⟩⟩
          · rw [List.length_map, List.length_map, List.length_take]
            omega
          · rw [upd_ne (ne_of_none q hD)]
            exact sm b o q
          · have e2 : z.take (i + 1) = z.take i ++ [c] := by rw [List.take_succ_eq_append_getElem hi', (List.getElem?_eq_some_iff.mp hc').2]
            rw [upd_same, e2, List.map_append, List.map_append, in_tx]
            rfl
        · rintro H1 ⟨sm, hD1⟩
          refine ⟨D, _, rfl, SqL.of hD1, ?_⟩
          have e : decide ((z.length : Int) = n ∧ ∀ c ∈ z, c ∈ ch) = ((z.take (tx z).cps.size).map fun c => decide (c ∈ ch)).all id := by
            rw [tx_size, List.take_length, List.all_map]
            have : (List.all z (id ∘ fun c => decide (c ∈ ch))) = decide (∀ c ∈ z, c ∈ ch) := by
              rw [Bool.eq_iff_iff, List.all_eq_true, decide_eq_true_iff]
              exact ⟨fun h c hc => of_decide_eq_true (h c hc), fun h c hc => decide_eq_true (h c hc)⟩
            rw [this]
            exact decide_eq_decide.mpr ⟨fun a => a.2, fun a => ⟨hn, a⟩⟩
          rw [e] at q
          exact q _ sm
    · exact ⟨_, rfl, _, _, _, _, _, rfl, .ty "str", ty, no, _, rfl, iteT q⟩
theorem scCW : FnScope ["board", "word"] ["board", "word"] (defScope sChkW) := ⟨rfl, rfl, rfl, by decide +kernel, rfl, by decide +kernel, by decide +kernel⟩
theorem ok_chkW {f C fO : Addr} {fd fdO : FuncData} (F : Fun K "check_word" "check_word" sChkW f fd) (TC : TxC K mg C) (GO : FnOk P w K mg base CX0 1 fO fdO ["value", "characters", "length"] (spOver K)) (DO : Df K mg "is_text_over" fO fdO ["value", "characters", "length"]) :
    FnOk P w K mg base CX0 2 f fd ["board", "word"] (spChkW C) := by
  refine F.ok scCW (fun vs H Q E h => ?_) (fun cdv A outer s H vs Q E hr h => ?_)
  · obtain ⟨p, l, s, n, rfl, _⟩ := h
    rfl
  · obtain ⟨p, l, z, n, rfl, ⟨⟨dx, hp⟩, l26, n1, n6⟩, hw, q⟩ := h
    refine ⟨_, pss_one (ps_if (pt_not (pt_val (pe_call GO hr (by rfl) DO.mg DO.kp DO.b .nil pass0 (pa_cons (pv 1) (pa_cons (pe_fld (pv 0) rfl) (pa_cons (pe_fld (pv 0) rfl) pa_nil)))))) (pss_one ps_never) pss_nil), ?_⟩
    refine ⟨_, rfl, _, rfl, p, C, dx, _, _, rfl, hp, TC.cl, TC.nL, bf_letters _ _, _, rfl, p, C, dx, _, _, rfl, hp, TC.cl, TC.nN, bf_length _ _, _, _, _, rfl, .inl ⟨z, rfl, by have := hw.1; omega, fun H1 s1 => ⟨_, rfl, ?_⟩⟩⟩
    rw [decide_eq_true (show (z.length : Int) = n ∧ ∀ c ∈ z, c ∈ l from hw)]
    exact iteF (q H1 s1)
theorem scCM : FnScope ["board", "told"] ["board", "told"] (defScope sChkM) := ⟨rfl, rfl, rfl, by decide +kernel, rfl, by decide +kernel, by decide +kernel⟩
theorem ok_chkM {f C fO : Addr} {fd fdO : FuncData} (F : Fun K "check_marks" "check_marks" sChkM f fd) (TC : TxC K mg C) (tM : ∃ t, mg "MARKS" = some (.str (tx [48, 49, 50]) t)) (GO : FnOk P w K mg base CX0 1 fO fdO ["value", "characters", "length"] (spOver K)) (DO : Df K mg "is_text_over" fO fdO ["value", "characters", "length"]) :
    FnOk P w K mg base CX0 2 f fd ["board", "told"] (spChkM C) := by
  refine F.ok scCM (fun vs H Q E h => ?_) (fun cdv A outer s H vs Q E hr h => ?_)
  · obtain ⟨p, l, s, n, rfl, _⟩ := h
    rfl
  · obtain ⟨p, l, z, n, rfl, ⟨⟨dx, hp⟩, l26, n1, n6⟩, hw, q⟩ := h
    obtain ⟨tm, mgM⟩ := tM
    refine ⟨_, pss_one (ps_if (pt_not (pt_val (pe_call GO hr (by rfl) DO.mg DO.kp DO.b .nil pass0 (pa_cons (pv 1) (pa_cons (pe_glob (v := .str (tx [48, 49, 50])) (by rfl) mgM ⟨_, rfl⟩) (pa_cons (pe_fld (pv 0) rfl) pa_nil)))))) (pss_one ps_never) pss_nil), ?_⟩
    refine ⟨_, rfl, _, rfl, p, C, dx, _, _, rfl, hp, TC.cl, TC.nN, bf_length _ _, _, _, _, rfl, .inl ⟨z, rfl, by have := hw.1; omega, fun H1 s1 => ⟨_, rfl, ?_⟩⟩⟩
    rw [decide_eq_true (show (z.length : Int) = n ∧ ∀ c ∈ z, c ∈ [48, 49, 50] from hw)]
    exact iteF (q H1 s1)
theorem scCB : FnScope ["board"] ["board"] (defScope sChkB) := ⟨rfl, rfl, rfl, by decide +kernel, rfl, by decide +kernel, by decide +kernel⟩
theorem ok_chkB {f C : Addr} {fd : FuncData} (F : Fun K "check_board" "check_board" sChkB f fd) (T : TxW mg) (TC : TxC K mg C) : FnOk P w K mg base CX0 1 f fd ["board"] (spChkB C) := by
  refine F.ok scCB (fun vs H Q E h => ?_) (fun cdv A outer s H vs Q E hr h => ?_)
  · obtain ⟨p, l, n, rfl, _⟩ := h
    rfl
  · obtain ⟨p, l, n, rfl, ⟨⟨dx, hp⟩, l26, n1, n6⟩, q⟩ := h
    refine ⟨_, pss_one (ps_if (pt_not (pt_val (pe_callB call_isi (by rfl) T.isi (by decide +kernel) (pa_cons (pv 0) (pa_cons (pe_glob (v := .ref C) (by rfl) TC.mgC rfl) pa_nil))))) (pss_one ps_never) pss_nil), ?_⟩
    exact ⟨_, rfl, _, _, _, _, _, rfl, .own C, ty_board TC hp, TC.own, _, rfl, iteF q⟩
end
end Gm

namespace Gm
open PySem L2
theorem sum_ones (cs : List Nat) : ((cs.map one).map (·.length)).sum = cs.length := sum_one cs
section
variable {P : Program} {w : World} {K : PySem.W.Frag} {mg : Str → Option Value} {base : Heap}
abbrev nLm : List Str := ["guess", "told", "wanted", "letter", "mark"]
theorem scLm : FnScope nLm ["guess", "told", "wanted"] (defScope sLm) := ⟨rfl, rfl, rfl, by decide +kernel, rfl, by decide +kernel, by decide +kernel⟩
theorem ok_lm {f : Addr} {fd : FuncData} (F : Fun K "letters_marked" "letters_marked" sLm f fd) (zip : mg "zip" = none) : FnOk P w K mg base CX0 1 f fd ["guess", "told", "wanted"] spLm := by
  refine F.ok scLm (fun vs H Q E h => ?_) (fun cdv A outer s H vs Q E hr h => ?_)
  · obtain ⟨g, t, wd, rfl, _⟩ := h
    rfl
  · obtain ⟨g, t, wd, rfl, hl, h6, q⟩ := h
    have nd := scLm.nd
    have hline : sizeLine = 16777216 := sizeLine_eq
    refine ⟨_, pss_one (ps_ret (pe_join pe_str (pe_lc (own := [("letter", 3), ("mark", 4)]) (g := gTup K 2 (gCons (gName 3) (gCons (gName 4) gNil))) (by rfl) nd
        (pi_zips (by rfl) zip (pa_cons (pv 0) (pa_cons (pv 1) pa_nil))) (blkOk_by (own := [("letter", 3), ("mark", 4)]) (N := nLm) (sc := defScope sLm) (by decide +kernel))
        (fun _ _ _ _ _ => by exact pg_tup (by rfl) (pgs_cons (pg_name (i := 3) nd rfl (Or.inl rfl)) (pgs_cons (pg_name (i := 4) nd rfl (Or.inl rfl)) pgs_nil)))
        (fun _ _ _ _ _ => pts_one (pt_cmpR op_in_sign (pv 4) (pv 2) rfl)) (fun _ _ _ _ _ => pv 3)))), ?_⟩
    have sz : (tx g).cps.size = (tx t).cps.size := by rw [tx_size, tx_size, hl]
    refine ⟨⟨_, rfl⟩, _, rfl, _, rfl, tx g, tx t, rfl, sz, fun D hD => ?_⟩
    refine lc_it (walk_zips sz) (fun i H' => Same H H' ∧ H' D = some (.lst (((((g.zip t).take i).filter fun p => decide (p.2 ∈ wd)).map (·.1)).map fun c => V.str (one c)))) ⟨same_upd hD, upd_same⟩ (fun _ _ _ _ => trivial) ?_ ?_
    · rintro i x H1 H2 hi ⟨sm, hDi⟩ ⟨T, c, e, rfl, hT, rfl, hx, hy⟩
      have hz := zip_at (tx_at hx) (tx_at hy)
      have nDT : D ≠ T := ne_of_none hDi hT
      have st := take_map_filter (fun p => decide (p.2 ∈ wd)) (fun p => p.1) hz
      have hD2 : upd H1 T (.tup [.str (one c), .str (one e)]) D = _ := (upd_ne nDT).trans hDi
      have sm2 : Same H (upd H1 T (.tup [.str (one c), .str (one e)])) := sm.trans (same_upd hT)
      refine ⟨T, _, rfl, SqT.of upd_same, rfl, _, _, rfl, _, _, rfl, rfl, rfl, ?_⟩
      refine ⟨_, rfl, _, rfl, e, tx wd, rfl, rfl, _, rfl, ?_⟩
      rw [in_tx]
      refine ite2 (fun hm => ?_) (fun hm => ?_)
      · rw [if_pos hm] at st
        refine ⟨_, rfl, _, hD2, ?_, fun b o q => ?_, ?_⟩
        · have h1 := List.length_filter_le (fun p : Nat × Nat => decide (p.2 ∈ wd)) ((g.zip t).take i)
          have h2 : ((g.zip t).take i).length ≤ 6 := by rw [List.length_take, List.length_zip]; omega
          rw [List.length_map, List.length_map]
          omega
        · rw [upd_ne (ne_of_none q hD)]
          exact sm2 b o q
        · rw [upd_same, st, List.map_append]
          rfl
      · rw [if_neg hm, List.append_nil] at st
        exact ⟨sm2, by rw [st]; exact hD2⟩
    rintro H1 ⟨sm, hD1⟩
    rw [tx_size, List.take_of_length_le (by rw [List.length_zip]; omega)] at hD1
    refine ⟨_, D, (lm g t wd).map one, rfl, rfl, .inl (SqL.of (by rw [List.map_map]; exact hD1)), ?_, ?_⟩
    · have h1 := List.length_filter_le (fun p : Nat × Nat => decide (p.2 ∈ wd)) (g.zip t)
      have h2 : (g.zip t).length ≤ 6 := by rw [List.length_zip]; omega
      have h3 : (lm g t wd).length ≤ 6 := by unfold lm; rw [List.length_map]; omega
      rw [sum_one, List.length_map]
      show (lm g t wd).length + (lm g t wd).length * 0 ≤ 16777216
      omega
    · show Q (.str (Txt.join (Str.ofString "") ((lm g t wd).map one))) H1
      rw [join_one]
      exact q H1 sm
abbrev nOr : List Str := ["guess", "told", "used_up", "letter", "mark"]
theorem scOr : FnScope nOr ["guess", "told"] (defScope sOrd) := ⟨rfl, rfl, rfl, by decide +kernel, rfl, by decide +kernel, by decide +kernel⟩
theorem ok_ord {f : Addr} {fd : FuncData} (F : Fun K "is_in_order" "is_in_order" sOrd f fd) (zip : mg "zip" = none) : FnOk P w K mg base CX0 1 f fd ["guess", "told"] spOrd := by
  refine F.ok scOr (fun vs H Q E h => ?_) (fun cdv A outer s H vs Q E hr h => ?_)
  · obtain ⟨g, t, rfl, _⟩ := h
    rfl
  · obtain ⟨g, t, rfl, hl, h6, q⟩ := h
    have nd := scOr.nd
    have hline : sizeLine = 16777216 := sizeLine_eq
    refine ⟨_, pss_cons (ps_set (i := 2) nd rfl (Or.inl rfl) pe_str)
      (pss_cons (ps_for PassesOwn.never rfl (pi_zips (by rfl) zip (pa_cons (pv 0) (pa_cons (pv 1) pa_nil))) (pg_tup (by rfl) (pgs_cons (pg_name (i := 3) nd rfl (Or.inl rfl)) (pgs_cons (pg_name (i := 4) nd rfl (Or.inl rfl)) pgs_nil)))
        (pss_cons (ps_if (PW.pt (pw_and (pt_cmpR op_eq (pv 4) pe_str (nomark _)) (pw_and1 (pt_cmpR op_in_sign (pv 3) (pv 2) rfl)))) (pss_one (ps_ret pe_bl)) pss_nil)
        (pss_one (ps_if (pt_cmpR op_eq (pv 4) pe_str (nomark _)) (pss_one (ps_aug (i := 2) nd rfl (Or.inl rfl) (pv 3) iop_add_str)) pss_nil))))
      (pss_one (ps_ret pe_bl))), ?_⟩
    have sz : (tx g).cps.size = (tx t).cps.size := by rw [tx_size, tx_size, hl]
    refine ⟨_, rfl, _, rfl, tx g, tx t, rfl, sz, for_it (walk_zips sz) (fun i σ H' => ∃ (u : List Nat) (v3 v4 : Option V), σ = [some (.str (tx g)), some (.str (tx t)), some (.str (tx u)), v3, v4] ∧ Same H H' ∧
      ordB ((g.zip t).drop i) u = ordB (g.zip t) [] ∧ u.length ≤ i) ⟨[], _, _, rfl, Same.refl H, rfl, Nat.le_refl _⟩ (fun _ _ _ _ _ => trivial) ?_ ?_⟩
    · rintro i x σ H2 H3 hi ⟨u, v3, v4, rfl, sm2, ho, hu⟩ ⟨T, c, e, rfl, hT, rfl, hx, hy⟩
      have hz := zip_at (tx_at hx) (tx_at hy)
      rw [drop_at hz, ordB] at ho
      have sm3 : Same H (upd H2 T (.tup [.str (one c), .str (one e)])) := sm2.trans (same_upd hT)
      have hi6 : i < g.length := by rw [tx_size] at hi; exact hi
      have e49 : decide (V.str (one e) = V.str (Str.ofString "1")) = decide (e = 49) := decide_eq_decide.mpr ⟨fun q => ones_inj (V.str.inj q), fun q => by rw [q]; rfl⟩
      have e48 : decide (V.str (one e) = V.str (Str.ofString "0")) = decide (e = 48) := decide_eq_decide.mpr ⟨fun q => ones_inj (V.str.inj q), fun q => by rw [q]; rfl⟩
      refine ⟨T, _, rfl, SqT.of upd_same, rfl, _, _, rfl, _, _, rfl, rfl, ?_⟩
      have rest : ¬ (e = 49 ∧ c ∈ u) → (tTest (tOp rEq (tVar 4) (tC (.str (Str.ofString "0")))) [some (.str (tx g)), some (.str (tx t)), some (.str (tx u)), some (.str (one c)), some (.str (one e))] (upd H2 T (.tup [.str (one c), .str (one e)])) fun b H4 =>
          if b = true then (tAug 2 (tVar 3) fun x y H Q => ∃ i j, x = V.str i ∧ y = V.str j ∧ i.length + j.length ≤ sizeLine ∧ Q (V.str (i ++ j)) H)
            { nx := fun σ H' => ∃ (u : List Nat) (v3 v4 : Option V), σ = [some (.str (tx g)), some (.str (tx t)), some (.str (tx u)), v3, v4] ∧ Same H H' ∧ ordB ((g.zip t).drop (i + 1)) u = ordB (g.zip t) [] ∧ u.length ≤ i + 1, rt := Q }
            [some (.str (tx g)), some (.str (tx t)), some (.str (tx u)), some (.str (one c)), some (.str (one e))] H4
          else ∃ (u' : List Nat) (v3 v4 : Option V), ([some (.str (tx g)), some (.str (tx t)), some (.str (tx u)), some (.str (one c)), some (.str (one e))] : St) = [some (.str (tx g)), some (.str (tx t)), some (.str (tx u')), v3, v4] ∧ Same H H4 ∧ ordB ((g.zip t).drop (i + 1)) u' = ordB (g.zip t) [] ∧ u'.length ≤ i + 1) := fun hno => by
        rw [if_neg hno] at ho
        refine ⟨_, rfl, rfl, _, rfl, ?_⟩
        rw [e48]
        refine ite2 (fun h => ?_) (fun h => ?_)
        · rw [if_pos (of_decide_eq_true h)] at ho
          refine ⟨_, rfl, _, rfl, _, _, rfl, rfl, ?_, u ++ [c], some (.str (one c)), some (.str (one e)), ?_, sm3, ho, ?_⟩
          · rw [tx_len]
            show u.length + 1 ≤ sizeLine
            omega
          · rw [← tx_app]
            rfl
          · rw [List.length_append]
            show u.length + 1 ≤ i + 1
            omega
        · rw [if_neg (fun q => h (decide_eq_true q))] at ho
          exact ⟨u, _, _, rfl, sm3, ho, by omega⟩
      refine ⟨_, rfl, rfl, _, rfl, ?_⟩
      rw [e49]
      refine ite2 (fun h => ?_) (fun h => ?_)
      · refine ⟨_, rfl, _, rfl, c, tx u, rfl, rfl, _, rfl, ?_⟩
        rw [in_tx]
        refine ite2 (fun hc => ?_) (fun hc => ?_)
        · rw [if_pos ⟨of_decide_eq_true h, of_decide_eq_true hc⟩] at ho
          rw [← ho] at q
          exact q _ sm3
        · exact rest fun a => hc (decide_eq_true a.2)
      · exact rest fun a => h (decide_eq_true a.1)
    · rintro σ H2 ⟨u, v3, v4, rfl, sm2, ho, hu⟩
      rw [tx_size, List.drop_of_length_le (by rw [List.length_zip]; omega), ordB] at ho
      rw [← ho] at q
      exact q H2 sm2
end
end Gm

namespace Gm
open PySem PySem.Builtin PySem.Builtin.Str L2
theorem sub_at {o : List Nat} {c i : Nat} : StrLaws.At (tx o) (one c) (tx o).length i ↔ o[i]? = some c := by
  have l1 : (one c).length = 1 := rfl
  have ln : (tx o).length = o.length := tx_len o
  have key : ∀ h : i < o.length, subAt (tx o) (one c) i = true ↔ o[i] = c := fun h => by
    show (((tx o).cps.extract i (i + 1)) == #[c]) = true ↔ _
    have e : (tx o).cps.extract i (i + 1) = #[o[i]] := by
      apply Array.toList_inj.mp
      simp only [List.extract_toArray, List.extract_eq_drop_take]
      rw [show i + 1 - i = 1 by omega, List.drop_eq_getElem_cons h]
      rfl
    rw [e]
    simp
  constructor
  · rintro ⟨h1, h2⟩
    have h : i < o.length := by omega
    rw [List.getElem?_eq_getElem h, (key h).mp h2]
  · intro h
    obtain ⟨h1, h2⟩ := List.getElem?_eq_some_iff.mp h
    exact ⟨by omega, (key h1).mpr h2⟩
theorem first_same {o : List Nat} {c i j : Nat} (hi : o[i]? = some c) (hi' : ∀ m, m < i → o[m]? ≠ some c) (hj : o[j]? = some c) (hj' : ∀ m, m < j → o[m]? ≠ some c) : i = j := by
  rcases Nat.lt_trichotomy i j with h | h | h
  · exact absurd hi (hj' i h)
  · exact h
  · exact absurd hj (hi' j h)
theorem occ_one {o : List Nat} {c : Nat} (h : c ∈ o) : ∃ i, occurrences (tx o) (one c) 0 (tx o).length 1 = [i] ∧ i < o.length ∧ o.eraseIdx i = o.erase c := by
  obtain ⟨j, j1, j2, j3⟩ := first_at h
  rcases StrLaws.occ_head (tx o) (one c) 1 (Nat.le_refl _) with ⟨_, hn⟩ | ⟨i, r, e, hi, hno⟩
  · exact absurd (sub_at.mpr j1) (hn j)
  · have hl := StrLaws.occ_length_le (tx o) (one c) 0 (tx o).length 1
    rw [e] at hl
    have er : r = [] := by
      cases r with
      | nil => rfl
      | cons a r => simp at hl
    subst er
    have ei : i = j := first_same (sub_at.mp hi) (fun m hm q => hno m hm (sub_at.mpr q)) j1 j2
    subst ei
    exact ⟨i, e, (List.getElem?_eq_some_iff.mp j1).1, j3⟩
theorem glue_one {o : List Nat} {c i : Nat} (hi : i < o.length) : glued (tx []) (partsBetween (tx o) [i] (one c).length) = tx (o.eraseIdx i) := by
  apply TL.ext_tl
  show (((tx o).cps.extract 0 i) ++ (tx []).cps ++ ((tx o).cps.extract (i + 1) (tx o).length)).toList = _
  rw [tx_len]
  simp only [Array.toList_append, List.extract_toArray, List.extract_eq_drop_take, List.append_nil, List.drop_zero, Nat.sub_zero]
  rw [List.eraseIdx_eq_take_drop_succ]
  show o.take i ++ (o.drop (i + 1)).take (o.length - (i + 1)) = o.take i ++ o.drop (i + 1)
  exact congrArg (o.take i ++ ·) (List.take_of_length_le (by rw [List.length_drop]; exact Nat.le_refl _))
section
variable {prog : Program} {w : World} {A : Around} {E : Value → Shared → Prop} {s : Shared} {o : List Nat} {c : Nat} {t u v a : Tok} {Q : Value → Shared → Prop}
theorem replace_one (h : c ∈ o) (hl : o.length ≤ 1000) (hu : u ≠ 0) (hv : v ≠ 0) (huv : u ≠ v) (hq : ∀ t' k, Q (.str (tx (o.erase c)) t') { s with toks := k }) :
    wpAny (model prog w) A (call (.builtin "str.replace") [.str (tx o) t, .str (one c) u, .str (tx []) v, .int 1 a]) Q E s := by
  obtain ⟨i, e, hi, ee⟩ := occ_one h
  have hline : sizeLine = 16777216 := sizeLine_eq
  have ln : (tx o).length = o.length := tx_len o
  have gv : Gives («str.replace» ⟨[.str (tx o) t, .str (one c) u, .str (tx []) v, .int 1 a], []⟩) (.str (tx (o.erase c))) := by
    show Gives (if ((occurrences (tx o) (one c) 0 (tx o).length 1).isEmpty || ((one c).length == 0 && (tx []).length == 0)) = true then (do rule "str.replace.nothing"; ret (.str (tx o) t)) else
          (do let same ← isSame (.str (one c) u) (.str (tx []) v)
              if same = true then (do rule "str.replace.old-is-new"; ret (.str (tx o) t)) else
              if tooLong ((tx o).length + (occurrences (tx o) (one c) 0 (tx o).length 1).length * (tx []).length) = true then unsupported "str.replace:memory" else
              retStr (glued (tx []) (partsBetween (tx o) (occurrences (tx o) (one c) 0 (tx o).length 1) (one c).length)))) _
    rw [e, glue_one hi, ee]
    have h0 : (u == 0 || v == 0) = false := by simp [hu, hv]
    have h1 : (u == v) = false := by simp [huv]
    have h2 : (one c == tx []) = false := by
      refine beq_eq_false_iff_ne.mpr fun q => ?_
      have := congrArg (fun s : Str => s.length) q
      simp [Str.length] at this
    have h3 : tooLong ((tx o).length + [i].length * (tx []).length) = false := by
      unfold tooLong
      refine decide_eq_false ?_
      show ¬ ((tx o).length + 1 * 0 > sizeLine)
      omega
    rw [isSame_str_other (one c) (tx []) u v h0 h1 h2, h3]
    exact .of_eq rfl
  refine call_gives F.slot_str_replace (typeIs_str _ _ _) F.entry_str_replace (F.args_str_replace_4 _ _ _ _) gv ?_
  have le : (o.erase c).length ≤ 1000 := Nat.le_trans (List.length_erase_le) hl
  exact ⟨by rw [tx_len]; omega, hq _ _⟩
end
end Gm

/-! a loop over the signs of a text whose turn is told which token the sign bears -/
namespace L2
open PySem PySem.Spec PyProof.Rows
section
variable {X : Cx} {pins : List (Addr × Obj)} {σ : St} {H : Hp} {s : Shared}
/-- the local x holds the value u, as the machine has it -/
def Raw (X : Cx) (s : Shared) (x : Str) (u : Value) : Prop := ∃ m, s.heap.Ns X.env.locals m ∧ m x = some u
theorem raw_ld {M : Model} {A : Around} {E : Value → Shared → Prop} {x : Str} {u : Value} {pos : Pos} {Q : Value → Shared → Prop} (ok : X.env.scope.kind = .function) (hk : X.env.kindOf x = some .local) (r : Raw X s x u) (q : Q u s)
    (hd : (x == ("__debug__" : Str)) = false := by decide) : wpAny M A (eval (.Name x pos) X.env) Q E s := let ⟨_, hn, hm⟩ := r
  wpAny_Name (wpAny_loadName_local ok hk hn hm q) hd
theorem var_ld {M : Model} {A : Around} {E : Value → Shared → Prop} {i : Nat} {x : Str} {v : V} {pos : Pos} {Q : Value → Shared → Prop} (I : Inv X pins σ H s) (hN : X.N[i]? = some x) (e : σ[i]? = some (some v)) (hv : Vis X.env.scope x) (q : ∀ u, RelV v u → Q u s)
    (hd : (x == ("__debug__" : Str)) = false := by decide) (hcd : (x == ("__classdict__" : Str)) = false := by decide) : wpAny M A (eval (.Name x pos) X.env) Q E s := by
  obtain ⟨m, hn, hl⟩ := I.loc
  obtain ⟨u, r, ⟨hk, hm⟩ | ⟨hk | hk, c, hc, hcell⟩⟩ := hl i x v hN e hv
  · exact wpAny_Name (wpAny_loadName_local I.ok.kind hk hn hm (q u r)) hd
  · exact wpAny_Name (wpAny_loadName_cell I.ok.kind hk hc hcell (q u r)) hd
  · exact wpAny_Name (wpAny_loadName_free I.ok.kind hk hc hcell (q u r) hcd) hd
theorem raw_set {M : Model} {A : Around} {E : Value → Shared → Prop} {i : Nat} {x : Str} {v : V} {u : Value} {Q : Unit → Shared → Prop} (I : Inv X pins σ H s) (hN : X.N.Nodup) (hi : X.N[i]? = some x) (hk : X.env.kindOf x = some .local) (r : RelV v u)
    (h : ∀ s', Inv X pins (σ.set i (some v)) H s' → Raw X s' x u → s'.toks = s.toks + 1 → Q () s') : wpAny M A (storeName X.env x u) Q E s := by
  obtain ⟨m, hn, hl⟩ := id I.loc
  have hiσ : i < σ.length := I.len ▸ (List.getElem?_eq_some_iff.mp hi).1
  refine wpAny_storeName_local hk hn (fun g hg sb => ?_) (by rw [I.ok.kind]; rfl)
  obtain ⟨oL, _, _, hoL, _⟩ := id hn
  have old : ∀ b o, X.s_0.heap.get? b = some o → g.get? b = s.heap.get? b := fun b o e => sb.2 b (Nat.ne_of_lt (Nat.lt_of_lt_of_le (Heap.lt_size e) I.ok.above))
  have nL : ∀ {b ob}, H b = some ob → b ≠ X.env.locals := fun e q => by
    rw [q, I.free] at e
    cases e
  have tr : HOk X.prog X.w H g := fun b ob e => (I.hok b ob e).stay (fun c w' hc q => (sb.2 c (by
    rcases hc with rfl | hc
    · exact nL e
    · exact nL hc)).trans q) (fun _ q => q) fun _ _ q => q
  have J : Inv X pins (σ.set i (some v)) H { s with heap := g, toks := s.toks + 1 } := {
    ok := I.ok
    os := I.os
    bare := I.bare
    base := ⟨fun b o e n hb hx => (old b o e).trans (I.base.keep b o e n hb hx), fun b o e n hb hx => let ⟨sl, e1⟩ := I.base.slot b o e n hb hx; ⟨sl, (old b o e).trans e1⟩, I.base.free,
      fun b o e hx => let ⟨o', e1⟩ := I.base.there b o e hx; ⟨o', (old b o e).trans e1⟩, I.base.tups, I.base.frzs, I.base.tbls⟩
    loc := ⟨_, hg, fun j y v' e1 e2 e3 => by
      rcases Nat.decEq j i with hj | rfl
      · rw [List.getElem?_set_ne (Ne.symm hj)] at e2
        obtain ⟨u', r', q⟩ := hl j y v' e1 e2 e3
        have ny : y ≠ x := fun e => hj (nodup_ix hN e1 (e ▸ hi))
        exact ⟨u', r', q.elim (fun q => .inl ⟨q.1, by simp [ny, q.2]⟩) fun ⟨k, c, e, z⟩ => .inr ⟨k, c, e, z.sameBut sb (I.cne y c e)⟩⟩
      · cases hi.symm.trans e1
        rw [List.getElem?_set_self hiσ] at e2
        cases e2
        exact ⟨u, r, .inl ⟨hk, by simp⟩⟩⟩
    cell := fun y c e => let ⟨w', z⟩ := I.cell y c e; ⟨w', z.sameBut sb (I.cne y c e)⟩
    free := I.free
    freeC := I.freeC
    pin := fun p hp => let ⟨e, n, ne, nf, d⟩ := I.pin p hp; ⟨(sb.2 p.1 ne).trans e, n, ne, nf, d⟩
    hok := tr
    len := by simpa using I.len }
  exact h _ J ⟨_, hg, by simp⟩ rfl
/-- one turn of a loop over a text: the sign c stands in slot i, its token t is younger than the state -/
def TurnT (X : Cx) (i : Nat) (x : Str) (body : List Stmt) (tb : Nat → TS) : Prop :=
  ∀ (pins : List (Addr × Obj)) (s : Shared) (σ : St) (H : Hp) (D : Ends) (c : Nat) (t : Tok), Inv X pins (σ.set i (some (.str ⟨#[c]⟩))) H s → Raw X s x (.str ⟨#[c]⟩ t) → 1 ≤ t → t < s.toks → tb c D (σ.set i (some (.str ⟨#[c]⟩))) H →
    wpAny (model X.prog X.w) X.A (execs body X.env) (SP X pins D) X.xe s
def tForT (z : TE) (i : Nat) (tb : Nat → TS) : TS := fun D σ H => z σ H fun v H1 => ∃ y, v = .str y ∧ ∃ Pv : Nat → St → Hp → Prop, Pv 0 σ H1 ∧
  (∀ k c σ H, y.cps[k]? = some c → Pv k σ H → tb c { D with nx := Pv (k + 1), ct := Pv (k + 1), bk := D.nx } (σ.set i (some (.str ⟨#[c]⟩))) H) ∧ ∀ σ H, Pv y.cps.size σ H → D.nx σ H
theorem pst_forT {i : Nat} {x : Str} {px pos : Pos} {iter : Expr} {body : List Stmt} {z : TE} {tb : Nat → TS} (hp : PassesOwn (model X.prog X.w) X.A X.env X.xe) (hc : X.calm = true) (hz : PE X iter z) (hN : X.N.Nodup) (hi : X.N[i]? = some x) (hk : X.env.kindOf x = some .local)
    (hb : TurnT X i x body tb) (hs : ∀ x, foldedSetIterable iter X.env x = pure x := by intro _; rfl) : PST X (.For (.Name x px) iter body [] pos) (tForT z i tb) := by
  intro pins s σ H D h0 I h
  refine wpAny_For (thn (PySem.wpAny_toks (hz.run pins s σ H _ I h) |> fun q => wpAny_mono q (fun _ _ x => x) fun _ _ x => x.2) fun v s1 h1 => ?_) hs
  obtain ⟨k1, v', H1, I1, r1, y, rfl, Pv, p0, step, fin⟩ := h1
  obtain ⟨ty, rfl⟩ := r1
  have one : 1 ≤ s1.toks := Nat.le_trans h0 k1
  have go : ∀ (T : String) (hT : T = "str_ascii_iterator" ∨ T = "str_iterator"), codeAny (model X.prog X.w) X.A (.forLoop (.Name x px) (.ref s1.heap.objs.size) body [] X.env) (fun r s' => match r with | .ok f => SP X pins D f s' | .error e => cameBackBy (model X.prog X.w) X.A X.env X.xe e s')
      { s1 with heap := s1.heap.push { cls := .type T, data := .fields #[.str y ty, .int 0 0] } } := by
    intro T hT
    have I2 : Inv X pins σ H1 { s1 with heap := s1.heap.push { cls := .type T, data := .fields #[.str y ty, .int 0 0] } } := I1.kept (t' := s1.toks) fun b o e => Heap.get?_push_of_some _ e
    have fp : FpOk X pins H1 s1.heap.objs.size := I1.fpOk (Nat.le_refl _) (I1.hok.fresh (Nat.le_refl _))
    have no : ["enumerate", "zip", "dict_itemiterator", "dict_reverseitemiterator", "odict_iterator", "itertools.zip_longest", "itertools.pairwise"].contains T = false := by rcases hT with rfl | rfl <;> decide
    refine codeAny_forLoop_any (fun n s' => ∃ k σ' H', n = y.cps.size - k ∧ k ≤ y.cps.size ∧ 1 ≤ s'.toks ∧ Inv X pins σ' H' s' ∧ s'.heap.IsStrIter s1.heap.objs.size T y ty k ∧ H' s1.heap.objs.size = none ∧ Pv k σ' H') ?_ _
      ⟨0, σ, H1, rfl, Nat.zero_le _, one, I2, ⟨_, Heap.get?_push_size _ (by rcases hT with rfl | rfl <;> rfl), rfl, rfl⟩, fp.1, p0⟩
    rintro n s3 ⟨k, σ3, H3, rfl, hk3, o3, I3, it3, f3, p3⟩
    have fp3 : FpOk X pins H3 s1.heap.objs.size := ⟨f3, fp.2⟩
    rcases Nat.lt_or_ge k y.cps.size with hlt | hge
    · have hcx : y.cps[k]? = some y.cps[k] := by simp [hlt]
      have item : ∀ g, g.IsStrIter s1.heap.objs.size T y ty (k + 1) → Heap.SameBut s1.heap.objs.size s3.heap g → wpAny (model X.prog X.w) X.A (letOwnedTupleGo (.Name x px) (.ref s1.heap.objs.size) (.str ⟨#[y.cps[k]]⟩ s3.toks)) (fun _ s₁' =>
          wpAny (model X.prog X.w) X.A (assign (.Name x px) X.env (.str ⟨#[y.cps[k]]⟩ s3.toks)) (fun _ s₂ => wpAny (model X.prog X.w) X.A (execs body X.env) (fun f s₃ => match f with
            | .next | .cont => ∃ m, m < y.cps.size - k ∧ ∃ k σ' H', m = y.cps.size - k ∧ k ≤ y.cps.size ∧ 1 ≤ s₃.toks ∧ Inv X pins σ' H' s₃ ∧ s₃.heap.IsStrIter s1.heap.objs.size T y ty k ∧ H' s1.heap.objs.size = none ∧ Pv k σ' H'
            | .brk => SP X pins D .next s₃
            | .ret v => SP X pins D (.ret v) s₃) X.xe s₂) X.xe s₁') X.xe { s3 with heap := g, toks := s3.toks + 1 } := by
        intro g itg sb
        obtain ⟨og, eg, cg, dg⟩ := id itg
        have I4 : Inv X pins σ3 H3 { s3 with heap := g, toks := s3.toks + 1 } := I3.turned (fun b o hb e => (sb.2 b hb).trans e) fp3.1 fp3.2.1 fp3.2.2.2.1 fp3.2.2.2.2.1 fp3.2.2.2.2.2
        refine go_of (s := { s3 with heap := g, toks := s3.toks + 1 }) eg cg dg no ?_
        have I5 := I4.pinned (fp := [s1.heap.objs.size]) (fun b hb => by rw [List.mem_singleton.mp hb]; exact fp3) (fun b hb => by rw [List.mem_singleton.mp hb]; exact ⟨og, eg, fun v q => by rw [dg] at q; cases q⟩)
        refine wpAny_assign_Name (raw_set (v := .str ⟨#[y.cps[k]]⟩) I5 hN hi hk ⟨_, rfl⟩ fun s6 I6 R6 t6 => ?_)
        have t6 : s6.toks = s3.toks + 2 := t6
        refine thn (PySem.wpAny_toks (hb _ s6 σ3 H3 _ _ s3.toks I6 R6 o3 (by rw [t6]; exact Nat.lt_add_of_pos_right (by decide)) (step k _ σ3 H3 hcx p3)) |> fun q => wpAny_mono q (fun _ _ x => x) fun _ _ x => x.2) fun f s7 q7 => ?_
        obtain ⟨k7, q7⟩ := q7
        have again : ∀ {σ7 : St} {H7 : Hp}, Inv X (pins ++ pinsAt [s1.heap.objs.size] g) σ7 H7 s7 → Pv (k + 1) σ7 H7 → ∃ m, m < y.cps.size - k ∧ ∃ k σ' H', m = y.cps.size - k ∧ k ≤ y.cps.size ∧ 1 ≤ s7.toks ∧ Inv X pins σ' H' s7 ∧ s7.heap.IsStrIter s1.heap.objs.size T y ty k ∧ H' s1.heap.objs.size = none ∧ Pv k σ' H' := fun {σ7 H7} I7 p7 => by
          obtain ⟨e7, n7, _⟩ := I7.pin (s1.heap.objs.size, og) (List.mem_append_right _ (List.mem_append_right _ (mem_pinsAt (List.mem_singleton.mpr rfl) eg)))
          exact ⟨y.cps.size - (k + 1), by omega, k + 1, σ7, H7, rfl, hlt, by omega, I7.unpinned, ⟨og, e7, cg, dg⟩, n7, p7⟩
        cases f with
        | next => obtain ⟨σ7, H7, I7, p7⟩ := q7; exact again I7 p7
        | cont => obtain ⟨σ7, H7, I7, p7⟩ := q7; exact again I7 p7
        | brk => obtain ⟨σ7, H7, I7, p7⟩ := q7; exact ⟨σ7, H7, I7.unpinned, p7⟩
        | ret v => obtain ⟨x7, σ7, H7, I7, r7, p7⟩ := q7; exact ⟨x7, σ7, H7, I7.unpinned, r7, p7⟩
      have all : wpAny (model X.prog X.w) X.A (pyNext (.ref s1.heap.objs.size)) (fun r s₁ => r = some (.str ⟨#[y.cps[k]]⟩ s3.toks) ∧ ∃ g, s₁ = { s3 with heap := g, toks := s3.toks + 1 } ∧ g.IsStrIter s1.heap.objs.size T y ty (k + 1) ∧ Heap.SameBut s1.heap.objs.size s3.heap g) X.xe s3 := by
        rcases hT with rfl | rfl
        · exact wpAny_pyNext_ascii_item it3 hcx fun g itg sb => ⟨rfl, g, rfl, itg, sb⟩
        · exact wpAny_pyNext_wide_item it3 hcx fun g itg sb => ⟨rfl, g, rfl, itg, sb⟩
      refine wpAny_passesOwn hp (thn all fun r s4 hr => ?_)
      obtain ⟨rfl, g, rfl, itg, sb⟩ := hr
      have q := item g itg sb
      refine wpAny_passesOwn hp (thn q fun _ s5 q5 => ?_)
      exact wpAny_passesOwn hp (thn q5 fun _ s6 q6 => wpAny_passesOwn hp q6)
    · have ek : k = y.cps.size := by omega
      subst ek
      have hx : y.cps[y.cps.size]? = none := by simp
      have done : wpAny (model X.prog X.w) X.A (pyNext (.ref s1.heap.objs.size)) (fun r s₁ => r = none ∧ Inv X pins σ3 H3 s₁) X.xe s3 := by
        rcases hT with rfl | rfl
        · exact wpAny_pyNext_ascii_end (I3.ok.hd hc) it3 hx fun g eb => ⟨rfl, I3.turned (t' := s3.toks) (fun b o hb e => eb b o hb e) fp3.1 fp3.2.1 fp3.2.2.2.1 fp3.2.2.2.2.1 fp3.2.2.2.2.2⟩
        · exact wpAny_pyNext_wide_end (I3.ok.hd hc) it3 hx fun g eb => ⟨rfl, I3.turned (t' := s3.toks) (fun b o hb e => eb b o hb e) fp3.1 fp3.2.1 fp3.2.2.2.1 fp3.2.2.2.2.1 fp3.2.2.2.2.2⟩
      refine wpAny_passesOwn hp (thn done fun r s4 hr => ?_)
      obtain ⟨rfl, I4⟩ := hr
      exact wpAny_execs_nil ⟨σ3, H3, I4, fin σ3 H3 p3⟩
  cases ha : y.cps.all (· < 128)
  · exact wpAny_pyIter_wide ha (go _ (.inr rfl))
  · exact wpAny_pyIter_ascii ha (go _ (.inl rfl))
end
end L2

namespace Gm
open PySem L2 PyProof.Rows
abbrev sFill : Stmt := top 26
/-- what is left to ask, behind can_fill of the rest, for the sign c -/
def tbFill (sp : Sp) (E : XK) (c : Nat) : TS := fun D σ H => ∃ (o : List Nat) (g : Nat) (oth spv : V), σ[1]? = some (some (.str (tx o))) ∧ σ[3]? = some (some (.str (one g))) ∧ σ[4]? = some (some oth) ∧ σ[2]? = some (some spv) ∧ c ∈ o ∧ o.length ≤ 1000 ∧
  (if c = g then D.nx σ H else sp [oth, .str (tx (o.erase c)), spv] H (fun v H' => ∃ b, v = .bl b ∧ (if b = true then D.rt (.bl true) H' else D.nx σ H')) E)
section
variable {X : Cx} {CX : CXT} {k : Nat} {f : Addr} {fd : FuncData} {ps : List Str} {sp : Sp} {E : XK}
theorem turn_fill {a1 a2 a3 b1 b2 b3 b4 b5 b6 b7 b8 b9 b10 c1 c2 d1 d2 : Pos} {j1 j2 j3 : Nat} (F : FnOk X.prog X.w X.K X.mg X.base CX k f fd ps sp) (hr : Room k X.A) (hg : Gl X "can_fill") (hm : X.mg "can_fill" = some (.ref f)) (hk : PySem.W.keepIn X.K (.ref f) = true) (hb : Binds X.K fd ps []) (hx : Passes CX X E)
    (n1 : X.N[1]? = some ("owed" : Str)) (n2 : X.N[2]? = some ("spare" : Str)) (n3 : X.N[3]? = some ("guessed" : Str)) (n4 : X.N[4]? = some ("others" : Str))
    (v1 : Vis X.env.scope "owed") (v2 : Vis X.env.scope "spare") (v3 : Vis X.env.scope "guessed") (v4 : Vis X.env.scope "others") (kl : X.env.kindOf "letter" = some .local) (hbase : attributeBase (.Name "owed" b3) "replace" X.env (eval (.Name "owed" b3) X.env) = eval (.Name "owed" b3) X.env)
    (hline : (b4.endLine == b8.line) = true) :
    TurnT X 5 "letter" [.If (.BoolOp .And [.Compare (.Name "letter" a1) [.NotEq] [.Name "guessed" a2] a3, .Call (.Name "can_fill" b1) [.Name "others" b2, .Call (.Attribute (.Name "owed" b3) "replace" b4) [.Name "letter" b5, .Constant (.str "") j1 b6, .Constant (.int 1) j2 b7] [] b8, .Name "spare" b9] [] b10] c1)
      [.Return (some (.Constant (.bool true) j3 d1)) d2] [] c2] (tbFill sp E) := by
  intro pins s σ H D c t I R t1 t2 h
  generalize hσ : σ.set 5 (some (.str ⟨#[c]⟩)) = σ' at I h
  obtain ⟨o, g, oth, spv, e1, e3, e4, e2, hc, ho, h⟩ := h
  have ok := I.ok.kind
  have nx : ∀ {s1 : Shared} {H1 : Hp}, Inv X pins σ' H1 s1 → D.nx σ' H1 → wpAny (model X.prog X.w) X.A (execs [] X.env) (SP X pins D) X.xe s1 := fun J q => wpAny_execs_nil ⟨σ', _, J, q⟩
  have key : wpAny (model X.prog X.w) X.A (isTrue (.BoolOp .And [.Compare (.Name "letter" a1) [.NotEq] [.Name "guessed" a2] a3, .Call (.Name "can_fill" b1) [.Name "others" b2, .Call (.Attribute (.Name "owed" b3) "replace" b4) [.Name "letter" b5, .Constant (.str "") j1 b6, .Constant (.int 1) j2 b7] [] b8, .Name "spare" b9] [] b10] c1) X.env
      (eval (.BoolOp .And [.Compare (.Name "letter" a1) [.NotEq] [.Name "guessed" a2] a3, .Call (.Name "can_fill" b1) [.Name "others" b2, .Call (.Attribute (.Name "owed" b3) "replace" b4) [.Name "letter" b5, .Constant (.str "") j1 b6, .Constant (.int 1) j2 b7] [] b8, .Name "spare" b9] [] b10] c1) X.env))
      (fun b s' => ∃ H', Inv X pins σ' H' s' ∧ (if b = true then D.rt (.bl true) H' else D.nx σ' H')) X.xe s := by
    refine isTrue_and (wpAny_isTrue_Compare1 (raw_ld ok kl R (var_ld I n3 e3 v3 fun u ru => ?_)) rfl)
    obtain ⟨tg, rfl⟩ := ru
    refine PyProof.Rows.ne_str ?_
    have ene : (one c != one g) = !decide (c = g) := by
      by_cases q : c = g
      · subst q; simp
      · have : one c ≠ one g := fun z => q (ones_inj z)
        simp [q, this]
    rw [show ((⟨#[c]⟩ : Str) != one g) = !decide (c = g) from ene]
    refine wpAny_truthy_bool ?_
    by_cases q : c = g
    · rw [if_pos q] at h
      rw [decide_eq_true q]
      exact ⟨H, I, h⟩
    · rw [if_neg q] at h
      rw [decide_eq_false q]
      show wpAny _ _ (isTrue (.BoolOp .And [_] c1) X.env _) _ _ s
      refine isTrue_and (isTrue_plain (wpAny_Call_Name_kw (ld_glob I hg hm ?_ (by decide))) rfl)
      refine PySem.W.callWith_K (h₀ := X.base) I.ok.mod.kin hk ?_ (by rfl) (by rfl)
      refine Calls.spliced_cons (var_ld I n4 e4 v4 fun uo ro => Calls.spliced_cons ?_)
      refine PySem.wpAny_Call_method_late hbase (by rfl) hline rfl (var_ld I n1 e1 v1 fun ud rd => ?_)
      obtain ⟨td, rfl⟩ := rd
      refine ⟨"str", _, PySem.F.plainAttrs_str, PySem.F.slot_str_replace, PySem.F.type_str_replace, typeIs_str _ _ _, (fun _ e => nomatch e), Calls.callWith_builtin (by rfl) (Calls.evalArgs_plain (Calls.spliced_cons ?_))⟩
      refine raw_ld ok kl R ?_
      show wpAny _ _ (spliced ((false, eval (.Constant (.str "") j1 b6) X.env) :: (false, eval (.Constant (.int 1) j2 b7) X.env) :: [])) _ _ _
      refine Calls.spliced_cons (Calls.Constant_str ?_)
      refine Calls.spliced_cons (wpAny_Constant_int (Calls.spliced_nil ?_))
      refine replace_one hc ho (Nat.ne_of_gt (show 0 < t from t1)) (Nat.ne_of_gt (show 0 < s.toks from Nat.lt_of_lt_of_le t1 (Nat.le_of_lt t2))) (Nat.ne_of_lt t2) fun t' kk => ?_
      have J : Inv X pins σ' H { s with toks := kk } := I.tok kk
      refine Calls.spliced_cons (var_ld J n2 e2 v2 fun us rs => Calls.spliced_nil ⟨J.kIn, ?_⟩)
      refine thn (run_fn (vs := [oth, .str (tx (o.erase c)), spv]) F hr hb .nil hx J (.cons ro (.cons ⟨t', rfl⟩ (.cons rs .nil))) h) fun v s5 hv => ?_
      obtain ⟨y, H5, I5, r5, b, rfl, q5⟩ := hv
      cases r5
      refine wpAny_truthy_bool ?_
      cases b with
      | true => exact isTrue_and_nil ⟨H5, I5, q5⟩
      | false => exact ⟨H5, I5, q5⟩
  refine wpAny_execs_cons (wpAny_If (thn key fun b s1 hh => ?_))
  obtain ⟨H1, I1, q1⟩ := hh
  cases b with
  | true => exact (pss_one (ps_ret (X := X) (pos := d2) (pe_bl (b := true) (j := j3) (pos := d1)))).run pins s1 σ' H1 _ I1 q1
  | false => exact wpAny_execs_nil (nx I1 q1)
/-- if x == "..": behind the test a token is out -/
def tIfTok (i : Nat) (c : Str) (tb u : TS) : TS := fun D σ H => ∃ y, σ[i]? = some (some (.str y)) ∧ (if decide (y = c) = true then tb { D with nx := u D } σ H else u D σ H)
theorem pss_ifTok {i j : Nat} {x c : Str} {p1 p2 p3 p4 : Pos} {body rest : List Stmt} {tb u : TS} (hN : X.N[i]? = some x) (hv : Vis X.env.scope x) (hb : PSs X body tb) (h2 : PSsT X rest u) (hd : (x == ("__debug__" : Str)) = false := by decide) (hcd : (x == ("__classdict__" : Str)) = false := by decide) :
    PSs X (.If (.Compare (.Name x p1) [.Eq] [.Constant (.str c) j p2] p3) body [] p4 :: rest) (tIfTok i c tb u) := by
  refine ⟨fun pins s σ H D I h => ?_⟩
  obtain ⟨y, e, h⟩ := h
  refine wpAny_execs_cons (wpAny_If (wpAny_isTrue_Compare1 (var_ld I hN e hv (fun v r => ?_) hd hcd) rfl))
  obtain ⟨t, rfl⟩ := r
  refine Calls.Constant_str (PyProof.Rows.eq_str ?_)
  have ee : (y == c) = decide (y = c) := by
    by_cases q : y = c <;> simp [q]
  rw [ee]
  refine wpAny_truthy_bool ?_
  have J : Inv X pins σ H { s with toks := s.toks + 1 } := I.tok _
  cases q : decide (y = c) with
  | true =>
    rw [q] at h
    refine wpAny_mono (PySem.wpAny_toks (hb.run pins _ σ H _ J h)) (fun f s1 hh => ?_) fun _ _ z => z.2
    obtain ⟨hk, hh⟩ := hh
    cases f with
    | next =>
      obtain ⟨σ', H', I', z⟩ := hh
      exact h2 pins s1 σ' H' D (Nat.le_trans (Nat.succ_le_succ (Nat.zero_le _)) hk) I' z
    | ret v => exact hh
    | brk => exact hh
    | cont => exact hh
  | false =>
    rw [q] at h
    exact wpAny_execs_nil (h2 pins _ σ H D (Nat.succ_le_succ (Nat.zero_le _)) J h)
end
def spFill (K : PySem.W.Frag) : Nat → Sp
  | 0 => fun _ _ _ _ => False
  | n + 1 => fun vs H Q _ => ∃ (gs o sp : List Nat) (p : Addr), vs = [.str (tx gs), .str (tx o), .ref p] ∧ SqL K H p (sp.map fun c => V.str (one c)) ∧ gs.length ≤ n ∧ gs.length ≤ 6 ∧ o.length ≤ 6 ∧ sp.length ≤ 26 ∧ ∀ H', Same H H' → Q (.bl (fillB gs o sp)) H'
structure TxF (mg : Str → Option Value) : Prop where
  len : mg "len" = none
  any : mg "any" = none
section
variable {P : Program} {w : World} {K : PySem.W.Frag} {mg : Str → Option Value} {base : Heap}
abbrev nF : List Str := ["gaps", "owed", "spare", "guessed", "others", "letter"]
theorem scF : FnScope nF ["gaps", "owed", "spare"] (defScope sFill) := ⟨rfl, rfl, rfl, by decide +kernel, rfl, by decide +kernel, by decide +kernel⟩
theorem ok_fillStep {f : Addr} {fd : FuncData} (F : Fun K "can_fill" "can_fill" sFill f fd) (T : TxF mg) (DF : Df K mg "can_fill" f fd ["gaps", "owed", "spare"]) (n : Nat) (G : FnOk P w K mg base CX0 n f fd ["gaps", "owed", "spare"] (spFill K n)) :
    FnOk P w K mg base CX0 (n + 1) f fd ["gaps", "owed", "spare"] (spFill K (n + 1)) := by
  refine F.ok scF (fun vs H Q E h => ?_) (fun cdv A outer s H vs Q E hr h => ?_)
  · obtain ⟨gs, o, sp, p, rfl, _⟩ := h
    rfl
  · obtain ⟨gs, o, sp, p, rfl, hS, gn, g6, o6, s26, q⟩ := h
    have nd := scF.nd
    have hline : sizeLine = 16777216 := sizeLine_eq
    refine ⟨_, pss_cons (ps_if (pt_cmpR op_gt (pe_callB call_len_str (by rfl) T.len PySem.boot_len (pa_cons (pv 1) pa_nil)) (pe_callB call_len_str (by rfl) T.len PySem.boot_len (pa_cons (pv 0) pa_nil)) (nomark _)) (pss_one (ps_ret pe_bl)) pss_nil)
      (pss_ifTok (i := 0) rfl (Or.inl rfl) (pss_one (ps_ret pe_bl))
      (psst_cons (PST.of (ps_asg (pe_tup (pa_cons (pe_ix ix_str (pv 0) pe_int (fun _ _ => rfl)) (pa_cons (pe_slice sl_str (pv 0) (po_some pe_int) po_none) pa_nil))) (pg_tup (by rfl) (pgs_cons (pg_name (i := 3) nd rfl (Or.inr rfl)) (pgs_cons (pg_name (i := 4) nd rfl (Or.inl rfl)) pgs_nil)))))
      (psst_cons (pst_forT (i := 5) (x := "letter") PassesOwn.never rfl (pv 1) nd rfl rfl (by exact turn_fill (E := E0) G hr (by rfl) DF.mg DF.kp DF.b pass0 rfl rfl rfl rfl (Or.inl rfl) (Or.inl rfl) (Or.inr (Or.inl rfl)) (Or.inl rfl) rfl (by rfl) (by rfl)))
      (PSsT.of (pss_one (ps_ret (pe_and (pe_callB (cr_any rfl) (by rfl) T.any (by decide +kernel) (pa_cons
          (pe_lc (own := [("letter", 5)]) (g := gName 5) (by rfl) nd (pi_list (pv 2)) (blkOk_by (own := [("letter", 5)]) (N := nF) (sc := defScope sFill) (by decide +kernel))
            (fun _ _ _ _ _ => pg_name (i := 5) nd rfl (Or.inl rfl)) (fun _ _ _ _ _ => pts_nil) (fun _ _ _ _ _ => pe_cmpR op_ne (pv 5) (pv 3) (nomark _))) pa_nil))
        (pe_one (pe_call G hr (by rfl) DF.mg DF.kp DF.b .nil pass0 (pa_cons (pv 4) (pa_cons (pv 1) (pa_cons (pv 2) pa_nil)))))))))))), ?_⟩
    have tg : (tx gs).length = gs.length := tx_len gs
    have to : (tx o).length = o.length := tx_len o
    refine ⟨_, rfl, _, rfl, by omega, _, rfl, _, rfl, by omega, _, _, rfl, rfl, _, rfl, ?_⟩
    refine ite2 (fun h => ?_) (fun h => ?_)
    · have h : ((tx gs).length : Int) < ((tx o).length : Int) := of_decide_eq_true h
      have e : fillB gs o sp = false := by
        cases gs with
        | nil =>
          cases o with
          | nil => simp at h
          | cons a o => rfl
        | cons g gs =>
          rw [tx_len, tx_len] at h
          rw [List.length_cons] at h
          rw [fillB, if_pos (by omega)]
      rw [e] at q
      exact q H (Same.refl H)
    have hlen : o.length ≤ gs.length := by
      have : ¬ ((tx gs).length : Int) < ((tx o).length : Int) := fun z => h (decide_eq_true z)
      omega
    refine ⟨tx gs, rfl, ?_⟩
    refine ite2 (fun h => ?_) (fun h => ?_)
    · have h := of_decide_eq_true h
      have e : gs = [] := by
        have z : (tx gs).cps.toList = [] := congrArg (fun s : Str => s.cps.toList) h
        simpa using z
      subst e
      have eo : o = [] := List.length_eq_zero_iff.mp (Nat.le_zero.mp hlen)
      subst eo
      exact q H (Same.refl H)
    cases gs with
    | nil => exact absurd (decide_eq_true rfl) h
    | cons g gs =>
      refine ⟨_, rfl, tx (g :: gs), 0, g, rfl, rfl, by omega, atI_nat (j := 0) (by simp), _, rfl, 1, rfl, tx (g :: gs), rfl, by omega, ?_⟩
      have ec : cutS (tx (g :: gs)) (some 1) none = tx gs := cut_suf (tx (g :: gs)) 1 (by rw [tx_len]; exact Nat.succ_le_succ (Nat.zero_le _))
      rw [ec]
      refine ⟨by show 2 ≤ sizeLine; decide, fun t ht => ⟨t, _, rfl, SqT.of upd_same, rfl, _, _, rfl, _, _, rfl, rfl, ?_⟩⟩
      rw [List.length_cons] at gn g6 hlen
      have so := same_upd (o := .tup [.str (one g), .str (tx gs)]) ht
      have efill : fillB (g :: gs) o sp = ((o.any fun c => !decide (c = g) && fillB gs (o.erase c) sp) || (sp.any (fun c => !decide (c = g)) && fillB gs o sp)) := by
        rw [fillB, if_neg (by omega)]
      refine ⟨_, rfl, tx o, rfl, fun i σ H' => Same H H' ∧ (∃ v5 : Option V, σ = [some (.str (tx (g :: gs))), some (.str (tx o)), some (.ref p), some (.str (one g)), some (.str (tx gs)), v5]) ∧
        ((o.take i).any fun c => !decide (c = g) && fillB gs (o.erase c) sp) = false, ⟨so, ⟨none, rfl⟩, rfl⟩, ?_, ?_⟩
      · rintro i c σ H1 hc ⟨sm, ⟨v5, rfl⟩, hno⟩
        have hc' := tx_at hc
        have hm := List.mem_of_getElem? hc'
        have hi : i < o.length := (List.getElem?_eq_some_iff.mp hc').1
        have et : o.take (i + 1) = o.take i ++ [c] := by rw [List.take_succ_eq_append_getElem hi, (List.getElem?_eq_some_iff.mp hc').2]
        refine ⟨o, g, .str (tx gs), .ref p, rfl, rfl, rfl, rfl, hm, by omega, ?_⟩
        by_cases hcg : c = g
        · rw [if_pos hcg]
          refine ⟨sm, ⟨some (.str (one c)), rfl⟩, ?_⟩
          rw [et, List.any_append, hno, hcg]
          simp
        · rw [if_neg hcg]
          cases n with
          | zero => exact absurd gn (by omega)
          | succ n =>
            have le : (o.erase c).length ≤ o.length := List.length_erase_le
            refine ⟨gs, o.erase c, sp, p, rfl, sm.seq hS, by omega, by omega, by omega, s26, fun H2 s2 => ⟨_, rfl, ?_⟩⟩
            cases e : fillB gs (o.erase c) sp with
            | true =>
              refine iteT ?_
              have et2 : fillB (g :: gs) o sp = true := by
                rw [efill]
                have : (o.any fun c => !decide (c = g) && fillB gs (o.erase c) sp) = true := List.any_eq_true.mpr ⟨c, hm, by rw [e]; simp [hcg]⟩
                rw [this]
                rfl
              rw [et2] at q
              exact q H2 (sm.trans s2)
            | false =>
              refine iteF ⟨sm.trans s2, ⟨some (.str (one c)), rfl⟩, ?_⟩
              rw [et, List.any_append, hno]
              simp [e]
      · rintro σ H1 ⟨sm, ⟨v5, rfl⟩, hno⟩
        rw [tx_size, List.take_length] at hno
        rw [hno, Bool.false_or] at efill
        refine ⟨_, rfl, p, rfl, ⟨_, sm.seq hS⟩, fun D hD => ?_⟩
        refine lc_list (K := K) (a := p) (xs := sp.map fun c => V.str (one c)) (fun i H' => Same H1 H' ∧ H' D = some (.lst (((sp.take i).map fun c => !decide (c = g)).map V.bl))) ⟨same_upd hD, upd_same⟩ (fun i H' _ h => (sm.trans h.1).seq hS) ?_ ?_
        · rintro i y H2 hi ⟨s2, hDi⟩
          have hi' : i < sp.length := by
            have := (List.getElem?_eq_some_iff.mp hi).1
            rw [List.length_map] at this
            exact this
          have ey : y = .str (one sp[i]) := by
            rw [List.getElem?_map, List.getElem?_eq_getElem hi'] at hi
            exact (Option.some.inj hi).symm
          subst ey
          have ne : decide (V.str (one sp[i]) = V.str (one g)) = decide (sp[i] = g) := decide_eq_decide.mpr ⟨fun q => ones_inj (V.str.inj q), fun q => by rw [q]⟩
          refine ⟨rfl, ⟨_, rfl, _, rfl, rfl, ?_⟩⟩
          rw [ne]
          refine ⟨_, hDi, ?_, fun b u e => ?_, ?_⟩
          · rw [List.length_map, List.length_map, List.length_take]
            omega
          · rw [upd_ne (ne_of_none e hD)]
            exact s2 b u e
          · rw [upd_same, List.take_succ_eq_append_getElem hi', List.map_append, List.map_append]
            rfl
        · rintro H2 ⟨s2, hD2⟩
          rw [List.length_map, List.take_length] at hD2
          refine ⟨D, _, rfl, SqL.of hD2, _, rfl, ?_⟩
          have ea : ((sp.map fun c => !decide (c = g)).any id) = sp.any fun c => !decide (c = g) := by rw [List.any_map]; rfl
          rw [ea]
          cases e : sp.any fun c => !decide (c = g) with
          | false =>
            rw [e, Bool.false_and] at efill
            rw [efill] at q
            exact iteF (q H2 (sm.trans s2))
          | true =>
            rw [e, Bool.true_and] at efill
            refine iteT ?_
            cases n with
            | zero => exact absurd gn (by omega)
            | succ n =>
              refine ⟨_, rfl, _, rfl, _, rfl, gs, o, sp, p, rfl, (sm.trans s2).seq hS, by omega, by omega, o6, s26, fun H3 s3 => ?_⟩
              rw [efill] at q
              exact q H3 ((sm.trans s2).trans s3)
theorem ok_fill {f : Addr} {fd : FuncData} (F : Fun K "can_fill" "can_fill" sFill f fd) (T : TxF mg) (DF : Df K mg "can_fill" f fd ["gaps", "owed", "spare"]) : ∀ n, FnOk P w K mg base CX0 n f fd ["gaps", "owed", "spare"] (spFill K n)
  | 0 => ⟨fun _ _ _ _ h => h.elim, fun _ _ _ _ _ _ _ _ _ _ _ _ _ h => h.elim⟩
  | n + 1 => ok_fillStep F T DF n (ok_fill F T DF n)
end
end Gm

namespace Gm
open PySem L2
abbrev sCome : Stmt := top 23
def spCome (C : Addr) : Sp := fun vs H Q _ => ∃ (p : Addr) (l g t : List Nat) (n : Int), vs = [.ref p, .str (tx g), .str (tx t)] ∧ Bd C H p l n ∧ Wd l n g ∧ Wd [48, 49, 50] n t ∧ ∀ H', Same H H' → Q (.bl (comeB l g t)) H'
theorem lm_len {g t wd : List Nat} : (lm g t wd).length ≤ g.length := by
  unfold lm
  rw [List.length_map]
  refine Nat.le_trans (List.length_filter_le _ _) ?_
  rw [List.length_zip]
  omega
theorem Bd.at {C p : Addr} {H : Hp} {l : List Nat} {n : Int} (h : Bd C H p l n) : ∃ dx, H p = some (.ins C dx (boardF (tx l) n)) := h.1
section
variable {P : Program} {w : World} {K : PySem.W.Frag} {mg : Str → Option Value} {base : Heap}
abbrev nCC : List Str := ["board", "guess", "told", "gaps", "owed", "used_up", "spare", "letter"]
theorem scCC : FnScope nCC ["board", "guess", "told"] (defScope sCome) := ⟨rfl, rfl, rfl, by decide +kernel, rfl, by decide +kernel, by decide +kernel⟩
theorem ok_come {f C fB fW fM fO fL fF : Addr} {fd fdB fdW fdM fdO fdL fdF : FuncData} (F : Fun K "can_come" "can_come" sCome f fd) (TC : TxC K mg C)
    (GB : FnOk P w K mg base CX0 1 fB fdB ["board"] (spChkB C)) (DB : Df K mg "check_board" fB fdB ["board"]) (GW : FnOk P w K mg base CX0 2 fW fdW ["board", "word"] (spChkW C)) (DW : Df K mg "check_word" fW fdW ["board", "word"])
    (GM : FnOk P w K mg base CX0 2 fM fdM ["board", "told"] (spChkM C)) (DM : Df K mg "check_marks" fM fdM ["board", "told"]) (GO : FnOk P w K mg base CX0 1 fO fdO ["guess", "told"] spOrd) (DO : Df K mg "is_in_order" fO fdO ["guess", "told"])
    (GL : FnOk P w K mg base CX0 1 fL fdL ["guess", "told", "wanted"] spLm) (DL : Df K mg "letters_marked" fL fdL ["guess", "told", "wanted"]) (GF : FnOk P w K mg base CX0 7 fF fdF ["gaps", "owed", "spare"] (spFill K 7)) (DF : Df K mg "can_fill" fF fdF ["gaps", "owed", "spare"]) :
    FnOk P w K mg base CX0 8 f fd ["board", "guess", "told"] (spCome C) := by
  refine F.ok scCC (fun vs H Q E h => ?_) (fun cdv A outer s H vs Q E hr h => ?_)
  · obtain ⟨p, l, g, t, n, rfl, _⟩ := h
    rfl
  · obtain ⟨p, l, g, t, n, rfl, hb, hg, ht, q⟩ := h
    have nd := scCC.nd
    have hr1 : Room 1 _ := hr.mono (by decide)
    have hr2 : Room 2 _ := hr.mono (by decide)
    have hline : sizeLine = 16777216 := sizeLine_eq
    refine ⟨_, pss_cons (ps_expr (pe_call GB hr1 (by rfl) DB.mg DB.kp DB.b .nil pass0 (pa_cons (pv 0) pa_nil)))
      (pss_cons (ps_expr (pe_call GW hr2 (by rfl) DW.mg DW.kp DW.b .nil pass0 (pa_cons (pv 0) (pa_cons (pv 1) pa_nil))))
      (pss_cons (ps_expr (pe_call GM hr2 (by rfl) DM.mg DM.kp DM.b .nil pass0 (pa_cons (pv 0) (pa_cons (pv 2) pa_nil))))
      (pss_cons (ps_if (pt_not (pt_val (pe_call GO hr1 (by rfl) DO.mg DO.kp DO.b .nil pass0 (pa_cons (pv 1) (pa_cons (pv 2) pa_nil))))) (pss_one (ps_ret pe_bl)) pss_nil)
      (pss_cons (ps_set (i := 3) nd rfl (Or.inl rfl) (pe_call GL hr1 (by rfl) DL.mg DL.kp DL.b .nil pass0 (pa_cons (pv 1) (pa_cons (pv 2) (pa_cons pe_str pa_nil)))))
      (pss_cons (ps_set (i := 4) nd rfl (Or.inl rfl) (pe_call GL hr1 (by rfl) DL.mg DL.kp DL.b .nil pass0 (pa_cons (pv 1) (pa_cons (pv 2) (pa_cons pe_str pa_nil)))))
      (pss_cons (ps_set (i := 5) nd rfl (Or.inr rfl) (pe_call GL hr1 (by rfl) DL.mg DL.kp DL.b .nil pass0 (pa_cons (pv 1) (pa_cons (pv 2) (pa_cons pe_str pa_nil)))))
      (pss_cons (ps_setLc (i := 6) (own := [("letter", 7)]) (g := gName 7) (by rfl) nd rfl rfl (sw_true rfl rfl rfl (by decide +kernel)) (pi_str (pe_fld (pv 0) rfl)) (blkOk_by (own := [("letter", 7)]) (N := nCC) (sc := defScope sCome) (by decide +kernel))
        (fun _ _ _ _ _ => pg_name (i := 7) nd rfl (Or.inl rfl)) (fun _ _ _ _ _ => pts_one (pt_cmpR op_notIn_sign (pv 7) (pv 5) rfl)) (fun _ _ _ _ _ => pv 7))
      (pss_one (ps_ret (pe_call GF hr (by rfl) DF.mg DF.kp DF.b .nil pass0 (pa_cons (pv 3) (pa_cons (pv 4) (pa_cons (pv 6) pa_nil))))))))))))), ?_⟩
    have hn := hb.2.2.2
    have g6 : g.length ≤ 6 := by have := hg.1; omega
    have gt : g.length = t.length := by have := hg.1; have := ht.1; omega
    refine ⟨_, rfl, p, l, n, rfl, hb, _, rfl, _, rfl, p, l, g, n, rfl, hb, hg, fun H1 s1 => ⟨_, rfl, _, rfl, p, l, t, n, rfl, hb.same s1, ht, fun H2 s2 => ?_⟩⟩
    refine ⟨_, rfl, _, rfl, g, t, rfl, gt, g6, fun H3 s3 => ⟨_, rfl, ?_⟩⟩
    cases e : ordB (g.zip t) [] with
    | false =>
      refine iteT ?_
      have e2 : comeB l g t = false := by unfold comeB; rw [e]; rfl
      rw [e2] at q
      exact q H3 ((s1.trans s2).trans s3)
    | true =>
      refine iteF ?_
      refine ⟨_, rfl, _, rfl, g, t, [48, 49], rfl, gt, g6, fun H4 s4 => ?_⟩
      refine ⟨_, rfl, _, rfl, g, t, [49], rfl, gt, g6, fun H5 s5 => ?_⟩
      refine ⟨_, rfl, _, rfl, g, t, [48], rfl, gt, g6, fun H6 s6 => ?_⟩
      have sm := ((s1.trans s2).trans s3).trans ((s4.trans s5).trans s6)
      obtain ⟨dx, hp⟩ := (hb.same sm).at
      refine ⟨_, rfl, p, C, dx, _, _, rfl, hp, TC.cl, TC.nL, bf_letters _ _, tx l, rfl, fun D hD => ?_⟩
      refine lc_it (walk_str (z := tx l)) (fun i H' => Same H6 H' ∧ H' D = some (.lst (((l.take i).filter fun c => !decide (c ∈ lm g t [48])).map fun c => V.str (one c)))) ⟨same_upd hD, upd_same⟩ (fun _ _ _ _ => trivial) ?_ ?_
      · rintro i x H7 H8 hi ⟨s7, hDi⟩ ⟨rfl, c, hc, rfl⟩
        have hc' := tx_at hc
        have hi' : i < l.length := (List.getElem?_eq_some_iff.mp hc').1
        have st := take_filter (p := fun c => !decide (c ∈ lm g t [48])) l i hi'
        rw [(List.getElem?_eq_some_iff.mp hc').2] at st
        refine ⟨rfl, _, rfl, _, rfl, c, tx (lm g t [48]), rfl, rfl, _, rfl, ?_⟩
        rw [in_tx]
        refine ite2 (fun hm => ?_) (fun hm => ?_)
        · rw [if_pos hm] at st
          refine ⟨_, rfl, _, hDi, ?_, fun b u e => ?_, ?_⟩
          · have h1 := List.length_filter_le (fun c => !decide (c ∈ lm g t [48])) (l.take i)
            have h2 : (l.take i).length ≤ 26 := by rw [List.length_take]; have := hb.2.1; omega
            rw [List.length_map]
            omega
          · rw [upd_ne (ne_of_none e hD)]
            exact s7 b u e
          · rw [upd_same, st, List.map_append]
            rfl
        · rw [if_neg hm, List.append_nil] at st
          exact ⟨s7, by rw [st]; exact hDi⟩
      · rintro H7 ⟨s7, hD7⟩
        rw [tx_size, List.take_length] at hD7
        have m1 := lm_len (g := g) (t := t) (wd := [48, 49])
        have m2 := lm_len (g := g) (t := t) (wd := [49])
        refine ⟨_, rfl, _, rfl, _, rfl, lm g t [48, 49], lm g t [49], spare l (lm g t [48]), D, rfl, SqL.of hD7, Nat.le_trans m1 g6, Nat.le_trans m1 g6, Nat.le_trans m2 g6, ?_, fun H8 s8 => ?_⟩
        · exact Nat.le_trans (List.length_filter_le _ _) hb.2.1
        · have e2 : comeB l g t = fillB (lm g t [48, 49]) (lm g t [49]) (spare l (lm g t [48])) := by unfold comeB; rw [e]; rfl
          rw [e2] at q
          exact q H8 ((sm.trans s7).trans s8)
end
end Gm

/-! which marks can come: comeB tells whether a word gives them -/
namespace Gm
theorem lm_cons (a m : Nat) (g t wd : List Nat) : lm (a :: g) (m :: t) wd = if m ∈ wd then a :: lm g t wd else lm g t wd := by
  unfold lm
  rw [List.zip_cons_cons, List.filter_cons]
  by_cases h : m ∈ wd <;> simp [h]
theorem un_cons (a b : Nat) (g w : List Nat) : un (a :: g) (b :: w) = if a = b then un g w else b :: un g w := by
  unfold un
  rw [List.zip_cons_cons, List.filter_cons]
  by_cases h : a = b <;> simp [h]
theorem cnt_cons (a b : Nat) (l : List Nat) : (b :: l).count a = l.count a + if b = a then 1 else 0 := by
  rw [List.count_cons]
  by_cases h : b = a <;> simp [h]
theorem cnt_erase (a b : Nat) (l : List Nat) : (l.erase b).count a = l.count a - if b = a then 1 else 0 := by
  rw [List.count_erase]
  by_cases h : b = a <;> simp [h]
theorem mem_cnt {a : Nat} {l : List Nat} : a ∈ l ↔ 0 < l.count a := List.count_pos_iff.symm
def Hits : List Nat → List Nat → List Nat → Prop
  | [], [], [] => True
  | a :: g, b :: w, m :: t => (m = 50 ↔ a = b) ∧ (m = 48 ∨ m = 49 ∨ m = 50) ∧ Hits g w t
  | _, _, _ => False
theorem ord_zero : ∀ (g t : List Nat) (U : List Nat) (a : Nat), ordB (g.zip t) U = true → a ∈ U → (lm g t [49]).count a = 0
  | [], t, U, a, _, _ => by simp [lm]
  | b :: g, [], U, a, _, _ => by simp [lm]
  | b :: g, m :: t, U, a, h, ha => by
    rw [List.zip_cons_cons, ordB] at h
    by_cases c : m = 49 ∧ b ∈ U
    · rw [if_pos c] at h; cases h
    · rw [if_neg c] at h
      have ih := ord_zero g t _ a h (by split <;> simp [ha])
      rw [lm_cons]
      by_cases c2 : m ∈ [49]
      · rw [if_pos c2, cnt_cons, ih]
        have : m = 49 := by simpa using c2
        have : ¬ b = a := fun e => c ⟨this, e ▸ ha⟩
        simp [this]
      · rw [if_neg c2]; exact ih
theorem go_of : ∀ (g w t u U : List Nat), Hits g w t → ordB (g.zip t) U = true → (∀ a, (lm g t [49]).count a ≤ u.count a) → (∀ a, a ∈ lm g t [48] → u.count a = (lm g t [49]).count a) → go (g.zip w) u = t
  | [], [], [], _, _, _, _, _, _ => rfl
  | a :: g, b :: w, m :: t, u, U, hh, ho, h1, h2 => by
    obtain ⟨hm, hd, hh⟩ := hh
    rw [List.zip_cons_cons, ordB] at ho
    by_cases c : m = 49 ∧ a ∈ U
    · rw [if_pos c] at ho; cases ho
    rw [if_neg c] at ho
    rw [List.zip_cons_cons, go]
    by_cases e : a = b
    · have m50 := hm.mpr e
      subst m50
      rw [if_pos e]
      refine congrArg _ (go_of g w t u _ hh ho (fun x => ?_) fun x hx => ?_)
      · have := h1 x
        rw [lm_cons, if_neg (by decide)] at this
        exact this
      · have := h2 x (by rw [lm_cons, if_neg (by decide)]; exact hx)
        rw [lm_cons, if_neg (by decide)] at this
        exact this
    · rw [if_neg e]
      have n50 : ¬ m = 50 := fun z => e (hm.mp z)
      by_cases m49 : m = 49
      · subst m49
        have ha := h1 a
        rw [lm_cons, if_pos (by decide), cnt_cons, if_pos rfl] at ha
        have hu : a ∈ u := mem_cnt.mpr (by omega)
        rw [if_pos hu]
        refine congrArg _ (go_of g w t (u.erase a) _ hh ho (fun x => ?_) fun x hx => ?_)
        · have := h1 x
          rw [lm_cons, if_pos (by decide), cnt_cons] at this
          rw [cnt_erase]
          omega
        · have := h2 x (by rw [lm_cons, if_neg (by decide)]; exact hx)
          rw [lm_cons, if_pos (by decide), cnt_cons] at this
          rw [cnt_erase]
          omega
      · have m48 : m = 48 := by omega
        subst m48
        rw [if_pos rfl] at ho
        have z := ord_zero g t _ a ho (by simp)
        have h2a := h2 a (by rw [lm_cons, if_pos (by decide)]; exact List.mem_cons_self)
        rw [lm_cons, if_neg (by decide), z] at h2a
        have hu : ¬ a ∈ u := fun q => by have := mem_cnt.mp q; omega
        rw [if_neg hu]
        refine congrArg _ (go_of g w t u _ hh ho (fun x => ?_) fun x hx => ?_)
        · have := h1 x
          rw [lm_cons, if_neg (by decide)] at this
          exact this
        · have := h2 x (by rw [lm_cons, if_pos (by decide)]; exact List.mem_cons_of_mem _ hx)
          rw [lm_cons, if_neg (by decide)] at this
          exact this
theorem of_go : ∀ (g w u U : List Nat), g.length = w.length → (∀ a, a ∈ U → ¬ a ∈ u) → Hits g w (go (g.zip w) u) ∧ ordB (g.zip (go (g.zip w) u)) U = true ∧ (∀ a, (lm g (go (g.zip w) u) [49]).count a ≤ u.count a) ∧
    (∀ a, a ∈ lm g (go (g.zip w) u) [48] → u.count a = (lm g (go (g.zip w) u) [49]).count a)
  | [], [], u, U, _, _ => ⟨trivial, rfl, fun a => by simp [lm], fun a h => by simp [lm] at h⟩
  | a :: g, b :: w, u, U, hl, hU => by
    have hl' : g.length = w.length := by simpa using hl
    rw [List.zip_cons_cons, go]
    by_cases e : a = b
    · rw [if_pos e]
      obtain ⟨i1, i2, i3, i4⟩ := of_go g w u U hl' hU
      refine ⟨⟨by simp [e], by simp, i1⟩, ?_, ?_, ?_⟩
      · rw [List.zip_cons_cons, ordB, if_neg (fun q => absurd q.1 (by decide)), if_neg (by decide)]
        exact i2
      · intro x; rw [lm_cons, if_neg (by decide)]; exact i3 x
      · intro x hx; rw [lm_cons, if_neg (by decide)] at hx ⊢; exact i4 x hx
    · rw [if_neg e]
      by_cases hu : a ∈ u
      · rw [if_pos hu]
        have hU2 : ∀ x, x ∈ U → ¬ x ∈ u.erase a := fun x hx q => hU x hx (List.mem_of_mem_erase q)
        obtain ⟨i1, i2, i3, i4⟩ := of_go g w (u.erase a) U hl' hU2
        have ca := mem_cnt.mp hu
        refine ⟨⟨by simp [e], by simp, i1⟩, ?_, ?_, ?_⟩
        · rw [List.zip_cons_cons, ordB, if_neg (fun q => hU a q.2 hu), if_neg (by decide)]
          exact i2
        · intro x
          have := i3 x
          rw [cnt_erase] at this
          rw [lm_cons, if_pos (by decide), cnt_cons]
          by_cases q : a = x
          · subst q; simp only [if_true] at this ⊢; omega
          · simp only [q, if_false] at this ⊢; omega
        · intro x hx
          rw [lm_cons, if_neg (by decide)] at hx
          have := i4 x hx
          rw [cnt_erase] at this
          rw [lm_cons, if_pos (by decide), cnt_cons]
          by_cases q : a = x
          · subst q; simp only [if_true] at this ⊢; omega
          · simp only [q, if_false] at this ⊢; omega
      · rw [if_neg hu]
        have hU2 : ∀ x, x ∈ U ++ [a] → ¬ x ∈ u := fun x hx => by
          rcases List.mem_append.mp hx with q | q
          · exact hU x q
          · rw [List.mem_singleton.mp q]; exact hu
        obtain ⟨i1, i2, i3, i4⟩ := of_go g w u (U ++ [a]) hl' hU2
        refine ⟨⟨by simp [e], by simp, i1⟩, ?_, ?_, ?_⟩
        · rw [List.zip_cons_cons, ordB, if_neg (by simp), if_pos rfl]
          exact i2
        · intro x; rw [lm_cons, if_neg (by decide)]; exact i3 x
        · intro x hx
          rw [lm_cons, if_pos (by decide)] at hx
          rw [lm_cons, if_neg (by decide)]
          rcases List.mem_cons.mp hx with q | q
          · subst q
            have z := ord_zero g _ _ x i2 (by simp)
            have : u.count x = 0 := by
              have : ¬ 0 < u.count x := fun z => hu (mem_cnt.mpr z)
              omega
            omega
          · exact i4 x q
/-! ### the gaps are filled -/
def Ne2 : List Nat → List Nat → Prop
  | [], [] => True
  | y :: ys, g :: gs => y ≠ g ∧ Ne2 ys gs
  | _, _ => False
theorem ne2_len : ∀ (ys gs : List Nat), Ne2 ys gs → ys.length = gs.length
  | [], [], _ => rfl
  | y :: ys, g :: gs, h => by rw [List.length_cons, List.length_cons, ne2_len ys gs h.2]
theorem len_of_cnt : ∀ (o ys : List Nat), (∀ a, o.count a ≤ ys.count a) → o.length ≤ ys.length
  | [], ys, _ => Nat.zero_le _
  | a :: o, ys, h => by
    have ha := h a
    rw [cnt_cons, if_pos rfl] at ha
    have hm : a ∈ ys := mem_cnt.mpr (by omega)
    have ih := len_of_cnt o (ys.erase a) fun x => by
      have := h x
      rw [cnt_cons] at this
      rw [cnt_erase]
      omega
    rw [List.length_erase_of_mem hm] at ih
    have := List.length_pos_of_mem hm
    rw [List.length_cons]
    omega
theorem fill_of : ∀ (gs o s ys : List Nat), Ne2 ys gs → (∀ a, o.count a ≤ ys.count a) → (∀ a, ¬ a ∈ s → ys.count a = o.count a) → fillB gs o s = true
  | [], o, s, [], _, h1, _ => by
    have : o.length ≤ 0 := len_of_cnt o [] h1
    rw [fillB, List.length_eq_zero_iff.mp (Nat.le_zero.mp this)]
    rfl
  | g :: gs, o, s, y :: ys, hn, h1, h2 => by
    have hl := len_of_cnt o _ h1
    have hy := ne2_len _ _ hn.2
    rw [List.length_cons] at hl
    rw [fillB, if_neg (by omega), Bool.or_eq_true]
    by_cases ho : y ∈ o
    · refine .inl (List.any_eq_true.mpr ⟨y, ho, ?_⟩)
      have co := mem_cnt.mp ho
      rw [fill_of gs (o.erase y) s ys hn.2 (fun a => ?_) fun a ha => ?_]
      · simp [hn.1]
      · have := h1 a
        rw [cnt_cons] at this
        rw [cnt_erase]
        omega
      · have := h2 a ha
        rw [cnt_cons] at this
        rw [cnt_erase]
        omega
    · have co : o.count y = 0 := by
        have : ¬ 0 < o.count y := fun z => ho (mem_cnt.mpr z)
        omega
      have hs : y ∈ s := by
        refine Decidable.byContradiction fun q => ?_
        have := h2 y q
        rw [cnt_cons, if_pos rfl] at this
        omega
      refine .inr ?_
      rw [Bool.and_eq_true]
      refine ⟨List.any_eq_true.mpr ⟨y, hs, by simp [hn.1]⟩, fill_of gs o s ys hn.2 (fun a => ?_) fun a ha => ?_⟩
      · have := h1 a
        rw [cnt_cons] at this
        by_cases q : y = a
        · subst q; omega
        · simp only [q, if_false] at this; omega
      · have := h2 a ha
        rw [cnt_cons] at this
        have q : ¬ y = a := fun e => ha (e ▸ hs)
        simp only [q, if_false] at this
        omega
theorem of_fill : ∀ (gs o s : List Nat), fillB gs o s = true → ∃ ys, Ne2 ys gs ∧ (∀ a, o.count a ≤ ys.count a) ∧ (∀ a, ¬ a ∈ s → ys.count a = o.count a)
  | [], o, s, h => by
    have : o = [] := by simpa [fillB] using h
    subst this
    exact ⟨[], trivial, fun a => Nat.le_refl _, fun a _ => rfl⟩
  | g :: gs, o, s, h => by
    rw [fillB] at h
    by_cases hl : gs.length + 1 < o.length
    · rw [if_pos hl] at h; cases h
    rw [if_neg hl, Bool.or_eq_true] at h
    rcases h with h | h
    · obtain ⟨c, hc, h⟩ := List.any_eq_true.mp h
      rw [Bool.and_eq_true] at h
      have hcg : c ≠ g := by simpa using h.1
      obtain ⟨ys, y1, y2, y3⟩ := of_fill gs (o.erase c) s h.2
      have co := mem_cnt.mp hc
      refine ⟨c :: ys, ⟨hcg, y1⟩, fun a => ?_, fun a ha => ?_⟩
      · have := y2 a
        rw [cnt_erase] at this
        rw [cnt_cons]
        by_cases q : c = a
        · subst q; simp only [if_true] at this ⊢; omega
        · simp only [q, if_false] at this ⊢; omega
      · have := y3 a ha
        rw [cnt_erase] at this
        rw [cnt_cons]
        by_cases q : c = a
        · subst q; simp only [if_true] at this ⊢; omega
        · simp only [q, if_false] at this ⊢; omega
    · rw [Bool.and_eq_true] at h
      obtain ⟨c, hc, hcg⟩ := List.any_eq_true.mp h.1
      have hcg : c ≠ g := by simpa using hcg
      obtain ⟨ys, y1, y2, y3⟩ := of_fill gs o s h.2
      refine ⟨c :: ys, ⟨hcg, y1⟩, fun a => ?_, fun a ha => ?_⟩
      · have := y2 a
        rw [cnt_cons]
        omega
      · have := y3 a ha
        rw [cnt_cons]
        have q : ¬ c = a := fun e => ha (e ▸ hc)
        simp only [q, if_false]
        omega
/-! ### words from fillings -/
def weave : List Nat → List Nat → List Nat → List Nat
  | [], _, _ => []
  | _ :: _, [], _ => []
  | a :: g, m :: t, ys => if m = 50 then a :: weave g t ys else ys.headD 0 :: weave g t ys.tail
def Marks (t : List Nat) : Prop := ∀ m ∈ t, m = 48 ∨ m = 49 ∨ m = 50
theorem weave_ok : ∀ (g t ys : List Nat), g.length = t.length → Marks t → Ne2 ys (lm g t [48, 49]) → Hits g (weave g t ys) t ∧ un g (weave g t ys) = ys ∧ (∀ c ∈ weave g t ys, c ∈ g ∨ c ∈ ys) ∧ (weave g t ys).length = g.length
  | [], [], ys, _, _, h => by
    cases ys with
    | nil => exact ⟨trivial, rfl, fun c hc => (by cases hc), rfl⟩
    | cons y ys => exact h.elim
  | a :: g, m :: t, ys, hl, hm, h => by
    have hl' : g.length = t.length := by simpa using hl
    have hm' : Marks t := fun x hx => hm x (List.mem_cons_of_mem _ hx)
    rw [lm_cons] at h
    by_cases e : m = 50
    · subst e
      rw [if_neg (by decide)] at h
      obtain ⟨i1, i2, i3, i4⟩ := weave_ok g t ys hl' hm' h
      rw [weave, if_pos rfl]
      refine ⟨⟨by simp, by simp, i1⟩, by rw [un_cons, if_pos rfl]; exact i2, fun c hc => ?_, by rw [List.length_cons, i4]; rfl⟩
      rcases List.mem_cons.mp hc with q | q
      · exact .inl (by rw [q]; exact List.mem_cons_self)
      · exact (i3 c q).elim (fun z => .inl (List.mem_cons_of_mem _ z)) .inr
    · have h4 : m ∈ [48, 49] := by
        rcases hm m List.mem_cons_self with q | q | q
        · simp [q]
        · simp [q]
        · exact absurd q e
      rw [if_pos h4] at h
      cases ys with
      | nil => exact h.elim
      | cons y ys =>
        obtain ⟨i1, i2, i3, i4⟩ := weave_ok g t ys hl' hm' h.2
        rw [weave, if_neg e, List.headD_cons, List.tail_cons]
        have ne : ¬ a = y := fun q => h.1 q.symm
        refine ⟨⟨⟨fun q => absurd q e, fun q => absurd q ne⟩, hm m List.mem_cons_self, i1⟩, by rw [un_cons, if_neg ne, i2], fun c hc => ?_, by show (weave g t ys).length + 1 = g.length + 1; rw [i4]⟩
        rcases List.mem_cons.mp hc with q | q
        · exact .inr (by rw [q]; exact List.mem_cons_self)
        · exact (i3 c q).elim (fun z => .inl (List.mem_cons_of_mem _ z)) fun z => .inr (List.mem_cons_of_mem _ z)
theorem hits_ne2 : ∀ (g w t : List Nat), Hits g w t → Ne2 (un g w) (lm g t [48, 49])
  | [], [], [], _ => trivial
  | a :: g, b :: w, m :: t, ⟨h1, h2, h3⟩ => by
    rw [un_cons, lm_cons]
    by_cases e : a = b
    · have := h1.mpr e
      subst this
      rw [if_pos e, if_neg (by decide)]
      exact hits_ne2 g w t h3
    · have n : ¬ m = 50 := fun q => e (h1.mp q)
      have h4 : m ∈ [48, 49] := by
        rcases h2 with q | q | q
        · simp [q]
        · simp [q]
        · exact absurd q n
      rw [if_neg e, if_pos h4]
      exact ⟨fun q => e q.symm, hits_ne2 g w t h3⟩
theorem un_sub : ∀ (g w : List Nat) (c : Nat), c ∈ un g w → c ∈ w := fun g w c h => by
  unfold un at h
  obtain ⟨p, hp, rfl⟩ := List.mem_map.mp h
  exact (List.of_mem_zip (List.mem_filter.mp hp).1).2
theorem lm_sub : ∀ (g t wd : List Nat) (c : Nat), c ∈ lm g t wd → c ∈ g := fun g t wd c h => by
  unfold lm at h
  obtain ⟨p, hp, rfl⟩ := List.mem_map.mp h
  exact (List.of_mem_zip (List.mem_filter.mp hp).1).1
theorem mem_spare {l used : List Nat} {c : Nat} : c ∈ spare l used ↔ c ∈ l ∧ ¬ c ∈ used := by
  unfold spare
  rw [List.mem_filter]
  simp
/-- can_come tells it: some word of the letters l gets the guess g the marks t -/
theorem come_iff {l g t : List Nat} (hl : g.length = t.length) (hm : Marks t) (hg : ∀ c ∈ g, c ∈ l) : comeB l g t = true ↔ ∃ w, w.length = g.length ∧ (∀ c ∈ w, c ∈ l) ∧ mk g w = t := by
  constructor
  · intro h
    unfold comeB at h
    rw [Bool.and_eq_true] at h
    obtain ⟨ys, y1, y2, y3⟩ := of_fill _ _ _ h.2
    obtain ⟨w1, w2, w3, w4⟩ := weave_ok g t ys hl hm y1
    refine ⟨weave g t ys, w4, fun c hc => ?_, ?_⟩
    · rcases w3 c hc with q | q
      · exact hg c q
      · by_cases hs : c ∈ spare l (lm g t [48])
        · exact (mem_spare.mp hs).1
        · have := y3 c hs
          have cy := mem_cnt.mp q
          exact hg c (lm_sub g t [49] c (mem_cnt.mpr (by omega)))
    · unfold mk
      rw [w2]
      exact go_of g _ t ys [] w1 h.1 y2 fun a ha => y3 a fun q => (mem_spare.mp q).2 ha
  · rintro ⟨w, hw, hwl, rfl⟩
    obtain ⟨i1, i2, i3, i4⟩ := of_go g w (un g w) [] hw.symm fun a ha => by cases ha
    unfold comeB
    rw [Bool.and_eq_true]
    refine ⟨i2, fill_of _ _ _ (un g w) (hits_ne2 g w _ i1) i3 fun a ha => ?_⟩
    by_cases hz : a ∈ lm g (go (g.zip w) (un g w)) [48]
    · exact i4 a hz
    · have hal : ¬ a ∈ l := fun q => ha (mem_spare.mpr ⟨q, hz⟩)
      have c0 : (un g w).count a = 0 := by
        have : ¬ 0 < (un g w).count a := fun z => hal (hwl a (un_sub g w a (mem_cnt.mpr z)))
        omega
      have := i3 a
      show (un g w).count a = (lm g (go (g.zip w) (un g w)) [49]).count a
      omega
theorem hits_marks : ∀ (g w t : List Nat), Hits g w t → Marks t
  | [], [], [], _ => fun m hm => (by cases hm)
  | a :: g, b :: w, m :: t, ⟨_, h2, h3⟩ => fun x hx => by
    rcases List.mem_cons.mp hx with q | q
    · rw [q]; exact h2
    · exact hits_marks g w t h3 x q
theorem mk_marks {g w : List Nat} (h : g.length = w.length) : Marks (mk g w) := hits_marks g w _ (of_go g w (un g w) [] h fun a ha => by cases ha).1
theorem mk_len {g w : List Nat} (h : g.length = w.length) : (mk g w).length = g.length := by
  unfold mk
  rw [go_length, List.length_zip]
  omega
theorem hits_all : ∀ (g w t : List Nat), Hits g w t → (t = List.replicate t.length 50 ↔ g = w)
  | [], [], [], _ => by simp
  | a :: g, b :: w, m :: t, ⟨h1, _, h3⟩ => by
    have ih := hits_all g w t h3
    rw [List.length_cons, List.replicate_succ, List.cons.injEq, List.cons.injEq, ih, h1]
/-- marks 2 alone: the word itself -/
theorem mk_all {g w : List Nat} (h : g.length = w.length) : mk g w = List.replicate g.length 50 ↔ g = w := by
  have := hits_all g w _ (of_go g w (un g w) [] h fun a ha => by cases ha).1
  have hl : (mk g w).length = g.length := mk_len h
  unfold mk at hl ⊢
  rw [hl] at this
  exact this
end Gm

/-! the marks as the law works them out, place by place -/
namespace Gm
abbrev PL := List (Nat × Nat)
def us (a : Nat) (z : PL) : Nat := (z.filter fun p => decide (p.1 = a) && !decide (p.2 = 48)).length
def hs (a : Nat) (z : PL) : Nat := (z.filter fun p => decide (p.1 = a) && decide (p.1 = p.2)).length
def hitL (g w : List Nat) : List Nat := (g.zip w).map fun p => if p.1 = p.2 then 50 else 48
theorem us_cons (a x y : Nat) (z : PL) : us a ((x, y) :: z) = us a z + if x = a ∧ ¬ y = 48 then 1 else 0 := by
  unfold us
  rw [List.filter_cons]
  by_cases h1 : x = a <;> by_cases h2 : y = 48 <;> simp [h1, h2]
theorem hs_cons (a x y : Nat) (z : PL) : hs a ((x, y) :: z) = hs a z + if x = a ∧ x = y then 1 else 0 := by
  unfold hs
  rw [List.filter_cons]
  by_cases h1 : x = a <;> by_cases h2 : x = y <;> simp_all
theorem us_app (a : Nat) (z z' : PL) : us a (z ++ z') = us a z + us a z' := by
  unfold us
  rw [List.filter_append, List.length_append]
theorem hitL_cons (a b : Nat) (g w : List Nat) : hitL (a :: g) (b :: w) = (if a = b then 50 else 48) :: hitL g w := rfl
theorem us_hit : ∀ (a : Nat) (g w : List Nat), us a (g.zip (hitL g w)) = hs a (g.zip w)
  | a, [], w => by simp [us, hs]
  | a, b :: g, [] => by simp [us, hs, hitL]
  | a, b :: g, c :: w => by
    rw [hitL_cons, List.zip_cons_cons, List.zip_cons_cons, us_cons, hs_cons, us_hit a g w]
    by_cases h1 : b = a <;> by_cases h2 : b = c <;> simp_all
/-- what is used at step k -/
theorem us_mix : ∀ (a : Nat) (g w m : List Nat) (k : Nat), g.length = w.length → g.length = m.length → us a (g.zip (m.take k ++ (hitL g w).drop k)) = us a ((g.zip m).take k) + hs a ((g.zip w).drop k)
  | a, g, w, m, 0, _, _ => by
    rw [List.take_zero, List.nil_append, List.drop_zero, us_hit, List.take_zero, List.drop_zero]
    show _ = 0 + _
    omega
  | a, [], w, m, k + 1, _, _ => by simp [us, hs]
  | a, b :: g, [], m, k + 1, h, _ => by simp at h
  | a, b :: g, c :: w, [], k + 1, _, h => by simp at h
  | a, b :: g, c :: w, x :: m, k + 1, h1, h2 => by
    have ih := us_mix a g w m k (by simpa using h1) (by simpa using h2)
    rw [hitL_cons, List.take_succ_cons, List.drop_succ_cons, List.cons_append, List.zip_cons_cons, us_cons, ih, List.zip_cons_cons, List.zip_cons_cons, List.take_succ_cons, List.drop_succ_cons, us_cons]
    omega
theorem count_split : ∀ (a : Nat) (g w : List Nat), g.length = w.length → w.count a = hs a (g.zip w) + (un g w).count a
  | a, [], [], _ => rfl
  | a, b :: g, c :: w, h => by
    have ih := count_split a g w (by simpa using h)
    rw [List.zip_cons_cons, hs_cons, un_cons, cnt_cons, ih]
    by_cases e : b = c
    · subst e
      rw [if_pos rfl]
      by_cases q : b = a
      · rw [if_pos q, if_pos ⟨q, rfl⟩]
        omega
      · rw [if_neg q, if_neg (fun z => q z.1)]
        omega
    · rw [if_neg e, cnt_cons, if_neg (show ¬ (b = a ∧ b = c) from fun z => e z.2)]
      omega
/-- what stands between two steps: W a the copies of a in the hidden word -/
def Mid (g w : List Nat) (k : Nat) (u : List Nat) : Prop := (∀ a, w.count a = us a ((g.zip (mk g w)).take k) + hs a ((g.zip w).drop k) + u.count a) ∧ go ((g.zip w).drop k) u = (mk g w).drop k
theorem mid_start {g w : List Nat} (h : g.length = w.length) : Mid g w 0 (un g w) := by
  refine ⟨fun a => ?_, rfl⟩
  have := count_split a g w h
  rw [List.take_zero, List.drop_zero]
  show _ = 0 + _ + _
  omega
/-- step k: a the guess's letter there, b the hidden one's -/
theorem mid_step {g w u : List Nat} {k a b : Nat} (hl : g.length = w.length) (ha : g[k]? = some a) (hb : w[k]? = some b) (M : Mid g w k u) :
    (a = b → (mk g w)[k]? = some 50 ∧ Mid g w (k + 1) u) ∧
    (¬ a = b → us a ((g.zip (mk g w)).take k) + hs a ((g.zip w).drop k) < w.count a → (mk g w)[k]? = some 49 ∧ Mid g w (k + 1) (u.erase a)) ∧
    (¬ a = b → ¬ us a ((g.zip (mk g w)).take k) + hs a ((g.zip w).drop k) < w.count a → (mk g w)[k]? = some 48 ∧ Mid g w (k + 1) u) := by
  obtain ⟨h1, h2⟩ := M
  have hz := zip_at ha hb
  have hk : k < g.length := (List.getElem?_eq_some_iff.mp ha).1
  have hml : (mk g w).length = g.length := mk_len hl
  have hmk : (mk g w)[k]? = some (mk g w)[k] := List.getElem?_eq_getElem (by omega)
  have hzm := zip_at ha hmk
  rw [drop_at hz, drop_at hmk] at h2
  have tk : (g.zip (mk g w)).take (k + 1) = (g.zip (mk g w)).take k ++ [(a, (mk g w)[k])] := by
    have hlt := (List.getElem?_eq_some_iff.mp hzm).1
    rw [List.take_succ_eq_append_getElem hlt, (List.getElem?_eq_some_iff.mp hzm).2]
  have cnt : ∀ x, us x ((g.zip (mk g w)).take (k + 1)) = us x ((g.zip (mk g w)).take k) + if a = x ∧ ¬ (mk g w)[k] = 48 then 1 else 0 := fun x => by
    rw [tk, us_app, us_cons]
    show _ + (0 + _) = _
    rw [Nat.zero_add]
  have hsd : ∀ x, hs x ((g.zip w).drop k) = hs x ((g.zip w).drop (k + 1)) + if a = x ∧ a = b then 1 else 0 := fun x => by
    rw [drop_at hz, hs_cons]
  have ca := h1 a
  refine ⟨fun e => ?_, fun e q => ?_, fun e q => ?_⟩
  · rw [go, if_pos e] at h2
    obtain ⟨e1, e2⟩ := List.cons.inj h2
    refine ⟨by rw [hmk, ← e1], fun x => ?_, e2⟩
    have := h1 x
    rw [cnt x, ← e1]
    rw [hsd x] at this
    by_cases z : a = x
    · rw [if_pos ⟨z, e⟩] at this
      rw [if_pos ⟨z, by decide⟩]
      omega
    · rw [if_neg (fun q => z q.1)] at this
      rw [if_neg (fun q => z q.1)]
      omega
  · have hu : a ∈ u := mem_cnt.mpr (by omega)
    rw [go, if_neg e, if_pos hu] at h2
    obtain ⟨e1, e2⟩ := List.cons.inj h2
    refine ⟨by rw [hmk, ← e1], fun x => ?_, e2⟩
    have := h1 x
    rw [cnt x, ← e1, cnt_erase]
    rw [hsd x, if_neg (fun q => e q.2)] at this
    have cu := mem_cnt.mp hu
    by_cases z : a = x
    · subst z
      rw [if_pos ⟨rfl, by decide⟩, if_pos rfl]
      omega
    · rw [if_neg (fun q => z q.1), if_neg z]
      omega
  · have hu : ¬ a ∈ u := fun z => by have := mem_cnt.mp z; omega
    rw [go, if_neg e, if_neg hu] at h2
    obtain ⟨e1, e2⟩ := List.cons.inj h2
    refine ⟨by rw [hmk, ← e1], fun x => ?_, e2⟩
    have := h1 x
    rw [cnt x, ← e1, if_neg (fun q => q.2 rfl)]
    rw [hsd x, if_neg (fun q => e q.2)] at this
    omega
end Gm

namespace Gm
open PySem L2
abbrev sTold : Stmt := top 34
def spTold : Sp := fun vs H Q _ => ∃ (g w : List Nat), vs = [.str (tx g), .str (tx w)] ∧ g.length = w.length ∧ g.length ≤ 6 ∧ ∀ H', Same H H' → Q (.str (tx (mk g w))) H'
theorem count_tx (w : List Nat) (a : Nat) : Txt.count (tx w) (one a) = (w.count a : Nat) := by
  rw [PyProof.Rows.count_cnt]
  show PyProof.Rows.cnt a w = _
  induction w with
  | nil => rfl
  | cons b w ih =>
    rw [PyProof.Rows.cnt_cons, ih, cnt_cons]
    by_cases h : b = a <;> simp [h] <;> omega
section
variable {P : Program} {w : World} {K : PySem.W.Frag} {mg : Str → Option Value} {base : Heap}
abbrev nT : List Str := ["_law_asked", "_law_hidden", "_law_k", "_law_found", "_law_used", "_law_j"]
theorem scTd : FnScope nT ["_law_asked", "_law_hidden"] (defScope sTold) := ⟨rfl, rfl, rfl, by decide +kernel, rfl, by decide +kernel, by decide +kernel⟩
theorem ok_told {f : Addr} {fd : FuncData} (F : Fun K "_law_told" "_law_told" sTold f fd) (len : mg "len" = none) (range : mg "range" = none) : FnOk P w K mg base CX0 1 f fd ["_law_asked", "_law_hidden"] spTold := by
  refine F.ok scTd (fun vs H Q E h => ?_) (fun cdv A outer s H vs Q E hr h => ?_)
  · obtain ⟨g, w, rfl, _⟩ := h
    rfl
  · obtain ⟨g, w', rfl, hl, h6, q⟩ := h
    have nd := scTd.nd
    have hline : sizeLine = 16777216 := sizeLine_eq
    refine ⟨_, pss_cons (ps_set (i := 3) nd rfl (Or.inr rfl) (pe_lc (own := [("_law_k", 2)]) (g := gName 2) (by rfl) nd (pi_range1 (by rfl) range (pa_cons (pe_callB call_len_str (by rfl) len PySem.boot_len (pa_cons (pv 0) pa_nil)) pa_nil))
        (blkOk_by (own := [("_law_k", 2)]) (N := nT) (sc := defScope sTold) (by decide +kernel)) (fun _ _ _ _ _ => pg_name (i := 2) nd rfl (Or.inl rfl)) (fun _ _ _ _ _ => pts_nil)
        (fun _ _ _ _ _ => pe_ifExp (pt_cmpR op_eq (pe_ix ix_str (pv 0) (pv 2) (fun _ _ => rfl)) (pe_ix ix_str (pv 1) (pv 2) (fun _ _ => rfl)) (nomark _)) pe_str pe_str)))
      (pss_cons (ps_for PassesOwn.never rfl (pi_range1 (by rfl) range (pa_cons (pe_callB call_len_str (by rfl) len PySem.boot_len (pa_cons (pv 0) pa_nil)) pa_nil)) (pg_name (i := 2) nd rfl (Or.inr rfl))
        (pss_one (ps_if (pt_cmpR op_eq (pe_ix ix_list (pv 3) (pv 2) (fun _ _ => rfl)) pe_str (nomark _))
          (pss_cons (ps_set (i := 4) nd rfl (Or.inl rfl) (pe_callB call_len_seq (by rfl) len PySem.boot_len (pa_cons (pe_lc (own := [("_law_j", 5)]) (g := gName 5) (by rfl) nd
              (pi_range1 (by rfl) range (pa_cons (pe_callB call_len_str (by rfl) len PySem.boot_len (pa_cons (pv 0) pa_nil)) pa_nil)) (blkOk_by (own := [("_law_j", 5)]) (N := nT) (sc := defScope sTold) (by decide +kernel))
              (fun _ _ _ _ _ => pg_name (i := 5) nd rfl (Or.inl rfl))
              (fun _ _ _ _ _ => pts_one (PW.pt (pw_and (pt_cmpR op_eq (pe_ix ix_str (pv 0) (pv 5) (fun _ _ => rfl)) (pe_ix ix_str (pv 0) (pv 2) (fun _ _ => rfl)) (nomark _)) (pw_and1 (pt_cmpR op_ne (pe_ix (r := rIxL K) (by exact ix_list) (pv 3) (pv 5) (fun _ _ => rfl)) pe_str (nomark _))))))
              (fun _ _ _ _ _ => pv 5)) pa_nil)))
          (pss_one (ps_if (pt_cmpR op_gt (pe_m1 PySem.F.slot_str_count PySem.F.type_str_count mt_count (pv 1) (pe_ix ix_str (pv 0) (pv 2) (fun _ _ => rfl))) (pv 4) (nomark _)) (pss_one (ps_asg pe_str (pg_sub (pv 3) (pv 2) set_list))) pss_nil)))
          pss_nil)))
      (pss_one (ps_ret (pe_join pe_str (pv 3))))), ?_⟩
    have tg : (tx g).length = g.length := tx_len g
    have tw : (tx w').length = w'.length := tx_len w'
    refine ⟨_, rfl, _, rfl, by omega, _, rfl, by omega, by omega, fun D hD => ?_⟩
    have hsz : (hitL g w').length = g.length := by unfold hitL; rw [List.length_map, List.length_zip]; omega
    have hitAt : ∀ {k a b : Nat}, g[k]? = some a → w'[k]? = some b → (hitL g w')[k]? = some (if a = b then 50 else 48) := fun h1 h2 => by
      unfold hitL
      rw [List.getElem?_map, zip_at h1 h2]
      rfl
    have atG : ∀ {k : Nat} (h : k < g.length), g[k]? = some g[k] := fun h => List.getElem?_eq_getElem h
    have atW : ∀ {k : Nat} (h : k < g.length), w'[k]? = some (w'[k]'(by omega)) := fun h => List.getElem?_eq_getElem _
    refine lc_range (lo := 0) (fun i H' => Same H H' ∧ H' D = some (.lst (((hitL g w').take i).map fun c => V.str (one c)))) ⟨same_upd hD, upd_same⟩ ?_ ?_
    · rintro i H1 hi ⟨sm, hDi⟩
      have hi : i < g.length := by rw [tg] at hi; omega
      have e0 : (0 : Int) + (i : Nat) = (i : Nat) := by omega
      have ha := atG hi
      have hb := atW hi
      have ht : (hitL g w').take (i + 1) = (hitL g w').take i ++ [if g[i] = w'[i]'(by omega) then 50 else 48] := by
        have hz := hitAt ha hb
        have hlt := (List.getElem?_eq_some_iff.mp hz).1
        rw [List.take_succ_eq_append_getElem hlt, (List.getElem?_eq_some_iff.mp hz).2]
      have next : ∀ m : Nat, (if g[i] = w'[i]'(by omega) then 50 else 48) = m → ∃ acc, H1 D = some (.lst acc) ∧ acc.length < sizeLine ∧ Same H (upd H1 D (.lst (acc ++ [V.str (one m)]))) ∧
          upd H1 D (.lst (acc ++ [V.str (one m)])) D = some (.lst (((hitL g w').take (i + 1)).map fun c => V.str (one c))) := fun m hm => by
        refine ⟨_, hDi, ?_, fun b u e => ?_, ?_⟩
        · rw [List.length_map, List.length_take]
          omega
        · rw [upd_ne (ne_of_none e hD)]
          exact sm b u e
        · rw [upd_same, ht, hm, List.map_append]
          rfl
      have eq_iff : decide (V.str (one g[i]) = V.str (one (w'[i]'(by omega)))) = decide (g[i] = w'[i]'(by omega)) := decide_eq_decide.mpr ⟨fun q => ones_inj (V.str.inj q), fun q => by rw [q]⟩
      refine ⟨rfl, ⟨_, rfl, _, rfl, tx g, _, g[i], rfl, rfl, by omega, by rw [e0]; exact atI_nat ha, _, rfl, _, rfl, tx w', _, w'[i]'(by omega), rfl, rfl, by omega, by rw [e0]; exact atI_nat hb, rfl, _, rfl, ?_⟩⟩
      rw [eq_iff]
      refine ite2 (fun h => ?_) (fun h => ?_)
      · exact next 50 (if_pos (of_decide_eq_true h))
      · exact next 48 (if_neg fun z => h (decide_eq_true z))
    rintro H1 ⟨sm1, hD1⟩
    have n0 : (((tx g).length : Nat) : Int).toNat = g.length := by rw [tg]; omega
    rw [n0, List.take_of_length_le (by omega)] at hD1
    refine ⟨_, rfl, _, rfl, by omega, _, rfl, by omega, by omega, for_range (fun k σ H' => Same H H' ∧ (∃ v2 v4 v5 : Option V, σ = [some (.str (tx g)), some (.str (tx w')), v2, some (.ref D), v4, v5]) ∧
      H' D = some (.lst (((mk g w').take k ++ (hitL g w').drop k).map fun c => V.str (one c))) ∧ ∃ u, Mid g w' k u) ⟨sm1, ⟨_, _, _, rfl⟩, hD1, _, mid_start hl⟩ ?_ ?_⟩
    · rintro k σ H2 hk ⟨sm2, ⟨v2, v4, v5, rfl⟩, hD2, u, hM⟩
      have hk : k < g.length := by rw [tg] at hk; omega
      have e0 : (0 : Int) + (k : Nat) = (k : Nat) := by omega
      have ha := atG hk
      have hb := atW hk
      have hml : (mk g w').length = g.length := mk_len hl
      have stp := mid_step hl ha hb hM
      have hf : ((mk g w').take k ++ (hitL g w').drop k)[k]? = some (if g[k] = w'[k]'(by omega) then 50 else 48) := by
        rw [List.getElem?_append_right (by rw [List.length_take]; omega), List.length_take, Nat.min_eq_left (by omega), Nat.sub_self, List.getElem?_drop, Nat.add_zero]
        exact hitAt ha hb
      have fl : ((mk g w').take k ++ (hitL g w').drop k).length = g.length := by rw [List.length_append, List.length_take, List.length_drop]; omega
      have nxt : ∀ {m : Nat}, (mk g w')[k]? = some m → (mk g w').take (k + 1) ++ (hitL g w').drop (k + 1) = ((mk g w').take k ++ (hitL g w').drop k).set k m := fun {m} hm => by
        have hlt := (List.getElem?_eq_some_iff.mp hm).1
        rw [List.take_succ_eq_append_getElem hlt, (List.getElem?_eq_some_iff.mp hm).2, List.set_append_right _ _ (by rw [List.length_take]; omega), List.length_take, Nat.min_eq_left (by omega), Nat.sub_self, drop_at (hitAt ha hb), List.set_cons_zero, List.append_assoc]
        rfl
      have stay : ∀ {m : Nat}, (mk g w')[k]? = some m → (if g[k] = w'[k]'(by omega) then 50 else 48) = m → (mk g w').take (k + 1) ++ (hitL g w').drop (k + 1) = (mk g w').take k ++ (hitL g w').drop k := fun {m} hm he => by
        rw [nxt hm, ← he]
        have h1 := (List.getElem?_eq_some_iff.mp hf).1
        have h2 := (List.getElem?_eq_some_iff.mp hf).2
        rw [← h2, List.set_getElem_self]
      refine ⟨_, rfl, _, rfl, D, _, _, .str (one (if g[k] = w'[k]'(by omega) then 50 else 48)), rfl, rfl, SqL.of hD2, by rw [e0]; exact atI_nat (by rw [List.getElem?_map, hf]; rfl), rfl, _, rfl, ?_⟩
      have e48 : decide (V.str (one (if g[k] = w'[k]'(by omega) then 50 else 48)) = V.str (Str.ofString "0")) = decide (¬ g[k] = w'[k]'(by omega)) := decide_eq_decide.mpr ⟨fun q z => by
          rw [if_pos z] at q
          exact absurd (ones_inj (V.str.inj q) : (50 : Nat) = 48) (by decide), fun q => by rw [if_neg q]; rfl⟩
      rw [e48]
      refine ite2 (fun h => ?_) (fun h => ?_)
      · have hne := of_decide_eq_true h
        refine ⟨_, rfl, _, rfl, by omega, _, rfl, by omega, by omega, fun D2 hD2' => ?_⟩
        have nDD : D ≠ D2 := ne_of_none hD2 hD2'
        refine lc_range (lo := 0) (fun i H' => Same H2 H' ∧ ∃ js : List Int, H' D2 = some (.lst (js.map V.int)) ∧ js.length = us g[k] ((g.zip ((mk g w').take k ++ (hitL g w').drop k)).take i) ∧ js.length ≤ i) ⟨same_upd hD2', [], upd_same, rfl, Nat.le_refl _⟩ ?_ ?_
        · rintro i H3 hi ⟨sm3, js, hjs, hlen, hji⟩
          have hi : i < g.length := by rw [tg] at hi; omega
          have ei : (0 : Int) + (i : Nat) = (i : Nat) := by omega
          have hgi := atG hi
          have hfi : ((mk g w').take k ++ (hitL g w').drop k)[i]? = some (((mk g w').take k ++ (hitL g w').drop k)[i]'(by omega)) := List.getElem?_eq_getElem _
          generalize ((mk g w').take k ++ (hitL g w').drop k)[i]'(by omega) = m at hfi
          have hzf := zip_at hgi hfi
          have tk : (g.zip ((mk g w').take k ++ (hitL g w').drop k)).take (i + 1) = (g.zip ((mk g w').take k ++ (hitL g w').drop k)).take i ++ [(g[i], m)] := by
            have hlt := (List.getElem?_eq_some_iff.mp hzf).1
            rw [List.take_succ_eq_append_getElem hlt, (List.getElem?_eq_some_iff.mp hzf).2]
          have no : ¬ (g[i] = g[k] ∧ ¬ m = 48) → (Same H2 H3 ∧ ∃ js : List Int, H3 D2 = some (.lst (js.map V.int)) ∧ js.length = us g[k] ((g.zip ((mk g w').take k ++ (hitL g w').drop k)).take (i + 1)) ∧ js.length ≤ i + 1) := fun hno => by
            refine ⟨sm3, js, hjs, ?_, by omega⟩
            rw [tk, us_app, us_cons, if_neg hno, hlen]
            rfl
          have eq_iff : decide (V.str (one g[i]) = V.str (one g[k])) = decide (g[i] = g[k]) := decide_eq_decide.mpr ⟨fun q => ones_inj (V.str.inj q), fun q => by rw [q]⟩
          have ne_iff : decide (V.str (one m) = V.str (Str.ofString "0")) = decide (m = 48) := decide_eq_decide.mpr ⟨fun q => ones_inj (V.str.inj q), fun q => by rw [q]; rfl⟩
          refine ⟨rfl, _, rfl, _, rfl, tx g, _, g[i], rfl, rfl, by omega, by rw [ei]; exact atI_nat hgi, _, rfl, _, rfl, tx g, _, g[k], rfl, rfl, by omega, by rw [e0]; exact atI_nat ha, rfl, _, rfl, ?_⟩
          rw [eq_iff]
          refine ite2 (fun h1 => ?_) (fun h1 => ?_)
          · refine ⟨_, rfl, _, rfl, D, _, _, .str (one m), rfl, rfl, SqL.of (sm3 _ _ hD2), by rw [ei]; exact atI_nat (by rw [List.getElem?_map, hfi]; rfl), rfl, _, rfl, ?_⟩
            rw [ne_iff]
            refine ite2 (fun h2 => ?_) (fun h2 => ?_)
            · have hm : ¬ m = 48 := fun z => by rw [decide_eq_true z] at h2; cases h2
              refine ⟨_, rfl, _, hjs, by rw [List.length_map]; omega, fun b o e => ?_, js ++ [(0 : Int) + (i : Nat)], ?_, ?_, by rw [List.length_append]; exact Nat.succ_le_succ hji⟩
              · rw [upd_ne (ne_of_none e hD2')]
                exact sm3 b o e
              · rw [upd_same, List.map_append]
                rfl
              · rw [List.length_append, tk, us_app, us_cons, if_pos ⟨of_decide_eq_true h1, hm⟩, hlen]
                rfl
            · exact no fun z => h2 (by rw [decide_eq_false z.2]; rfl)
          · exact no fun z => h1 (decide_eq_true z.1)
        rintro H3 ⟨sm3, js, hjs, hlen, hji⟩
        rw [n0, List.take_of_length_le (by rw [List.length_zip]; omega), us_mix _ _ _ _ _ hl hml.symm] at hlen
        refine ⟨D2, _, rfl, .inl (SqL.of hjs), _, rfl, ⟨_, rfl⟩, _, rfl, _, rfl, tx g, _, g[k], rfl, rfl, by omega, by rw [e0]; exact atI_nat ha, tx w', one g[k], rfl, rfl, _, rfl, ?_⟩
        rw [count_tx, List.length_map]
        refine ⟨_, _, rfl, rfl, _, rfl, ?_⟩
        have key : decide (((js.length : Nat) : Int) < ((w'.count g[k] : Nat) : Int)) = decide (us g[k] ((g.zip (mk g w')).take k) + hs g[k] ((g.zip w').drop k) < w'.count g[k]) := decide_eq_decide.mpr (by rw [hlen]; omega)
        rw [key]
        refine ite2 (fun h2 => ?_) (fun h2 => ?_)
        · obtain ⟨m1, m2⟩ := stp.2.1 hne (of_decide_eq_true h2)
          refine ⟨_, rfl, _, rfl, D, _, _, k, rfl, rfl, sm3 _ _ hD2, by rw [e0, List.length_map, fl]; show (if (0 : Int) ≤ (k : Nat) then _ else _) = _; rw [if_pos (by omega), if_pos (by omega)]; rfl, ?_⟩
          refine ⟨fun b o e => ?_, ⟨some (.int (0 + (k : Nat))), some (.int ((js.length : Nat) : Int)), v5, rfl⟩, ?_, _, m2⟩
          · rw [upd_ne (ne_of_none e hD)]
            exact sm3 b o (sm2 b o e)
          · rw [upd_same, nxt m1, List.map_set]
            rfl
        · obtain ⟨m1, m2⟩ := stp.2.2 hne (fun z => h2 (decide_eq_true z))
          refine ⟨sm2.trans sm3, ⟨some (.int (0 + (k : Nat))), some (.int ((js.length : Nat) : Int)), v5, rfl⟩, ?_, _, m2⟩
          rw [stay m1 (if_neg hne)]
          exact sm3 _ _ hD2
      · have he : g[k] = w'[k]'(by omega) := Decidable.byContradiction fun z => h (decide_eq_true z)
        obtain ⟨m1, m2⟩ := stp.1 he
        refine ⟨sm2, ⟨some (.int (0 + (k : Nat))), v4, v5, rfl⟩, ?_, _, m2⟩
        rw [stay m1 (if_pos he)]
        exact hD2
    · rintro σ H2 ⟨sm2, ⟨v2, v4, v5, rfl⟩, hD2, u, hM⟩
      have hml : (mk g w').length = g.length := mk_len hl
      rw [n0, List.take_of_length_le (by omega), List.drop_of_length_le (by omega), List.append_nil] at hD2
      refine ⟨⟨_, rfl⟩, _, rfl, _, D, (mk g w').map one, rfl, rfl, .inl (SqL.of (by rw [List.map_map]; exact hD2)), ?_, ?_⟩
      · rw [sum_one, List.length_map]
        show (mk g w').length + (mk g w').length * 0 ≤ 16777216
        omega
      · show Q (.str (Txt.join (Str.ofString "") ((mk g w').map one))) H2
        rw [join_one]
        exact q H2 sm2
end
end Gm

/-! all words of a length -/
namespace Gm
def wds (l : List Nat) : Nat → List (List Nat)
  | 0 => [[]]
  | n + 1 => (wds l n).flatMap fun w => l.map fun c => w ++ [c]
theorem flat_len (xs : List (List Nat)) (l : List Nat) : (xs.flatMap fun w => l.map fun c => w ++ [c]).length = xs.length * l.length := by
  induction xs with
  | nil => simp
  | cons a xs ih => rw [List.flatMap_cons, List.length_append, ih, List.length_map, List.length_cons, Nat.add_mul]; omega
theorem wds_len (l : List Nat) : ∀ n, (wds l n).length = l.length ^ n
  | 0 => rfl
  | n + 1 => by rw [wds, flat_len, wds_len l n, Nat.pow_succ]
theorem wds_le {l : List Nat} (h : l.length ≤ 4) {n : Nat} (hn : n ≤ 4) : (wds l n).length ≤ 256 := by
  rw [wds_len]
  have h1 : l.length ^ n ≤ 4 ^ n := Nat.pow_le_pow_left h n
  have h2 : 4 ^ n ≤ 4 ^ 4 := Nat.pow_le_pow_right (by omega) hn
  exact Nat.le_trans h1 h2
theorem mem_wds (l : List Nat) : ∀ (n : Nat) (w : List Nat), w ∈ wds l n ↔ w.length = n ∧ ∀ c ∈ w, c ∈ l
  | 0, w => by
    show w ∈ [[]] ↔ _
    rw [List.mem_singleton]
    constructor
    · rintro rfl
      exact ⟨rfl, fun c h => by cases h⟩
    · rintro ⟨h, _⟩
      exact List.length_eq_zero_iff.mp h
  | n + 1, w => by
    show w ∈ (wds l n).flatMap _ ↔ _
    rw [List.mem_flatMap]
    constructor
    · rintro ⟨u, hu, hw⟩
      obtain ⟨c, hc, rfl⟩ := List.mem_map.mp hw
      obtain ⟨h1, h2⟩ := (mem_wds l n u).mp hu
      refine ⟨by rw [List.length_append, h1]; rfl, fun a ha => ?_⟩
      rcases List.mem_append.mp ha with h | h
      · exact h2 a h
      · rw [List.mem_singleton.mp h]; exact hc
    · rintro ⟨h1, h2⟩
      have hne : w ≠ [] := fun e => by rw [e] at h1; cases h1
      refine ⟨w.dropLast, (mem_wds l n _).mpr ⟨by rw [List.length_dropLast, h1]; rfl, fun c hc => h2 c ((List.dropLast_sublist w).subset hc)⟩, List.mem_map.mpr ⟨w.getLast hne, h2 _ (List.getLast_mem hne), List.dropLast_concat_getLast hne⟩⟩
/-- can_come against the list of all marks -/
theorem come_mem {l g t : List Nat} (hm : Marks t) (hl : g.length = t.length) (hg : ∀ c ∈ g, c ∈ l) : comeB l g t = decide (t ∈ (wds l g.length).map fun w => mk g w) := by
  rw [Bool.eq_iff_iff, come_iff hl hm hg, decide_eq_true_iff, List.mem_map]
  constructor
  · rintro ⟨w, h1, h2, h3⟩
    exact ⟨w, (mem_wds l _ w).mpr ⟨h1, h2⟩, h3⟩
  · rintro ⟨w, h1, h3⟩
    obtain ⟨h1, h2⟩ := (mem_wds l _ w).mp h1
    exact ⟨w, h1, h2, h3⟩
end Gm

namespace Gm
open PySem L2
abbrev sAll : Stmt := top 33
abbrev txs (ws : List (List Nat)) : List V := ws.map fun w => .str (tx w)
theorem txs_app (a b : List (List Nat)) : txs (a ++ b) = txs a ++ txs b := List.map_append
def spAll : Sp := fun vs H Q _ => ∃ (l : List Nat) (n : Int), vs = [.str (tx l), .int n] ∧ l.length ≤ 4 ∧ 0 ≤ n ∧ n ≤ 4 ∧ ∀ H' D, Same H H' → H D = none → H' D = some (.lst (txs (wds l n.toNat))) → Q (.ref D) H'
def spOfL (K : PySem.W.Frag) : Sp := fun vs H Q _ => ∃ (p D : Addr) (xs : List V), vs = [.ref p, .ref D] ∧ BowlAt H p ∧ D ≠ p ∧ H D = some (.lst xs) ∧ 0 < xs.length ∧ xs.length ≤ 1000 ∧ ∀ H' x, Stir p H H' → x ∈ xs → Q x H'
section
variable {P : Program} {w : World} {K : PySem.W.Frag} {mg : Str → Option Value} {base : Heap}
theorem ok_ofL {f fD : Addr} {fd fdD : FuncData} (F : Fun K "_law_of" "_law_of" sOf f fd) (T : TxS mg) (GD : FnOk P w K mg base CX0 1 fD fdD ["_law_bowl_here", "_law_many"] spDip) (DD : Df K mg "_law_dip" fD fdD ["_law_bowl_here", "_law_many"]) :
    FnOk P w K mg base CX0 2 f fd ["_law_bowl_here", "_law_things"] (spOfL K) := by
  refine F.ok scOf (fun vs H Q E h => ?_) (fun cdv A outer s H vs Q E hr h => ?_)
  · obtain ⟨p, D, xs, rfl, _⟩ := h
    rfl
  · obtain ⟨p, D, xs, rfl, hp, nD, hD, l0, l1, q⟩ := h
    have hline : sizeLine = 16777216 := sizeLine_eq
    refine ⟨_, pss_one (ps_ret (pe_ix ix_list (pv 1) (pe_call GD hr (by rfl) DD.mg DD.kp DD.b .nil pass0 (pa_cons (pv 0) (pa_cons (pe_callB call_len_seq (by rfl) T.len PySem.boot_len (pa_cons (pv 1) pa_nil)) pa_nil))) (fun _ _ => rfl))), ?_⟩
    refine ⟨_, rfl, _, rfl, _, rfl, D, xs, rfl, .inl (SqL.of hD), p, _, rfl, hp, by omega, by omega, fun H1 d R d0 d1 => ?_⟩
    obtain ⟨j, rfl⟩ := Int.eq_ofNat_of_zero_le d0
    have hj : j < xs.length := by omega
    exact ⟨D, xs, _, xs[j], rfl, rfl, SqL.of (R.1 _ _ nD hD), atI_nat (List.getElem?_eq_getElem hj), q H1 _ R (List.getElem_mem hj)⟩
abbrev nAll : List Str := ["_law_signs_here", "_law_size", "_law_found", "_law_k", "_law_longer", "_law_begun", "_law_sign"]
theorem scAll : FnScope nAll ["_law_signs_here", "_law_size"] (defScope sAll) := ⟨rfl, rfl, rfl, by decide +kernel, rfl, by decide +kernel, by decide +kernel⟩
theorem ok_all {f : Addr} {fd : FuncData} (F : Fun K "_law_all" "_law_all" sAll f fd) (range : mg "range" = none) : FnOk P w K mg base CX0 1 f fd ["_law_signs_here", "_law_size"] spAll := by
  refine F.ok scAll (fun vs H Q E h => ?_) (fun cdv A outer s H vs Q E hr h => ?_)
  · obtain ⟨l, n, rfl, _⟩ := h
    rfl
  · obtain ⟨l, n, rfl, l4, n0, n4, q⟩ := h
    have nd := scAll.nd
    have hline : sizeLine = 16777216 := sizeLine_eq
    refine ⟨_, pss_cons (ps_set (i := 2) nd rfl (Or.inl rfl) (pe_lst (pa_cons pe_str pa_nil)))
      (pss_cons (ps_for PassesOwn.never rfl (pi_range1 (by rfl) range (pa_cons (pv 1) pa_nil)) (pg_name (i := 3) nd rfl (Or.inl rfl))
        (pss_cons (ps_set (i := 4) nd rfl (Or.inl rfl) (pe_lst pa_nil))
        (pss_cons (ps_for PassesOwn.never rfl (pi_list (pv 2)) (pg_name (i := 5) nd rfl (Or.inr rfl))
          (pss_one (ps_set (i := 4) nd rfl (Or.inl rfl) (pe_op op_cat (pv 4) (pe_lc (own := [("_law_sign", 6)]) (g := gName 6) (by rfl) nd (pi_str (pv 0)) (blkOk_by (own := [("_law_sign", 6)]) (N := nAll) (sc := defScope sAll) (by decide +kernel))
            (fun _ _ _ _ _ => pg_name (i := 6) nd rfl (Or.inl rfl)) (fun _ _ _ _ _ => pts_nil) (fun _ _ _ _ _ => pe_op op_add_str (pv 5) (pv 6)))))))
        (pss_one (ps_set (i := 2) nd rfl (Or.inl rfl) (pv 4))))))
      (pss_one (ps_ret (pv 2)))), ?_⟩
    refine ⟨by show 1 ≤ sizeLine; omega, fun D0 hD0 => ?_⟩
    refine ⟨_, rfl, n, rfl, by omega, by omega, for_range (n := n.toNat) (fun k σ H' => ∃ (D : Addr) (v3 v4 v5 : Option V), σ = [some (.str (tx l)), some (.int n), some (.ref D), v3, v4, v5, none] ∧ Same H H' ∧ H D = none ∧ H' D = some (.lst (txs (wds l k))))
      ⟨D0, _, _, _, rfl, same_upd hD0, hD0, upd_same⟩ ?_ ?_⟩
    · rintro k σ H1 hk ⟨D, v3, v4, v5, rfl, s1, nD, hD⟩
      have hk4 : k ≤ 4 := by omega
      have wl := wds_le l4 hk4
      refine ⟨Nat.zero_le _, fun L0 hL0 => ?_⟩
      have nDL : D ≠ L0 := ne_of_none hD hL0
      refine ⟨_, rfl, D, rfl, ⟨_, SqL.of ((upd_ne nDL).trans hD)⟩, for_list (xs := txs (wds l k)) (fun i σ H' => ∃ (L : Addr) (v5 : Option V), σ = [some (.str (tx l)), some (.int n), some (.ref D), some (.int (0 + (k : Nat))), some (.ref L), v5, none] ∧ Same H H' ∧ H L = none ∧ H' D = some (.lst (txs (wds l k))) ∧
        H' L = some (.lst (txs (((wds l k).take i).flatMap fun w => l.map fun c => w ++ [c])))) ⟨L0, _, rfl, s1.trans (same_upd hL0), s1.free hL0, (upd_ne nDL).trans hD, upd_same⟩ (fun i σ H' _ h => ?_) ?_ ?_⟩
      · obtain ⟨_, _, _, _, _, h, _⟩ := h
        exact SqL.of h
      · rintro i x σ H2 hx ⟨L, v5, rfl, s2, nL, hD2, hL2⟩
        have hi : i < (wds l k).length := by
          have := (List.getElem?_eq_some_iff.mp hx).1
          rwa [List.length_map] at this
        have hxe : x = .str (tx (wds l k)[i]) := by
          rw [List.getElem?_map, List.getElem?_eq_getElem hi] at hx
          exact (Option.some.inj hx).symm
        subst hxe
        have hw := ((mem_wds l k _).mp (List.getElem_mem hi)).1
        generalize hwe : (wds l k)[i] = u at hw ⊢
        refine ⟨_, rfl, _, rfl, tx l, rfl, fun Dc hDc => ?_⟩
        have nLDc : L ≠ Dc := ne_of_none hL2 hDc
        have nDDc : D ≠ Dc := ne_of_none hD2 hDc
        refine lc_it (walk_str (z := tx l)) (fun j H' => Same H2 H' ∧ H' Dc = some (.lst (txs ((l.take j).map fun c => u ++ [c])))) ⟨same_upd hDc, upd_same⟩ (fun _ _ _ _ => trivial) ?_ ?_
        · rintro j y H3 H4 hj ⟨s3, hDj⟩ ⟨rfl, c, hc, rfl⟩
          have hc' := tx_at hc
          have hj' : j < l.length := (List.getElem?_eq_some_iff.mp hc').1
          refine ⟨rfl, _, rfl, _, rfl, _, _, rfl, rfl, ?_, _, hDj, ?_, fun b o e => ?_, ?_⟩
          · rw [tx_len]
            show u.length + 1 ≤ sizeLine
            omega
          · rw [List.length_map, List.length_map, List.length_take]
            omega
          · rw [upd_ne (ne_of_none e hDc)]
            exact s3 b o e
          · have e2 : l.take (j + 1) = l.take j ++ [c] := by rw [List.take_succ_eq_append_getElem hj', (List.getElem?_eq_some_iff.mp hc').2]
            rw [upd_same, e2, List.map_append, txs_app, List.map_cons, List.map_nil]
            have e3 : tx u ++ (⟨#[c]⟩ : Str) = tx (u ++ [c]) := tx_app u [c]
            rw [e3]
            rfl
        · rintro H3 ⟨s3, hDc3⟩
          rw [tx_size, List.take_length] at hDc3
          have hL3 := s3 _ _ hL2
          refine ⟨L, Dc, _, _, rfl, rfl, hL3, hDc3, ?_, fun L' hL' => ⟨L', _, rfl, ?_, ?_, ?_, ?_⟩⟩
          · rw [List.length_map, List.length_map, List.length_map, flat_len, List.length_take]
            have : min i (wds l k).length * l.length ≤ 256 * 4 := Nat.mul_le_mul (by omega) l4
            omega
          · exact (s2.trans s3).trans (same_upd hL')
          · exact (s2.trans s3).free hL'
          · exact (upd_ne (ne_of_none (s3 _ _ hD2) hL')).trans (s3 _ _ hD2)
          · rw [upd_same, List.take_succ_eq_append_getElem hi, hwe, List.flatMap_append, txs_app]
            simp
      · rintro σ H2 ⟨L, v5, rfl, s2, nL, hD2, hL2⟩
        rw [List.length_map, List.take_length] at hL2
        exact ⟨_, rfl, L, _, _, _, rfl, s2, nL, hL2⟩
    · rintro σ H1 ⟨D, v3, v4, v5, rfl, s1, nD, hD⟩
      exact ⟨_, rfl, q H1 D s1 nD hD⟩
end
end Gm

namespace Gm
open PySem L2
abbrev sRight : Stmt := top 35
def spRight : Sp := fun vs H Q _ => ∃ (p : Addr), vs = [.ref p] ∧ BowlAt H p ∧ ∀ H', Stir p H H' → Q (.bl true) H'
structure TxR (K : PySem.W.Frag) (mg : Str → Option Value) (C : Addr) : Prop where
  S : TxS mg
  W : TxW mg
  B : TxC K mg C
  repr : mg "repr" = none
  all : mg "all" = none
open PyProof.Rows in
theorem call_reprB {X : Cx} : CallR X (.builtin "repr") (fun xs H Q => ∃ b, xs = [.bl b] ∧ Q (.str (if b then "True" else "False")) H) := by
  intro pins s σ H xs us Q I r h
  obtain ⟨b, rfl, q⟩ := h
  obtain ⟨u, rfl, rx⟩ := vals1 r
  cases (show u = Value.bool b from rx)
  exact PySem.P.repr_of_bool ⟨.str _, H, I.tok _, ⟨_, rfl⟩, q⟩
theorem made_same {H H' : Hp} {x dx C : Addr} (hx : H x = none) (hd : H dx = none) (b : But x (upd (upd H dx (.own x)) x (.ins C dx [])) H') : Same H H' := fun a o e => by
  have n1 : a ≠ x := ne_of_none e hx
  have n2 : a ≠ dx := ne_of_none e hd
  exact b a o n1 (by rw [upd_ne n1, upd_ne n2]; exact e)
theorem BoardAt.stir {C p x : Addr} {H H' : Hp} {s : Str} {n : Int} (h : BoardAt C H x s n) (ne : x ≠ p) (R : Stir p H H') : BoardAt C H' x s n := let ⟨dx, h⟩ := h; ⟨dx, R.1 _ _ ne h⟩
theorem BoardAt.same {C p : Addr} {H H' : Hp} {s : Str} {n : Int} (h : BoardAt C H p s n) (e : Same H H') : BoardAt C H' p s n := let ⟨dx, h⟩ := h; ⟨dx, e _ _ h⟩
theorem bowl_ne {H : Hp} {p x : Addr} (h : BowlAt H p) (hx : H x = none) : x ≠ p := fun e => by
  obtain ⟨_, _, _, h⟩ := h
  rw [← e, hx] at h
  cases h
theorem tx_inj {u v : List Nat} : V.str (tx u) = V.str (tx v) ↔ u = v := ⟨fun q => by
  have := congrArg (fun s : Str => s.cps.toList) (V.str.inj q)
  simpa using this, fun q => by rw [q]⟩
theorem in_txs (a : List Nat) (u : List (List Nat)) : inV (.str (tx a)) (txs u) = decide (a ∈ u) := by
  induction u with
  | nil => rfl
  | cons b u ih =>
    have e : eqV (.str (tx b)) (.str (tx a)) = decide (a = b) := by
      show (tx b == tx a) = _
      by_cases h : a = b
      · subst h; simp
      · rw [decide_eq_false h]
        refine beq_eq_false_iff_ne.mpr fun q => h ?_
        have := congrArg (fun s : Str => s.cps.toList) q
        simpa using this.symm
    show (eqV (.str (tx b)) (.str (tx a)) || inV (.str (tx a)) (txs u)) = _
    rw [ih, e]
    by_cases h : a = b <;> simp [h]
theorem flat_txs (u : List (List Nat)) : (txs u).all flatV = true := by
  rw [List.all_map, List.all_eq_true]
  exact fun c _ => rfl
theorem cut_txs (ws : List (List Nat)) (lo hi : Option Int) : ∃ ts, cutV (txs ws) lo hi = txs ts ∧ ts.length ≤ ws.length ∧ ∀ t ∈ ts, t ∈ ws := by
  refine ⟨(ws.drop (HT.sIx (txs ws).length 0 lo)).take (HT.sIx (txs ws).length (txs ws).length hi - HT.sIx (txs ws).length 0 lo), ?_, ?_, fun t h => List.mem_of_mem_drop (List.mem_of_mem_take h)⟩
  · unfold cutV txs
    rw [List.map_take, List.map_drop]
  · rw [List.length_take, List.length_drop]
    omega
def PairsAt (H : Hp) : List Addr → List (Str × Str) → Prop
  | [], [] => True
  | T :: Ts, p :: ps => H T = some (.tup [.str p.1, .str p.2]) ∧ PairsAt H Ts ps
  | _, _ => False
theorem PairsAt.same {H H' : Hp} (s : Same H H') : ∀ {Ts : List Addr} {ps : List (Str × Str)}, PairsAt H Ts ps → PairsAt H' Ts ps
  | [], [], _ => trivial
  | T :: Ts, p :: ps, h => ⟨s _ _ h.1, PairsAt.same s h.2⟩
theorem PairsAt.app {H : Hp} : ∀ {Ts : List Addr} {ps : List (Str × Str)} {Us : List Addr} {qs : List (Str × Str)}, PairsAt H Ts ps → PairsAt H Us qs → PairsAt H (Ts ++ Us) (ps ++ qs)
  | [], [], _, _, _, h => h
  | T :: Ts, p :: ps, _, _, h, k => ⟨h.1, PairsAt.app h.2 k⟩
theorem PairsAt.len {H : Hp} : ∀ {Ts : List Addr} {ps : List (Str × Str)}, PairsAt H Ts ps → Ts.length = ps.length
  | [], [], _ => rfl
  | T :: Ts, p :: ps, h => by rw [List.length_cons, List.length_cons, PairsAt.len h.2]
theorem PairsAt.at {H : Hp} : ∀ {Ts : List Addr} {ps : List (Str × Str)} {i : Nat} {T : Addr}, PairsAt H Ts ps → Ts[i]? = some T → ∃ p, p ∈ ps ∧ H T = some (.tup [.str p.1, .str p.2])
  | T :: Ts, p :: ps, 0, U, h, e => by
    cases e
    exact ⟨p, List.mem_cons_self, h.1⟩
  | T :: Ts, p :: ps, i + 1, U, h, e => by
    obtain ⟨q, m, r⟩ := PairsAt.at h.2 (i := i) (by simpa using e)
    exact ⟨q, List.mem_cons_of_mem _ m, r⟩
def taPairs : List (Str × Str) → TA
  | [] => tNil
  | p :: ps => tCons (tTup (tCons (tC (.str p.1)) (tCons (tC (.str p.2)) tNil))) (taPairs ps)
theorem ev_pairs {σ : L2.St} : ∀ (ps : List (Str × Str)) (H : Hp) (Q : List V → Hp → Prop), (∀ H' Ts, Same H H' → PairsAt H' Ts ps → Q (Ts.map V.ref) H') → taPairs ps σ H Q
  | [], H, Q, k => k H [] (Same.refl H) trivial
  | p :: ps, H, Q, k => ⟨by show 2 ≤ sizeLine; decide, fun T hT => ev_pairs ps _ _ fun H' Ts s P => k H' (T :: Ts) ((same_upd hT).trans s) ⟨s _ _ upd_same, P⟩⟩
theorem ev5 {a0 b0 a1 b1 a2 b2 a3 b3 a4 b4 : Str} {σ : L2.St} {H : Hp} {Q : List V → Hp → Prop} (k : ∀ H' Ts, Same H H' → PairsAt H' Ts [(a0, b0), (a1, b1), (a2, b2), (a3, b3), (a4, b4)] → Q (Ts.map V.ref) H') : tCons (tTup (tCons (tC (.str a0)) (tCons (tC (.str b0)) tNil))) (tCons (tTup (tCons (tC (.str a1)) (tCons (tC (.str b1)) tNil))) (tCons (tTup (tCons (tC (.str a2)) (tCons (tC (.str b2)) tNil))) (tCons (tTup (tCons (tC (.str a3)) (tCons (tC (.str b3)) tNil))) (tCons (tTup (tCons (tC (.str a4)) (tCons (tC (.str b4)) tNil))) tNil)))) σ H Q := ev_pairs [(a0, b0), (a1, b1), (a2, b2), (a3, b3), (a4, b4)] H Q k
theorem ev4 {a0 b0 a1 b1 a2 b2 a3 b3 : Str} {σ : L2.St} {H : Hp} {Q : List V → Hp → Prop} (k : ∀ H' Ts, Same H H' → PairsAt H' Ts [(a0, b0), (a1, b1), (a2, b2), (a3, b3)] → Q (Ts.map V.ref) H') : tCons (tTup (tCons (tC (.str a0)) (tCons (tC (.str b0)) tNil))) (tCons (tTup (tCons (tC (.str a1)) (tCons (tC (.str b1)) tNil))) (tCons (tTup (tCons (tC (.str a2)) (tCons (tC (.str b2)) tNil))) (tCons (tTup (tCons (tC (.str a3)) (tCons (tC (.str b3)) tNil))) tNil))) σ H Q := ev_pairs [(a0, b0), (a1, b1), (a2, b2), (a3, b3)] H Q k
theorem ev2 {a0 b0 a1 b1 : Str} {σ : L2.St} {H : Hp} {Q : List V → Hp → Prop} (k : ∀ H' Ts, Same H H' → PairsAt H' Ts [(a0, b0), (a1, b1)] → Q (Ts.map V.ref) H') : tCons (tTup (tCons (tC (.str a0)) (tCons (tC (.str b0)) tNil))) (tCons (tTup (tCons (tC (.str a1)) (tCons (tC (.str b1)) tNil))) tNil) σ H Q := ev_pairs [(a0, b0), (a1, b1)] H Q k
def pairOk (v : Bool) (p : Str × Str) : Bool := decide (p.1.cps.toList.length = 6) && decide (p.2.cps.toList.length = 6) && p.1.cps.toList.all (fun c => decide (c ∈ low)) && p.2.cps.toList.all (fun c => decide (c ∈ [48, 49, 50])) && (comeB low p.1.cps.toList p.2.cps.toList == v)
theorem pairOk_get {v : Bool} {p : Str × Str} (h : pairOk v p = true) : ∃ g t, p = (tx g, tx t) ∧ Wd low 6 g ∧ Wd [48, 49, 50] 6 t ∧ comeB low g t = v := by
  unfold pairOk at h
  simp only [Bool.and_eq_true] at h
  obtain ⟨⟨⟨⟨h1, h2⟩, h3⟩, h4⟩, h5⟩ := h
  have h1 := of_decide_eq_true h1
  have h2 := of_decide_eq_true h2
  exact ⟨p.1.cps.toList, p.2.cps.toList, by cases p; rfl, ⟨by rw [h1]; rfl, fun c hc => of_decide_eq_true (List.all_eq_true.mp h3 c hc)⟩, ⟨by rw [h2]; rfl, fun c hc => of_decide_eq_true (List.all_eq_true.mp h4 c hc)⟩, eq_of_beq h5⟩
abbrev yes1 : List (Str × Str) := [(Str.ofString "aabbcc", Str.ofString "110000"), (Str.ofString "aabbcc", Str.ofString "101000"), (Str.ofString "abcdef", Str.ofString "111111"), (Str.ofString "aaaaab", Str.ofString "222220"), (Str.ofString "zzzzzz", Str.ofString "000000")]
abbrev yes2 : List (Str × Str) := [(Str.ofString "aaabbb", Str.ofString "111111"), (Str.ofString "ababab", Str.ofString "221100"), (Str.ofString "ababab", Str.ofString "220100"), (Str.ofString "ababab", Str.ofString "222211")]
abbrev no1 : List (Str × Str) := [(Str.ofString "aabbcc", Str.ofString "010000"), (Str.ofString "abcdef", Str.ofString "222221"), (Str.ofString "aaaaab", Str.ofString "111112"), (Str.ofString "aaaabb", Str.ofString "111111"), (Str.ofString "ababab", Str.ofString "222120")]
abbrev no2 : List (Str × Str) := [(Str.ofString "aabbcc", Str.ofString "122222"), (Str.ofString "abcdef", Str.ofString "122222")]
theorem yes_ok : ∀ p ∈ yes1 ++ yes2, pairOk true p = true := by decide +kernel
theorem no_ok : ∀ p ∈ no1 ++ no2, pairOk false p = true := by decide +kernel
theorem repr_ne {b c : Bool} (h : b = c) : (!decide (V.str (if b then "True" else "False") = V.str (if c then "True" else "False"))) = false := by subst h; simp
theorem cutFor {K : PySem.W.Frag} {tA : TT} {t1 t2 : TE} {g : TG} {tb : TS} {D : Ends} {σ : L2.St} {H : Hp} (C : V → Hp → Prop) (k : ∀ v H', C v H' → tFor (iList K (tC v)) g tb D σ H') (h : ∀ Q : V → Hp → Prop, (∀ v H', C v H' → Q v H') → tIf tA t1 t2 σ H Q) : tFor (iList K (tIf tA t1 t2)) g tb D σ H := h _ k
theorem asgFor {i : Nat} {v : V} {wi : TI} {g : TG} {tb : TS} {D : Ends} {σ : L2.St} {H : Hp} (h : tFor wi g tb D (σ.set i (some v)) H) : gName i v σ H ({ D with nx := tFor wi g tb D } : Ends).nx := h
theorem asgL0 {i j : Nat} {v : V} {ta : TA} {tz : TS} {D : Ends} {σ : L2.St} {H : Hp} (h : ta (σ.set i (some v)) H fun xs H1 => xs.length ≤ sizeLine ∧ ∀ p, H1 p = none → gName j (.ref p) (σ.set i (some v)) (upd H1 p (.lst xs)) ({ D with nx := tz D } : Ends).nx) :
    gName i v σ H ({ D with nx := tSeq (tAsg (tLst ta) (gName j)) tz D } : Ends).nx := h
theorem asgC0 {i j k : Nat} {v : V} {ta : TA} {tz : TS} {D : Ends} {σ : L2.St} {H : Hp} {a : V} (hk : (σ.set i (some v))[k]? = some (some a)) (h : ta (σ.set i (some v)) H fun xs H1 => xs.length ≤ sizeLine ∧ ∀ p, H1 p = none → rCat a (.ref p) (upd H1 p (.lst xs)) fun y H2 => gName j y (σ.set i (some v)) H2 ({ D with nx := tz D } : Ends).nx) :
    gName i v σ H ({ D with nx := tSeq (tAsg (tOp rCat (tVar k) (tLst ta)) (gName j)) tz D } : Ends).nx := ⟨a, hk, h⟩
theorem all_rep (k : Nat) : (List.replicate k true).all id = true := by
  induction k with
  | zero => rfl
  | succ k ih => rw [List.replicate_succ, List.all_cons, ih]; rfl
theorem alph_all : Alph (tx low) := by decide +kernel
theorem marks_of_wd {n : Int} {t : List Nat} (h : Wd [48, 49, 50] n t) : Marks t := fun c hc => by
  have := h.2 c hc
  simp only [List.mem_cons, List.not_mem_nil, or_false] at this
  omega
theorem wd_of_wds {l : List Nat} {n : Int} (n0 : 0 ≤ n) {t : List Nat} (h : t ∈ wds l n.toNat) : Wd l n t := by
  obtain ⟨h1, h2⟩ := (mem_wds l _ t).mp h
  exact ⟨by omega, h2⟩
section
variable {P : Program} {w : World} {K : PySem.W.Frag} {mg : Str → Option Value} {base : Heap}
abbrev nR : List Str := ["_law_bowl_here", "_law_turn", "_law_signs_here", "_law_size", "_law_box", "_law_asked", "_law_seen", "_law_some", "_law_told_here", "_law_yes", "_law_no", "_law_hidden", "_law_k"]
theorem scRt : FnScope nR ["_law_bowl_here"] (defScope sRight) := ⟨rfl, rfl, rfl, by decide +kernel, rfl, by decide +kernel, by decide +kernel⟩
theorem ok_right {f C fS fD fI fW fT fA fC fO : Addr} {fd fdS fdD fdI fdW fdT fdA fdC fdO : FuncData} (F : Fun K "_law_right" "_law_right" sRight f fd) (T : TxR K mg C)
    (GS : FnOk P w K mg base CX0 2 fS fdS ["_law_bowl_here", "_law_least", "_law_most"] spSigns) (DS : Df K mg "_law_signs" fS fdS ["_law_bowl_here", "_law_least", "_law_most"])
    (GD : FnOk P w K mg base CX0 1 fD fdD ["_law_bowl_here", "_law_many"] spDip) (DD : Df K mg "_law_dip" fD fdD ["_law_bowl_here", "_law_many"])
    (GI : FnOk P w K mg base CX0 2 fI fdI ["self", "letters", "length"] (spInit C)) (M : Mk K C fI) (bI : Binds K fdI ["self", "letters", "length"] [])
    (GW : FnOk P w K mg base CX0 3 fW fdW ["_law_bowl_here", "_law_signs_here", "_law_size"] spWord) (DW : Df K mg "_law_word" fW fdW ["_law_bowl_here", "_law_signs_here", "_law_size"])
    (GT : FnOk P w K mg base CX0 1 fT fdT ["_law_asked", "_law_hidden"] spTold) (DT : Df K mg "_law_told" fT fdT ["_law_asked", "_law_hidden"])
    (GA : FnOk P w K mg base CX0 1 fA fdA ["_law_signs_here", "_law_size"] spAll) (DA : Df K mg "_law_all" fA fdA ["_law_signs_here", "_law_size"])
    (GO : FnOk P w K mg base CX0 2 fO fdO ["_law_bowl_here", "_law_things"] (spOfL K)) (DO : Df K mg "_law_of" fO fdO ["_law_bowl_here", "_law_things"])
    (GC : FnOk P w K mg base CX0 8 fC fdC ["board", "guess", "told"] (spCome C)) (DC : Df K mg "can_come" fC fdC ["board", "guess", "told"]) :
    FnOk P w K mg base CX0 9 f fd ["_law_bowl_here"] spRight := by
  refine F.ok scRt (fun vs H Q E h => ?_) (fun cdv A outer s H vs Q E hr h => ?_)
  · obtain ⟨p, rfl, _⟩ := h
    rfl
  · obtain ⟨p, rfl, hp, q⟩ := h
    have nd := scRt.nd
    have hr3 : Room 3 _ := hr.mono (by decide)
    have hr2 : Room 2 _ := hr.mono (by decide)
    have hr1 : Room 1 _ := hr.mono (by decide)
    refine ⟨_, pss_cons (ps_for PassesOwn.never rfl (pi_range1 (by rfl) T.S.range (pa_cons pe_int pa_nil)) (pg_name (i := 1) nd rfl (Or.inl rfl))
      (pss_cons (ps_par (i := 2) (j := 3) (by rfl) nd rfl rfl (by decide) rfl rfl (pa_cons (pe_call GS hr2 (by rfl) DS.mg DS.kp DS.b .nil pass0 (pa_cons (pv 0) (pa_cons pe_int (pa_cons pe_int pa_nil))))
          (pa_cons (pe_op op_add pe_int (pe_call GD hr1 (by rfl) DD.mg DD.kp DD.b .nil pass0 (pa_cons (pv 0) (pa_cons pe_int pa_nil)))) pa_nil)) (by rfl))
      (pss_cons (ps_asg (pe_tup (pa_cons (pe_make M GI hr3 (by rfl) T.B.mgC bI .nil pass0 (pa_cons (pv 2) (pa_cons (pv 3) pa_nil)))
          (pa_cons (pe_call GW hr3 (by rfl) DW.mg DW.kp DW.b .nil pass0 (pa_cons (pv 0) (pa_cons (pv 2) (pa_cons (pv 3) pa_nil)))) pa_nil)))
          (pg_tup (by rfl) (pgs_cons (pg_name (i := 4) nd rfl (Or.inr rfl)) (pgs_cons (pg_name (i := 5) nd rfl (Or.inr rfl)) pgs_nil))))
      (pss_cons (ps_setLc (i := 6) (own := [("_law_hidden", 11)]) (g := gName 11) (by rfl) nd rfl rfl (sw_true rfl rfl rfl (by decide +kernel)) (pi_list (pe_call GA hr1 (by rfl) DA.mg DA.kp DA.b .nil pass0 (pa_cons (pv 2) (pa_cons (pv 3) pa_nil))))
          (blkOk_by (own := [("_law_hidden", 11)]) (N := nR) (sc := defScope sRight) (by decide +kernel)) (fun _ _ _ _ _ => pg_name (i := 11) nd rfl (Or.inl rfl)) (fun _ _ _ _ _ => pts_nil)
          (fun _ _ _ _ _ => pe_call GT hr1 (by rfl) DT.mg DT.kp DT.b .nil pass0 (pa_cons (pv 5) (pa_cons (pv 11) pa_nil))))
      (pss_cons (ps_set (i := 7) nd rfl (Or.inr rfl) (pe_call GA hr1 (by rfl) DA.mg DA.kp DA.b .nil pass0 (pa_cons pe_str (pa_cons (pv 3) pa_nil))))
      (pss_one (ps_for PassesOwn.never rfl (pi_list (pe_ifExp (pt_cmpR op_lt (pv 3) pe_int (nomark _)) (pv 7) (pe_op op_cat
          (pe_lc (own := [("_law_k", 12)]) (g := gName 12) (by rfl) nd (pi_range1 (by rfl) T.S.range (pa_cons pe_int pa_nil)) (blkOk_by (own := [("_law_k", 12)]) (N := nR) (sc := defScope sRight) (by decide +kernel))
            (fun _ _ _ _ _ => pg_name (i := 12) nd rfl (Or.inl rfl)) (fun _ _ _ _ _ => pts_nil) (fun _ _ _ _ _ => pe_call GO hr2 (by rfl) DO.mg DO.kp DO.b .nil pass0 (pa_cons (pv 0) (pa_cons (pv 7) pa_nil))))
          (pe_slice sl_list (pv 6) po_none (po_some pe_int))))) (pg_name (i := 8) nd rfl (Or.inl rfl))
        (pss_one (ps_if (pt_cmpR op_ne (pe_callB call_reprB (by rfl) T.repr (by decide +kernel) (pa_cons (pe_call GC hr (by rfl) DC.mg DC.kp DC.b .nil pass0 (pa_cons (pv 4) (pa_cons (pv 5) (pa_cons (pv 8) pa_nil)))) pa_nil))
            (pe_callB call_reprB (by rfl) T.repr (by decide +kernel) (pa_cons (pe_cmpR op_in_seq (pv 8) (pv 6) rfl) pa_nil)) (nomark _)) (pss_one (ps_ret pe_bl)) pss_nil)))))))))
      (pss_cons (ps_set (i := 4) nd rfl (Or.inr rfl) (pe_make M GI hr3 (by rfl) T.B.mgC bI .nil pass0 (pa_cons pe_str (pa_cons pe_int pa_nil))))
      (pss_cons (ps_set (i := 9) nd rfl (Or.inl rfl) (pe_lst (pa_cons (pe_tup (pa_cons pe_str (pa_cons pe_str pa_nil))) (pa_cons (pe_tup (pa_cons pe_str (pa_cons pe_str pa_nil))) (pa_cons (pe_tup (pa_cons pe_str (pa_cons pe_str pa_nil))) (pa_cons (pe_tup (pa_cons pe_str (pa_cons pe_str pa_nil))) (pa_cons (pe_tup (pa_cons pe_str (pa_cons pe_str pa_nil))) pa_nil)))))))
      (pss_cons (ps_set (i := 9) nd rfl (Or.inl rfl) (pe_op op_cat (pv 9) (pe_lst (pa_cons (pe_tup (pa_cons pe_str (pa_cons pe_str pa_nil))) (pa_cons (pe_tup (pa_cons pe_str (pa_cons pe_str pa_nil))) (pa_cons (pe_tup (pa_cons pe_str (pa_cons pe_str pa_nil))) (pa_cons (pe_tup (pa_cons pe_str (pa_cons pe_str pa_nil))) pa_nil)))))))
      (pss_cons (ps_set (i := 10) nd rfl (Or.inl rfl) (pe_lst (pa_cons (pe_tup (pa_cons pe_str (pa_cons pe_str pa_nil))) (pa_cons (pe_tup (pa_cons pe_str (pa_cons pe_str pa_nil))) (pa_cons (pe_tup (pa_cons pe_str (pa_cons pe_str pa_nil))) (pa_cons (pe_tup (pa_cons pe_str (pa_cons pe_str pa_nil))) (pa_cons (pe_tup (pa_cons pe_str (pa_cons pe_str pa_nil))) pa_nil)))))))
      (pss_cons (ps_set (i := 10) nd rfl (Or.inl rfl) (pe_op op_cat (pv 10) (pe_lst (pa_cons (pe_tup (pa_cons pe_str (pa_cons pe_str pa_nil))) (pa_cons (pe_tup (pa_cons pe_str (pa_cons pe_str pa_nil))) pa_nil)))))
      (pss_cons (ps_if (pt_not (pt_val (pe_callB (cr_all rfl) (by rfl) T.all (by decide +kernel) (pa_cons
          (pe_lc (own := [("_law_asked", 5), ("_law_told_here", 8)]) (g := gTup K 2 (gCons (gName 5) (gCons (gName 8) gNil))) (by rfl) nd (pi_list (pv 9)) (blkOk_by (own := [("_law_asked", 5), ("_law_told_here", 8)]) (N := nR) (sc := defScope sRight) (by decide +kernel))
            (fun _ _ _ _ _ => by exact pg_tup (by rfl) (pgs_cons (pg_name (i := 5) nd rfl (Or.inl rfl)) (pgs_cons (pg_name (i := 8) nd rfl (Or.inl rfl)) pgs_nil))) (fun _ _ _ _ _ => pts_nil)
            (fun _ _ _ _ _ => pe_cmpR op_isBl (pe_call GC hr (by rfl) DC.mg DC.kp DC.b .nil pass0 (pa_cons (pv 4) (pa_cons (pv 5) (pa_cons (pv 8) pa_nil)))) pe_bl (nomark _))) pa_nil)))) (pss_one (ps_ret pe_bl)) pss_nil)
      (pss_one (ps_ret (pe_callB (cr_all rfl) (by rfl) T.all (by decide +kernel) (pa_cons
          (pe_lc (own := [("_law_asked", 5), ("_law_told_here", 8)]) (g := gTup K 2 (gCons (gName 5) (gCons (gName 8) gNil))) (by rfl) nd (pi_list (pv 10)) (blkOk_by (own := [("_law_asked", 5), ("_law_told_here", 8)]) (N := nR) (sc := defScope sRight) (by decide +kernel))
            (fun _ _ _ _ _ => by exact pg_tup (by rfl) (pgs_cons (pg_name (i := 5) nd rfl (Or.inl rfl)) (pgs_cons (pg_name (i := 8) nd rfl (Or.inl rfl)) pgs_nil))) (fun _ _ _ _ _ => pts_nil)
            (fun _ _ _ _ _ => pe_cmpR op_isBl (pe_call GC hr (by rfl) DC.mg DC.kp DC.b .nil pass0 (pa_cons (pv 4) (pa_cons (pv 5) (pa_cons (pv 8) pa_nil)))) pe_bl (nomark _))) pa_nil)))))))))), ?_⟩
    have hline : sizeLine = 16777216 := sizeLine_eq
    refine ⟨3, rfl, by decide, by decide, for_range (n := 3) (fun i σ H' => (∃ v1 v2 v3 v4 v5 v6 v7 v8 v9 v10 v11 v12 : Option V, σ = [some (.ref p), v1, v2, v3, v4, v5, v6, v7, v8, v9, v10, v11, v12]) ∧ Stir p H H') ⟨⟨_, _, _, _, _, _, _, _, _, _, _, _, rfl⟩, Stir.refl hp⟩ ?_ ?_⟩
    · rintro i σ H1 hi ⟨⟨v1, v2, v3, v4, v5, v6, v7, v8, v9, v10, v11, v12, rfl⟩, R1⟩
      refine ⟨_, rfl, p, 2, 4, rfl, R1.2, by decide, by decide, by decide, fun H2 z R2 hA z2 z4 => ?_⟩
      refine ⟨_, rfl, p, 4, rfl, R2.2, by decide, by decide, fun H3 d R3 d0 d4 => ⟨_, _, rfl, rfl, _, _, rfl, ?_⟩⟩
      obtain ⟨l, rfl⟩ : ∃ l, z = tx l := ⟨z.cps.toList, TL.ext_tl rfl⟩
      have n0 : 1 ≤ 1 + d := by omega
      have n4 : 1 + d ≤ 4 := by omega
      have n6 : 1 + d ≤ 6 := by omega
      have l2 := hA.1
      have l4 : l.length ≤ 4 := by rw [tx_len] at z4; omega
      rw [tx_len] at l2
      have R3' := (R1.trans R2).trans R3
      refine ⟨_, rfl, _, rfl, fun x dx hx hdx ne => ⟨x, dx, tx l, 1 + d, rfl, hA, n0, n6, upd_same, fun H4 b4 B4 => ⟨rfl, ?_⟩⟩⟩
      have nx := bowl_ne R3'.2 hx
      have R4 : Stir p H H4 := R3'.same (made_same hx hdx b4)
      refine ⟨_, rfl, _, rfl, _, rfl, p, l, 1 + d, rfl, R4.2, by omega, by omega, by omega, n6, fun H5 a R5 ha hal => ?_⟩
      refine ⟨by show 2 ≤ sizeLine; decide, fun t ht => ⟨t, _, rfl, SqT.of upd_same, rfl, _, _, rfl, _, _, rfl, rfl, ?_⟩⟩
      have hwa : Wd l (1 + d) a := ⟨by omega, hal⟩
      have R6 := (R4.trans R5).same (same_upd (o := .tup [.ref x, .str (tx a)]) ht)
      have B6 : BoardAt C (upd H5 t (.tup [.ref x, .str (tx a)])) x (tx l) (1 + d) := (B4.stir nx R5).same (same_upd ht)
      obtain ⟨m, hm⟩ : ∃ m : Nat, (1 + d).toNat = m := ⟨_, rfl⟩
      have am : a.length = m := by omega
      have wl : (wds l m).length ≤ 256 := wds_le l4 (by omega)
      refine ⟨_, rfl, _, rfl, l, 1 + d, rfl, l4, by omega, n4, fun H7 W s7 nW hW => ⟨W, rfl, ⟨_, SqL.of hW⟩, fun S hS => ?_⟩⟩
      rw [hm] at hW
      refine lc_list (K := K) (a := W) (xs := txs (wds l m)) (fun i H' => Same H7 H' ∧ H' S = some (.lst (txs (((wds l m).take i).map fun w => mk a w)))) ⟨same_upd hS, upd_same⟩ (fun i H' _ h => SqL.of (h.1 _ _ hW)) ?_ ?_
      · rintro j y H' hj ⟨sm, hSj⟩
        have hj' : j < (wds l m).length := by
          have := (List.getElem?_eq_some_iff.mp hj).1
          rwa [List.length_map] at this
        have hye : y = .str (tx (wds l m)[j]) := by
          rw [List.getElem?_map, List.getElem?_eq_getElem hj'] at hj
          exact (Option.some.inj hj).symm
        subst hye
        have hu := (mem_wds l m _).mp (List.getElem_mem hj')
        refine ⟨rfl, ⟨_, rfl, _, rfl, a, (wds l m)[j], rfl, by omega, by omega, fun H'' s'' => ⟨_, s'' _ _ hSj, ?_, fun b u e => ?_, ?_⟩⟩⟩
        · rw [List.length_map, List.length_map, List.length_take]
          omega
        · rw [upd_ne (ne_of_none e hS)]
          exact s'' _ _ (sm b u e)
        · rw [upd_same, List.take_succ_eq_append_getElem hj', List.map_append, txs_app]
          rfl
      rintro H8 ⟨s8, hS8⟩
      rw [List.length_map, List.take_length] at hS8
      refine ⟨_, rfl, [48, 49, 50], 1 + d, rfl, by decide, by omega, n4, fun H9 SO s9 nSO hSO => ?_⟩
      rw [hm] at hSO
      have s69 := (s7.trans s8).trans s9
      have R9 := R6.same s69
      have B9 := B6.same s69
      have hS9 := s9 _ _ hS8
      have nSp : S ≠ p := bowl_ne (R6.same s7).2 hS
      have nSOp : SO ≠ p := bowl_ne (R6.same (s7.trans s8)).2 nSO
      have wm : (wds [48, 49, 50] m).length ≤ 256 := wds_le (by decide) (by omega)
      have wd3 : ∀ t ∈ wds [48, 49, 50] m, Wd [48, 49, 50] (1 + d) t := fun t ht => wd_of_wds (by omega) (by rw [hm]; exact ht)
      apply asgFor
      refine cutFor (fun v H' => ∃ (AL : Addr) (ts : List (List Nat)), v = .ref AL ∧ H' AL = some (.lst (txs ts)) ∧ (∀ t ∈ ts, Wd [48, 49, 50] (1 + d) t) ∧ Stir p H H' ∧ BoardAt C H' x (tx l) (1 + d) ∧ H' S = some (.lst (txs ((wds l m).map fun w => mk a w)))) ?_ (fun QQ c => ?_)
      · rintro v H10 ⟨AL, ts, rfl, hAL, hts, R10, B10, hS10⟩
        refine ⟨AL, rfl, ⟨_, SqL.of hAL⟩, for_list (xs := txs ts) (fun j σ H' => (∃ w8 w11 w12 : Option V, σ = [some (.ref p), some (.int (0 + (i : Nat))), some (.str (tx l)), some (.int (1 + d)), some (.ref x), some (.str (tx a)), some (.ref S), some (.ref SO), w8, v9, v10, w11, w12]) ∧
          Stir p H H' ∧ BoardAt C H' x (tx l) (1 + d) ∧ H' S = some (.lst (txs ((wds l m).map fun w => mk a w))) ∧ H' AL = some (.lst (txs ts))) ⟨⟨_, _, _, rfl⟩, R10, B10, hS10, hAL⟩ (fun _ _ _ _ h => SqL.of h.2.2.2.2) ?_ ?_⟩
        · rintro j y σ H11 hj ⟨⟨w8, w11, w12, rfl⟩, R11, B11, hS11, hAL11⟩
          have hj' : j < ts.length := by
            have := (List.getElem?_eq_some_iff.mp hj).1
            rwa [List.length_map] at this
          have hye : y = .str (tx ts[j]) := by
            rw [List.getElem?_map, List.getElem?_eq_getElem hj'] at hj
            exact (Option.some.inj hj).symm
          subst hye
          have hwt := hts _ (List.getElem_mem hj')
          have hal' : a.length = ts[j].length := by have := hwa.1; have := hwt.1; omega
          refine ⟨_, rfl, _, rfl, _, rfl, x, l, a, ts[j], 1 + d, rfl, ⟨B11, by omega, n0, n6⟩, hwa, hwt, fun H12 s12 => ?_⟩
          refine ⟨_, rfl, _, rfl, _, rfl, S, _, rfl, .inl (SqL.of (s12 _ _ hS11)), rfl, flat_txs _, ?_⟩
          have key : comeB l a ts[j] = inV (.str (tx ts[j])) (txs ((wds l m).map fun w => mk a w)) := by
            rw [in_txs, come_mem (marks_of_wd hwt) hal' hal, am]
          refine ⟨_, rfl, rfl, false, congrArg V.bl (repr_ne key), iteF ?_⟩
          exact ⟨⟨_, _, _, rfl⟩, R11.same s12, B11.same s12, s12 _ _ hS11, s12 _ _ hAL11⟩
        · rintro σ H11 ⟨⟨w8, w11, w12, rfl⟩, R11, _⟩
          exact ⟨⟨_, _, _, _, _, _, _, _, _, _, _, _, rfl⟩, R11⟩
      · refine ⟨_, rfl, _, _, rfl, rfl, _, rfl, ite2 (fun h => ?_) (fun h => ?_)⟩
        · exact ⟨_, rfl, c _ _ ⟨SO, wds [48, 49, 50] m, rfl, hSO, wd3, R9, B9, hS9⟩⟩
        · refine ⟨25, rfl, by decide, by decide, fun Dc hDc => ?_⟩
          have nDcp : Dc ≠ p := bowl_ne R9.2 hDc
          refine lc_range (lo := 0) (n := 25) (fun i H2 => ∃ ts : List (List Nat), Stir p H9 H2 ∧ H2 Dc = some (.lst (txs ts)) ∧ ts.length = i ∧ ∀ t ∈ ts, Wd [48, 49, 50] (1 + d) t) ⟨[], (Stir.refl R9.2).same (same_upd hDc), upd_same, rfl, fun t ht => by cases ht⟩ ?_ ?_
          · rintro j H10 hj ⟨ts, R, hD, tl, tw⟩
            have pos : 0 < (wds [48, 49, 50] m).length := by
              rw [wds_len]
              exact Nat.pow_pos (by decide)
            refine ⟨rfl, ⟨_, rfl, _, rfl, p, SO, txs (wds [48, 49, 50] m), rfl, R.2, nSOp, R.1 _ _ nSOp hSO, by rw [List.length_map]; exact pos, by rw [List.length_map]; omega, fun H11 x' R3 hx' => ?_⟩⟩
            obtain ⟨t, ht, rfl⟩ := List.mem_map.mp hx'
            have RR := R.trans R3
            refine ⟨_, R3.1 Dc _ nDcp hD, by rw [List.length_map]; omega, ts ++ [t], ⟨fun b o n e => ?_, ?_⟩, ?_, by rw [List.length_append, tl]; rfl, fun u hu => ?_⟩
            · rw [upd_ne (ne_of_none e hDc)]
              exact RR.1 b o n e
            · obtain ⟨x1, y1, z1, h1⟩ := RR.2
              exact ⟨x1, y1, z1, by rw [upd_ne nDcp.symm]; exact h1⟩
            · rw [upd_same, txs_app]
              rfl
            · rcases List.mem_append.mp hu with hu | hu
              · exact tw u hu
              · rw [List.mem_singleton.mp hu]
                exact wd3 t ht
          · rintro H10 ⟨ts, R, hD, tl, tw⟩
            obtain ⟨ts2, e2, q2, m2⟩ := cut_txs ((wds l m).map fun w => mk a w) none (some 10)
            refine ⟨_, rfl, _, rfl, S, _, rfl, SqL.of (R.1 _ _ nSp hS9), fun PP hPP => ?_⟩
            have nDP : Dc ≠ PP := ne_of_none hD hPP
            refine ⟨Dc, PP, txs ts, txs ts2, rfl, rfl, (upd_ne nDP).trans hD, by rw [upd_same]; exact congrArg (fun z => some (HO.lst z)) e2, ?_, fun AL hAL => c _ _ ⟨AL, ts ++ ts2, rfl, by rw [upd_same, txs_app], fun t ht => ?_, ?_, ?_, ?_⟩⟩
            · rw [List.length_map] at q2
              rw [List.length_map, List.length_map]
              omega
            · rcases List.mem_append.mp ht with ht | ht
              · exact tw t ht
              · obtain ⟨u, hu, rfl⟩ := List.mem_map.mp (m2 t ht)
                have hu2 := (mem_wds l m u).mp hu
                have hul : a.length = u.length := by omega
                refine ⟨by rw [mk_len hul]; exact hwa.1, fun c' hc' => ?_⟩
                have := mk_marks hul c' hc'
                simp only [List.mem_cons, List.not_mem_nil, or_false]
                omega
            · exact ((R9.trans R).same (same_upd hPP)).same (same_upd hAL)
            · exact ((B9.stir nx R).same (same_upd hPP)).same (same_upd hAL)
            · exact (same_upd hAL) _ _ ((same_upd hPP) _ _ (R.1 _ _ nSp hS9))
    · rintro σ H' ⟨⟨v1, v2, v3, v4, v5, v6, v7, v8, v9, v10, v11, v12, rfl⟩, R⟩
      refine fun x dx hx hdx ne => ⟨x, dx, tx low, 6, rfl, alph_all, by decide, by decide, upd_same, fun H4 b4 B4 => ⟨rfl, ?_⟩⟩
      have s4 := made_same hx hdx b4
      show gName 4 _ _ _ _
      refine asgL0 (ev5 (fun H5 T1 s5 P5 => ⟨by rw [List.length_map, P5.len]; show 5 ≤ sizeLine; decide, fun Y1 hY1 => ?_⟩))
      refine asgC0 rfl (ev4 (fun H6 T2 s6 P6 => ⟨by rw [List.length_map, P6.len]; show 4 ≤ sizeLine; decide, fun Y2 hY2 => ⟨Y1, Y2, T1.map V.ref, T2.map V.ref, rfl, rfl, (same_upd hY2) _ _ (s6 _ _ upd_same), upd_same, by rw [List.length_map, List.length_map, P5.len, P6.len]; show 9 ≤ sizeLine; decide, fun Y hY => ?_⟩⟩))
      refine asgL0 (ev5 (fun H7 T3 s7 P7 => ⟨by rw [List.length_map, P7.len]; show 5 ≤ sizeLine; decide, fun N1 hN1 => ?_⟩))
      refine asgC0 rfl (ev2 (fun H8 T4 s8 P8 => ⟨by rw [List.length_map, P8.len]; show 2 ≤ sizeLine; decide, fun N2 hN2 => ⟨N1, N2, T3.map V.ref, T4.map V.ref, rfl, rfl, (same_upd hN2) _ _ (s8 _ _ upd_same), upd_same, by rw [List.length_map, List.length_map, P7.len, P8.len]; show 7 ≤ sizeLine; decide, fun N hN => ?_⟩⟩))
      have e1 : Same H4 H6 := s5.trans ((same_upd (o := .lst (T1.map V.ref)) hY1).trans s6)
      have e2 : Same H6 H7 := ((same_upd (o := .lst (T2.map V.ref)) hY2).trans (same_upd (o := .lst (T1.map V.ref ++ T2.map V.ref)) hY)).trans s7
      have e3 : Same H7 H8 := (same_upd (o := .lst (T3.map V.ref)) hN1).trans s8
      have e4 : Same H8 (upd (upd H8 N2 (.lst (T4.map V.ref))) N (.lst (T3.map V.ref ++ T4.map V.ref))) := (same_upd hN2).trans (same_upd hN)
      obtain ⟨HF, hHF⟩ : ∃ HF, HF = upd (upd H8 N2 (.lst (T4.map V.ref))) N (.lst (T3.map V.ref ++ T4.map V.ref)) := ⟨_, rfl⟩
      have hNF : HF N = some (.lst ((T3 ++ T4).map V.ref)) := by rw [hHF, upd_same, List.map_append]
      rw [← hHF] at e4
      have hYF : HF Y = some (.lst ((T1 ++ T2).map V.ref)) := e4 _ _ (e3 _ _ (s7 _ _ (by rw [upd_same, List.map_append])))
      have PY : PairsAt HF (T1 ++ T2) (yes1 ++ yes2) := (P5.same ((same_upd hY1).trans (s6.trans (e2.trans (e3.trans e4))))).app (P6.same (e2.trans (e3.trans e4)))
      have PN : PairsAt HF (T3 ++ T4) (no1 ++ no2) := (P7.same (e3.trans e4)).app (P8.same e4)
      have BF : BoardAt C HF x (tx low) 6 := B4.same (e1.trans (e2.trans (e3.trans e4)))
      have RF : Stir p H HF := R.same (s4.trans (e1.trans (e2.trans (e3.trans e4))))
      refine ⟨_, rfl, Y, rfl, ⟨_, SqL.of (hHF ▸ hYF)⟩, fun D hD => ?_⟩
      rw [← hHF] at hD ⊢
      refine lc_list (K := K) (a := Y) (xs := (T1 ++ T2).map V.ref) (fun i H' => Same HF H' ∧ H' D = some (.lst ((List.replicate i true).map V.bl))) ⟨same_upd hD, upd_same⟩ (fun i H' _ h => SqL.of (h.1 _ _ hYF)) ?_ ?_
      · rintro i y H' hi ⟨sm, hDi⟩
        rw [List.getElem?_map] at hi
        obtain ⟨U, hU, rfl⟩ := Option.map_eq_some_iff.mp hi
        obtain ⟨pr, hm, hT⟩ := PairsAt.at PY hU
        obtain ⟨g, t, rfl, hg, ht, hc⟩ := pairOk_get (yes_ok _ hm)
        refine ⟨U, _, rfl, SqT.of (sm _ _ hT), rfl, _, _, rfl, _, _, rfl, rfl, rfl, ?_⟩
        refine ⟨_, rfl, _, rfl, _, rfl, x, low, g, t, 6, rfl, ⟨BF.same sm, by decide, by decide, by decide⟩, hg, ht, fun H'' s'' => ?_⟩
        rw [hc]
        refine ⟨true, true, rfl, rfl, _, s'' _ _ hDi, ?_, fun b u e => ?_, ?_⟩
        · rw [List.length_map, List.length_replicate]
          have := (List.getElem?_eq_some_iff.mp hU).1
          have := PairsAt.len PY
          simp only [List.length_append, List.length_cons, List.length_nil] at *
          omega
        · rw [upd_ne (ne_of_none e hD)]
          exact s'' _ _ (sm b u e)
        · rw [upd_same, List.replicate_succ', List.map_append]
          rfl
      rintro HG ⟨sG, hDG⟩
      rw [List.length_map] at hDG
      refine ⟨D, _, rfl, SqL.of hDG, true, congrArg V.bl (all_rep _), ?_⟩
      refine iteF ?_
      have hNG := sG _ _ hNF
      have PG' := PN.same sG
      have BG := BF.same sG
      refine ⟨_, rfl, N, rfl, ⟨_, SqL.of hNG⟩, fun D hD => ?_⟩
      refine lc_list (K := K) (a := N) (xs := (T3 ++ T4).map V.ref) (fun i H' => Same HG H' ∧ H' D = some (.lst ((List.replicate i true).map V.bl))) ⟨same_upd hD, upd_same⟩ (fun i H' _ h => SqL.of (h.1 _ _ hNG)) ?_ ?_
      · rintro i y H' hi ⟨sm, hDi⟩
        rw [List.getElem?_map] at hi
        obtain ⟨U, hU, rfl⟩ := Option.map_eq_some_iff.mp hi
        obtain ⟨pr, hm, hT⟩ := PairsAt.at PG' hU
        obtain ⟨g, t, rfl, hg, ht, hc⟩ := pairOk_get (no_ok _ hm)
        refine ⟨U, _, rfl, SqT.of (sm _ _ hT), rfl, _, _, rfl, _, _, rfl, rfl, rfl, ?_⟩
        refine ⟨_, rfl, _, rfl, _, rfl, x, low, g, t, 6, rfl, ⟨BG.same sm, by decide, by decide, by decide⟩, hg, ht, fun H'' s'' => ?_⟩
        rw [hc]
        refine ⟨false, false, rfl, rfl, _, s'' _ _ hDi, ?_, fun b u e => ?_, ?_⟩
        · rw [List.length_map, List.length_replicate]
          have := (List.getElem?_eq_some_iff.mp hU).1
          have := PairsAt.len PG'
          simp only [List.length_append, List.length_cons, List.length_nil] at *
          omega
        · rw [upd_ne (ne_of_none e hD)]
          exact s'' _ _ (sm b u e)
        · rw [upd_same, List.replicate_succ', List.map_append]
          rfl
      rintro HI ⟨sI, hDI⟩
      refine ⟨D, _, rfl, SqL.of hDI, ?_⟩
      rw [List.all_replicate]
      simp only [id, if_true, ite_self]
      exact q _ (RF.same (sG.trans sI))
end
end Gm

namespace Gm
open PySem L2
abbrev sLaw : Stmt := top 36
def spLaw (K : PySem.W.Frag) : Sp := fun vs H Q _ => ∃ (a : Addr) (ns : List Int), vs = [.ref a] ∧ SqL K H a (ns.map V.int) ∧ ns.length ≤ 63 ∧ ∀ H', Q (.bl true) H'
structure TxL (mg : Str → Option Value) : Prop where
  all : mg "all" = none
  range : mg "range" = none
  max : mg "max" = none
  min : mg "min" = none
  len : mg "len" = none
section
variable {P : Program} {w : World} {K : PySem.W.Frag} {mg : Str → Option Value} {base : Heap}
abbrev nL : List Str := ["_law_script", "_law_k"]
theorem scL : FnScope nL ["_law_script"] (defScope sLaw) := ⟨rfl, rfl, rfl, by decide +kernel, rfl, by decide +kernel, by decide +kernel⟩
theorem ok_law {f fB fR : Addr} {fd fdB fdR : FuncData} (F : Fun K "law" "law" sLaw f fd) (T : TxL mg)
    (GB : FnOk P w K mg base CX0 1 fB fdB ["_law_script", "_law_k"] (spBowl K)) (DB : Df K mg "_law_bowl" fB fdB ["_law_script", "_law_k"])
    (GR : FnOk P w K mg base CX0 9 fR fdR ["_law_bowl_here"] spRight) (DR : Df K mg "_law_right" fR fdR ["_law_bowl_here"]) : FnOk P w K mg base CX0 10 f fd ["_law_script"] (spLaw K) := by
  refine F.ok scL (fun vs H Q E h => ?_) (fun cdv A outer s H vs Q E hr h => ?_)
  · obtain ⟨a, ns, rfl, _⟩ := h
    rfl
  · obtain ⟨a, ns, rfl, hS, hlen, q⟩ := h
    have nd := scL.nd
    have hr1 : Room 1 _ := hr.mono (by decide)
    refine ⟨_, pss_one (ps_ret (pe_callB (cr_all rfl) (by rfl) T.all (by decide +kernel) (pa_cons
      (pe_lc (own := [("_law_k", 1)]) (g := gName 1) (by rfl) nd
        (pi_range1 (by rfl) T.range (pa_cons (pe_callB (call_max2 rfl) (by rfl) T.max (by decide +kernel) (pa_cons pe_int (pa_cons (pe_callB (call_min2 rfl) (by rfl) T.min (by decide +kernel)
          (pa_cons (pe_callB call_len_seq (by rfl) T.len PySem.boot_len (pa_cons (pv 0) pa_nil)) (pa_cons pe_int pa_nil))) pa_nil))) pa_nil))
        (blkOk_by (own := [("_law_k", 1)]) (N := nL) (sc := defScope sLaw) (by decide +kernel))
        (fun _ _ _ _ _ => pg_name (i := 1) nd rfl (Or.inl rfl)) (fun _ _ _ _ _ => pts_nil)
        (fun _ _ _ _ _ => pe_call GR hr (by rfl) DR.mg DR.kp DR.b .nil pass0 (pa_cons (pe_call GB hr1 (by rfl) DB.mg DB.kp DB.b .nil pass0 (pa_cons (pv 0) (pa_cons (pv 1) pa_nil))) pa_nil))) pa_nil))), ?_⟩
    have hline : sizeLine = 16777216 := sizeLine_eq
    refine ⟨_, rfl, a, _, rfl, .inl hS, _, _, rfl, _, _, rfl, ?_⟩
    refine ⟨_, rfl, ?_, ?_, fun D hD => ?_⟩
    · rw [List.length_map]
      split <;> (try split) <;> omega
    · rw [List.length_map]
      split <;> (try split) <;> omega
    have hn : ∀ L : Int, (if (if (4 : Int) < L then (4 : Int) else L) > 2 then (if (4 : Int) < L then (4 : Int) else L) else 2).toNat ≤ 6 := fun L => by
      split <;> (try split) <;> omega
    refine lc_range (lo := 0) (fun i H' => Same H H' ∧ H' D = some (.lst ((List.replicate i true).map V.bl))) ⟨same_upd hD, upd_same⟩ ?_ ?_
    · rintro i H1 hi ⟨sm, hDi⟩
      have hi6 : i < 6 := Nat.lt_of_lt_of_le hi (hn _)
      refine ⟨rfl, ⟨_, rfl, _, rfl, a, ns, _, rfl, sm.seq hS, hlen, by omega, fun H2 p s2 np B => ⟨p, rfl, B, fun H3 R3 => ?_⟩⟩⟩
      have keep : Same H1 H3 := fun b o e => R3.1 b o (ne_of_none e np) (s2 b o e)
      refine ⟨_, keep _ _ hDi, ?_, fun b u e => ?_, ?_⟩
      · rw [List.length_map, List.length_replicate]
        omega
      · rw [upd_ne (ne_of_none e hD)]
        exact keep b u (sm b u e)
      · rw [upd_same, List.replicate_succ', List.map_append]
        rfl
    · rintro H1 ⟨sm, hD1⟩
      refine ⟨D, _, rfl, SqL.of hD1, ?_⟩
      rw [List.all_replicate]
      simp only [id, if_true, ite_self]
      exact q _
end
end Gm

namespace Gm
open PySem L2
theorem all_mk {P : Program} {w : World} {K : PySem.W.Frag} {h : Heap} {mg : Str → Option Value} {fa CB fB fD fOf fS fWo fTd fR fL fW fA fC fOv fCw fCm fCb fAl fCc fLm fOd fCf fI : Addr} (X : K.In h) (G : h.Ns mainGlobals mg) (hfa : mg "law" = some (.ref fa))
    {odB anB odD anD odOf anOf odS anS odWo anWo odTd anTd odR anR odL anL odW anW odA anA odC anC odOv anOv odCw anCw odCm anCm odCb anCb odAl anAl odCc anCc odLm anLm odOd anOd odCf anCf odI anI : Option Addr} {slB slD slOf slS slWo slTd slR slL slW slA slC slOv slCw slCm slCb slAl slCc slLm slOd slCf slI : Array (Option Value)} {ocB kVB dcB pmB cdB ctB ocD kVD dcD pmD cdD ctD ocOf kVOf dcOf pmOf cdOf ctOf ocS kVS dcS pmS cdS ctS ocWo kVWo dcWo pmWo cdWo ctWo ocTd kVTd dcTd pmTd cdTd ctTd ocR kVR dcR pmR cdR ctR ocL kVL dcL pmL cdL ctL ocW kVW dcW pmW cdW ctW ocA kVA dcA pmA cdA ctA ocC kVC dcC pmC cdC ctC ocOv kVOv dcOv pmOv cdOv ctOv ocCw kVCw dcCw pmCw cdCw ctCw ocCm kVCm dcCm pmCm cdCm ctCm ocCb kVCb dcCb pmCb cdCb ctCb ocAl kVAl dcAl pmAl cdAl ctAl ocCc kVCc dcCc pmCc cdCc ctCc ocLm kVLm dcLm pmLm cdLm ctLm ocOd kVOd dcOd pmOd cdOd ctOd ocCf kVCf dcCf pmCf cdCf ctCf ocI kVI dcI pmI cdI ctI : Value}
    {tkML tkMM tkLO tkMA : Tok}
    (aB : PySem.W.nsIn K mainGlobals "_law_bowl" = some (some (.ref fB))) (lB : K.lookup fB = some ⟨ocB, odB, .func (PySem.W.fnOf "_law_bowl" "_law_bowl" (defArgs sBowl) (defBody sBowl) (defScope sBowl) .none kVB dcB pmB anB cdB ctB), slB⟩) (cB : PySem.W.codeIn K cdB "_law_bowl" = true) (kB : PySem.W.keepIn K (.ref fB) = true)
    (aD : PySem.W.nsIn K mainGlobals "_law_dip" = some (some (.ref fD))) (lD : K.lookup fD = some ⟨ocD, odD, .func (PySem.W.fnOf "_law_dip" "_law_dip" (defArgs sDip) (defBody sDip) (defScope sDip) .none kVD dcD pmD anD cdD ctD), slD⟩) (cD : PySem.W.codeIn K cdD "_law_dip" = true) (kD : PySem.W.keepIn K (.ref fD) = true)
    (aOf : PySem.W.nsIn K mainGlobals "_law_of" = some (some (.ref fOf))) (lOf : K.lookup fOf = some ⟨ocOf, odOf, .func (PySem.W.fnOf "_law_of" "_law_of" (defArgs sOf) (defBody sOf) (defScope sOf) .none kVOf dcOf pmOf anOf cdOf ctOf), slOf⟩) (cOf : PySem.W.codeIn K cdOf "_law_of" = true) (kOf : PySem.W.keepIn K (.ref fOf) = true)
    (aS : PySem.W.nsIn K mainGlobals "_law_signs" = some (some (.ref fS))) (lS : K.lookup fS = some ⟨ocS, odS, .func (PySem.W.fnOf "_law_signs" "_law_signs" (defArgs sSigns) (defBody sSigns) (defScope sSigns) .none kVS dcS pmS anS cdS ctS), slS⟩) (cS : PySem.W.codeIn K cdS "_law_signs" = true) (kS : PySem.W.keepIn K (.ref fS) = true)
    (aWo : PySem.W.nsIn K mainGlobals "_law_word" = some (some (.ref fWo))) (lWo : K.lookup fWo = some ⟨ocWo, odWo, .func (PySem.W.fnOf "_law_word" "_law_word" (defArgs sWord) (defBody sWord) (defScope sWord) .none kVWo dcWo pmWo anWo cdWo ctWo), slWo⟩) (cWo : PySem.W.codeIn K cdWo "_law_word" = true) (kWo : PySem.W.keepIn K (.ref fWo) = true)
    (aTd : PySem.W.nsIn K mainGlobals "_law_told" = some (some (.ref fTd))) (lTd : K.lookup fTd = some ⟨ocTd, odTd, .func (PySem.W.fnOf "_law_told" "_law_told" (defArgs sTold) (defBody sTold) (defScope sTold) .none kVTd dcTd pmTd anTd cdTd ctTd), slTd⟩) (cTd : PySem.W.codeIn K cdTd "_law_told" = true) (kTd : PySem.W.keepIn K (.ref fTd) = true)
    (aR : PySem.W.nsIn K mainGlobals "_law_right" = some (some (.ref fR))) (lR : K.lookup fR = some ⟨ocR, odR, .func (PySem.W.fnOf "_law_right" "_law_right" (defArgs sRight) (defBody sRight) (defScope sRight) .none kVR dcR pmR anR cdR ctR), slR⟩) (cR : PySem.W.codeIn K cdR "_law_right" = true) (kR : PySem.W.keepIn K (.ref fR) = true)
    (aL : PySem.W.nsIn K mainGlobals "law" = some (some (.ref fL))) (lL : K.lookup fL = some ⟨ocL, odL, .func (PySem.W.fnOf "law" "law" (defArgs sLaw) (defBody sLaw) (defScope sLaw) .none kVL dcL pmL anL cdL ctL), slL⟩) (cL : PySem.W.codeIn K cdL "law" = true) (kL : PySem.W.keepIn K (.ref fL) = true)
    (aW : PySem.W.nsIn K mainGlobals "is_integer_within" = some (some (.ref fW))) (lW : K.lookup fW = some ⟨ocW, odW, .func (PySem.W.fnOf "is_integer_within" "is_integer_within" (defArgs sWithin) (defBody sWithin) (defScope sWithin) .none kVW dcW pmW anW cdW ctW), slW⟩) (cW : PySem.W.codeIn K cdW "is_integer_within" = true) (kW : PySem.W.keepIn K (.ref fW) = true)
    (aA : PySem.W.nsIn K mainGlobals "is_alphabet" = some (some (.ref fA))) (lA : K.lookup fA = some ⟨ocA, odA, .func (PySem.W.fnOf "is_alphabet" "is_alphabet" (defArgs sAlpha) (defBody sAlpha) (defScope sAlpha) .none kVA dcA pmA anA cdA ctA), slA⟩) (cA : PySem.W.codeIn K cdA "is_alphabet" = true) (kA : PySem.W.keepIn K (.ref fA) = true)
    (aC : PySem.W.nsIn K mainGlobals "count_words" = some (some (.ref fC))) (lC : K.lookup fC = some ⟨ocC, odC, .func (PySem.W.fnOf "count_words" "count_words" (defArgs sCount) (defBody sCount) (defScope sCount) .none kVC dcC pmC anC cdC ctC), slC⟩) (cC : PySem.W.codeIn K cdC "count_words" = true) (kC : PySem.W.keepIn K (.ref fC) = true)
    (aOv : PySem.W.nsIn K mainGlobals "is_text_over" = some (some (.ref fOv))) (lOv : K.lookup fOv = some ⟨ocOv, odOv, .func (PySem.W.fnOf "is_text_over" "is_text_over" (defArgs sOver) (defBody sOver) (defScope sOver) .none kVOv dcOv pmOv anOv cdOv ctOv), slOv⟩) (cOv : PySem.W.codeIn K cdOv "is_text_over" = true) (kOv : PySem.W.keepIn K (.ref fOv) = true)
    (aCw : PySem.W.nsIn K mainGlobals "check_word" = some (some (.ref fCw))) (lCw : K.lookup fCw = some ⟨ocCw, odCw, .func (PySem.W.fnOf "check_word" "check_word" (defArgs sChkW) (defBody sChkW) (defScope sChkW) .none kVCw dcCw pmCw anCw cdCw ctCw), slCw⟩) (cCw : PySem.W.codeIn K cdCw "check_word" = true) (kCw : PySem.W.keepIn K (.ref fCw) = true)
    (aCm : PySem.W.nsIn K mainGlobals "check_marks" = some (some (.ref fCm))) (lCm : K.lookup fCm = some ⟨ocCm, odCm, .func (PySem.W.fnOf "check_marks" "check_marks" (defArgs sChkM) (defBody sChkM) (defScope sChkM) .none kVCm dcCm pmCm anCm cdCm ctCm), slCm⟩) (cCm : PySem.W.codeIn K cdCm "check_marks" = true) (kCm : PySem.W.keepIn K (.ref fCm) = true)
    (aCb : PySem.W.nsIn K mainGlobals "check_board" = some (some (.ref fCb))) (lCb : K.lookup fCb = some ⟨ocCb, odCb, .func (PySem.W.fnOf "check_board" "check_board" (defArgs sChkB) (defBody sChkB) (defScope sChkB) .none kVCb dcCb pmCb anCb cdCb ctCb), slCb⟩) (cCb : PySem.W.codeIn K cdCb "check_board" = true) (kCb : PySem.W.keepIn K (.ref fCb) = true)
    (aAl : PySem.W.nsIn K mainGlobals "_law_all" = some (some (.ref fAl))) (lAl : K.lookup fAl = some ⟨ocAl, odAl, .func (PySem.W.fnOf "_law_all" "_law_all" (defArgs sAll) (defBody sAll) (defScope sAll) .none kVAl dcAl pmAl anAl cdAl ctAl), slAl⟩) (cAl : PySem.W.codeIn K cdAl "_law_all" = true) (kAl : PySem.W.keepIn K (.ref fAl) = true)
    (aCc : PySem.W.nsIn K mainGlobals "can_come" = some (some (.ref fCc))) (lCc : K.lookup fCc = some ⟨ocCc, odCc, .func (PySem.W.fnOf "can_come" "can_come" (defArgs sCome) (defBody sCome) (defScope sCome) .none kVCc dcCc pmCc anCc cdCc ctCc), slCc⟩) (cCc : PySem.W.codeIn K cdCc "can_come" = true) (kCc : PySem.W.keepIn K (.ref fCc) = true)
    (aLm : PySem.W.nsIn K mainGlobals "letters_marked" = some (some (.ref fLm))) (lLm : K.lookup fLm = some ⟨ocLm, odLm, .func (PySem.W.fnOf "letters_marked" "letters_marked" (defArgs sLm) (defBody sLm) (defScope sLm) .none kVLm dcLm pmLm anLm cdLm ctLm), slLm⟩) (cLm : PySem.W.codeIn K cdLm "letters_marked" = true) (kLm : PySem.W.keepIn K (.ref fLm) = true)
    (aOd : PySem.W.nsIn K mainGlobals "is_in_order" = some (some (.ref fOd))) (lOd : K.lookup fOd = some ⟨ocOd, odOd, .func (PySem.W.fnOf "is_in_order" "is_in_order" (defArgs sOrd) (defBody sOrd) (defScope sOrd) .none kVOd dcOd pmOd anOd cdOd ctOd), slOd⟩) (cOd : PySem.W.codeIn K cdOd "is_in_order" = true) (kOd : PySem.W.keepIn K (.ref fOd) = true)
    (aCf : PySem.W.nsIn K mainGlobals "can_fill" = some (some (.ref fCf))) (lCf : K.lookup fCf = some ⟨ocCf, odCf, .func (PySem.W.fnOf "can_fill" "can_fill" (defArgs sFill) (defBody sFill) (defScope sFill) .none kVCf dcCf pmCf anCf cdCf ctCf), slCf⟩) (cCf : PySem.W.codeIn K cdCf "can_fill" = true) (kCf : PySem.W.keepIn K (.ref fCf) = true)
    (aI : PySem.W.findIn K (.ref CB) "__init__" = some (some (.ref fI))) (iI : PySem.W.isFn K (.ref fI) = true) (lI : K.lookup fI = some ⟨ocI, odI, .func (PySem.W.fnOf "__init__" "Board.__init__" (defArgs sInit) (defBody sInit) (defScope sInit) .none kVI dcI pmI anI cdI ctI), slI⟩) (cI : PySem.W.codeIn K cdI "Board.__init__" = true) (kI : PySem.W.keepIn K (.ref fI) = true)
    (gCB : PySem.W.nsIn K mainGlobals "Board" = some (some (.ref CB)))
    (nML : PySem.W.nsIn K mainGlobals "MOST_LENGTH" = some (some (.int 6 tkML)))
    (nMM : PySem.W.nsIn K mainGlobals "MOST_LETTERS" = some (some (.int 26 tkMM)))
    (nLO : PySem.W.nsIn K mainGlobals "LOWERCASE" = some (some (.str lowTxt tkLO)))
    (nMA : PySem.W.nsIn K mainGlobals "MARKS" = some (some (.str (Str.ofString "012") tkMA)))
    (zrepr : PySem.W.nsIn K mainGlobals "repr" = some none)
    (zlen : PySem.W.nsIn K mainGlobals "len" = some none)
    (zint : PySem.W.nsIn K mainGlobals "int" = some none)
    (zabs : PySem.W.nsIn K mainGlobals "abs" = some none)
    (zdivmod : PySem.W.nsIn K mainGlobals "divmod" = some none)
    (zisinstance : PySem.W.nsIn K mainGlobals "isinstance" = some none)
    (zbool : PySem.W.nsIn K mainGlobals "bool" = some none)
    (zstr : PySem.W.nsIn K mainGlobals "str" = some none)
    (zrange : PySem.W.nsIn K mainGlobals "range" = some none)
    (zsorted : PySem.W.nsIn K mainGlobals "sorted" = some none)
    (zall : PySem.W.nsIn K mainGlobals "all" = some none)
    (zany : PySem.W.nsIn K mainGlobals "any" = some none)
    (zmax : PySem.W.nsIn K mainGlobals "max" = some none)
    (zmin : PySem.W.nsIn K mainGlobals "min" = some none)
    (zzip : PySem.W.nsIn K mainGlobals "zip" = some none)
    (pg : PySem.W.plainGet K CB Str.empty = true)
    (hd : PySem.W.hasDictIn K CB = true)
    (po : PySem.W.plainOver K CB = true)
    (sa : PySem.W.findIn K (.ref CB) "__setattr__" = some (some (.builtin "object.__setattr__")))
    (mki : PySem.W.makesIn K CB = true)
    (kc : PySem.W.keepIn K (.ref CB) = true)
    (naL : PySem.W.findIn K (.ref CB) "letters" = some none)
    (naN : PySem.W.findIn K (.ref CB) "length" = some none)
    (naS : PySem.W.findIn K (.ref CB) "size" = some none)
    (ac : PySem.W.findIn K (.ref CB) "__class__" = some (some (.builtin "object.__class__")))
    (gt : PySem.W.specialIn K (.builtin "object.__class__") "__get__" = some (some (.builtin "getset_descriptor.__get__")))
    (tk : PySem.W.takesIn K (.builtin "object.__class__") = some true)
    (ob : PySem.W.mroIn K CB (.type "object") = some true)
    (kitO : PySem.W.kitOne K (.ref CB) (.ref CB) = some true) :
    ∃ fd : FuncData, (∀ (s : Shared) (v : Value), BindsTo s fd ⟨[v], []⟩ [("_law_script", v)]) ∧ ∀ base : Heap, K.In base → base.Ns mainGlobals mg → FnOk P w K mg base CX0 10 fa fd ["_law_script"] (spLaw K) := by
  have e := hfa.symm.trans (PySem.W.mg_of X G aL)
  cases e
  have FB := fun_mk (st := sBowl) lB cB kB
  have FD := fun_mk (st := sDip) lD cD kD
  have FOf := fun_mk (st := sOf) lOf cOf kOf
  have FS := fun_mk (st := sSigns) lS cS kS
  have FWo := fun_mk (st := sWord) lWo cWo kWo
  have FTd := fun_mk (st := sTold) lTd cTd kTd
  have FR := fun_mk (st := sRight) lR cR kR
  have FL := fun_mk (st := sLaw) lL cL kL
  have FW := fun_mk (st := sWithin) lW cW kW
  have FA := fun_mk (st := sAlpha) lA cA kA
  have FC := fun_mk (st := sCount) lC cC kC
  have FOv := fun_mk (st := sOver) lOv cOv kOv
  have FCw := fun_mk (st := sChkW) lCw cCw kCw
  have FCm := fun_mk (st := sChkM) lCm cCm kCm
  have FCb := fun_mk (st := sChkB) lCb cCb kCb
  have FAl := fun_mk (st := sAll) lAl cAl kAl
  have FCc := fun_mk (st := sCome) lCc cCc kCc
  have FLm := fun_mk (st := sLm) lLm cLm kLm
  have FOd := fun_mk (st := sOrd) lOd cOd kOd
  have FCf := fun_mk (st := sFill) lCf cCf kCf
  have FI := fun_mk (st := sInit) lI cI kI
  have TB : TxB mg := ⟨PySem.W.mg_none_of X G zlen, PySem.W.mg_none_of X G zint, PySem.W.mg_none_of X G zabs, PySem.W.mg_none_of X G zdivmod⟩
  have TW : TxW mg := ⟨PySem.W.mg_none_of X G zisinstance, PySem.W.mg_none_of X G zbool, PySem.W.mg_none_of X G zint, PySem.W.mg_none_of X G zstr, PySem.W.mg_none_of X G zlen, PySem.W.mg_none_of X G zrange, ⟨_, PySem.W.mg_of X G nMM⟩, ⟨_, PySem.W.mg_of X G nML⟩, ⟨_, PySem.W.mg_of X G nLO⟩⟩
  have TC : TxC K mg CB := ⟨⟨pg, hd, po, sa⟩, PySem.W.mg_of X G gCB, naL, naN, naS, ac, gt, tk, ob, kitO⟩
  have TS : TxS mg := ⟨PySem.W.mg_none_of X G zlen, PySem.W.mg_none_of X G zrange, PySem.W.mg_none_of X G zsorted⟩
  have TR : TxR K mg CB := ⟨TS, TW, TC, PySem.W.mg_none_of X G zrepr, PySem.W.mg_none_of X G zall⟩
  have TL : TxL mg := ⟨PySem.W.mg_none_of X G zall, PySem.W.mg_none_of X G zrange, PySem.W.mg_none_of X G zmax, PySem.W.mg_none_of X G zmin, PySem.W.mg_none_of X G zlen⟩
  have TF : TxF mg := ⟨PySem.W.mg_none_of X G zlen, PySem.W.mg_none_of X G zany⟩
  have eM : (Str.ofString "012") = tx [48, 49, 50] := by decide +kernel
  have mMA : ∃ t, mg "MARKS" = some (.str (tx [48, 49, 50]) t) := ⟨_, eM ▸ PySem.W.mg_of X G nMA⟩
  have bB := FB.binds (ps := ["_law_script", "_law_k"]) fun _ _ _ _ _ _ us hl => match us, hl with | [_, _], _ => rfl
  have bD := FD.binds (ps := ["_law_bowl_here", "_law_many"]) fun _ _ _ _ _ _ us hl => match us, hl with | [_, _], _ => rfl
  have bOf := FOf.binds (ps := ["_law_bowl_here", "_law_things"]) fun _ _ _ _ _ _ us hl => match us, hl with | [_, _], _ => rfl
  have bS := FS.binds (ps := ["_law_bowl_here", "_law_least", "_law_most"]) fun _ _ _ _ _ _ us hl => match us, hl with | [_, _, _], _ => rfl
  have bWo := FWo.binds (ps := ["_law_bowl_here", "_law_signs_here", "_law_size"]) fun _ _ _ _ _ _ us hl => match us, hl with | [_, _, _], _ => rfl
  have bTd := FTd.binds (ps := ["_law_asked", "_law_hidden"]) fun _ _ _ _ _ _ us hl => match us, hl with | [_, _], _ => rfl
  have bR := FR.binds (ps := ["_law_bowl_here"]) fun _ _ _ _ _ _ us hl => match us, hl with | [_], _ => rfl
  have bW := FW.binds (ps := ["value", "least", "most"]) fun _ _ _ _ _ _ us hl => match us, hl with | [_, _, _], _ => rfl
  have bA := FA.binds (ps := ["letters"]) fun _ _ _ _ _ _ us hl => match us, hl with | [_], _ => rfl
  have bC := FC.binds (ps := ["many", "length"]) fun _ _ _ _ _ _ us hl => match us, hl with | [_, _], _ => rfl
  have bOv := FOv.binds (ps := ["value", "characters", "length"]) fun _ _ _ _ _ _ us hl => match us, hl with | [_, _, _], _ => rfl
  have bCw := FCw.binds (ps := ["board", "word"]) fun _ _ _ _ _ _ us hl => match us, hl with | [_, _], _ => rfl
  have bCm := FCm.binds (ps := ["board", "told"]) fun _ _ _ _ _ _ us hl => match us, hl with | [_, _], _ => rfl
  have bCb := FCb.binds (ps := ["board"]) fun _ _ _ _ _ _ us hl => match us, hl with | [_], _ => rfl
  have bAl := FAl.binds (ps := ["_law_signs_here", "_law_size"]) fun _ _ _ _ _ _ us hl => match us, hl with | [_, _], _ => rfl
  have bCc := FCc.binds (ps := ["board", "guess", "told"]) fun _ _ _ _ _ _ us hl => match us, hl with | [_, _, _], _ => rfl
  have bLm := FLm.binds (ps := ["guess", "told", "wanted"]) fun _ _ _ _ _ _ us hl => match us, hl with | [_, _, _], _ => rfl
  have bOd := FOd.binds (ps := ["guess", "told"]) fun _ _ _ _ _ _ us hl => match us, hl with | [_, _], _ => rfl
  have bCf := FCf.binds (ps := ["gaps", "owed", "spare"]) fun _ _ _ _ _ _ us hl => match us, hl with | [_, _, _], _ => rfl
  have bI := FI.binds (ps := ["self", "letters", "length"]) fun _ _ _ _ _ _ us hl => match us, hl with | [_, _, _], _ => rfl
  refine ⟨PySem.W.fnOf "law" "law" (defArgs sLaw) (defBody sLaw) (defScope sLaw) .none kVL dcL pmL anL cdL ctL, fun s v => .of_eq rfl, fun base _ _ => ?_⟩
  have DB : Df K mg "_law_bowl" _ _ _ := ⟨PySem.W.mg_of X G aB, kB, bB⟩
  have DD : Df K mg "_law_dip" _ _ _ := ⟨PySem.W.mg_of X G aD, kD, bD⟩
  have DOf : Df K mg "_law_of" _ _ _ := ⟨PySem.W.mg_of X G aOf, kOf, bOf⟩
  have DS : Df K mg "_law_signs" _ _ _ := ⟨PySem.W.mg_of X G aS, kS, bS⟩
  have DWo : Df K mg "_law_word" _ _ _ := ⟨PySem.W.mg_of X G aWo, kWo, bWo⟩
  have DTd : Df K mg "_law_told" _ _ _ := ⟨PySem.W.mg_of X G aTd, kTd, bTd⟩
  have DR : Df K mg "_law_right" _ _ _ := ⟨PySem.W.mg_of X G aR, kR, bR⟩
  have DW : Df K mg "is_integer_within" _ _ _ := ⟨PySem.W.mg_of X G aW, kW, bW⟩
  have DA : Df K mg "is_alphabet" _ _ _ := ⟨PySem.W.mg_of X G aA, kA, bA⟩
  have DC : Df K mg "count_words" _ _ _ := ⟨PySem.W.mg_of X G aC, kC, bC⟩
  have DOv : Df K mg "is_text_over" _ _ _ := ⟨PySem.W.mg_of X G aOv, kOv, bOv⟩
  have DCw : Df K mg "check_word" _ _ _ := ⟨PySem.W.mg_of X G aCw, kCw, bCw⟩
  have DCm : Df K mg "check_marks" _ _ _ := ⟨PySem.W.mg_of X G aCm, kCm, bCm⟩
  have DCb : Df K mg "check_board" _ _ _ := ⟨PySem.W.mg_of X G aCb, kCb, bCb⟩
  have DAl : Df K mg "_law_all" _ _ _ := ⟨PySem.W.mg_of X G aAl, kAl, bAl⟩
  have DCc : Df K mg "can_come" _ _ _ := ⟨PySem.W.mg_of X G aCc, kCc, bCc⟩
  have DLm : Df K mg "letters_marked" _ _ _ := ⟨PySem.W.mg_of X G aLm, kLm, bLm⟩
  have DOd : Df K mg "is_in_order" _ _ _ := ⟨PySem.W.mg_of X G aOd, kOd, bOd⟩
  have DCf : Df K mg "can_fill" _ _ _ := ⟨PySem.W.mg_of X G aCf, kCf, bCf⟩
  have GD : FnOk P w K mg base CX0 1 fD _ _ spDip := ok_dip FD TB
  have GS : FnOk P w K mg base CX0 2 fS _ _ spSigns := ok_signs FS TS GD DD
  have GI : FnOk P w K mg base CX0 2 fI _ _ (spInit CB) := ok_init FI TW TC (ok_alpha FA TW) DA (ok_within FW TW) DW (ok_count FC TW) DC
  have GOf : FnOk P w K mg base CX0 2 fOf _ _ spOfT := ok_ofT FOf TS GD DD
  have GWo : FnOk P w K mg base CX0 3 fWo _ _ spWord := ok_word FWo TS GD DD GOf DOf
  have GTd : FnOk P w K mg base CX0 1 fTd _ _ spTold := ok_told FTd (PySem.W.mg_none_of X G zlen) (PySem.W.mg_none_of X G zrange)
  have GOv : FnOk P w K mg base CX0 1 fOv _ _ (spOver K) := ok_over FOv TW (PySem.W.mg_none_of X G zall)
  have GCw : FnOk P w K mg base CX0 2 fCw _ _ (spChkW CB) := ok_chkW FCw TC GOv DOv
  have GCm : FnOk P w K mg base CX0 2 fCm _ _ (spChkM CB) := ok_chkM FCm TC mMA GOv DOv
  have GCb : FnOk P w K mg base CX0 1 fCb _ _ (spChkB CB) := ok_chkB FCb TW TC
  have GAl : FnOk P w K mg base CX0 1 fAl _ _ spAll := ok_all FAl (PySem.W.mg_none_of X G zrange)
  have GOl : FnOk P w K mg base CX0 2 fOf _ _ (spOfL K) := ok_ofL FOf TS GD DD
  have GLm : FnOk P w K mg base CX0 1 fLm _ _ spLm := ok_lm FLm (PySem.W.mg_none_of X G zzip)
  have GOd : FnOk P w K mg base CX0 1 fOd _ _ spOrd := ok_ord FOd (PySem.W.mg_none_of X G zzip)
  have GCf : FnOk P w K mg base CX0 7 fCf _ _ (spFill K 7) := ok_fill FCf TF DCf 7
  have GCc : FnOk P w K mg base CX0 8 fCc _ _ (spCome CB) := ok_come FCc TC GCb DCb GCw DCw GCm DCm GOd DOd GLm DLm GCf DCf
  have GR : FnOk P w K mg base CX0 9 fR _ _ spRight := ok_right FR TR GS DS GD DD GI ⟨mki, aI, iI, kc⟩ bI GWo DWo GTd DTd GAl DAl GOl DOf GCc DCc
  exact ok_law (fun_mk (st := sLaw) lL cL kL) TL (ok_bowl FB TB) ⟨PySem.W.mg_of X G aB, kB, bB⟩ GR ⟨PySem.W.mg_of X G aR, kR, bR⟩
theorem walk {l : PySem.W.OpenLaw} {q : Program} {loose : List Str} {XP : (Str → Option Value) → Heap → Prop} {YP : World → Heap → Prop} {d : DefRec} {K : Params → PySem.W.Frag} (hn : l.most = some 63) (hdf : d.params.defaults = [])
    (hY : ∀ (w : World) (h : Heap), YP w h → (K w.params).In h)
    (F : ∀ (w : World) (mg : Str → Option Value) (fa : Addr) (h : Heap), (K w.params).In h → h.Ns mainGlobals mg → mg d.name = some (.ref fa) →
      ∃ fd : FuncData, (∀ (s : Shared) (u : Value), BindsTo s fd ⟨[u], []⟩ [("_law_script", u)]) ∧ ∀ base : Heap, (K w.params).In base → base.Ns mainGlobals mg → FnOk l.prog w (K w.params) mg base CX0 10 fa fd ["_law_script"] (spLaw (K w.params))) :
    PySem.W.WalkO q loose XP YP l.row.toRowW d [] (fun f vs => PySem.call f vs) :=
  L2.walk_of (n := 63) (k := 10) (x := "_law_script") (CX := fun _ => CX0) (sp := fun w => spLaw (K w.params)) hn (by decide) hdf ⟨rfl, by decide, by decide⟩ hY F (fun _ _ a ns hl _ hS => ⟨a, ns, rfl, hS, hl, fun _ => rfl⟩) fun _ _ _ _ _ z => z
end Gm
open PySem PySem.W PyProof.Rows in
set_option maxRecDepth 100000 in
set_option maxHeartbeats 0 in
theorem PySem.Challenge.cw_guessmarks_k06_whole_marks_that_can_come_holds : PySem.Challenge.rw_guessmarks_k06_whole_marks_that_can_come.Holds := by
  w_on; o_law; k_head; (case hw => w_witness2)
  k_fill
  refine Gm.walk (l := PySem.Challenge.rw_guessmarks_k06_whole_marks_that_can_come) rfl rfl (fun w h Y => PySem.W.kIn_of Y) ?F
  case F =>
    intro w mg fa h KX G hmg
    refine' Gm.all_mk KX G hmg ?aB ?lB ?cB ?kB ?aD ?lD ?cD ?kD ?aOf ?lOf ?cOf ?kOf ?aS ?lS ?cS ?kS ?aWo ?lWo ?cWo ?kWo ?aTd ?lTd ?cTd ?kTd ?aR ?lR ?cR ?kR ?aL ?lL ?cL ?kL ?aW ?lW ?cW ?kW ?aA ?lA ?cA ?kA ?aC ?lC ?cC ?kC ?aOv ?lOv ?cOv ?kOv ?aCw ?lCw ?cCw ?kCw ?aCm ?lCm ?cCm ?kCm ?aCb ?lCb ?cCb ?kCb ?aAl ?lAl ?cAl ?kAl ?aCc ?lCc ?cCc ?kCc ?aLm ?lLm ?cLm ?kLm ?aOd ?lOd ?cOd ?kOd ?aCf ?lCf ?cCf ?kCf ?aI ?iI ?lI ?cI ?kI ?gCB ?nML ?nMM ?nLO ?nMA ?zrepr ?zlen ?zint ?zabs ?zdivmod ?zisinstance ?zbool ?zstr ?zrange ?zsorted ?zall ?zany ?zmax ?zmin ?zzip ?pg ?hd ?po ?sa ?mki ?kc ?naL ?naN ?naS ?ac ?gt ?tk ?ob ?kitO
    (case gCB => k_is)
    (case aB => k_is)
    (case lB => k_is)
    (case cB => k_is)
    (case kB => k_is)
    (case aD => k_is)
    (case lD => k_is)
    (case cD => k_is)
    (case kD => k_is)
    (case aOf => k_is)
    (case lOf => k_is)
    (case cOf => k_is)
    (case kOf => k_is)
    (case aS => k_is)
    (case lS => k_is)
    (case cS => k_is)
    (case kS => k_is)
    (case aWo => k_is)
    (case lWo => k_is)
    (case cWo => k_is)
    (case kWo => k_is)
    (case aTd => k_is)
    (case lTd => k_is)
    (case cTd => k_is)
    (case kTd => k_is)
    (case aR => k_is)
    (case lR => k_is)
    (case cR => k_is)
    (case kR => k_is)
    (case aL => k_is)
    (case lL => k_is)
    (case cL => k_is)
    (case kL => k_is)
    (case aW => k_is)
    (case lW => k_is)
    (case cW => k_is)
    (case kW => k_is)
    (case aA => k_is)
    (case lA => k_is)
    (case cA => k_is)
    (case kA => k_is)
    (case aC => k_is)
    (case lC => k_is)
    (case cC => k_is)
    (case kC => k_is)
    (case aOv => k_is)
    (case lOv => k_is)
    (case cOv => k_is)
    (case kOv => k_is)
    (case aCw => k_is)
    (case lCw => k_is)
    (case cCw => k_is)
    (case kCw => k_is)
    (case aCm => k_is)
    (case lCm => k_is)
    (case cCm => k_is)
    (case kCm => k_is)
    (case aCb => k_is)
    (case lCb => k_is)
    (case cCb => k_is)
    (case kCb => k_is)
    (case aAl => k_is)
    (case lAl => k_is)
    (case cAl => k_is)
    (case kAl => k_is)
    (case aCc => k_is)
    (case lCc => k_is)
    (case cCc => k_is)
    (case kCc => k_is)
    (case aLm => k_is)
    (case lLm => k_is)
    (case cLm => k_is)
    (case kLm => k_is)
    (case aOd => k_is)
    (case lOd => k_is)
    (case cOd => k_is)
    (case kOd => k_is)
    (case aCf => k_is)
    (case lCf => k_is)
    (case cCf => k_is)
    (case kCf => k_is)
    (case aI => k_is)
    (case iI => k_is)
    (case lI => k_is)
    (case cI => k_is)
    (case kI => k_is)
    (case nML => k_is)
    (case nMM => k_is)
    (case nLO => k_is)
    (case nMA => k_is)
    (case zrepr => k_is)
    (case zlen => k_is)
    (case zint => k_is)
    (case zabs => k_is)
    (case zdivmod => k_is)
    (case zisinstance => k_is)
    (case zbool => k_is)
    (case zstr => k_is)
    (case zrange => k_is)
    (case zsorted => k_is)
    (case zall => k_is)
    (case zany => k_is)
    (case zmax => k_is)
    (case zmin => k_is)
    (case zzip => k_is)
    (case pg => k_is)
    (case hd => k_is)
    (case po => k_is)
    (case sa => k_is)
    (case mki => k_is)
    (case kc => k_is)
    (case naL => k_is)
    (case naN => k_is)
    (case naS => k_is)
    (case ac => k_is)
    (case gt => k_is)
    (case tk => k_is)
    (case ob => k_is)
    (case kitO => first | rfl | k_is)
