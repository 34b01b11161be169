import PyProof.Rows.All
import Wide.All
import OpenK.AllK
import Wide.FinOn
import KE.KCallOwn
import PyProof.InstEq
import HandS.ForMost
import HandS.OwnEq
import HandS.IsInst
import HandS.Walk
import HandS.Codes
import HandS.FStr
import PyProof.ReprRoads
import HandS.Lambda
import HandS.EndTab
import HandS.Exc
import KE.KExcIs
import HandS.ExcInit
import HandS.ExcField
import HandS.WordsExc
import HandS.ExcIs
import PySem.Challenge.RW_guessmarks_k02_boards_refused
set_option Elab.async false
set_option linter.all false
set_option maxRecDepth 100000
set_option maxHeartbeats 8000000
namespace PySem.W
open PySem PySem.Spec PySem.Calls PyProof.Rows Builtin
section
variable {prog : Program} {w : World} {M : Model} {A : Around} {E : Value → Shared → Prop} {s : Shared} {K : Frag} {x C f L : Addr} {ox : Obj} {od : Option Obj} {h₀ : Heap} {m : Str → Option Value} {b tb : Value}
theorem gm_ifBound {name : Str} {id : String} {args : List Value} {Q : Option Value → Shared → Prop} (X : K.In s.heap) (I : InstAt s.heap x ox C od) (hs : findIn K (.ref C) name = some (some (.builtin id)))
    (hb : ∀ self, bindSpecial (.builtin id) self = pure (.builtin id, [self])) (h : wpAny M A (call (.builtin id) (.ref x :: args)) (fun v => Q (some v)) E s) : wpAny M A (callSpecialIfBound? (.ref x) name args) Q E s := by
  simp only [callSpecialIfBound?, bindSpecialIfBound?]
  refine wpAny_holding <| wpAny_bind <| wpAny_bind <| wpAny_bind <| I.type.here <| (looks_findIn X hs).here ?_
  refine wpAny_bind <| wpAny_askSetting <| wpAny_ite ?_
  have z : wpAny M A (call (.builtin id) ([.ref x] ++ args) >>= fun v => pure (some v)) Q E s := wpAny_bind <| wpAny_mono h (fun v s' h' => wpAny_pure h') fun _ _ h' => h'
  split
  · exact wpAny_bind <| (Looks.of_pure (hb _)).here <| wpAny_pure z
  · exact wpAny_tryCatch <| wpAny_bind <| (Looks.of_pure (hb _)).here <| wpAny_pure z
def NeBack (Q : Value → Shared → Prop) (v : Value) (s' : Shared) : Prop := ∃ r, v = .bool r ∧ Q (.bool (!r)) s'
theorem gm_objNe {Q : Value → Shared → Prop} (hu : A.in1.units < cLine) (X : K.In s.heap) (I : InstAt s.heap x ox C od) (hm : mroIn K C (.type "object") = some true) (hs : findIn K (.ref C) "__eq__" = some (some (.ref f))) (hf : isFn K (.ref f) = true)
    (h : wpAny (model prog w) A.in1 (call (.ref f) [.ref x, b]) (NeBack Q) E s) : wpAny (model prog w) A (call (.builtin "object.__ne__") [.ref x, b]) Q E s := by
  refine wpAny_call <| codeAny_call_builtin PySem.F.cmp_object.ne.plain PySem.F.cmpEntry_ne <| check_slot (owner := "object") (n := "__ne__") PySem.F.cmpKind_ne PySem.F.cmpSplit_ne (I.type.andThen (looks_mroIn X hm)) (PySem.F.cmpArgs_ne _ _) ?_
  unfold Builtin.«object.__ne__»
  refine wpAny_bind (m := slotArgs "__ne__" 1 _) <| wpAny_pure ?_
  refine wpAny_bind (m := cRoomFor _ _) <| wpAny_cRoomFor hu ?_
  refine wpAny_bind (m := callSpecialIfBound? (.ref x) (Str.ofString "__eq__") _) <| ifBound_K X I hs hf <| wpAny_mono h (fun r s' hq => ?_) fun _ _ y => y
  obtain ⟨r, rfl, hq⟩ := hq
  refine wpAny_bind <| wpAny_truthy_bool ?_
  exact wpAny_pure hq
theorem gm_ne {Q : Value → Shared → Prop} (hu : A.units < cLine) (hu1 : A.in1.units < cLine) (X : K.In s.heap) (I : InstAt s.heap x ox C od) (hb : Looks (model prog w) s.heap (typeOf b) tb) (hn : notFirst K C tb = true)
    (hN : findIn K (.ref C) "__ne__" = some (some (.builtin "object.__ne__"))) (hm : mroIn K C (.type "object") = some true)
    (hs : findIn K (.ref C) "__eq__" = some (some (.ref f))) (hf : isFn K (.ref f) = true)
    (h : wpAny (model prog w) A.in1 (call (.ref f) [.ref x, b]) (NeBack Q) E s) : wpAny (model prog w) A (richCompare .NotEq (.ref x) b) Q E s := by
  have one : wpAny (model prog w) A (tryCompare (.ref x) (cmpInfo .NotEq).2.1 b) (fun r s' => ∃ v, r = some v ∧ Q v s') E s := by
    unfold tryCompare
    refine wpAny_bind <| gm_ifBound X I hN PySem.F.cmp_object.ne.bind ?_
    refine wpAny_mono (gm_objNe (Q := fun v s' => (∃ r, v = .bool r) ∧ Q v s') hu1 X I hm hs hf (wpAny_mono h (fun v s' hv => ?_) fun _ _ e => e)) (fun v s' hv => ?_) fun _ _ e => e
    · obtain ⟨r, e, hv⟩ := hv
      exact ⟨r, e, ⟨_, rfl⟩, hv⟩
    · obtain ⟨⟨r, rfl⟩, hv⟩ := hv
      exact wpAny_pure ⟨_, rfl, hv⟩
  unfold richCompare
  simp only [oneThing_ref]
  refine wpAny_holding <| wpAny_bind <| wpAny_cRoomFor hu ?_
  refine wpAny_bind <| I.type.here <| wpAny_bind <| hb.here ?_
  split
  · rename_i q
    have e : subIn K tb (.ref C) = some false := by
      rcases Bool.or_eq_true_iff.mp hn with e | e
      · rw [beq_iff_eq.mp e] at q
        simp at q
      · exact beq_iff_eq.mp e
    refine wpAny_bind <| (looks_subIn X e).here ?_
    simp only [Bool.false_eq_true, if_false]
    refine wpAny_bind <| wpAny_mono one (fun r s' z => ?_) fun _ _ e => e
    obtain ⟨v, rfl, hq⟩ := z
    exact wpAny_pure hq
  · refine wpAny_bind (wpAny_pure ?_)
    simp only [Bool.false_eq_true, if_false]
    refine wpAny_bind <| wpAny_mono one (fun r s' z => ?_) fun _ _ e => e
    obtain ⟨v, rfl, hq⟩ := z
    exact wpAny_pure hq
end
end PySem.W

namespace L2
open PySem PySem.Spec PyProof.Rows
section
variable {X : Cx} {n : Nat} {pins : List (Addr × Obj)} {σ : St} {H : Hp} {s : Shared}
theorem gm_call {A : Around} {CX : CXT} {f : Addr} {fd : FuncData} {ps : List Str} {sp : Sp} {E : XK} {vs : List V} {us : List Value} {Q : VK} (sb : Sub X n A) (I : Inv X pins σ H s) (F : FnOk X.prog X.w X.K X.mg X.base CX n f fd ps sp)
    (hb : Binds X.K fd ps []) (hx : Passes CX X E) (r2 : Vals vs us) (hsp : sp vs H Q E) : wpAny (model X.prog X.w) A (call (.ref f) us) (EP X pins σ Q) X.xe s := by
  have e0 : Env0 X.prog X.w X.K X.mg X.base A X.stack s H := by
    have e := I.env0
    exact ⟨by rw [sb.fr]; exact e.frames, e.mod, e.bs, e.bsz, e.funs, e.frf, e.hok, e.bare⟩
  have hl := F.len _ _ _ _ hsp
  have hl2 : us.length = ps.length := by rw [← r2.length]; exact hl
  refine wpAny_call <| codeAny_mono (F.run A X.stack s H ⟨us, []⟩ us vs Q E sb.room e0 (by
    have := hb s us I.kIn (by simpa using hl2)
    simpa using this) r2 hsp) fun r s' hq => ?_
  cases r with
  | error e => exact hx pins σ H s e s' I hq
  | ok fl =>
    cases fl with
    | ret w => exact I.after hq
    | next => exact hq.elim
    | brk => exact hq.elim
    | cont => exact hq.elim
/-- x == y, x != y by the class's own == -/
def rOwn (K : PySem.W.Frag) (C : Addr) (sp : Sp) (E : XK) (g : Bool → Bool) : R2 := fun x y H Q => ∃ a dx fs t, x = .ref a ∧ H a = some (.ins C dx fs) ∧ TyX K H y t ∧ PySem.W.notFirst K C t = true ∧ sp [.ref a, y] H (fun v H' => ∃ r, v = .bl r ∧ Q (.bl (g r)) H') E
theorem op_eqOwn {CX : CXT} {C f : Addr} {fd : FuncData} {ps : List Str} {sp : Sp} {E : XK} (hr : Room n X.A) (F : FnOk X.prog X.w X.K X.mg X.base CX n f fd ps sp) (hs : PySem.W.findIn X.K (.ref C) "__eq__" = some (some (.ref f))) (hf : PySem.W.isFn X.K (.ref f) = true)
    (hb : Binds X.K fd ps []) (hx : Passes CX X E) : OpR X (compareOp .Eq) (rOwn X.K C sp E id) := by
  intro pins s σ H x y u v Q I rx ry d
  obtain ⟨a, dx, fs, t, rfl, ha, ty, hn, hsp⟩ := d
  cases rx
  obtain ⟨mA, J, _⟩ := ins_get I.hok ha
  obtain ⟨od, J, _⟩ := J.look
  obtain ⟨m, hF⟩ := I.fr
  obtain ⟨Pv, Z, pv, _⟩ := kit_of I ry ty
  refine PySem.W.cmp_K (op := .Eq) hr.units0 hF I.ok.mod.kin J (Z.ty _ _ I.kIn pv) hn hs hf ?_
  refine wpAny_mono (gm_call ⟨hr, rfl⟩ I F hb hx (vs := [.ref a, y]) (us := [.ref a, v]) (.cons rfl (.cons ry .nil)) hsp) (fun z s' hz => ?_) fun _ _ e => e
  obtain ⟨z', H', I', rz, r, rfl, q⟩ := hz
  cases rz
  exact ⟨.bl r, H', I', rfl, q⟩
theorem op_neOwn {CX : CXT} {C f : Addr} {fd : FuncData} {ps : List Str} {sp : Sp} {E : XK} (hr : Room (n + 1) X.A) (F : FnOk X.prog X.w X.K X.mg X.base CX n f fd ps sp) (hs : PySem.W.findIn X.K (.ref C) "__eq__" = some (some (.ref f))) (hf : PySem.W.isFn X.K (.ref f) = true)
    (hN : PySem.W.findIn X.K (.ref C) "__ne__" = some (some (.builtin "object.__ne__"))) (hm : PySem.W.mroIn X.K C (.type "object") = some true)
    (hb : Binds X.K fd ps []) (hx : Passes CX X E) : OpR X (compareOp .NotEq) (rOwn X.K C sp E not) := by
  intro pins s σ H x y u v Q I rx ry d
  obtain ⟨a, dx, fs, t, rfl, ha, ty, hn, hsp⟩ := d
  cases rx
  obtain ⟨mA, J, _⟩ := ins_get I.hok ha
  obtain ⟨od, J, _⟩ := J.look
  obtain ⟨Pv, Z, pv, _⟩ := kit_of I ry ty
  refine PySem.W.gm_ne hr.units0 hr.in1.units0 I.kIn J (Z.ty _ _ I.kIn pv) hn hN hm hs hf ?_
  refine wpAny_mono (gm_call ⟨hr.in1, rfl⟩ I F hb hx (vs := [.ref a, y]) (us := [.ref a, v]) (.cons rfl (.cons ry .nil)) hsp) (fun z s' hz => ?_) fun _ _ e => e
  obtain ⟨z', H', I', rz, r, rfl, q⟩ := hz
  cases rz
  exact ⟨_, rfl, .bl (!r), H', I', rfl, q⟩
/-- str(x), repr(x) by the class's own -/
def rTxt (C : Addr) (sp : Sp) (E : XK) : List V → Hp → VK → Prop := fun xs H Q => ∃ a dx fs, xs = [.ref a] ∧ H a = some (.ins C dx fs) ∧ sp [.ref a] H (fun v H' => ∃ r, v = .str r ∧ Q (.str r) H') E
theorem call_reprOwn {CX : CXT} {C f : Addr} {fd : FuncData} {ps : List Str} {sp : Sp} {E : XK} (hr : Room (n + 1) X.A) (F : FnOk X.prog X.w X.K X.mg X.base CX n f fd ps sp) (hs : PySem.W.findIn X.K (.ref C) "__repr__" = some (some (.ref f))) (hf : PySem.W.isFn X.K (.ref f) = true)
    (hb : Binds X.K fd ps []) (hx : Passes CX X E) : CallR X (.builtin "repr") (rTxt C sp E) := by
  intro pins s σ H xs us Q I r h
  obtain ⟨a, dx, fs, rfl, ha, hsp⟩ := h
  obtain ⟨mA, J, _⟩ := ins_get I.hok ha
  obtain ⟨od, J, _⟩ := J.look
  obtain ⟨m, hF⟩ := I.fr
  cases r with
  | cons r1 r2 =>
    cases r2
    cases r1
    refine PySem.W.repr_K hr.in1.units0 hF I.ok.mod.kin J hs hf ?_
    refine wpAny_mono (gm_call ⟨hr.in1, rfl⟩ I F hb hx (vs := [.ref a]) (us := [.ref a]) (.cons rfl .nil) hsp) (fun z s' hz => ?_) fun _ _ e => e
    obtain ⟨z', H', I', rz, r, rfl, q⟩ := hz
    obtain ⟨t, rfl⟩ := rz
    exact ⟨.str r, H', I', ⟨_, rfl⟩, q⟩
theorem call_strOwn {CX : CXT} {C f : Addr} {fd : FuncData} {ps : List Str} {sp : Sp} {E : XK} (hr : Room (n + 2) X.A) (F : FnOk X.prog X.w X.K X.mg X.base CX n f fd ps sp) (hs : PySem.W.findIn X.K (.ref C) "__str__" = some (some (.ref f))) (hf : PySem.W.isFn X.K (.ref f) = true)
    (hb : Binds X.K fd ps []) (hx : Passes CX X E) : CallR X (.type "str") (rTxt C sp E) := by
  intro pins s σ H xs us Q I r h
  obtain ⟨a, dx, fs, rfl, ha, hsp⟩ := h
  obtain ⟨mA, J, _⟩ := ins_get I.hok ha
  obtain ⟨od, J, _⟩ := J.look
  cases r with
  | cons r1 r2 =>
    cases r2
    cases r1
    refine PySem.W.kso_call hr.in1.in1.units0 I.kIn J hs hf ?_
    refine wpAny_mono (gm_call ⟨hr.in1.in1, rfl⟩ I F hb hx (vs := [.ref a]) (us := [.ref a]) (.cons rfl .nil) hsp) (fun z s' hz => ?_) fun _ _ e => e
    obtain ⟨z', H', I', rz, r, rfl, q⟩ := hz
    obtain ⟨t, rfl⟩ := rz
    exact ⟨.str r, H', I', ⟨_, rfl⟩, q⟩
/-- an instance without __bool__ and __len__ is true -/
def tTru (C : Addr) (ta : TE) : TT := fun σ H Q => ta σ H fun x H' => ∃ a dx fs, x = .ref a ∧ H' a = some (.ins C dx fs) ∧ Q true H'
theorem pt_inst {a : Expr} {ta : TE} {C : Addr} (hb : PySem.W.findIn X.K (.ref C) "__bool__" = some none) (hl : PySem.W.findIn X.K (.ref C) "__len__" = some none) (ha : PE X a ta) (he : ∀ whole, isTrue a X.env whole = (do let v ← whole; standAt a.pos; holding [v] (truthy v))) :
    PT X a (tTru C ta) := by
  refine ⟨fun pins s σ H Q I h => ?_⟩
  refine isTrue_plain (thn (ha.run pins s σ H _ I h) fun v s1 hh => ?_) (he _)
  obtain ⟨x, H1, I1, r1, p, dx, fs, rfl, hp, q⟩ := hh
  cases r1
  obtain ⟨mA, J, _⟩ := ins_get I1.hok hp
  obtain ⟨od, J, _⟩ := J.look
  obtain ⟨m, hF⟩ := I1.fr
  exact PySem.W.truthy_K0 hF I1.ok.mod.kin J hb hl ⟨H1, I1, q⟩
end
end L2

namespace Gm
open PySem L2
def top (i : Nat) : Stmt := PySem.Challenge.pw_guessmarks_k02_boards_refused.main.body.getD i (.Pass ⟨0, 0, 0, 0⟩)
abbrev sBowl : Stmt := top 15
abbrev sDip : Stmt := top 16

/-- three ints stand at p -/
def BowlAt (H : Hp) (p : Addr) : Prop := ∃ x y z : Int, H p = some (.lst [.int x, .int y, .int z])
/-- all but p stands as it stood, and p is a bowl -/
def Stir (p : Addr) (H H' : Hp) : Prop := (∀ b o, b ≠ p → H b = some o → H' b = some o) ∧ BowlAt H' p
theorem Stir.trans {p : Addr} {H H1 H2 : Hp} (a : Stir p H H1) (b : Stir p H1 H2) : Stir p H H2 := ⟨fun c o n h => b.1 c o n (a.1 c o n h), b.2⟩
theorem Stir.same {p : Addr} {H H1 H2 : Hp} (a : Stir p H H1) (b : Same H1 H2) : Stir p H H2 := ⟨fun c o n h => b _ _ (a.1 c o n h), let ⟨x, y, z, h⟩ := a.2; ⟨x, y, z, b _ _ h⟩⟩
theorem Stir.refl {p : Addr} {H : Hp} (h : BowlAt H p) : Stir p H H := ⟨fun _ _ _ h => h, h⟩
theorem same_upd {H : Hp} {p : Addr} {o : HO} (h : H p = none) : Same H (upd H p o) := fun b u e => by rw [upd_ne (ne_of_none e h)]; exact e

theorem stir_upd (H : Hp) (p : Addr) (x y z : Int) : Stir p H (upd H p (.lst [.int x, .int y, .int z])) := ⟨fun b o n e => by rw [upd_ne n]; exact e, _, _, _, upd_same⟩
def spBowl (K : PySem.W.Frag) : Sp := fun vs H Q _ => ∃ (a : Addr) (ns : List Int) (k : Int), vs = [.ref a, .int k] ∧ SqL K H a (ns.map V.int) ∧ ns.length ≤ 63 ∧ 0 ≤ k ∧
  ∀ H' p, Same H H' → H p = none → BowlAt H' p → Q (.ref p) H'
def spDip : Sp := fun vs H Q _ => ∃ (p : Addr) (m : Int), vs = [.ref p, .int m] ∧ BowlAt H p ∧ 0 < m ∧ m < 1073741824 ∧
  ∀ H' d, Stir p H H' → 0 ≤ d → d < m → Q (.int d) H'

structure TxB (mg : Str → Option Value) : Prop where
  len : mg "len" = none
  int : mg "int" = none
  abs : mg "abs" = none
  divmod : mg "divmod" = none

theorem int_at {ns : List Int} {k : Int} (h0 : 0 ≤ k) (h : k < ns.length) : ∃ u, atI (ns.map V.int) k = some (V.int u) := by
  obtain ⟨j, rfl⟩ := Int.eq_ofNat_of_zero_le h0
  have hj : j < ns.length := by omega
  exact ⟨ns[j], atI_nat (by rw [List.getElem?_map, List.getElem?_eq_getElem hj]; rfl)⟩

theorem cut_int {ns : List Int} {lo hi : Option Int} {i : Nat} {y : V} (h : (cutV (ns.map V.int) lo hi)[i]? = some y) : ∃ u, y = V.int u := by
  have hm := List.mem_of_getElem? h
  unfold cutV at hm
  have := List.mem_of_mem_drop (List.mem_of_mem_take hm)
  obtain ⟨u, _, rfl⟩ := List.mem_map.mp this
  exact ⟨u, rfl⟩
theorem pos1 : (0 : Int) < 1999999943 := by decide
theorem cutIfV {tA : TT} {ta tb : TE} {σ : St} {H : Hp} {Q : V → Hp → Prop} (C : V → Prop) (k : ∀ v, C v → Q v H) (h : (∀ v, C v → Q v H) → tIf tA ta tb σ H Q) : tIf tA ta tb σ H Q := h k
theorem cutIf {tA : TT} {ta tb : TE} {σ : St} {H : Hp} {Q : V → Hp → Prop} (C : V → Hp → Prop) (k : ∀ v H', C v H' → Q v H') (h : (∀ v H', C v H' → Q v H') → tIf tA ta tb σ H Q) : tIf tA ta tb σ H Q := h k
section
variable {P : Program} {w : World} {K : PySem.W.Frag} {mg : Str → Option Value} {base : Heap}
abbrev nB : List Str := ["_law_script", "_law_k", "_law_own", "_law_mixed", "_law_entry"]
theorem scB : FnScope nB ["_law_script", "_law_k"] (defScope sBowl) := ⟨rfl, rfl, rfl, by decide +kernel, rfl, by decide +kernel, by decide +kernel⟩
theorem ok_bowl {f : Addr} {fd : FuncData} (F : Fun K "_law_bowl" "_law_bowl" sBowl f fd) (T : TxB mg) : FnOk P w K mg base CX0 1 f fd ["_law_script", "_law_k"] (spBowl K) := by
  refine F.ok scB (fun vs H Q E h => ?_) (fun cdv A outer s H vs Q E hr h => ?_)
  · obtain ⟨a, ns, k, rfl, _⟩ := h
    rfl
  · obtain ⟨a, ns, k, rfl, hS, hlen, h0, q⟩ := h
    refine ⟨_, pss_cons (ps_set (i := 2) scB.nd rfl (Or.inl rfl)
        (pe_ifExp (pt_cmpR op_lt (pv 1) (pe_callB call_len_seq (by rfl) T.len PySem.boot_len (pa_cons (pv 0) pa_nil)) (nomark _))
          (pe_callTy call_int1 (by rfl) T.int (by decide +kernel) (pa_cons (pe_ix ix_list (pv 0) (pv 1) (fun _ _ => rfl)) pa_nil))
          (pe_op op_add (pe_op op_mul pe_int (pv 1)) pe_int)))
      (pss_cons (ps_set (i := 3) scB.nd rfl (Or.inl rfl) (pe_op op_add pe_int (pe_op op_mul pe_int (pv 1))))
      (pss_cons (ps_for PassesOwn.never rfl (pi_list (pe_slice sl_list (pv 0) po_none (po_some pe_int))) (pg_name (i := 4) scB.nd rfl (Or.inl rfl))
          (pss_one (ps_set (i := 3) scB.nd rfl (Or.inl rfl)
            (pe_op op_mod (pe_callTy call_int1 (by rfl) T.int (by decide +kernel) (pa_cons (pe_op op_add (pe_op op_mul (pv 3) pe_int)
              (pe_op op_mod (pe_callTy call_int1 (by rfl) T.int (by decide +kernel) (pa_cons (pv 4) pa_nil)) pe_int)) pa_nil)) pe_int))))
      (pss_one (ps_ret (pe_lst (pa_cons (pe_op op_mod (pe_callTy call_int1 (by rfl) T.int (by decide +kernel) (pa_cons (pe_op op_add (pv 3) (pe_op op_mod (pv 2) pe_int)) pa_nil)) pe_int)
        (pa_cons (pe_ifExp (PW.pt (pw_or (pt_cmpR op_lt (pv 2) pe_int (nomark _)) (pw_or1 (pt_cmpR op_ge (pv 2) (pe_op op_pow pe_int pe_int) (nomark _)))))
            (pe_callB call_abs (by rfl) T.abs (by decide +kernel) (pa_cons (pv 2) pa_nil)) pe_int)
        (pa_cons pe_int pa_nil)))))))), ?_⟩
    refine cutIfV (fun v => ∃ u, v = .int u) ?_ (fun c => ?_)
    · rintro _ ⟨u, rfl⟩
      refine ⟨_, rfl, _, _, rfl, rfl, .inl ⟨by decide, by decide⟩, _, _, rfl, rfl, ?_⟩
      refine ⟨_, rfl, 12, rfl, a, _, rfl, hS, fun pl hpl => ?_⟩
      have s1 := same_upd (o := .lst (cutV (ns.map V.int) none (some 12))) hpl
      refine ⟨pl, rfl, ⟨_, SqL.of upd_same⟩, for_list (K := K) (a := pl) (xs := cutV (ns.map V.int) none (some 12))
        (fun i σ H' => H' = upd _ pl (.lst (cutV (ns.map V.int) none (some 12))) ∧ ∃ (z : Int) (v : Option V), σ = [some (.ref a), some (.int k), some (.int u), some (.int z), v]) ⟨rfl, _, _, rfl⟩ ?_ ?_ ?_⟩
      · rintro i σ H' _ ⟨rfl, _⟩
        exact SqL.of upd_same
      · rintro i y σ H' hi ⟨rfl, z, v, rfl⟩
        obtain ⟨e, rfl⟩ := cut_int hi
        refine ⟨_, rfl, _, _, rfl, rfl, .inr ⟨by decide, by decide⟩, ?_⟩
        refine ⟨_, rfl, .inl ⟨_, rfl, _, _, rfl, rfl, pos1, _, _, rfl, rfl, .inl ⟨_, rfl, _, _, rfl, rfl, pos1, rfl, _, _, rfl⟩⟩⟩
      · rintro σ H' ⟨rfl, z, v, rfl⟩
        refine ⟨_, rfl, _, rfl, _, _, rfl, rfl, pos1, _, _, rfl, rfl, .inl ⟨_, rfl, _, _, rfl, rfl, pos1, ?_⟩⟩
        refine cutIfV (fun v => ∃ u, v = .int u) ?_ (fun c => ?_)
        · rintro _ ⟨y, rfl⟩
          refine ⟨by show 3 ≤ sizeLine; decide, fun p hp => ?_⟩
          refine q _ p (s1.trans (same_upd hp)) (s1.free hp) ⟨_, _, _, upd_same⟩
        · refine ⟨_, rfl, _, _, rfl, rfl, _, rfl, ?_⟩
          refine ite2 (fun h => ?_) (fun h => ?_)
          · refine iteT ⟨_, rfl, _, rfl, c _ ⟨_, rfl⟩⟩
          · refine ⟨_, rfl, _, _, rfl, rfl, ⟨by decide, by decide, by decide⟩, _, _, rfl, rfl, _, rfl, ?_⟩
            refine ite2 (fun h => ?_) (fun h => ?_)
            · exact ⟨_, rfl, _, rfl, c _ ⟨_, rfl⟩⟩
            · exact c _ ⟨_, rfl⟩
    · refine ⟨_, rfl, _, rfl, a, _, rfl, .inl hS, _, _, rfl, rfl, _, rfl, ?_⟩
      refine ite2 (fun h => ?_) (fun h => ?_)
      · have h' : k < ns.length := by
          have := of_decide_eq_true h
          rw [List.length_map] at this
          exact this
        obtain ⟨e, he⟩ := int_at h0 h'
        exact ⟨_, rfl, _, rfl, a, _, _, _, rfl, rfl, hS, he, .inl ⟨_, rfl, c _ ⟨_, rfl⟩⟩⟩
      · exact ⟨_, rfl, _, _, rfl, rfl, .inl ⟨by decide, by decide⟩, _, _, rfl, rfl, c _ ⟨_, rfl⟩⟩
abbrev nD : List Str := ["_law_bowl_here", "_law_many", "_law_digit"]
theorem scD : FnScope nD ["_law_bowl_here", "_law_many"] (defScope sDip) := ⟨rfl, rfl, rfl, by decide +kernel, rfl, by decide +kernel, by decide +kernel⟩
theorem ok_dip {f : Addr} {fd : FuncData} (F : Fun K "_law_dip" "_law_dip" sDip f fd) (T : TxB mg) : FnOk P w K mg base CX0 1 f fd ["_law_bowl_here", "_law_many"] spDip := by
  refine F.ok scD (fun vs H Q E h => ?_) (fun cdv A outer s H vs Q E hr h => ?_)
  · obtain ⟨p, m, rfl, _⟩ := h
    rfl
  · obtain ⟨p, m, rfl, ⟨x, y, z, hp⟩, hm0, hm1, q⟩ := h
    refine ⟨_, pss_cons (ps_asg (pe_op op_add (pe_ix ix_list (pv 0) pe_int (fun _ _ => rfl)) pe_int) (pg_sub (pv 0) pe_int set_list))
      (pss_cons (ps_if (pt_cmpR op_gt (pe_ix ix_list (pv 0) pe_int (fun _ _ => rfl)) pe_int (nomark _))
        (pss_cons (ps_asg (pe_callB call_divmod (by rfl) T.divmod (by decide +kernel) (pa_cons (pe_callTy call_int1 (by rfl) T.int (by decide +kernel) (pa_cons (pe_ix ix_list (pv 0) pe_int (fun _ _ => rfl)) pa_nil)) (pa_cons (pv 1) pa_nil)))
            (pg_tup (by rfl) (pgs_cons (pg_sub (pv 0) pe_int set_list) (pgs_cons (pg_name (i := 2) scD.nd rfl (Or.inl rfl)) pgs_nil))))
          (pss_one (ps_ret (pv 2)))) pss_nil)
      (pss_cons (ps_asg (pe_op op_mod (pe_callTy call_int1 (by rfl) T.int (by decide +kernel) (pa_cons (pe_op op_add (pe_op op_add (pe_op op_mul (pe_ix ix_list (pv 0) pe_int (fun _ _ => rfl)) pe_int)
            (pe_op op_mul (pe_ix ix_list (pv 0) pe_int (fun _ _ => rfl)) pe_int))
            (pe_op op_mul (pe_op op_fdiv (pe_ix ix_list (pv 0) pe_int (fun _ _ => rfl)) pe_int) pe_int)) pa_nil)) pe_int) (pg_sub (pv 0) pe_int set_list))
      (pss_one (ps_ret (pe_op op_mod (pe_callTy call_int1 (by rfl) T.int (by decide +kernel) (pa_cons (pe_op op_fdiv (pe_ix ix_list (pv 0) pe_int (fun _ _ => rfl)) pe_int) pa_nil)) (pv 1)))))), ?_⟩
    refine ⟨_, rfl, p, _, 2, _, rfl, rfl, SqL.of hp, rfl, _, _, rfl, rfl, _, rfl, p, _, 2, 2, rfl, rfl, hp, rfl, ?_⟩
    have h1 : upd H p (.lst [.int x, .int y, .int (z + 1)]) p = some (.lst [.int x, .int y, .int (z + 1)]) := upd_same
    refine ⟨_, rfl, p, _, 1, _, rfl, rfl, SqL.of h1, rfl, _, _, rfl, rfl, _, rfl, ?_⟩
    refine ite2 (fun h => ?_) (fun h => ?_)
    · refine ⟨_, rfl, p, _, 1, _, rfl, rfl, SqL.of h1, rfl, .inl ⟨_, rfl, _, rfl, _, _, rfl, ⟨hm0, hm1⟩, fun t ht => ?_⟩⟩
      have ntp : t ≠ p := fun e => by rw [e] at ht; exact absurd (h1.symm.trans ht) (by simp)
      refine ⟨t, _, rfl, SqT.of upd_same, rfl, _, _, rfl, _, rfl, p, _, 1, 1, rfl, rfl, ((upd_ne ntp.symm).trans h1), rfl, ?_⟩
      refine ⟨_, _, rfl, rfl, _, rfl, ?_⟩
      exact q _ _ (((stir_upd H p _ _ _).same (same_upd ht)).trans (stir_upd _ p _ _ _)) (Int.emod_nonneg _ (by omega)) (Int.emod_lt_of_pos _ hm0)
    · refine ⟨_, rfl, p, _, 0, _, rfl, rfl, SqL.of h1, rfl, _, _, rfl, rfl, .inr ⟨by decide, by decide⟩, _, rfl, p, _, 2, _, rfl, rfl, SqL.of h1, rfl, _, _, rfl, rfl, .inr ⟨by decide, by decide⟩, _, _, rfl, rfl, _, rfl, p, _, 0, _, rfl, rfl, SqL.of h1, rfl, _, _, rfl, rfl, ⟨by decide, by decide⟩, _, _, rfl, rfl, .inr ⟨by decide, by decide⟩, _, _, rfl, rfl, .inl ⟨_, rfl, _, _, rfl, rfl, pos1, _, rfl, p, _, 0, 0, rfl, rfl, h1, rfl, _, rfl, p, _, 0, _, rfl, rfl, SqL.of upd_same, rfl, _, _, rfl, rfl, ⟨by decide, by decide⟩, .inl ⟨_, rfl, _, rfl, _, _, rfl, rfl, hm0, ?_⟩⟩⟩
      exact q _ _ ((stir_upd H p _ _ _).trans (stir_upd _ p _ _ _)) (Int.emod_nonneg _ (by omega)) (Int.emod_lt_of_pos _ hm0)
end
end Gm

namespace Gm
open PySem L2
abbrev sWithin : Stmt := top 8
abbrev sInit : Stmt := inClass (top 11) 0
abbrev sEq : Stmt := inClass (top 11) 3
abbrev sStr : Stmt := inClass (top 11) 4
abbrev sRepr : Stmt := inClass (top 11) 5
abbrev sAlpha : Stmt := top 12
abbrev sCount : Stmt := top 13

/-! ### mathematics -/
def lowTxt : Str := "abcdefghijklmnopqrstuvwxyz"
def low : List Nat := lowTxt.cps.toList
def pick (s : Str) : List Nat := low.filter fun c => decide (c ∈ s.cps.toList)
def Alph (s : Str) : Prop := 2 ≤ s.length ∧ s.length ≤ 26 ∧ s.cps.toList = pick s
instance (s : Str) : Decidable (Alph s) := by unfold Alph; infer_instance
theorem join_one (cs : List Nat) : Txt.join (Str.ofString "") (cs.map fun c => (⟨#[c]⟩ : Str)) = ⟨cs.toArray⟩ := by
  have h : (cs.map fun c => (⟨#[c]⟩ : Str)) = (cs.map fun c => [c]).map SX.S := by rw [List.map_map]; rfl
  have e : (Str.ofString "" : Str) = SX.S [] := rfl
  rw [h, e, SX.join_S]
  have j : ∀ l : List Nat, TL.joinL [] (l.map fun c => [c]) = l := by
    intro l
    induction l with
    | nil => rfl
    | cons a l ih =>
      cases l with
      | nil => rfl
      | cons b l =>
        show [a] ++ ([] ++ TL.joinL [] ((b :: l).map fun c => [c])) = a :: b :: l
        rw [ih]
        rfl
  rw [j]
theorem str_len (s : Str) : s.cps.toList.length = s.length := by simp [Str.length]
theorem take_filter {p : Nat → Bool} (l : List Nat) (i : Nat) (h : i < l.length) : (l.take (i + 1)).filter p = (l.take i).filter p ++ (if p l[i] = true then [l[i]] else []) := by
  rw [List.take_succ_eq_append_getElem h, List.filter_append]
  congr 1
  by_cases c : p l[i] = true
  · rw [if_pos c]; simp [c]
  · rw [if_neg c]; simp [c]

theorem low_len : low.length = 26 := by decide +kernel
theorem sum_one (cs : List Nat) : ((cs.map fun c => (⟨#[c]⟩ : Str)).map (·.length)).sum = cs.length := by
  induction cs with
  | nil => rfl
  | cons c cs ih =>
    rw [List.map_cons, List.map_cons, List.sum_cons, ih, List.length_cons]
    show 1 + cs.length = cs.length + 1
    omega
/-! ### promises -/
def NoInt (K : PySem.W.Frag) (t : Value) : Prop := PySem.W.kitOne K t (.type "bool") = some true ∨ (PySem.W.kitOne K t (.type "bool") = some false ∧ PySem.W.kitOne K t (.type "int") = some false)
def spWithin (K : PySem.W.Frag) : Sp := fun vs H Q _ => ∃ (v : V) (lo hi : Int), vs = [v, .int lo, .int hi] ∧
  ((∃ n, v = .int n ∧ Q (.bl (decide (lo ≤ n ∧ n ≤ hi))) H) ∨ (∃ t, TyX K H v t ∧ NoInt K t ∧ Q (.bl false) H))
def spAlpha (K : PySem.W.Frag) : Sp := fun vs H Q _ => ∃ (v : V), vs = [v] ∧
  ((∃ s, v = .str s ∧ s.length ≤ 1000 ∧ ∀ H', Same H H' → Q (.bl (decide (Alph s))) H') ∨ (∃ t, TyX K H v t ∧ PySem.W.kitOne K t (.type "str") = some false ∧ Q (.bl false) H))
def spCount : Sp := fun vs H Q _ => ∃ (m n : Int), vs = [.int m, .int n] ∧ 0 ≤ m ∧ m ≤ 26 ∧ 0 ≤ n ∧ n ≤ 6 ∧ Q (.int (m ^ n.toNat)) H
def boardF (s : Str) (n : Int) : List (Str × V) := putF "size" (.int ((s.length : Int) ^ n.toNat)) (putF "length" (.int n) (putF "letters" (.str s) []))
def BoardAt (C : Addr) (H : Hp) (p : Addr) (s : Str) (n : Int) : Prop := ∃ dx, H p = some (.ins C dx (boardF s n))
/-- all but p as it stood -/
def But (p : Addr) (H H' : Hp) : Prop := ∀ b o, b ≠ p → H b = some o → H' b = some o
def spInit (C : Addr) : Sp := fun vs H Q _ => ∃ (p dx : Addr) (s : Str) (n : Int), vs = [.ref p, .str s, .int n] ∧ Alph s ∧ 1 ≤ n ∧ n ≤ 6 ∧ H p = some (.ins C dx []) ∧
  ∀ H', But p H H' → BoardAt C H' p s n → Q .non H'
/-- what another object is, beside a board -/
def spEqB (K : PySem.W.Frag) (C : Addr) : Sp := fun vs H Q _ => ∃ (p : Addr) (s : Str) (n : Int) (y : V), vs = [.ref p, y] ∧ BoardAt C H p s n ∧ s.length ≤ 1000 ∧
  ((∃ q s' n', y = .ref q ∧ BoardAt C H q s' n' ∧ s'.length ≤ 1000 ∧ Q (.bl (decide (s = s' ∧ n = n'))) H) ∨ (∃ t, TyX K H y t ∧ PySem.W.kitOne K t (.ref C) = some false ∧ Q (.bl false) H))
def digit (n : Int) : Str := (toString n : String)
def spStr (C : Addr) : Sp := fun vs H Q _ => ∃ (p : Addr) (s : Str) (n : Int), vs = [.ref p] ∧ BoardAt C H p s n ∧ s.length ≤ 26 ∧ 1 ≤ n ∧ n ≤ 6 ∧ Q (.str (s ++ " " ++ digit n)) H
def spRepr (C : Addr) : Sp := fun vs H Q _ => ∃ (p : Addr) (s : Str) (n : Int), vs = [.ref p] ∧ BoardAt C H p s n ∧ s.length ≤ 26 ∧ 1 ≤ n ∧ n ≤ 6 ∧ Q (.str ("Board(" ++ s ++ " " ++ digit n ++ ")")) H

structure TxW (mg : Str → Option Value) : Prop where
  isi : mg "isinstance" = none
  bool : mg "bool" = none
  int : mg "int" = none
  str : mg "str" = none
  len : mg "len" = none
  range : mg "range" = none
  most : ∃ t, mg "MOST_LETTERS" = some (.int 26 t)
  mlen : ∃ t, mg "MOST_LENGTH" = some (.int 6 t)
  low : ∃ t, mg "LOWERCASE" = some (.str lowTxt t)

section
variable {P : Program} {w : World} {K : PySem.W.Frag} {mg : Str → Option Value} {base : Heap}
theorem scW : FnScope ["value", "least", "most"] ["value", "least", "most"] (defScope sWithin) := ⟨rfl, rfl, rfl, by decide +kernel, rfl, by decide +kernel, by decide +kernel⟩
theorem ok_within {f : Addr} {fd : FuncData} (F : Fun K "is_integer_within" "is_integer_within" sWithin f fd) (T : TxW mg) : FnOk P w K mg base CX0 1 f fd ["value", "least", "most"] (spWithin K) := by
  refine F.ok scW (fun vs H Q E h => ?_) (fun cdv A outer s H vs Q E hr h => ?_)
  · obtain ⟨v, lo, hi, rfl, _⟩ := h
    rfl
  · obtain ⟨v, lo, hi, rfl, h⟩ := h
    refine ⟨_, pss_cons (ps_if (PW.pt (pw_or (pt_val (pe_callB call_isi (by rfl) T.isi (by decide +kernel) (pa_cons (pv 0) (pa_cons (pe_bltn (v := .ty "bool") (by rfl) T.bool (by decide +kernel) rfl) pa_nil))))
        (pw_or1 (pt_not (pt_val (pe_callB call_isi (by rfl) T.isi (by decide +kernel) (pa_cons (pv 0) (pa_cons (pe_bltn (v := .ty "int") (by rfl) T.int (by decide +kernel) rfl) pa_nil))))))))
        (pss_one (ps_ret pe_bl)) pss_nil)
      (pss_one (ps_ret (pe_chain op_le op_le (pv 1) (pv 0) (pv 2)))), ?_⟩
    rcases h with ⟨n, rfl, q⟩ | ⟨t, ty, no, q⟩
    · refine ⟨_, rfl, _, _, _, _, _, rfl, .ty "bool", .base (.int n), kit_ty (r := false) (by decide +kernel), _, rfl, iteF ?_⟩
      refine ⟨_, rfl, _, _, _, _, _, rfl, .ty "int", .base (.int n), kit_ty (r := true) (by decide +kernel), _, rfl, ?_⟩
      refine ⟨_, rfl, _, rfl, _, _, rfl, rfl, _, rfl, ?_⟩
      refine ite2 (fun h => ?_) (fun h => ?_)
      · refine ⟨_, rfl, _, _, rfl, rfl, ?_⟩
        have e : decide (lo ≤ n ∧ n ≤ hi) = decide (n ≤ hi) := by
          have := of_decide_eq_true h
          simp [this]
        rw [e] at q
        exact q
      · have e : decide (lo ≤ n ∧ n ≤ hi) = false := by
          simp only [decide_eq_true_eq] at h
          simp [h]
        rw [e] at q
        exact q
    · rcases no with no | ⟨no, no2⟩
      · exact ⟨_, rfl, _, _, _, _, _, rfl, .ty "bool", ty, no, _, rfl, iteT q⟩
      · refine ⟨_, rfl, _, _, _, _, _, rfl, .ty "bool", ty, no, _, rfl, iteF ?_⟩
        exact ⟨_, rfl, _, _, _, _, _, rfl, .ty "int", ty, no2, _, rfl, q⟩
abbrev nA : List Str := ["letters", "letter"]
theorem scAl : FnScope nA ["letters"] (defScope sAlpha) := ⟨rfl, rfl, rfl, by decide +kernel, rfl, by decide +kernel, by decide +kernel⟩
theorem ok_alpha {f : Addr} {fd : FuncData} (F : Fun K "is_alphabet" "is_alphabet" sAlpha f fd) (T : TxW mg) : FnOk P w K mg base CX0 1 f fd ["letters"] (spAlpha K) := by
  refine F.ok scAl (fun vs H Q E h => ?_) (fun cdv A outer s H vs Q E hr h => ?_)
  · obtain ⟨v, rfl, _⟩ := h
    rfl
  · obtain ⟨v, rfl, h⟩ := h
    obtain ⟨t1, mg1⟩ := T.most
    obtain ⟨t2, mg2⟩ := T.low
    refine ⟨_, pss_cons (ps_if (PW.pt (pw_or (pt_not (pt_val (pe_callB call_isi (by rfl) T.isi (by decide +kernel) (pa_cons (pv 0) (pa_cons (pe_bltn (v := .ty "str") (by rfl) T.str (by decide +kernel) rfl) pa_nil)))))
        (pw_or1 (pt_not (pt_chain op_le op_le pe_int (pe_callB call_len_str (by rfl) T.len PySem.boot_len (pa_cons (pv 0) pa_nil)) (pe_glob (v := .int 26) (by rfl) mg1 ⟨_, rfl⟩))))))
        (pss_one (ps_ret pe_bl)) pss_nil)
      (pss_one (ps_ret (pe_cmpR op_eq (pv 0) (pe_join pe_str
        (pe_lc (own := [("letter", 1)]) (g := gName 1) (by rfl) scAl.nd (pi_str (pe_glob (v := .str lowTxt) (by rfl) mg2 ⟨_, rfl⟩)) (blkOk_by (own := [("letter", 1)]) (N := nA) (sc := defScope sAlpha) (by decide +kernel))
          (fun _ _ _ _ _ => pg_name (i := 1) scAl.nd rfl (Or.inl rfl)) (fun _ _ _ _ _ => pts_one (pt_cmpR op_in_sign (pv 1) (pv 0) rfl)) (fun _ _ _ _ _ => pv 1))) (nomark _)))), ?_⟩
    rcases h with ⟨z, rfl, hz, q⟩ | ⟨t, ty, no, q⟩
    · refine ⟨_, rfl, _, _, _, _, _, rfl, .ty "str", .base (.str z), kit_ty (r := true) (by decide +kernel), _, rfl, ?_⟩
      refine ⟨_, rfl, _, rfl, by have : sizeLine = 16777216 := sizeLine_eq; omega, _, _, rfl, rfl, _, rfl, ?_⟩
      have hf : ¬ Alph z → decide (Alph z) = false := decide_eq_false
      refine ite2 (fun h2 => ?_) (fun h2 => ?_)
      · refine ⟨_, _, rfl, rfl, _, rfl, ?_⟩
        have h2 := of_decide_eq_true h2
        refine ite2 (fun h3 => ?_) (fun h3 => ?_)
        · have n : ¬ Alph z := fun a => by
            have := a.2.1
            simp at h3
            omega
          rw [hf n] at q
          exact q _ (Same.refl H)
        · have h3 : (z.length : Int) ≤ 26 := by simpa using h3
          refine ⟨_, rfl, ⟨_, rfl⟩, lowTxt, rfl, fun D hD => ?_⟩
          refine lc_it (walk_str (z := lowTxt)) (fun i H' => Same H H' ∧ H' D = some (.lst (((low.take i).filter fun c => decide (c ∈ z.cps.toList)).map fun c => V.str ⟨#[c]⟩))) ⟨same_upd hD, upd_same⟩ (fun _ _ _ _ => trivial) ?_ ?_
          · rintro i x H1 H2 hi ⟨sm, hD1⟩ ⟨rfl, c, hc, rfl⟩
            have hi' : i < low.length := hi
            have ec : low[i] = c := by
              have : lowTxt.cps[i] = c := (Array.getElem?_eq_some_iff.mp hc).2
              exact this
            have st := take_filter (p := fun c => decide (c ∈ z.cps.toList)) low i hi'
            rw [ec] at st
            refine ⟨rfl, _, rfl, _, rfl, c, z, rfl, rfl, _, rfl, ?_⟩
            refine ite2 (fun hm => ?_) (fun hm => ?_)
            · rw [if_pos hm] at st
              refine ⟨_, rfl, _, hD1, ?_, fun b o e => ?_, ?_⟩
              · have h1 := List.length_filter_le (fun c => decide (c ∈ z.cps.toList)) (low.take i)
                have h2 : (low.take i).length ≤ i := by rw [List.length_take]; omega
                have h3 : sizeLine = 16777216 := sizeLine_eq
                rw [low_len] at hi'
                rw [List.length_map]
                omega
              · rw [upd_ne (ne_of_none e hD)]
                exact sm b o e
              · rw [upd_same, st, List.map_append]
                rfl
            · rw [if_neg hm, List.append_nil] at st
              exact ⟨sm, by rw [st]; exact hD1⟩
          · rintro H1 ⟨sm, hD1⟩
            have el : low.take lowTxt.cps.size = low := List.take_of_length_le (Nat.le_of_eq (by simp [low]))
            rw [el] at hD1
            refine ⟨_, D, (pick z).map (fun c => (⟨#[c]⟩ : Str)), rfl, rfl, .inl (SqL.of ?_), ?_, rfl, ?_⟩
            · rw [List.map_map]
              exact hD1
            · have h1 := List.length_filter_le (fun c => decide (c ∈ z.cps.toList)) low
              have h2 : (pick z).length ≤ 26 := h1
              rw [sum_one, List.length_map]
              show (pick z).length + (pick z).length * 0 ≤ 16777216
              omega
            · have e : decide (V.str z = V.str (Txt.join (Str.ofString "") ((pick z).map fun c => (⟨#[c]⟩ : Str)))) = decide (Alph z) := by
                rw [join_one]
                refine decide_eq_decide.mpr ⟨fun e => ⟨by omega, by omega, ?_⟩, fun a => ?_⟩
                · have e := V.str.inj e
                  have := congrArg (fun s : Str => s.cps.toList) e
                  simpa using this
                · have := a.2.2
                  rw [← this]
              rw [← e] at q
              exact q _ sm
      · have n : ¬ Alph z := fun a => by
          have := a.1
          simp at h2
          omega
        rw [hf n] at q
        exact ⟨_, rfl, q _ (Same.refl H)⟩
    · exact ⟨_, rfl, _, _, _, _, _, rfl, .ty "str", ty, no, _, rfl, iteT q⟩

theorem scC : FnScope ["many", "length", "total", "place"] ["many", "length"] (defScope sCount) := ⟨rfl, rfl, rfl, by decide +kernel, rfl, by decide +kernel, by decide +kernel⟩
theorem ok_count {f : Addr} {fd : FuncData} (F : Fun K "count_words" "count_words" sCount f fd) (T : TxW mg) : FnOk P w K mg base CX0 1 f fd ["many", "length"] spCount := by
  refine F.ok scC (fun vs H Q E h => ?_) (fun cdv A outer s H vs Q E hr h => ?_)
  · obtain ⟨m, n, rfl, _⟩ := h
    rfl
  · obtain ⟨m, n, rfl, m0, m1, n0, n1, q⟩ := h
    refine ⟨_, pss_cons (ps_set (i := 2) scC.nd rfl (Or.inl rfl) pe_int)
      (pss_cons (ps_for PassesOwn.never rfl (pi_range1 (by rfl) T.range (pa_cons (pv 1) pa_nil)) (pg_name (i := 3) scC.nd rfl (Or.inl rfl)) (pss_one (ps_aug (i := 2) scC.nd rfl (Or.inl rfl) (pv 0) iop_mul)))
      (pss_one (ps_ret (pv 2)))), ?_⟩
    refine ⟨_, rfl, n, rfl, by omega, by omega, for_range (n := n.toNat) (fun i σ H' => H' = H ∧ ∃ v, σ = [some (.int m), some (.int n), some (.int (m ^ i)), v]) ⟨rfl, none, by rw [Int.pow_zero]; rfl⟩ ?_ ?_⟩
    · rintro i σ H' hi ⟨rfl, v, rfl⟩
      exact ⟨_, rfl, _, rfl, _, _, rfl, rfl, .inr ⟨by omega, by omega⟩, rfl, _, by rw [Int.pow_succ]; rfl⟩
    · rintro σ H' ⟨rfl, v, rfl⟩
      exact ⟨_, rfl, q⟩
/-- a def of the top, as it is called -/
structure Df (K : PySem.W.Frag) (mg : Str → Option Value) (x : Str) (f : Addr) (fd : FuncData) (ps : List Str) : Prop where
  mg : mg x = some (.ref f)
  kp : PySem.W.keepIn K (.ref f) = true
  b : Binds K fd ps []
/-- the class Board -/
structure TxC (K : PySem.W.Frag) (mg : Str → Option Value) (C : Addr) : Prop where
  cl : Cls K C
  mgC : mg "Board" = some (.ref C)
  nL : NoAttr K C "letters"
  nN : NoAttr K C "length"
  nS : NoAttr K C "size"
  ac : PySem.W.findIn K (.ref C) "__class__" = some (some (.builtin "object.__class__"))
  gt : PySem.W.specialIn K (.builtin "object.__class__") "__get__" = some (some (.builtin "getset_descriptor.__get__"))
  tk : PySem.W.takesIn K (.builtin "object.__class__") = some true
  ob : PySem.W.mroIn K C (.type "object") = some true
  own : PySem.W.kitOne K (.ref C) (.ref C) = some true
theorem bf_eq (s : Str) (n : Int) : boardF s n = ([("letters", V.str s), ("length", V.int n), ("size", V.int ((s.length : Int) ^ n.toNat))] : List (Str × V)) := by
  have h1 : ¬ (("letters" : Str) = "length") := by decide +kernel
  have h2 : ¬ (("letters" : Str) = "size") := by decide +kernel
  have h3 : ¬ (("length" : Str) = "size") := by decide +kernel
  show putF "size" _ (if ("letters" : Str) = "length" then _ else (("letters" : Str), V.str s) :: putF "length" (V.int n) []) = _
  rw [if_neg h1]
  show (if ("letters" : Str) = "size" then _ else (("letters" : Str), V.str s) :: (if ("length" : Str) = "size" then _ else (("length" : Str), V.int n) :: putF "size" _ [])) = _
  rw [if_neg h2, if_neg h3]
  rfl
theorem pf2_eq (s : Str) (n : Int) : putF "length" (.int n) (putF "letters" (.str s) []) = ([("letters", V.str s), ("length", V.int n)] : List (Str × V)) := by
  have h1 : ¬ (("letters" : Str) = "length") := by decide +kernel
  show (if ("letters" : Str) = "length" then _ else (("letters" : Str), V.str s) :: putF "length" (V.int n) []) = _
  rw [if_neg h1]
  rfl
theorem bf_letters (s : Str) (n : Int) : (boardF s n).lookup ("letters" : Str) = some (.str s) := by rw [bf_eq]; rfl
theorem bf_length (s : Str) (n : Int) : (boardF s n).lookup ("length" : Str) = some (.int n) := by
  have h1 : (("length" : Str) == "letters") = false := by decide +kernel
  rw [bf_eq, List.lookup_cons, h1]
  rfl
theorem bf_size (s : Str) (n : Int) : (boardF s n).lookup ("size" : Str) = some (.int ((s.length : Int) ^ n.toNat)) := by
  have h1 : (("size" : Str) == "letters") = false := by decide +kernel
  have h2 : (("size" : Str) == "length") = false := by decide +kernel
  rw [bf_eq, List.lookup_cons, h1, List.lookup_cons, h2]
  rfl
theorem But.upd {p : Addr} {H : Hp} {o : HO} : But p H (L2.upd H p o) := fun b u n e => by rw [upd_ne n]; exact e
theorem But.trans {p : Addr} {H H1 H2 : Hp} (a : But p H H1) (b : But p H1 H2) : But p H H2 := fun c o n h => b c o n (a c o n h)
theorem But.of {p : Addr} {H H1 : Hp} (a : Same H H1) : But p H H1 := fun c o n h => a c o h
theorem scI : FnScope ["self", "letters", "length"] ["self", "letters", "length"] (defScope sInit) := ⟨rfl, rfl, rfl, by decide +kernel, rfl, by decide +kernel, by decide +kernel⟩
theorem ok_init {f C fA fW fC : Addr} {fd fdA fdW fdC : FuncData} (F : Fun K "__init__" "Board.__init__" sInit f fd) (T : TxW mg) (TC : TxC K mg C)
    (GA : FnOk P w K mg base CX0 1 fA fdA ["letters"] (spAlpha K)) (DA : Df K mg "is_alphabet" fA fdA ["letters"]) (GW : FnOk P w K mg base CX0 1 fW fdW ["value", "least", "most"] (spWithin K)) (DW : Df K mg "is_integer_within" fW fdW ["value", "least", "most"])
    (GC : FnOk P w K mg base CX0 1 fC fdC ["many", "length"] spCount) (DC : Df K mg "count_words" fC fdC ["many", "length"]) : FnOk P w K mg base CX0 2 f fd ["self", "letters", "length"] (spInit C) := by
  refine F.ok scI (fun vs H Q E h => ?_) (fun cdv A outer s H vs Q E hr h => ?_)
  · obtain ⟨p, dx, s, n, rfl, _⟩ := h
    rfl
  · obtain ⟨p, dx, z, n, rfl, hz, n0, n1, hp, q⟩ := h
    obtain ⟨t1, mg1⟩ := T.mlen
    refine ⟨_, pss_cons (ps_if (pt_not (pt_val (pe_call GA hr (by rfl) DA.mg DA.kp DA.b .nil pass0 (pa_cons (pv 1) pa_nil)))) (pss_one ps_never) pss_nil)
      (pss_cons (ps_if (pt_not (pt_val (pe_call GW hr (by rfl) DW.mg DW.kp DW.b .nil pass0 (pa_cons (pv 2) (pa_cons pe_int (pa_cons (pe_glob (v := .int 6) (by rfl) mg1 ⟨_, rfl⟩) pa_nil)))))) (pss_one ps_never) pss_nil)
      (pss_cons (ps_fld (pv 0) (pv 1) rfl) (pss_cons (ps_fld (pv 0) (pv 2) rfl)
      (pss_one (ps_fld (pv 0) (pe_call GC hr (by rfl) DC.mg DC.kp DC.b .nil pass0 (pa_cons (pe_callB call_len_str (by rfl) T.len PySem.boot_len (pa_cons (pv 1) pa_nil)) (pa_cons (pv 2) pa_nil))) rfl))))), ?_⟩
    have hl : z.length ≤ 26 := hz.2.1
    have hline : sizeLine = 16777216 := sizeLine_eq
    refine ⟨_, rfl, _, rfl, .inl ⟨z, rfl, by omega, fun H1 s1 => ⟨_, rfl, ?_⟩⟩⟩
    rw [decide_eq_true hz]
    refine iteF ?_
    refine ⟨_, rfl, _, _, _, rfl, .inl ⟨n, rfl, _, rfl, ?_⟩⟩
    rw [decide_eq_true (show 1 ≤ n ∧ n ≤ 6 from ⟨n0, n1⟩)]
    refine iteF ?_
    have hp1 := s1 _ _ hp
    refine ⟨_, rfl, _, rfl, p, C, dx, _, rfl, hp1, TC.cl, TC.nL, by show 0 < 1000; decide, ?_⟩
    refine ⟨_, rfl, _, rfl, p, C, dx, _, rfl, upd_same, TC.cl, TC.nN, by show 1 < 1000; decide, ?_⟩
    refine ⟨_, rfl, _, rfl, by omega, _, rfl, _, _, rfl, by omega, by omega, by omega, n1, ?_⟩
    refine ⟨_, rfl, p, C, dx, _, rfl, upd_same, TC.cl, TC.nS, (by rw [pf2_eq]; show 2 < 1000; decide), ?_⟩
    refine q _ ?_ ⟨dx, upd_same⟩
    exact (But.of s1).trans (But.upd.trans (But.upd.trans But.upd))
theorem digit_len {n : Int} (h0 : 1 ≤ n) (h1 : n ≤ 6) : (digit n).length = 1 := by
  have : n = 1 ∨ n = 2 ∨ n = 3 ∨ n = 4 ∨ n = 5 ∨ n = 6 := by omega
  rcases this with rfl | rfl | rfl | rfl | rfl | rfl <;> decide +kernel
theorem digit_log {n : Int} (h0 : 1 ≤ n) (h1 : n ≤ 6) : n.natAbs.log2 < 1920 := by
  have : n = 1 ∨ n = 2 ∨ n = 3 ∨ n = 4 ∨ n = 5 ∨ n = 6 := by omega
  rcases this with rfl | rfl | rfl | rfl | rfl | rfl <;> decide +kernel
theorem app_len (a b : Str) : (a ++ b).length = a.length + b.length := by
  rw [← str_len, ← str_len, ← str_len, ← List.length_append]
  exact congrArg List.length (TL.tl_append a b)
theorem empty_app (a : Str) : Str.empty ++ a = a := TL.ext_tl (by rw [TL.tl_append]; rfl)
theorem ty_board {C p dx : Addr} {H : Hp} {fs : List (Str × V)} (T : TxC K mg C) (h : H p = some (.ins C dx fs)) : TyX K H (.ref p) (.ref C) := .base (.ins h T.cl T.ac T.gt T.tk T.ob)
theorem scE : FnScope ["self", "other"] ["self", "other"] (defScope sEq) := ⟨rfl, rfl, rfl, by decide +kernel, rfl, by decide +kernel, by decide +kernel⟩
theorem ok_eq {f C : Addr} {fd : FuncData} (F : Fun K "__eq__" "Board.__eq__" sEq f fd) (T : TxW mg) (TC : TxC K mg C) : FnOk P w K mg base CX0 1 f fd ["self", "other"] (spEqB K C) := by
  refine F.ok scE (fun vs H Q E h => ?_) (fun cdv A outer s H vs Q E hr h => ?_)
  · obtain ⟨p, s, n, y, rfl, _⟩ := h
    rfl
  · obtain ⟨p, z, n, y, rfl, ⟨dx, hp⟩, hz, h⟩ := h
    refine ⟨_, pss_one (ps_ret (pe_and (pe_callB call_isi (by rfl) T.isi (by decide +kernel) (pa_cons (pv 1) (pa_cons (pe_glob (v := .ref C) (by rfl) TC.mgC rfl) pa_nil)))
      (pe_and (pe_cmpR op_eq (pe_fld (pv 0) rfl) (pe_fld (pv 1) rfl) (nomark _)) (pe_one (pe_cmpR op_eq (pe_fld (pv 0) rfl) (pe_fld (pv 1) rfl) (nomark _)))))), ?_⟩
    rcases h with ⟨q, z', n', rfl, ⟨dy, hq⟩, hz', k⟩ | ⟨t, ty, no, k⟩
    · refine ⟨_, rfl, _, _, _, _, _, rfl, .own C, ty_board TC hq, TC.own, _, rfl, ?_⟩
      refine iteT ⟨_, rfl, p, C, dx, _, _, rfl, hp, TC.cl, TC.nL, bf_letters z n, _, rfl, q, C, dy, _, _, rfl, hq, TC.cl, TC.nL, bf_letters z' n', rfl, _, rfl, ?_⟩
      refine ite2 (fun e => ?_) (fun e => ?_)
      · refine ⟨_, rfl, p, C, dx, _, _, rfl, hp, TC.cl, TC.nN, bf_length z n, _, rfl, q, C, dy, _, _, rfl, hq, TC.cl, TC.nN, bf_length z' n', rfl, ?_⟩
        have e := V.str.inj (of_decide_eq_true e)
        have e2 : decide (z = z' ∧ n = n') = decide (V.int n = V.int n') := decide_eq_decide.mpr ⟨fun x => by rw [x.2], fun x => ⟨e, V.int.inj x⟩⟩
        rw [e2] at k
        exact k
      · have e2 : decide (z = z' ∧ n = n') = false := decide_eq_false fun x => e (decide_eq_true (by rw [x.1]))
        rw [e2] at k
        exact k
    · exact ⟨_, rfl, _, _, _, _, _, rfl, .own C, ty, no, _, rfl, iteF k⟩
theorem scS : FnScope ["self"] ["self"] (defScope sStr) := ⟨rfl, rfl, rfl, by decide +kernel, rfl, by decide +kernel, by decide +kernel⟩
theorem ok_str {f C : Addr} {fd : FuncData} (F : Fun K "__str__" "Board.__str__" sStr f fd) (TC : TxC K mg C) : FnOk P w K mg base CX0 1 f fd ["self"] (spStr C) := by
  refine F.ok scS (fun vs H Q E h => ?_) (fun cdv A outer s H vs Q E hr h => ?_)
  · obtain ⟨p, s, n, rfl, _⟩ := h
    rfl
  · obtain ⟨p, z, n, rfl, ⟨dx, hp⟩, hz, n0, n1, q⟩ := h
    refine ⟨_, pss_one (ps_ret (pe_joined (.cons (pe_fmt (pe_fld (pv 0) rfl)) (.cons pe_str (.cons (pe_fmt (pe_fld (pv 0) rfl)) .nil))))), ?_⟩
    have hline : sizeLine = 16777216 := sizeLine_eq
    have d := digit_len n0 n1
    refine ⟨_, rfl, p, C, dx, _, _, rfl, hp, TC.cl, TC.nL, bf_letters z n, .inl ⟨z, rfl, by omega, z, rfl, by rw [empty_app]; omega, ?_⟩⟩
    refine ⟨_, rfl, by rw [empty_app, app_len]; have : (Str.ofString " ").length = 1 := rfl; omega, ?_⟩
    refine ⟨_, rfl, p, C, dx, _, _, rfl, hp, TC.cl, TC.nN, bf_length z n, .inr ⟨n, rfl, digit_log n0 n1, digit n, rfl, ?_, ?_⟩⟩
    · rw [empty_app, app_len, app_len]; have : (Str.ofString " ").length = 1 := rfl; omega
    · show Q (.str (Str.empty ++ z ++ Str.ofString " " ++ digit n)) H
      rw [empty_app]
      exact q
theorem scR : FnScope ["self"] ["self"] (defScope sRepr) := ⟨rfl, rfl, rfl, by decide +kernel, rfl, by decide +kernel, by decide +kernel⟩
theorem ok_repr {f C : Addr} {fd : FuncData} (F : Fun K "__repr__" "Board.__repr__" sRepr f fd) (TC : TxC K mg C) : FnOk P w K mg base CX0 1 f fd ["self"] (spRepr C) := by
  refine F.ok scR (fun vs H Q E h => ?_) (fun cdv A outer s H vs Q E hr h => ?_)
  · obtain ⟨p, s, n, rfl, _⟩ := h
    rfl
  · obtain ⟨p, z, n, rfl, ⟨dx, hp⟩, hz, n0, n1, q⟩ := h
    refine ⟨_, pss_one (ps_ret (pe_joined (.cons pe_str (.cons (pe_fmt (pe_fld (pv 0) rfl)) (.cons pe_str (.cons (pe_fmt (pe_fld (pv 0) rfl)) (.cons pe_str .nil))))))), ?_⟩
    have hline : sizeLine = 16777216 := sizeLine_eq
    have d := digit_len n0 n1
    have l1 : (Str.ofString " ").length = 1 := rfl
    have l2 : (Str.ofString "Board(").length = 6 := rfl
    have l3 : (Str.ofString ")").length = 1 := rfl
    refine ⟨_, rfl, by rw [empty_app, l2]; omega, ?_⟩
    refine ⟨_, rfl, p, C, dx, _, _, rfl, hp, TC.cl, TC.nL, bf_letters z n, .inl ⟨z, rfl, by omega, z, rfl, by rw [empty_app, app_len, l2]; omega, ?_⟩⟩
    refine ⟨_, rfl, by rw [empty_app, app_len, app_len, l1, l2]; omega, ?_⟩
    refine ⟨_, rfl, p, C, dx, _, _, rfl, hp, TC.cl, TC.nN, bf_length z n, .inr ⟨n, rfl, digit_log n0 n1, digit n, rfl, by rw [empty_app, app_len, app_len, app_len, l1, l2]; omega, ?_⟩⟩
    refine ⟨_, rfl, by rw [empty_app, app_len, app_len, app_len, app_len, l1, l2, l3]; omega, ?_⟩
    show Q (.str (Str.empty ++ Str.ofString "Board(" ++ z ++ Str.ofString " " ++ digit n ++ Str.ofString ")")) H
    rw [empty_app]
    exact q
end
end Gm

/-! defs that are called where nothing is being shown, so that they may ask for the repr of lists -/
namespace L2
open PySem PySem.Spec PyProof.Rows
/-- FnOk for calls where no repr is under way -/
structure FnG (P : Program) (w : World) (K : PySem.W.Frag) (mg : Str → Option Value) (base : Heap) (CX : CXT) (k : Nat) (f : Addr) (fd : FuncData) (ps : List Str) (sp : Sp) : Prop where
  many : ∀ {vs H Q E}, sp vs H Q E → vs.length = ps.length
  goes : ∀ {A : Around} {outer : List Env} {s : Shared} {H : Hp} {args : Args} {us : List Value} {vs : List V} {Q : VK} {E : XK}, A.guards = some [] → Room k A → Env0 P w K mg base A outer s H →
    BindsTo s fd args (ps.zip us) → Vals vs us → sp vs H Q E → codeAny (model P w) A (.call (.ref f) args) (CR CX outer P w H s Q E) s
theorem FnOk.toG {P : Program} {w : World} {K : PySem.W.Frag} {mg : Str → Option Value} {base : Heap} {CX : CXT} {k : Nat} {f : Addr} {fd : FuncData} {ps : List Str} {sp : Sp} (F : FnOk P w K mg base CX k f fd ps sp) : FnG P w K mg base CX k f fd ps sp :=
  ⟨fun h => F.len _ _ _ _ h, fun _ hr e b r h => F.run _ _ _ _ _ _ _ _ _ hr e b r h⟩
theorem Fun.okG {P : Program} {w : World} {K : PySem.W.Frag} {mg : Str → Option Value} {base : Heap} {x qual : Str} {st : Stmt} {f : Addr} {fd : FuncData} {N ps : List Str} {k : Nat} {sp : Sp} (F : Fun K x qual st f fd) (S : FnScope N ps (defScope st))
    (many : ∀ vs H Q E, sp vs H Q E → vs.length = ps.length)
    (body : ∀ (cdv : Value) (A : Around) (outer : List Env) (s : Shared) (H : Hp) (vs : List V) (Q : VK) (E : XK), A.guards = some [] → Room k (A.deeper (envOfC qual (defScope st) s.heap.objs.size f cdv)) → sp vs H Q E →
      ∃ t, PSs (cxOf CX0 P w K mg base N qual (defScope st) f cdv A outer s H E).nox (defBody st) t ∧ t { nx := fun _ H' => Q .non H', rt := Q } (start N vs) H) : FnG P w K mg base CX0 (k + 1) f fd ps sp := by
  obtain ⟨oc, od, kV, doc, pm, an, cdv, ct, osl, rfl, lk, hcd⟩ := F.ex
  refine ⟨fun h => many _ _ _ _ h, fun {A outer s H args us vs Q E} g hr e b r h => ?_⟩
  refine LamX.run_ofS lk hcd S hr e b r (many _ _ _ _ h) fun hr' => ?_
  obtain ⟨t, ht, q⟩ := body cdv A outer s H vs Q E g hr' h
  exact ⟨t, ht.nox, q⟩
section
variable {X : Cx} {CX : CXT} {k : Nat} {f : Addr} {fd : FuncData} {ps : List Str} {sp : Sp} {E : XK} {x : Str} {p pos : Pos} {e : Expr} {es : List Expr} {t : TA}
theorem pe_callG (F : FnG X.prog X.w X.K X.mg X.base CX k f fd ps sp) (g : X.A.guards = some []) (hr : Room k X.A) (hg : Gl X x) (hm : X.mg x = some (.ref f)) (hk : PySem.W.keepIn X.K (.ref f) = true) (hb : Binds X.K fd ps []) (hx : Passes CX X E) (ha : PA X (e :: es) t)
    (hdb : (x == ("__debug__" : Str)) = false := by decide) (he : starEach (e :: es) X.env = (false, eval e X.env) :: starEach es X.env := by rfl) (hpl : (backTo pos (starEach es X.env)).any (·.1) = false := by rfl) :
    PE X (.Call (.Name x p) (e :: es) [] pos) (tCall sp [] E t) := by
  constructor
  intro pins s σ H Q I h
  apply wpAny_Call_Name_kw
  apply ld_glob I hg hm _ hdb
  refine PySem.W.callWith_K (h₀ := X.base) I.ok.mod.kin hk (thn (ha.run pos pins s σ H _ I h) fun us s1 hh => ?_) he hpl
  obtain ⟨vs, H1, I1, r, q⟩ := hh
  refine ⟨I1.kIn, wpAny_call (codeAny_mono (F.goes g hr I1.env0 (us := us) ?_ r (by simpa using q)) fun r s' hq => ?_)⟩
  · have hl : (us ++ []).length = ps.length := by
      rw [List.append_nil, ← r.length]
      exact F.many (by simpa using q)
    simpa using hb s1 us I1.kIn hl
  · match r, hq with
    | .error e, hq => exact hx pins σ H1 s1 e s' I1 hq
    | .ok (.ret u), hq => exact I1.after hq
end
/-! ### repr of data -/
mutual
/-- as Dp, with the empty dict besides -/
inductive Dq (K : PySem.W.Frag) (H : Hp) : V → PyData → Prop
  | non : Dq K H .non .none
  | bl (b : Bool) : Dq K H (.bl b) (.bool b)
  | int (i : Int) : Dq K H (.int i) (.int i)
  | str (x : Str) : Dq K H (.str x) (.str x)
  | lst {a : Addr} {xs : List V} {ds : List PyData} : SqL K H a xs → DqAll K H xs ds → Dq K H (.ref a) (.list ds)
  | tup {a : Addr} {xs : List V} {ds : List PyData} : SqT K H a xs → DqAll K H xs ds → Dq K H (.ref a) (.tuple ds)
  | dic {a : Addr} : H a = some (.dK []) → Dq K H (.ref a) (.dict [])
inductive DqAll (K : PySem.W.Frag) (H : Hp) : List V → List PyData → Prop
  | nil : DqAll K H [] []
  | cons {v : V} {vs : List V} {d : PyData} {ds : List PyData} : Dq K H v d → DqAll K H vs ds → DqAll K H (v :: vs) (d :: ds)
end
section
variable {X : Cx} {pins : List (Addr × Obj)} {σ : St} {H : Hp} {s : Shared}
theorem no_mods {a : Addr} {o : Obj} {vs : Array Value} {n : Nat} {h : Heap} {mm : Str → Option Value} (hm : h.Ns sysModules mm) (ho : h.get? a = some o) (hd : o.data = .seq vs n) : sysModules ≠ a := fun z => by
  obtain ⟨o', es, ep, e, d, _⟩ := hm
  rw [z, ho] at e
  cases e
  rw [hd] at d
  cases d
mutual
theorem Dq.reads {mm : Str → Option Value} (hm : s.heap.Ns sysModules mm) (I : Inv X pins σ H s) : ∀ (d : PyData) (v : V) (u : Value), Dq X.K H v d → RelV v u → ∃ as, Reads s.heap u d as ∧ sysModules ∉ as
  | .none, _, _, h, r => by
    cases h; cases r
    exact ⟨_, .none, List.not_mem_nil⟩
  | .bool b, _, _, h, r => by
    cases h; cases r
    exact ⟨_, .bool b, List.not_mem_nil⟩
  | .int i, _, _, h, r => by
    cases h; obtain ⟨t, rfl⟩ := r
    exact ⟨_, .int i t, List.not_mem_nil⟩
  | .str x, _, _, h, r => by
    cases h; obtain ⟨t, rfl⟩ := r
    exact ⟨_, .str x t, List.not_mem_nil⟩
  | .list ds, _, _, h, r => by
    cases h with
    | lst hs ha =>
      cases r
      obtain ⟨its, rv, ⟨o, n, ho, hc, _, hd⟩, _⟩ := I.list hs
      obtain ⟨as, hr, nm⟩ := Dq.readsAll hm I ds _ its ha rv
      refine ⟨_, .list ho hc hd hr, fun z => ?_⟩
      rcases List.mem_cons.mp z with z | z
      · exact no_mods hm ho hd z
      · exact nm z
  | .tuple ds, _, _, h, r => by
    cases h with
    | tup hs ha =>
      cases r
      obtain ⟨its, rv, ⟨o, ho, hc, n, hd⟩, _⟩ := I.tuple hs
      obtain ⟨as, hr, nm⟩ := Dq.readsAll hm I ds _ its ha rv
      exact ⟨_, .tuple ho hc hd hr, nm⟩
  | .dict ks, _, _, h, r => by
    cases h with
    | dic e =>
      cases r
      obtain ⟨_, nd, vs, kv, dd⟩ := dk_of I.hok e
      cases kv
      obtain ⟨o, es, ep, ho, hx, hd, _, he, _⟩ := dd
      have e0 : es.toList = [] := by cases hl : es.toList with | nil => rfl | cons a b => (rw [hl] at he; cases he)
      refine ⟨_, .dict (as := []) (bs := []) ho hx.1 hd (by rw [e0]; exact .nil) (by rw [e0]; exact .nil), fun z => ?_⟩
      rcases List.mem_cons.mp z with z | z
      · rw [← z] at nd
        simp at nd
      · simp at z
theorem Dq.readsAll {mm : Str → Option Value} (hm : s.heap.Ns sysModules mm) (I : Inv X pins σ H s) : ∀ (ds : List PyData) (vs : List V) (us : List Value), DqAll X.K H vs ds → Vals vs us → ∃ as, ReadsAll s.heap us ds as ∧ sysModules ∉ as
  | [], _, _, h, r => by
    cases h; cases r
    exact ⟨_, .nil, List.not_mem_nil⟩
  | d :: ds, _, _, h, r => by
    cases h with
    | cons h1 h2 =>
      cases r with
      | cons r1 r2 =>
        obtain ⟨as, q1, n1⟩ := Dq.reads hm I d _ _ h1 r1
        obtain ⟨bs, q2, n2⟩ := Dq.readsAll hm I ds _ _ h2 r2
        exact ⟨_, .cons q1 q2, fun z => (List.mem_append.mp z).elim n1 n2⟩
end
/-- what repr wants of data: it can be shown, in so much room -/
structure Sh (d : PyData) (n m : Nat) : Prop where
  ok : d.showable = true
  long : d.shown.length ≤ n
  deep : d.depth ≤ m
theorem call_reprD (g : X.A.guards = some []) (hu : X.A.units + 64 < cLine) (hm : ∃ mm, X.base.Ns sysModules mm) :
    CallR X (.builtin "repr") (fun xs H Q => ∃ (a : Addr) (d : PyData), xs = [.ref a] ∧ Dq X.K H (.ref a) d ∧ Sh d 16777216 60 ∧ Q (.str d.shown) H) := by
  intro pins s σ H xs us Q I r h
  obtain ⟨a, d, rfl, hd, hs, q⟩ := h
  obtain ⟨mm, hm⟩ := hm
  cases r with
  | cons r1 r2 =>
    cases r2
    cases r1
    obtain ⟨as, rd, nm⟩ := Dq.reads (hm.keeps I.bk) I d _ _ hd rfl
    refine repr_of_reads' rd hs.ok (fun _ => nm) g ?_ (fun _ _ e => e) (fun h' u tk k => ?_) ?_
    · have := hs.deep
      omega
    · exact ⟨.str d.shown, H, I.kept (t' := tk) k, ⟨_, rfl⟩, q⟩
    · rw [sizeLine_eq]
      exact hs.long
end
end L2

/-! several except clauses, each with a name -/
namespace L2
open PySem PySem.Spec PyProof.Rows
abbrev Clause := Value × Nat × (Addr → Value → Option Addr → TS)
/-- ends behind a suite: the clause's name is gone -/
def endsGone (D : Ends) (i : Nat) : Ends := { nx := fun σ H => D.nx (σ.set i none) H, rt := D.rt, bk := fun σ H => D.bk (σ.set i none) H, ct := fun σ H => D.ct (σ.set i none) H }
def wNamed (K : PySem.W.Frag) (Wo : WX) (D : Ends) : List Clause → WX
  | [] => Wo
  | k :: r => fun cl d σ H => ∃ b, PySem.W.exmOne K cl k.1 = some b ∧ (b = true → ∀ a, H a = none → k.2.2 a cl d (endsGone D k.2.1) (σ.set k.2.1 (some (.ref a))) H) ∧ (b = false → wNamed K Wo D r cl d σ H)
def wLen (n : Nat) (W : WX) : WX := fun cl d σ H => σ.length = n → W cl d σ H
structure ClauseOk (X : Cx) (x n : Str) (suite : List Stmt) (k : Clause) : Prop where
  names : Names X x k.1
  at_ : X.N[k.2.1]? = some n
  loc : X.env.kindOf n = some .local
  run : ∀ (a : Addr) (o : Obj) (cl : Value) (d : Option Addr) (pn : List (Addr × Obj)), Zc cl d o → (∃ vs, o.data = .fields vs) → PSs (X.suite a ((a, o) :: pn)) suite (k.2.2 a cl d)
inductive NamedOk (X : Cx) : List ExceptHandler → List Clause → Prop
  | nil : NamedOk X [] []
  | cons {x n : Str} {k : Clause} {b : Stmt} {su : List Stmt} {p1 p2 : Pos} {hd : List ExceptHandler} {l : List Clause} (ok : ClauseOk X x n (b :: su) k) (r : NamedOk X hd l) : NamedOk X (.ExceptHandler (some (.Name x p1)) (some n) (b :: su) p2 :: hd) (k :: l)
section
variable {X : Cx} {hd0 : ExceptHandler} {hds : List ExceptHandler} {l : List Clause} {pos : Pos} {body : List Stmt} {tb : WX → TS} {Wo : WX} {pins : List (Addr × Obj)} {σ : L2.St} {H : Hp} {D : Ends}
/-- try: body, then except C as n: .. clauses, each by a name of its own -/
theorem ps_try_named (st : X.stack = X.env :: X.outer) (fr : X.env.frame = some X.env.locals) (nd : X.N.Nodup) (take : Takes X Wo)
    (run : ∀ (W : WX) (pn : List (Addr × Obj)) (xe : Value → Shared → Prop), Takes (X.tr pn xe) W → PassesOwn (model X.prog X.w) X.A X.env xe → PSs (X.tr pn xe) body (tb W)) (all : NamedOk X (hd0 :: hds) l) :
    PS X (.Try body (hd0 :: hds) [] [] pos) (fun D σ H => tb (wLen X.N.length (wNamed X.K Wo D l)) D σ H) := by
  constructor
  intro pins s σ H D I h
  have okX := I.ok
  have frs_eq : X.A.frames = some (X.env :: X.outer) := okX.frames.trans (congrArg some st)
  apply wpAny_Try_except
  refine wpAny_mono ((run (wLen X.N.length (wNamed X.K Wo D l)) (X.pn ++ pins) (fun e r1 => wpAny (model X.prog X.w) X.A (noteFrame e X.env) (fun _ r2 => wpAny (model X.prog X.w) X.A (setFlight e none) (fun _ r3 => wpAny (model X.prog X.w) X.A (handleBy e X.env (hd0 :: hds)) (SP X pins D) X.xe r3) X.xe r2) X.xe r1) (fun u s' x => ?_) PassesOwn.looking).run [] s σ H D (I.toTry _) h) (fun f s1 e => ?_) (fun _ _ z => z)
  · obtain ⟨a, B, sI, ps', τ, G, cl, d, rfl, J0, nb, up, sk, ga, eo, ag, wish⟩ := x
    have J : Inv X pins τ G sI := J0.ofTry okX
    rw [st] at sk
    show wpAny (model X.prog X.w) X.A (noteFrame (.ref a) X.env) _ _ _
    refine Sky.land Zc.steady frs_eq fr sk fun g3 dn up3 => ?_
    have J3 : Inv X pins τ G { s' with heap := g3 } := J.landed nb dn.1 (up.trans up3) eo ag
    obtain ⟨o3, v3, ho, zo, fo⟩ := dn.there
    have off : a ∉ frs (X.env :: X.outer) := fun m => by
      obtain ⟨_, o', ho', no⟩ := dn.2.2.1.mem m
      exact no _ ((Option.some.inj (ho.symm.trans ho')) ▸ fo)
    have aL : a ≠ X.env.locals := fun z => off (List.mem_filterMap.mpr ⟨X.env, List.mem_cons_self, z ▸ fr⟩)
    have aF : a ∉ X.fs := fun m => by
      obtain ⟨e, i, q⟩ := List.mem_filterMap.mp m
      exact off (List.mem_filterMap.mpr ⟨e, List.mem_cons_of_mem _ i, q⟩)
    have S3 := J3.suite ho fo ga aL aF
    have each : ∀ {hd : List ExceptHandler} {l : List Clause}, NamedOk X hd l → wNamed X.K Wo D l cl d τ G → wpAny (model X.prog X.w) X.A (handleBy (.ref a) X.env hd) (SP X pins D) X.xe { s' with heap := g3 } := by
      intro hd l m
      induction m with
      | nil =>
        intro wish
        apply wpAny_handleBy_nil
        obtain ⟨k1, k2, k3, oe, vs, T, oT, t', e1, e2, e3, e4, e5⟩ := id dn
        unfold PySem.passOn
        refine wpAny_bind (wpAny_field e1 e3 e4 ?_)
        rw [if_neg (show ¬ ((Value.ref T == Value.none) = true) from by simp)]
        have out : wpAny (model X.prog X.w) X.A (setFlight (.ref a) X.env.frame) (fun _ r => wpAny (model X.prog X.w) X.A (throw (.ref a) : Sem Flow) (SP X pins D) X.xe r) X.xe { s' with heap := g3 } := by
          rw [fr]
          exact HandSPX.setFlight_upZ dn fun g4 k4 up4 => wpAny_throw (take _ _ ⟨a, B, sI, pins, τ, G, cl, d, rfl, J, nb, (up.trans up3).trans up4, .inr (.inr (st ▸ k4)), ga, eo, ag, wish⟩)
        first | exact wpAny_bind (wpAny_pure (wpAny_bind out)) | exact wpAny_bind out
      | @cons x n k b su p1 p2 hd2 l2 C m2 ih =>
        intro wish
        obtain ⟨v, isK, yes, no⟩ := wish
        refine wpAny_handleBy_cons (codeAny_handlers_test ?_) nofun
        have tyA : PySem.W.Looks (model X.prog X.w) g3 (typeOf (.ref a)) cl := fun A Q E r k q => wpAny_typeOf_ref (k _ _ ho) (zo.1.symm ▸ q)
        have ans := PySem.W.exm_one (M := model X.prog X.w) (J3.kIn) tyA isK
        have reads : ∀ {Q E : Value → Shared → Prop}, Q k.1 { s' with heap := g3 } → wpAny (model X.prog X.w) (X.A.mark (some (.ref a))) (eval (.Name x p1) X.env) Q E { s' with heap := g3 } := fun {Q E} q => by
          rcases C.names with ⟨n1, n2, n3 | ⟨n3, n4, n5⟩⟩
          · exact ld_glob (X := X.suite a ((a, o3) :: (X.pn ++ pins))) S3 n1 n3 q n2
          · exact ld_blt (X := X.suite a ((a, o3) :: (X.pn ++ pins))) S3 n1 n3 n4 q n5 n2
        refine reads (ans.here ?_)
        cases v with
        | false => exact ih (no rfl)
        | true =>
          apply codeAny_handlers_suite_as
          refine HandSPX.lands_againZ dn fun g4 dn4 up4 => ?_
          have J4 : Inv X pins τ G { s' with heap := g4 } := J.landed nb dn4.1 ((up.trans up3).trans up4) eo ag
          obtain ⟨o4, v4, h4, z4, f4⟩ := dn4.there
          refine store_ok (X := X.suite a ((a, o4) :: (X.pn ++ pins))) (v := .ref a) (J4.suite h4 f4 ga aL aF) nd C.at_ (.inl C.loc) rfl (fun s5 S5 => ?_) (.inr C.loc)
          refine wpAny_mono ((C.run a o4 cl d (X.pn ++ pins) z4 ⟨_, f4⟩).run [] s5 _ G _ S5 (yes rfl a ga)) (fun f s6 e => ?_) (fun _ _ z => z.elim)
          have bye : ∀ {σ6 : L2.St} {H6 : Hp} {Q : Shared → Prop}, Inv (X.suite a ((a, o4) :: (X.pn ++ pins))) [] σ6 H6 s6 → (∀ s7, Inv X pins (σ6.set k.2.1 none) H6 s7 → Q s7) →
              wpAny (model X.prog X.w) X.A (do bindName X.env n .none; unbindBehindTheSuite X.env n p2) (fun _ s7 => Q s7) X.xe s6 := fun S6 q => gone_ok (S6.unsuite okX) nd C.at_ C.loc q
          cases f with
          | ret u =>
            obtain ⟨v6, σ6, H6, S6, r6, q6⟩ := e
            exact bye S6 fun s7 J7 => ⟨_, _, _, J7, r6, q6⟩
          | _ =>
            obtain ⟨σ6, H6, S6, q6⟩ := e
            exact bye S6 fun s7 J7 => ⟨_, _, J7, q6⟩
    exact each all (wish J.len)
  · cases f with
    | next =>
      obtain ⟨τ, G, J, q⟩ := e
      exact wpAny_execs_nil ⟨τ, G, J.ofTry okX, q⟩
    | ret u =>
      obtain ⟨v, τ, G, J, r, q⟩ := e
      exact ⟨v, τ, G, J.ofTry okX, r, q⟩
    | _ =>
      obtain ⟨τ, G, J, q⟩ := e
      exact ⟨τ, G, J.ofTry okX, q⟩
end
end L2

/-! error classes of the program that keep their argument: made, raised, caught, asked for their class -/
namespace L2
open PySem PySem.Spec PyProof.Rows
/-- what stands of an error class C with the field f; its __init__ at fI -/
structure ErrC (K : PySem.W.Frag) (mg : Str → Option Value) (x f : Str) (C fI : Addr) : Prop where
  gC : mg x = some (.ref C)
  ox : OexC K C
  no : PySem.W.findIn K (.ref C) f = some none
  iC : PySem.W.findIn K (.ref C) "__init__" = some (some (.ref fI))
  tI : PySem.W.typeIn K (.ref fI) = some (.type "function")
  ga : PySem.W.findIn K (.ref C) "__getattribute__" = some (some (.builtin "BaseException.__getattribute__"))
  gg : PySem.W.findIn K (.ref C) "__getattr__" = some none
  hd : PySem.W.hasDictIn K C = true
  ac : PySem.W.findIn K (.ref C) "__class__" = some (some (.builtin "object.__class__"))
  gt : PySem.W.specialIn K (.builtin "object.__class__") "__get__" = some (some (.builtin "getset_descriptor.__get__"))
  tk : PySem.W.takesIn K (.builtin "object.__class__") = some true
  ob : PySem.W.mroIn K C (.type "object") = some true
theorem ErrC.xf {K : PySem.W.Frag} {mg : Str → Option Value} {x f : Str} {C fI : Addr} (T : ErrC K mg x f C fI) : XfC K C := ⟨T.ga, T.gg, T.ox.exC, T.hd⟩
theorem ErrC.cl {K : PySem.W.Frag} {mg : Str → Option Value} {x f : Str} {C fI : Addr} (T : ErrC K mg x f C fI) : (PySem.W.clsIn K C).isSome = true := by
  obtain ⟨cd, hc, _⟩ := PySem.W.any_some T.hd
  rw [hc]
  rfl
def spErr (C : Addr) (f : Str) : Sp := fun vs H Q _ => ∃ (a : Addr) (v : V), vs = [.ref a, v] ∧ H a = some (exo a C none) ∧ ∀ dx, H dx = none → dx ≠ a → Q .non (upd (upd H dx (exd dx [(f, v)])) a (exo a C (some dx)))
theorem ok_err {P : Program} {w : World} {K : PySem.W.Frag} {mg : Str → Option Value} {base : Heap} {qual f x par : Str} {st : Stmt} {fI C : Addr} {fd : FuncData} {p1 p2 p3 p4 : Pos} (F : Fun K "__init__" qual st fI fd) (T : ErrC K mg x f C fI)
    (hB : defBody st = [.Assign [.Attribute (.Name "self" p1) f p2] (.Name par p3) p4]) (S : FnScope ["self", par] ["self", par] (defScope st)) (v0 : Vis (defScope st) "self") (v1 : Vis (defScope st) par)
    (d0 : (par == ("__debug__" : Str)) = false := by decide) (d1 : (par == ("__classdict__" : Str)) = false := by decide) : FnOk P w K mg base CX0 1 fI fd ["self", par] (spErr C f) := by
  refine F.ok S (fun vs H Q E h => ?_) (fun cdv A outer s H vs Q E hr h => ?_)
  · obtain ⟨a, v, rfl, _⟩ := h
    rfl
  · obtain ⟨a, v, rfl, e, q⟩ := h
    rw [hB]
    refine ⟨_, pss_one (ps_ost (pe_var (i := 0) rfl v0 (by decide) (by decide)) (pe_var (i := 1) rfl v1 d0 d1)), ?_⟩
    exact ⟨_, rfl, _, rfl, a, C, rfl, T.ox, T.no, .inl ⟨e, fun dx n ne => q dx n ne⟩⟩
theorem mkErr {C : Addr} {f : Str} {v : V} {H1 : Hp} {Q : XK} (h : ∀ H' d, Same H1 H' → H1 d = none → H' d = some (.xd [(f, v)]) → Q (.ref C) (some d) H') :
    [v].length ≤ 1000 ∧ ∀ a, H1 a = none → spErr C f (.ref a :: ([v] ++ [])) (upd H1 a (exo a C none))
      (fun u H2 => u = .non ∧ ∃ (d : Addr) (fs : List (Str × V)), H2 a = some (exo a C (some d)) ∧ H2 d = some (exd d fs) ∧ H1 d = none ∧ Q (.ref C) (some d) (upd (del H2 a) d (.xd fs))) (fun _ _ _ => False) := by
  refine ⟨(by decide : 1 ≤ 1000), fun a na => ⟨a, v, rfl, upd_same, fun dx nd ne => ⟨rfl, dx, [(f, v)], upd_same, (upd_ne ne).trans upd_same, ?_, ?_⟩⟩⟩
  · rwa [upd_ne ne] at nd
  · rw [upd_ne ne] at nd
    refine h _ dx (fun b o e => ?_) nd upd_same
    have n1 : b ≠ a := ne_of_none e na
    have n2 : b ≠ dx := ne_of_none e nd
    rw [upd_ne n2, del_ne n1, upd_ne n1, upd_ne n2, upd_ne n1]
    exact e
/-- isinstance(e, c) of the caught error with its dict -/
def rIsX (K : PySem.W.Frag) (D a : Addr) (cls : Value) (d : Option Addr) : List V → Hp → VK → Prop := fun xs H Q =>
  ∃ (c : V) (cv : Value) (b : Bool) (dd : Addr) (fs : List (Str × V)), xs = [.ref a, c] ∧ ClsV c cv ∧ cls = .ref D ∧ d = some dd ∧ H dd = some (.xd fs) ∧ PySem.W.kitOne K (.ref D) cv = some b ∧ Q (.bl b) H
theorem call_isX {X : Cx} {a D fI : Addr} {x f : Str} {oe : Obj} {cls : Value} {d : Option Addr} {pn : List (Addr × Obj)} (T : ErrC X.K X.mg x f D fI) (hz : Zc cls d oe) (hf : ∃ vs, oe.data = .fields vs) :
    CallR (X.suite a ((a, oe) :: pn)) (.builtin "isinstance") (rIsX X.K D a cls d) := by
  intro pins s σ H xs us Q I r h
  obtain ⟨c, cv, b, dd, fs, rfl, k, rfl, rfl, hd, e, q⟩ := h
  cases r with
  | cons rx rr =>
    cases rr with
    | cons rt rr =>
      cases rr
      cases rx
      have ec := k.eq rt
      subst ec
      obtain ⟨hget, _⟩ := I.pin (a, oe) (List.mem_append_left _ List.mem_cons_self)
      obtain ⟨vs, hv⟩ := hf
      have hx : ObjOk X.prog X.w H s.heap dd (.xd fs) := I.hok dd _ hd
      obtain ⟨mA, hns, _⟩ := hx
      obtain ⟨od, ho, _⟩ := lookIn_ns hns
      have J : PySem.W.InstAt s.heap a oe D (some od) := ⟨hget, hz.1, by unfold PySem.W.notCls; rw [hv] <;> rfl, by rw [hz.2]; exact ho⟩
      exact PySem.W.kia_one (PySem.W.kitx_exc T.cl T.ga T.gg T.ox.exC T.ac T.gt T.tk T.ob) I.kIn J e (fun z => nomatch z) fun tk => ⟨.bl b, H, I.kept (t' := tk) fun _ _ z => z, rfl, q⟩
theorem TyX.same {K : PySem.W.Frag} {H H' : Hp} {v : V} {t : Value} (ty : TyX K H v t) (s : Same H H') : TyX K H' v t := by
  cases ty with
  | base b =>
    cases b with
    | non => exact .base .non
    | bl y => exact .base (.bl y)
    | int i => exact .base (.int i)
    | str y => exact .base (.str y)
    | flt y => exact .base (.flt y)
    | lst e => exact .base (.lst (s _ _ e))
    | frz e => exact .base (.frz (s _ _ e))
    | tup e => exact .base (.tup (s _ _ e))
    | dK e => exact .base (.dK (s _ _ e))
    | dT e => exact .base (.dT (s _ _ e))
    | ins e cl ha hn htk hm => exact .base (.ins (s _ _ e) cl ha hn htk hm)
  | byt b => exact .byt b
  | set e => exact .set (s _ _ e)
  | kList e c => exact .kList e c
  | kTuple e c => exact .kTuple e c
  | kDict e c => exact .kDict e c
  | fTuple e => exact .fTuple (s _ _ e)
  | fDict e => exact .fDict (s _ _ e)
end L2

namespace Gm
open PySem L2
/-- what is no alphabet, no integer from lo to hi -/
def NotAlph (K : PySem.W.Frag) (v : V) (H : Hp) : Prop := (∃ s, v = .str s ∧ s.length ≤ 1000 ∧ ¬ Alph s) ∨ (∃ t, TyX K H v t ∧ PySem.W.kitOne K t (.type "str") = some false)
def NotIn (K : PySem.W.Frag) (v : V) (lo hi : Int) (H : Hp) : Prop := (∃ n, v = .int n ∧ ¬ (lo ≤ n ∧ n ≤ hi)) ∨ (∃ t, TyX K H v t ∧ NoInt K t)
theorem NotIn.same {K : PySem.W.Frag} {v : V} {lo hi : Int} {H H' : Hp} (h : NotIn K v lo hi H) (s : Same H H') : NotIn K v lo hi H' := by
  rcases h with h | ⟨t, ty, no⟩
  · exact .inl h
  · exact .inr ⟨t, ty.same s, no⟩
theorem NotAlph.same {K : PySem.W.Frag} {v : V} {H H' : Hp} (h : NotAlph K v H) (s : Same H H') : NotAlph K v H' := by
  rcases h with h | ⟨t, ty, no⟩
  · exact .inl h
  · exact .inr ⟨t, ty.same s, no⟩
/-- an own error comes out, with v in its field -/
def Comes (E : XK) (H : Hp) (C : Addr) (f : Str) (v : V) : Prop := ∀ H' d, Same H H' → H d = none → H' d = some (.xd [(f, v)]) → E (.ref C) (some d) H'
theorem Comes.same {E : XK} {H H1 : Hp} {C : Addr} {f : Str} {v : V} (h : Comes E H C f v) (s : Same H H1) : Comes E H1 C f v := fun H' d s' n e => h H' d (fun b o x => s' _ _ (s _ _ x)) (s.free n) e
def spInitX (K : PySem.W.Frag) (C CA CL : Addr) : Sp := fun vs H Q E => ∃ (p dx : Addr) (lv nv : V), vs = [.ref p, lv, nv] ∧ H p = some (.ins C dx []) ∧
  ((NotAlph K lv H ∧ Comes E H CA "value" lv) ∨ ∃ s, lv = .str s ∧ Alph s ∧
    ((NotIn K nv 1 6 H ∧ Comes E H CL "value" nv) ∨ ∃ n, nv = .int n ∧ 1 ≤ n ∧ n ≤ 6 ∧ ∀ H', But p H H' → BoardAt C H' p s n → Q .non H'))
section
variable {P : Program} {w : World} {K : PySem.W.Frag} {mg : Str → Option Value} {base : Heap}
theorem ok_initX {f C fA fW fC CA CL eA eL : Addr} {fd fdA fdW fdC fdE fdF : FuncData} (F : Fun K "__init__" "Board.__init__" sInit f fd) (T : TxW mg) (TC : TxC K mg C)
    (GA : FnOk P w K mg base CX0 1 fA fdA ["letters"] (spAlpha K)) (DA : Df K mg "is_alphabet" fA fdA ["letters"]) (GW : FnOk P w K mg base CX0 1 fW fdW ["value", "least", "most"] (spWithin K)) (DW : Df K mg "is_integer_within" fW fdW ["value", "least", "most"])
    (GC : FnOk P w K mg base CX0 1 fC fdC ["many", "length"] spCount) (DC : Df K mg "count_words" fC fdC ["many", "length"])
    (EA : ErrC K mg "InvalidLetters" "value" CA eA) (GEA : FnOk P w K mg base CX0 1 eA fdE ["self", "value"] (spErr CA "value")) (bA : Binds K fdE ["self", "value"] [])
    (EL : ErrC K mg "InvalidLength" "value" CL eL) (GEL : FnOk P w K mg base CX0 1 eL fdF ["self", "value"] (spErr CL "value")) (bL : Binds K fdF ["self", "value"] []) :
    FnOk P w K mg base (L2.CX P w) 3 f fd ["self", "letters", "length"] (spInitX K C CA CL) := by
  refine F.okX scI (fun vs H Q E h => ?_) (fun cdv A outer s H vs Q E hr h => ?_)
  · obtain ⟨p, dx, s, n, rfl, _⟩ := h
    rfl
  · obtain ⟨p, dx, lv, nv, rfl, hp, h⟩ := h
    have hr1 : Room 1 _ := hr.mono (by decide)
    obtain ⟨t1, mg1⟩ := T.mlen
    refine ⟨_, pss_cons (ps_if (pt_not (pt_val (pe_call GA hr1 (by rfl) DA.mg DA.kp DA.b .nil pass0 (pa_cons (pv 1) pa_nil))))
        (pss_one (ps_raise rfl (takes_of rfl rfl rfl rfl) (pmk_oex EA.ox EA.iC EA.tI GEA hr bA .nil pass0 (by rfl) EA.gC (pa_cons (pv 1) pa_nil)))) pss_nil)
      (pss_cons (ps_if (pt_not (pt_val (pe_call GW hr1 (by rfl) DW.mg DW.kp DW.b .nil pass0 (pa_cons (pv 2) (pa_cons pe_int (pa_cons (pe_glob (v := .int 6) (by rfl) mg1 ⟨_, rfl⟩) pa_nil))))))
        (pss_one (ps_raise rfl (takes_of rfl rfl rfl rfl) (pmk_oex EL.ox EL.iC EL.tI GEL hr bL .nil pass0 (by rfl) EL.gC (pa_cons (pv 2) pa_nil)))) pss_nil)
      (pss_cons (ps_fld (pv 0) (pv 1) rfl) (pss_cons (ps_fld (pv 0) (pv 2) rfl)
      (pss_one (ps_fld (pv 0) (pe_call GC hr1 (by rfl) DC.mg DC.kp DC.b .nil pass0 (pa_cons (pe_callB call_len_str (by rfl) T.len PySem.boot_len (pa_cons (pv 1) pa_nil)) (pa_cons (pv 2) pa_nil))) rfl))))), ?_⟩
    have hline : sizeLine = 16777216 := sizeLine_eq
    rcases h with ⟨no, ex⟩ | ⟨z, rfl, hz, h⟩
    · rcases no with ⟨z, rfl, hl, hz⟩ | ⟨t, ty, no⟩
      · refine ⟨_, rfl, _, rfl, .inl ⟨z, rfl, by omega, fun H1 s1 => ⟨_, rfl, ?_⟩⟩⟩
        rw [decide_eq_false hz]
        exact iteT ⟨_, rfl, mkErr (ex.same s1)⟩
      · refine ⟨_, rfl, _, rfl, .inr ⟨t, ty, no, _, rfl, ?_⟩⟩
        exact iteT ⟨_, rfl, mkErr ex⟩
    · have hl : z.length ≤ 26 := hz.2.1
      refine ⟨_, rfl, _, rfl, .inl ⟨z, rfl, by omega, fun H1 s1 => ⟨_, rfl, ?_⟩⟩⟩
      rw [decide_eq_true hz]
      refine iteF ?_
      rcases h with ⟨no, ex⟩ | ⟨n, rfl, n0, n1, q⟩
      · rcases no with ⟨n, rfl, hn⟩ | ⟨t, ty, no⟩
        · refine ⟨_, rfl, _, _, _, rfl, .inl ⟨n, rfl, _, rfl, ?_⟩⟩
          rw [decide_eq_false hn]
          exact iteT ⟨_, rfl, mkErr (ex.same s1)⟩
        · refine ⟨_, rfl, _, _, _, rfl, .inr ⟨t, ty.same s1, no, _, rfl, ?_⟩⟩
          exact iteT ⟨_, rfl, mkErr (ex.same s1)⟩
      · refine ⟨_, rfl, _, _, _, rfl, .inl ⟨n, rfl, _, rfl, ?_⟩⟩
        rw [decide_eq_true (show 1 ≤ n ∧ n ≤ 6 from ⟨n0, n1⟩)]
        refine iteF ?_
        have hp1 := s1 _ _ hp
        refine ⟨_, rfl, _, rfl, p, C, dx, _, rfl, hp1, TC.cl, TC.nL, by show 0 < 1000; decide, ?_⟩
        refine ⟨_, rfl, _, rfl, p, C, dx, _, rfl, upd_same, TC.cl, TC.nN, by show 1 < 1000; decide, ?_⟩
        refine ⟨_, rfl, _, rfl, by omega, _, rfl, _, _, rfl, by omega, by omega, by omega, n1, ?_⟩
        refine ⟨_, rfl, p, C, dx, _, rfl, upd_same, TC.cl, TC.nS, (by rw [pf2_eq]; show 2 < 1000; decide), ?_⟩
        refine q _ ?_ ⟨dx, upd_same⟩
        exact (But.of s1).trans (But.upd.trans (But.upd.trans But.upd))
end
end Gm

/-! things of any kind, as menus hold them -/
namespace L2
open PySem PySem.Spec PyProof.Rows
inductive Flat : V → PyData → Prop
  | non : Flat .non .none
  | bl (b : Bool) : Flat (.bl b) (.bool b)
  | int (i : Int) : Flat (.int i) (.int i)
  | str (x : Str) : Flat (.str x) (.str x)
inductive Flats : List V → List PyData → Prop
  | nil : Flats [] []
  | cons {v : V} {vs : List V} {d : PyData} {ds : List PyData} : Flat v d → Flats vs ds → Flats (v :: vs) (d :: ds)
/-- a thing that is not at p: its value, its data, its kind -/
inductive Thing (p : Addr) (H : Hp) : V → PyData → String → Prop
  | non : Thing p H .non .none "NoneType"
  | bl (b : Bool) : Thing p H (.bl b) (.bool b) "bool"
  | int (i : Int) : Thing p H (.int i) (.int i) "int"
  | str (x : Str) : Thing p H (.str x) (.str x) "str"
  | tup {a : Addr} {xs : List V} {ds : List PyData} : a ≠ p → H a = some (.tup xs) → Flats xs ds → Thing p H (.ref a) (.tuple ds) "tuple"
  | lst {a : Addr} {xs : List V} {ds : List PyData} : a ≠ p → H a = some (.lst xs) → Flats xs ds → Thing p H (.ref a) (.list ds) "list"
  | dic {a : Addr} : a ≠ p → H a = some (.dK []) → Thing p H (.ref a) (.dict []) "dict"
theorem Flat.dq {K : PySem.W.Frag} {H : Hp} {v : V} {d : PyData} (h : Flat v d) : Dq K H v d := by
  cases h with
  | non => exact .non
  | bl b => exact .bl b
  | int i => exact .int i
  | str x => exact .str x
theorem Flats.dq {K : PySem.W.Frag} {H : Hp} {vs : List V} {ds : List PyData} (h : Flats vs ds) : DqAll K H vs ds := by
  induction h with
  | nil => exact .nil
  | cons a _ ih => exact .cons a.dq ih
section
variable {K : PySem.W.Frag} {p : Addr} {H H' : Hp} {v : V} {d : PyData} {t : String}
/-- all but p and the tables of code objects stands as it stood -/
def Kp (p : Addr) (H H' : Hp) : Prop := ∀ b o, b ≠ p → (∀ ps, o ≠ .tbl ps) → H b = some o → H' b = some o
theorem Kp.refl : Kp p H H := fun _ _ _ _ e => e
theorem Kp.trans {H1 H2 H3 : Hp} (a : Kp p H1 H2) (b : Kp p H2 H3) : Kp p H1 H3 := fun c o n t e => b c o n t (a c o n t e)
theorem Kp.of (s : Same H H') : Kp p H H' := fun b o _ _ e => s b o e
theorem Kp.ext (s : LamX.ExtN H H') : Kp p H H' := fun b o _ t e => s b o e t
theorem Kp.but (s : ∀ b o, b ≠ p → H b = some o → H' b = some o) : Kp p H H' := fun b o n _ e => s b o n e
theorem Kp.new {q : Addr} {o : HO} (s : Kp p H H') (n : H q = none) : Kp p H (upd H' q o) := fun b u nb t e => by rw [upd_ne (ne_of_none e n)]; exact s b u nb t e
theorem Thing.keep (h : Thing p H v d t) (k : Kp p H H') : Thing p H' v d t := by
  cases h with
  | non => exact .non
  | bl b => exact .bl b
  | int i => exact .int i
  | str x => exact .str x
  | tup n e f => exact .tup n (k _ _ n (fun _ z => by cases z) e) f
  | lst n e f => exact .lst n (k _ _ n (fun _ z => by cases z) e) f
  | dic n e => exact .dic n (k _ _ n (fun _ z => by cases z) e)
theorem Thing.same (h : Thing p H v d t) (s : Same H H') : Thing p H' v d t := h.keep (.of s)
theorem Thing.ty (h : Thing p H v d t) : TyX K H v (.type t) := by
  cases h with
  | non => exact .base .non
  | bl b => exact .base (.bl b)
  | int i => exact .base (.int i)
  | str x => exact .base (.str x)
  | tup n e f => exact .base (.tup e)
  | lst n e f => exact .base (.lst e)
  | dic n e => exact .base (.dK e)
theorem Thing.dq (h : Thing p H v d t) : Dq K H v d := by
  cases h with
  | non => exact .non
  | bl b => exact .bl b
  | int i => exact .int i
  | str x => exact .str x
  | tup n e f => exact .tup (SqT.of e) f.dq
  | lst n e f => exact .lst (SqL.of e) f.dq
  | dic n e => exact .dic e
end
theorem Thing.free (h : Thing p H v d t) {q : Addr} (n : H q = none) : v ≠ .ref q := fun z => by
  cases h with
  | tup _ e f => cases z; rw [n] at e; cases e
  | lst _ e f => cases z; rw [n] at e; cases e
  | dic _ e => cases z; rw [n] at e; cases e
  | _ => cases z
/-! sizes of what repr shows -/
structure ShAll (ds : List PyData) (n m : Nat) : Prop where
  ok : PyData.showableAll ds = true
  long : ((PyData.shownAll ds).map (·.length)).sum + 2 * ds.length ≤ n
  deep : PyData.depthAll ds ≤ m
theorem ShAll.nil {m : Nat} : ShAll [] 0 m := ⟨by simp [PyData.showableAll], by simp [PyData.shownAll], by simp [PyData.depthAll]⟩
theorem ShAll.cons {d : PyData} {ds : List PyData} {n k m : Nat} (h : Sh d n m) (hs : ShAll ds k m) : ShAll (d :: ds) (n + 2 + k) m := by
  refine ⟨?_, ?_, ?_⟩
  · simp only [PyData.showableAll, h.ok, hs.ok, Bool.and_self]
  · have a := h.long
    have b := hs.long
    simp only [PyData.shownAll, List.map_cons, List.sum_cons, List.length_cons]
    omega
  · have a := h.deep
    have b := hs.deep
    simp only [PyData.depthAll]
    omega
theorem Sh.lst {ds : List PyData} {n m : Nat} (h : ShAll ds n m) : Sh (.list ds) (n + 3) (m + 1) := by
  refine ⟨?_, ?_, ?_⟩
  · simp only [PyData.showable, h.ok]
  · have a := h.long
    have b := listText_len_le (PyData.shownAll ds)
    rw [PyData.shownAll_length] at b
    simp only [PyData.shown]
    omega
  · have a := h.deep
    simp only [PyData.depth]
    omega
theorem Sh.tup {ds : List PyData} {n m : Nat} (h : ShAll ds n m) : Sh (.tuple ds) (n + 3) (m + 1) := by
  refine ⟨?_, ?_, ?_⟩
  · simp only [PyData.showable, h.ok]
  · have a := h.long
    have b := tupleText_len_le (PyData.shownAll ds)
    rw [PyData.shownAll_length] at b
    simp only [PyData.shown]
    omega
  · have a := h.deep
    simp only [PyData.depth]
    omega
theorem Sh.le {d : PyData} {n n' m m' : Nat} (h : Sh d n m) (hn : n ≤ n') (hm : m ≤ m') : Sh d n' m' := ⟨h.ok, Nat.le_trans h.long hn, Nat.le_trans h.deep hm⟩
theorem Sh.bl (b : Bool) {m : Nat} : Sh (.bool b) 5 m := ⟨by simp only [PyData.showable], by cases b <;> (simp only [PyData.shown]; decide), by simp only [PyData.depth]; omega⟩
theorem Sh.non {m : Nat} : Sh .none 4 m := ⟨by simp only [PyData.showable], by simp only [PyData.shown]; decide, by simp only [PyData.depth]; omega⟩
theorem Sh.str (x : Str) {n m : Nat} (h : (reprText x).length ≤ n) : Sh (.str x) n m := ⟨by simp only [PyData.showable], by simp only [PyData.shown]; exact h, by simp only [PyData.depth]; omega⟩
theorem Sh.int (i : Int) {n m : Nat} (h : i.natAbs.log2 < 1920) (h2 : ((toString i : String) : Str).length ≤ n) : Sh (.int i) n m := ⟨by simp only [PyData.showable]; exact decide_eq_true h, by simp only [PyData.shown]; exact h2, by simp only [PyData.depth]; omega⟩
theorem Sh.dic {m : Nat} : Sh (.dict []) 10 (m + 1) := ⟨by simp only [PyData.showable, PyData.showableKv], by simp only [PyData.shown, PyData.shownKv]; decide +kernel, by simp only [PyData.depth, PyData.depthKv]; omega⟩
/-- an item of a menu: a thing that can be shown, of which C holds -/
def Item (p : Addr) (H : Hp) (C : V → Prop) (v : V) : Prop := ∃ d t, Thing p H v d t ∧ Sh d 300 2 ∧ C v
section
variable {p : Addr} {H H' : Hp} {C : V → Prop}
theorem Item.keep {v : V} (h : Item p H C v) (k : Kp p H H') : Item p H' C v := let ⟨d, t, a, b, c⟩ := h; ⟨d, t, a.keep k, b, c⟩
theorem item_non (c : C .non) : Item p H C .non := ⟨_, _, .non, (Sh.non (m := 0)).le (by decide) (by decide), c⟩
theorem item_bl (b : Bool) (c : C (.bl b)) : Item p H C (.bl b) := ⟨_, _, .bl b, (Sh.bl b).le (by decide) (Nat.le_refl _), c⟩
theorem item_int (i : Int) (h : i.natAbs.log2 < 1920) (h2 : ((toString i : String) : Str).length ≤ 300) (c : C (.int i)) : Item p H C (.int i) := ⟨_, _, .int i, .int i h h2, c⟩
theorem item_str (x : Str) (h : (reprText x).length ≤ 300) (c : C (.str x)) : Item p H C (.str x) := ⟨_, _, .str x, .str x h, c⟩
theorem item_dic {a : Addr} (n : a ≠ p) (e : H a = some (.dK [])) (c : C (.ref a)) : Item p H C (.ref a) := ⟨_, _, .dic n e, (Sh.dic (m := 0)).le (by decide) (by decide), c⟩
theorem item_tup {a : Addr} {xs : List V} {ds : List PyData} {k : Nat} (n : a ≠ p) (e : H a = some (.tup xs)) (f : Flats xs ds) (s : ShAll ds k 0) (hk : k + 3 ≤ 300) (c : C (.ref a)) : Item p H C (.ref a) := ⟨_, _, .tup n e f, (Sh.tup s).le hk (by decide), c⟩
theorem item_lst {a : Addr} {xs : List V} {ds : List PyData} {k : Nat} (n : a ≠ p) (e : H a = some (.lst xs)) (f : Flats xs ds) (s : ShAll ds k 0) (hk : k + 3 ≤ 300) (c : C (.ref a)) : Item p H C (.ref a) := ⟨_, _, .lst n e f, (Sh.lst s).le hk (by decide), c⟩
end
end L2

namespace Gm
open PySem L2 LamX
abbrev sGot : Stmt := top 18
abbrev nGot : List Str := ["_law_ask", "_law_given", "e"]
theorem scGot : FnScope nGot ["_law_ask"] (defScope sGot) := ⟨rfl, rfl, rfl, by decide +kernel, rfl, by decide +kernel, by decide +kernel⟩
/-- an error class that _law_got tells: where it stands, how it is told, its field -/
structure Cat where
  at_ : Addr
  name : Str
  fld : Str
def gotW (cs : List Cat) (Q : VK) : XK := fun cls d H' => ∃ c ∈ cs, cls = .ref c.at_ ∧ ∃ (dd : Addr) (v : V), d = some dd ∧ H' dd = some (.xd [(c.fld, v)]) ∧ ∀ p, H' p = none → Q (.ref p) (upd H' p (.lst [.str c.name, v, .bl true]))
def TTgot (cs : List Cat) : (XK → Hp → VK → Prop) → Hp → VK → Prop := fun tl H Q => tl (gotW cs Q) H (fun v H' => ∀ p, H' p = none → Q (.ref p) (upd H' p (.lst [.str "given", v])))
structure TxG (K : PySem.W.Frag) (mg : Str → Option Value) (CI CA CL : Addr) : Prop where
  isi : mg "isinstance" = none
  ve : mg "ValueError" = none
  gI : mg "InputError" = some (.ref CI)
  xLL : PySem.W.exmOne K (.ref CL) (.ref CL) = some true
  xAL : PySem.W.exmOne K (.ref CA) (.ref CL) = some false
  xAA : PySem.W.exmOne K (.ref CA) (.ref CA) = some true
  iL : PySem.W.kitOne K (.ref CL) (.ref CI) = some true
  iA : PySem.W.kitOne K (.ref CA) (.ref CI) = some true
  vL : PySem.W.kitOne K (.ref CL) (.type "ValueError") = some true
  vA : PySem.W.kitOne K (.ref CA) (.type "ValueError") = some true
abbrev Yg (X : Cx) (g : Addr) (cdg : Value) (s : Shared) (H : Hp) : Cx := (cxOf C8.CX0 X.prog X.w X.K X.mg X.base nGot "_law_got" (defScope sGot) g cdg X.A X.stack s H C8.E0).nox
theorem pe_weak {X : Cx} {e : Expr} {t : TE} (h : PE X e t) : PE X e (fun σ H Q => ∃ R : VK, t σ H R ∧ ∀ v H', R v H' → Q v H') := ⟨fun pins s σ H Q I ⟨R, hr, k⟩ =>
  wpAny_mono (h.run pins s σ H R I hr) (fun u s' ⟨v, H', I', r, q⟩ => ⟨v, H', I', r, k _ _ q⟩) fun _ _ z => z⟩
theorem look1 {f : Str} {v : V} : List.lookup f [(f, v)] = some v := by simp [List.lookup]
theorem got_gives {X : Cx} {q : Str} {g CI CA CL eA eL : Addr} {cdg : Value} (T : TxG X.K X.mg CI CA CL) (EA : ErrC X.K X.mg "InvalidLetters" "value" CA eA) (EL : ErrC X.K X.mg "InvalidLength" "value" CL eL) :
    GivesTo X nGot "_law_got" (defScope sGot) g cdg (defBody sGot) "_law_ask" q (TTgot [⟨CL, "InvalidLength", "value"⟩, ⟨CA, "InvalidLetters", "value"⟩]) := by
  intro f c' s H Q tl act hc h
  have nd := scGot.nd
  refine ⟨_, pss_cons (ps_try_named (X := Yg X g cdg s H)
      (tb := fun W D σ H => ∃ Ech : XK, (∀ cls d σ' H', Ech cls d H' → W cls d σ' H') ∧ ∃ R : VK, (σ[0]? = some (some (.ref f)) ∧ H c' = some (CodeO c' q) ∧ tl Ech H R) ∧ ∀ v H', R v H' → D.nx (σ.set 1 (some v)) H')
      rfl rfl nd L2.takes0 (fun W pn xe tk _ => ?_)
      (.cons (k := (.ref CL, 2, _)) ⟨⟨by rfl, by decide, .inl EL.gC⟩, rfl, rfl, fun a oe cl d pn hz hf => pss_one (ps_ret (pe_lst (pa_cons pe_str (pa_cons (pe_xf (X := Yg X g cdg s H) EL.xf EL.no hz hf (pv 2))
          (pa_cons (pe_and (pe_callB (call_isX (X := Yg X g cdg s H) EL hz hf) (by rfl) T.isi (by decide +kernel) (pa_cons (pv 2) (pa_cons (pe_glob (v := .ref CI) (by rfl) T.gI rfl) pa_nil)))
            (pe_one (pe_callB (call_isX (X := Yg X g cdg s H) EL hz hf) (by rfl) T.isi (by decide +kernel) (pa_cons (pv 2) (pa_cons (pe_bltn (v := .ty "ValueError") (by rfl) T.ve (by decide +kernel) rfl) pa_nil))))) pa_nil)))))⟩
      (.cons (k := (.ref CA, 2, _)) ⟨⟨by rfl, by decide, .inl EA.gC⟩, rfl, rfl, fun a oe cl d pn hz hf => pss_one (ps_ret (pe_lst (pa_cons pe_str (pa_cons (pe_xf (X := Yg X g cdg s H) EA.xf EA.no hz hf (pv 2))
          (pa_cons (pe_and (pe_callB (call_isX (X := Yg X g cdg s H) EA hz hf) (by rfl) T.isi (by decide +kernel) (pa_cons (pv 2) (pa_cons (pe_glob (v := .ref CI) (by rfl) T.gI rfl) pa_nil)))
            (pe_one (pe_callB (call_isX (X := Yg X g cdg s H) EA hz hf) (by rfl) T.isi (by decide +kernel) (pa_cons (pv 2) (pa_cons (pe_bltn (v := .ty "ValueError") (by rfl) T.ve (by decide +kernel) rfl) pa_nil))))) pa_nil)))))⟩ .nil)))
    (pss_one (ps_ret (pe_lst (pa_cons pe_str (pa_cons (pv 1) pa_nil))))), ?_⟩
  · refine ⟨fun pins s' σ H' D I h' => ?_⟩
    obtain ⟨Ech, hW, h1⟩ := h'
    exact (pss_one (ps_set (i := 1) nd rfl (Or.inl rfl) (pe_weak (act W pn xe Ech _ _ tk hW)))).run pins s' σ H' D I h1
  · refine ⟨_, ?_, _, ⟨rfl, hc, h⟩, ?_⟩
    · rintro cls d σ' H' ⟨c, m, rfl, dd, v, rfl, e, k⟩ hl
      simp only [List.mem_cons, List.not_mem_nil, or_false] at m
      have h2 : ∀ u, (σ'.set 2 u)[2]? = some u := fun u => List.getElem?_set_self (by rw [hl]; exact (by decide : 2 < 3))
      have hz : 3 ≤ sizeLine := by rw [sizeLine_eq]; decide
      rcases m with rfl | rfl
      · refine ⟨true, T.xLL, fun _ a na => ?_, fun z => nomatch z⟩
        refine ⟨_, h2 _, rfl, rfl, dd, _, v, rfl, e, look1, ?_⟩
        refine ⟨_, h2 _, _, _, true, dd, _, rfl, .own CI, rfl, rfl, e, T.iL, _, rfl, iteT ?_⟩
        exact ⟨_, h2 _, _, _, true, dd, _, rfl, .ty "ValueError", rfl, rfl, e, T.vL, hz, k⟩
      · refine ⟨false, T.xAL, ?_, fun _ => ⟨true, T.xAA, fun _ a na => ?_, ?_⟩⟩
        · intro z; cases z
        · refine ⟨_, h2 _, rfl, rfl, dd, _, v, rfl, e, look1, ?_⟩
          refine ⟨_, h2 _, _, _, true, dd, _, rfl, .own CI, rfl, rfl, e, T.iA, _, rfl, iteT ?_⟩
          exact ⟨_, h2 _, _, _, true, dd, _, rfl, .ty "ValueError", rfl, rfl, e, T.vA, hz, k⟩
        · intro z; cases z
    · intro v H' k
      exact ⟨_, rfl, by show 2 ≤ sizeLine; rw [sizeLine_eq]; decide, k⟩
end Gm

/-! the end of a law whose defs are FnG -/
namespace L2
open PySem PySem.Spec PyProof.Rows LamX
/-- what stands behind the top; cs: code objects with their tables -/
structure Ready (K : PySem.W.Frag) (mg mb : Str → Option Value) (z : Shared) (cs : List (Addr × Addr)) : Prop where
  kin : K.In z.heap
  glob : z.heap.Ns mainGlobals mg
  blt : z.heap.Ns builtinsNs mb
  boot : ∀ x : Str, x ≠ "__name__" → mb x = bootBuiltins x
  lim : z.heap.NoLimit
  mods : ∃ mm, z.heap.Ns sysModules mm
  gens : z.gens = #[]
  tabs : ∀ p ∈ cs, z.heap.get? p.2 = some { cls := .none, data := .fields #[] }
  tabK : ∀ p ∈ cs, K.lookup p.2 = none
  code : ∀ p ∈ cs, PySem.W.CodeHd z.heap p.1 p.2
  main : ∃ (bm : Addr) (ob : Obj), mg "__builtins__" = some (.ref bm) ∧ bm ≠ builtinsNs ∧ z.heap.get? bm = some ob ∧ ob.cls = .type "module" ∧ ob.dict = some builtinsNs ∧ ob.data = .plain
/-- the abstract heap at the law's entry: the tables, and the script if it is no object of the module -/
def hp0 (K : PySem.W.Frag) (cs : List (Addr × Addr)) (a : Addr) (o : Obj) (ns : List Int) : Hp := fun b =>
  if b ∈ cs.map (·.2) then some (.tbl #[]) else if b = a ∧ K.lookup a = none then some (.frz o (.lst (ns.map V.int))) else none
section
variable {P : Program} {w : World} {K : PySem.W.Frag} {mg mb : Str → Option Value} {z : Shared} {cs : List (Addr × Addr)} {a : Addr} {vs : List Value} {ns : List Int}
abbrev scr (vs : List Value) : Obj := { cls := .type "list", data := .seq vs.toArray }
theorem hp0_tab {o : Obj} {p : Addr × Addr} (m : p ∈ cs) : hp0 K cs a o ns p.2 = some (.tbl #[]) := if_pos (List.mem_map.mpr ⟨p, m, rfl⟩)
theorem hp0_of {o : Obj} {b : Addr} {u : HO} (e : hp0 K cs a o ns b = some u) : (∃ p ∈ cs, p.2 = b ∧ u = .tbl #[]) ∨ (b = a ∧ K.lookup a = none ∧ u = .frz o (.lst (ns.map V.int))) := by
  unfold hp0 at e
  split at e
  · rename_i m
    obtain ⟨p, hp, q⟩ := List.mem_map.mp m
    exact .inl ⟨p, hp, q, (Option.some.inj e).symm⟩
  · split at e
    · rename_i m
      exact .inr ⟨m.1, m.2, (Option.some.inj e).symm⟩
    · cases e
theorem Ready.quiet (R : Ready K mg mb z cs) (ha : z.heap.get? a = some (scr vs)) {b : Addr} {o : Obj} (e : z.heap.get? b = some o) (n1 : ∀ us n, o.data ≠ .seq us n) (n2 : o.data ≠ .fields #[]) : hp0 K cs a (scr vs) ns b = none := by
  cases q : hp0 K cs a (scr vs) ns b with
  | none => rfl
  | some u =>
    rcases hp0_of q with ⟨p, hp, rfl, _⟩ | ⟨rfl, _, _⟩
    · rw [R.tabs p hp] at e
      cases e
      exact absurd rfl n2
    · rw [ha] at e
      cases e
      exact absurd rfl (n1 _ _)
theorem Ready.hok (R : Ready K mg mb z cs) (ha : z.heap.get? a = some (scr vs)) (hi : IntsAre vs ns) (hl : ns.length ≤ sizeLine) : HOk P w (hp0 K cs a (scr vs) ns) z.heap := fun b u q => by
  rcases hp0_of q with ⟨p, hp, rfl, rfl⟩ | ⟨rfl, _, rfl⟩
  · exact R.tabs p hp
  · exact ⟨ha, by rw [List.length_map]; exact hl, vs, _, vals_ints hi, ha⟩
theorem Ready.seq (R : Ready K mg mb z cs) (ha : z.heap.get? a = some (scr vs)) (hi : IntsAre vs ns) (hl : ns.length ≤ sizeLine) : SqL K (hp0 K cs a (scr vs) ns) a (ns.map V.int) := by
  cases hk : K.lookup a with
  | some o =>
    have e := R.kin a o hk
    rw [ha] at e
    cases e
    have rv := vals_ints hi
    exact .inr ⟨_, vs.toArray, _, hk, rfl, rfl, rfl, by rw [List.size_toArray, hi.length]; exact hl, by simpa using rv⟩
  | none =>
    have nt : a ∉ cs.map (·.2) := fun m => by
      obtain ⟨p, hp, e⟩ := List.mem_map.mp m
      have q := R.tabs p hp
      rw [e, ha] at q
      have q' : Data.seq vs.toArray _ = Data.fields #[] := congrArg Obj.data (Option.some.inj q)
      cases q'
    exact .inl (.inr ⟨scr vs, (if_neg nt).trans (if_pos ⟨rfl, hk⟩)⟩)
theorem Ready.space (R : Ready K mg mb z cs) (ha : z.heap.get? a = some (scr vs)) {b : Addr} {m : Str → Option Value} (x : z.heap.Ns b m) : (hidT z.heap (hp0 K cs a (scr vs) ns)).Ns b m := by
  obtain ⟨o, es, ep, e, d, r⟩ := x
  refine ⟨o, es, ep, hidT_get e (R.quiet ha e (fun us n q => ?_) fun q => ?_), d, r⟩ <;> (rw [d] at q; cases q)
theorem Ready.mod (R : Ready K mg mb z cs) (ha : z.heap.get? a = some (scr vs)) : L2.Mod K mg (hidT z.heap (hp0 K cs a (scr vs) ns)) := by
  refine ⟨fun b o e => hidT_get (R.kin b o e) ?_, R.space ha R.glob, ⟨mb, R.space ha R.blt, R.boot⟩, ?_⟩
  · cases q : hp0 K cs a (scr vs) ns b with
    | none => rfl
    | some u =>
      rcases hp0_of q with ⟨p, hp, rfl, _⟩ | ⟨rfl, n, _⟩
      · have t := R.tabK p hp
        rw [e] at t
        cases t
      · rw [e] at n
        cases n
  · obtain ⟨mc, h1, h2⟩ := R.lim
    exact ⟨mc, R.space ha h1, h2⟩
theorem Ready.tabB (R : Ready K mg mb z cs) (ha : z.heap.get? a = some (scr vs)) {p : Addr × Addr} (hp : p ∈ cs) : TabB (hidT z.heap (hp0 K cs a (scr vs) ns)) mg p.1 p.2 := by
  have tp := R.tabs p hp
  obtain ⟨og, eg, epg, gg, gd, _⟩ := R.glob
  refine ⟨?_, ?_, fun q => ?_⟩
  · obtain ⟨o, us, file, tf, flags, tg, inF, text, tt, e1, r1, r2, r3, r⟩ := R.code p hp
    refine ⟨o, us, file, tf, flags, tg, inF, text, tt, hidT_get e1 (R.quiet ha e1 (fun us n q => ?_) fun q => ?_), r1, r2, r3, r⟩
    · rw [r2] at q
      cases q
    · rw [r2] at q
      cases q
      simp at r3
  · obtain ⟨bm, ob, b1, b2, b3, b4, b5, b6⟩ := R.main
    refine ⟨bm, ob, b1, b2, fun q => ?_, fun q => ?_, hidT_get b3 (R.quiet ha b3 (fun us n q => ?_) fun q => ?_), b4, b5, b6⟩
    · rw [q, gg] at b3
      cases b3
      rw [gd] at b6
      cases b6
    · rw [q, tp] at b3
      cases b3
      cases b6
    · rw [b6] at q
      cases q
    · rw [b6] at q
      cases q
  · rw [q, tp] at gg
    cases gg
    cases gd
theorem callG {k : Nat} {fa : Addr} {fd : FuncData} {x : Str} {sp : Sp} (R : Ready K mg mb z cs) (ha : z.heap.get? a = some (scr vs)) (hi : IntsAre vs ns) (hl : ns.length ≤ sizeLine) (hr : Room k callerA)
    (F : ∀ base : Heap, K.In base → base.Ns mainGlobals mg → (∃ mm, base.Ns sysModules mm) → (∀ p ∈ cs, TabB base mg p.1 p.2) → FnG P w K mg base CX0 k fa fd [x] sp) (hb : ∀ (s : Shared) (u : Value), BindsTo s fd ⟨[u], []⟩ [(x, u)])
    (hsp : ∀ H : Hp, (∀ p ∈ cs, H p.2 = some (.tbl #[])) → SqL K H a (ns.map V.int) → sp [.ref a] H (fun v _ => v = .bl true) fun _ _ _ => False) :
    codeAny (model P w) callerA (.call (.ref fa) ⟨[.ref a], []⟩) (fun r s' => r = .ok (.ret (.bool true)) ∧ OldK z.heap s'.heap ∧ s'.os = z.os ∧ AllBare s'.gens) z := by
  obtain ⟨H, eH⟩ : ∃ H, H = hp0 K cs a (scr vs) ns := ⟨_, rfl⟩
  have M := R.mod (ns := ns) ha
  have hok : HOk P w H z.heap := eH ▸ R.hok ha hi hl
  have tabH : ∀ p ∈ cs, H p.2 = some (.tbl #[]) := fun p hp => eH ▸ hp0_tab hp
  have G := F _ M.kin M.glob (R.mods.imp fun mm h => R.space (ns := ns) ha h) (fun p hp => R.tabB (ns := ns) ha hp)
  have e0 : Env0 P w K mg (hidT z.heap (hp0 K cs a (scr vs) ns)) callerA [] z H := ⟨rfl, M, fun b o e => eH ▸ of_hidT e, Nat.le_of_eq (hidT_size _ _), trivial, nofun, hok, .of_eq R.gens⟩
  refine codeAny_mono (G.goes (us := [.ref a]) (vs := [.ref a]) rfl hr e0 (hb z (.ref a)) (.cons rfl .nil) (hsp H tabH (eH ▸ R.seq ha hi hl))) fun r s' h => ?_
  match r, h with
  | .ok (.ret u), h =>
    obtain ⟨v, H', os, bare, un, hok', rv, q⟩ := h
    have q' : v = .bl true := q
    subst q'
    obtain rfl : u = Value.bool true := rv
    have kept : ∀ {b : Addr} {o : Obj}, (∀ p ∈ cs, p.2 ≠ b) → z.heap.get? b = some o → s'.heap.get? b = some o := fun {b o} nb e => by
      cases q : H b with
      | none => exact un.keep b o e q nofun (by simp)
      | some u =>
        rw [eH] at q
        rcases hp0_of q with ⟨p, hp, e2, _⟩ | ⟨_, _, rfl⟩
        · exact absurd e2 (nb p hp)
        · have z2 := un.frzs b _ _ (eH ▸ q)
          obtain ⟨e1, _⟩ := hok b _ (eH ▸ q)
          obtain ⟨e3, _⟩ := hok' b _ z2
          rw [e] at e1
          cases e1
          exact e3
    have grown : ∀ p ∈ cs, ∃ more : Array Value, s'.heap.get? p.2 = some { cls := .none, data := .fields more } := fun p hp => by
      obtain ⟨more, zz⟩ := un.tbls p.2 #[] (tabH p hp)
      exact ⟨_, hok' p.2 _ zz⟩
    refine ⟨rfl, ⟨fun b o e => ?_, fun b o e => ?_⟩, os, bare⟩
    · by_cases hm : ∃ p ∈ cs, p.2 = b
      · obtain ⟨p, hp, rfl⟩ := hm
        obtain ⟨more, hm⟩ := grown p hp
        have tp := R.tabs p hp
        rw [tp] at e
        cases e
        exact .inr (.inl ⟨((R.code p hp).tab tp).isCodeTable, rfl, #[], more, rfl, by rw [Array.empty_append]; exact hm⟩)
      · exact .inl (kept (fun p hp q => hm ⟨p, hp, q⟩) e)
    · by_cases hm : ∃ p ∈ cs, p.2 = b
      · obtain ⟨p, hp, rfl⟩ := hm
        obtain ⟨more, hm⟩ := grown p hp
        exact ⟨_, hm⟩
      · exact ⟨o, kept (fun p hp q => hm ⟨p, hp, q⟩) e⟩
/-- the goal that k_head leaves -/
theorem walkG {l : PySem.W.OpenLaw} {n k : Nat} {q : Program} {loose : List Str} {XP : (Str → Option Value) → Heap → Prop} {YP : World → Heap → Prop} {d : DefRec} {K : Params → PySem.W.Frag} {x : Str} {sp : PySem.W.Frag → Sp}
    (hn : l.most = some n) (hn2 : n ≤ sizeLine) (hdf : d.params.defaults = []) (hr : Room k callerA) (him : importsNone q = true) (hY : ∀ (w : World) (h : Heap), YP w h → (K w.params).In h)
    (F : ∀ (w : World) (mg : Str → Option Value) (fa : Addr) (h : Heap), (K w.params).In h → h.Ns mainGlobals mg → mg d.name = some (.ref fa) →
      (∀ d ∈ recsOf q, ∃ a o fd c P, mg d.name = some (.ref a) ∧ h.get? a = some o ∧ o.data = .func fd ∧ fd.code = .ref c ∧ h.IsCode c P #[] ∧ h.TableAt c P #[]) →
      ∃ (fd : FuncData) (cs : List (Addr × Addr)), (∀ p ∈ cs, h.get? p.2 = some { cls := .none, data := .fields #[] } ∧ (K w.params).lookup p.2 = none ∧ PySem.W.CodeHd h p.1 p.2) ∧ (∀ (s : Shared) (u : Value), BindsTo s fd ⟨[u], []⟩ [(x, u)]) ∧
        ∀ base : Heap, (K w.params).In base → base.Ns mainGlobals mg → (∃ mm, base.Ns sysModules mm) → (∀ p ∈ cs, TabB base mg p.1 p.2) → FnG l.prog w (K w.params) mg base CX0 k fa fd [x] (fun vs H Q E => (∀ p ∈ cs, H p.2 = some (.tbl #[])) ∧ sp (K w.params) vs H Q E))
    (hsp : ∀ (K : PySem.W.Frag) (H : Hp) (a : Addr) (ns : List Int), ns.length ≤ n → SqL K H a (ns.map V.int) → sp K [.ref a] H (fun v _ => v = .bl true) fun _ _ _ => False) :
    PySem.W.WalkO q loose XP YP l.row.toRowW d [] (fun f vs => PySem.call f vs) := by
  refine Att.attach_call hn hdf fun w s₀ s₁ mg mb fa o pm cd doc a vs ns G Y ho hd hcd hmg hobj hints hlen hg => ?_
  have KX := hY w _ Y
  obtain ⟨fd, cs, C, hb, hF⟩ := F w mg fa _ KX G.T.g hmg G.T.tab
  obtain ⟨mm, hm, _⟩ := (G.T.seer him).mods
  exact callG (cs := cs) ⟨KX, G.T.g, G.T.b, G.T.builtins, G.T.nolimit, ⟨mm, hm⟩, hg, fun p hp => (C p hp).1, fun p hp => (C p hp).2.1, fun p hp => (C p hp).2.2, G.T.bmain⟩ hobj hints (Nat.le_trans hlen hn2) hr hF hb fun H hT hS => ⟨hT, hsp _ H a ns hlen hS⟩
end
end L2

namespace Gm
open PySem PySem.Spec PyProof.Rows L2 LamX
/-- a def whose code object stands at c -/
structure FunC (K : PySem.W.Frag) (x qual : Str) (st : Stmt) (f : Addr) (fd : FuncData) (c : Addr) : Prop where
  ex : ∃ (oc : Value) (od : Option Addr) (kV doc pm : Value) (an : Option Addr) (ct : Value) (osl : Array (Option Value)),
    fd = PySem.W.fnOf x qual (defArgs st) (defBody st) (defScope st) .none kV doc pm an (.ref c) ct ∧ K.lookup f = some ⟨oc, od, .func fd, osl⟩ ∧ PySem.W.codeIn K (.ref c) qual = true
  keep : PySem.W.keepIn K (.ref f) = true
theorem FunC.okG {P : Program} {w : World} {K : PySem.W.Frag} {mg : Str → Option Value} {base : Heap} {x qual : Str} {st : Stmt} {f c : Addr} {fd : FuncData} {N ps : List Str} {k : Nat} {sp : Sp} (F : FunC K x qual st f fd c) (S : FnScope N ps (defScope st))
    (many : ∀ vs H Q E, sp vs H Q E → vs.length = ps.length)
    (body : ∀ (A : Around) (outer : List Env) (s : Shared) (H : Hp) (vs : List V) (Q : VK) (E : XK), A.guards = some [] → Room k (A.deeper (envOfC qual (defScope st) s.heap.objs.size f (.ref c))) → sp vs H Q E →
      ∃ t, PSs (cxOf L2.CX0 P w K mg base N qual (defScope st) f (.ref c) A outer s H E).nox (defBody st) t ∧ t { nx := fun _ H' => Q .non H', rt := Q } (L2.start N vs) H) : FnG P w K mg base L2.CX0 (k + 1) f fd ps sp := by
  obtain ⟨oc, od, kV, doc, pm, an, ct, osl, rfl, lk, hcd⟩ := F.ex
  refine ⟨fun h => many _ _ _ _ h, fun {A outer s H args us vs Q E} g hr e b r h => ?_⟩
  refine LamX.run_ofS lk hcd S hr e b r (many _ _ _ _ h) fun hr' => ?_
  obtain ⟨t, ht, q⟩ := body A outer s H vs Q E g hr' h
  exact ⟨t, ht.nox, q⟩
/-- q is no address of what is known of H -/
def New (H : Hp) (q : Addr) : Prop := ∀ b o, H b = some o → (∀ ps, o ≠ .tbl ps) → b ≠ q
theorem New.of {H : Hp} {q : Addr} (n : H q = none) : New H q := fun b o e _ => ne_of_none e n
theorem Tabs.keep {p : Addr} {T : List (Addr × Str)} {H H' : Hp} (t : Tabs T H) (hp : ∃ xs, H p = some (.lst xs)) (k : ∀ b o, b ≠ p → H b = some o → H' b = some o) : Tabs T H' := fun z hz => by
  obtain ⟨ps, h1, h2, h3⟩ := t z hz
  obtain ⟨xs, e⟩ := hp
  have np : ∀ {b : Addr} {o : HO}, H b = some o → (∀ xs, o ≠ .lst xs) → b ≠ p := fun {b o} e' n q => by
    rw [q, e] at e'
    exact n xs (Option.some.inj e').symm
  refine ⟨ps, k _ _ (np h1 fun _ z => by cases z) h1, h2, fun pos cv hc => ?_⟩
  obtain ⟨c, e1, e2⟩ := h3 pos cv hc
  exact ⟨c, e1, k _ _ (np e2 fun xs z => by unfold CodeO at z; cases z) e2⟩
/-- what _law_got tells of an error that comes -/
theorem comes_got {cs : List Cat} {c : Cat} {v : V} {H H2 : Hp} {Q : VK} {T : List (Addr × Str)} (m : c ∈ cs) (s : ExtN H H2) (t : Tabs T H2)
    (k : ∀ H' q, ExtN H H' → Tabs T H' → New H q → H' q = some (.lst [.str c.name, v, .bl true]) → Q (.ref q) H') : Comes (gotW cs Q) H2 c.at_ c.fld v := fun H' d s' n e =>
  ⟨c, m, rfl, d, v, rfl, e, fun q nq => by
    have x : ExtN H (upd H' q (.lst [.str c.name, v, .bl true])) := fun b o e tb => by
      have e' := s' _ _ (s b o e tb)
      rw [upd_ne (ne_of_none e' nq)]
      exact e'
    exact k _ q x (t.ext fun b o e => by rw [upd_ne (ne_of_none (s' _ _ e) nq)]; exact s' _ _ e) (fun b o e tb z => by
      have e' := s' _ _ (s b o e tb)
      rw [z, nq] at e'
      cases e') upd_same⟩
abbrev sOf : Stmt := top 17
def spOfL : Sp := fun vs H Q _ => ∃ (p l : Addr) (xs : List V), vs = [.ref p, .ref l] ∧ BowlAt H p ∧ l ≠ p ∧ H l = some (.lst xs) ∧ 0 < xs.length ∧ xs.length ≤ 1000 ∧ ∀ H' v, Stir p H H' → v ∈ xs → Q v H'
theorem scOf : FnScope ["_law_bowl_here", "_law_things"] ["_law_bowl_here", "_law_things"] (defScope sOf) := ⟨rfl, rfl, rfl, by decide +kernel, rfl, by decide +kernel, by decide +kernel⟩
section
variable {P : Program} {w : World} {K : PySem.W.Frag} {mg : Str → Option Value} {base : Heap}
theorem ok_ofL {f fD : Addr} {fd fdD : FuncData} (F : Fun K "_law_of" "_law_of" sOf f fd) (tl : mg "len" = none) (GD : FnOk P w K mg base L2.CX0 1 fD fdD ["_law_bowl_here", "_law_many"] spDip) (DD : Df K mg "_law_dip" fD fdD ["_law_bowl_here", "_law_many"]) :
    FnOk P w K mg base L2.CX0 2 f fd ["_law_bowl_here", "_law_things"] spOfL := by
  refine F.ok scOf (fun vs H Q E h => ?_) (fun cdv A outer s H vs Q E hr h => ?_)
  · obtain ⟨p, l, xs, rfl, _⟩ := h
    rfl
  · obtain ⟨p, l, xs, rfl, hp, nl, hl, l0, l1, q⟩ := h
    refine ⟨_, pss_one (ps_ret (pe_ix ix_list (pv 1) (pe_call GD hr (by rfl) DD.mg DD.kp DD.b .nil L2.pass0 (pa_cons (pv 0) (pa_cons (pe_callB call_len_seq (by rfl) tl PySem.boot_len (pa_cons (pv 1) pa_nil)) pa_nil))) (fun _ _ => rfl))), ?_⟩
    refine ⟨_, rfl, _, rfl, _, rfl, l, _, rfl, .inl (SqL.of hl), p, _, rfl, hp, by omega, by omega, fun H1 d R d0 d1 => ?_⟩
    obtain ⟨j, rfl⟩ := Int.eq_ofNat_of_zero_le d0
    have hj : j < xs.length := by omega
    exact ⟨l, _, _, xs[j], rfl, rfl, SqL.of (R.1 _ _ nl hl), atI_nat (List.getElem?_eq_getElem hj), q H1 _ R (List.getElem_mem hj)⟩
end
end Gm

namespace Gm
open PySem PySem.Spec PyProof.Rows L2 LamX
abbrev sRight : Stmt := top 19
abbrev nR : List Str := ["_law_bowl_here", "_law_some", "_law_seen_here", "_law_due", "_law_most", "_law_bad", "_law_odd"]
theorem scR_ : FnScope nR ["_law_bowl_here"] (defScope sRight) := ⟨rfl, rfl, rfl, by decide +kernel, rfl, by decide +kernel, by decide +kernel⟩
def tabR (Pt : Addr) : List (Addr × Str) := [(Pt, (envOfC "_law_right" (defScope sRight) 0 0 .none).qual ++ "<lambda>")]
def spRight (Pt : Addr) : Sp := fun vs H Q _ => ∃ (p : Addr), vs = [.ref p] ∧ BowlAt H p ∧ Tabs (tabR Pt) H ∧ ∀ H', Kp p H H' → Tabs (tabR Pt) H' → BowlAt H' p → Q (.bl true) H'
theorem new_at {H : Hp} {a : Addr} {o : HO} (_ : H a = none) : upd H a o a = some o := upd_same
theorem Same.trans {A B C : Hp} (x : Same A B) (y : Same B C) : Same A C := fun b o e => y _ _ (x _ _ e)
theorem forall_app {P : V → Prop} {xs ys : List V} (h : ∀ v ∈ xs, P v) (k : ∀ v ∈ ys, P v) : ∀ v ∈ xs ++ ys, P v := fun v m => (List.mem_append.mp m).elim (h v) (k v)
theorem in_heap {p : Addr} {H : Hp} {o : HO} {xs : List V} {C : V → Prop} (_ : H p = some o) (h : ∀ v ∈ xs, Item p H C v) : ∀ v ∈ xs, Item p H C v := h
theorem ExtN.made {H H1 : Hp} {x dx : Addr} {o u : HO} (e : ExtN H H1) (nx : H1 x = none) (nd : H1 dx = none) : ExtN H (upd (upd H1 dx o) x u) := fun b v h t => by
  have h' := e b v h t
  rw [upd_ne (ne_of_none h' nx), upd_ne (ne_of_none h' nd)]
  exact h'
theorem tabs_made {T : List (Addr × Str)} {H1 : Hp} {x dx : Addr} {o u : HO} (t : Tabs T H1) (nx : H1 x = none) (nd : H1 dx = none) : Tabs T (upd (upd H1 dx o) x u) := t.ext fun b v h => by
  rw [upd_ne (ne_of_none h nx), upd_ne (ne_of_none h nd)]
  exact h
theorem tabs_put {T : List (Addr × Str)} {H : Hp} {S : Addr} {xs ys : List V} (t : Tabs T H) (e : H S = some (.lst xs)) : Tabs T (upd H S (.lst ys)) := Gm.Tabs.keep t ⟨xs, e⟩ fun b o n h => by rw [upd_ne n]; exact h
theorem Kp.put {p S : Addr} {H H' : Hp} {o : HO} (k : Kp p H H') (w : New H S) : Kp p H (upd H' S o) := fun b u n t e => by
  rw [upd_ne (w b u e t)]
  exact k b u n t e
theorem ExtN.put {S : Addr} {H H' : Hp} {o : HO} (k : ExtN H H') (w : New H S) : ExtN H (upd H' S o) := fun b u e t => by
  rw [upd_ne (w b u e t)]
  exact k b u e t
theorem made_same2 {H H' : Hp} {x dx C : Addr} (hx : H x = none) (hd : H dx = none) (b : But x (upd (upd H dx (.own x)) x (.ins C dx [])) H') : Same H H' := fun a o e => by
  have n1 : a ≠ x := ne_of_none e hx
  exact b a o n1 (by rw [upd_ne n1, upd_ne (ne_of_none e hd)]; exact e)
theorem at_upd {H : Hp} {q S : Addr} {o u : HO} (h : H q = some o) (n : q ≠ S) : upd H S u q = some o := (upd_ne n).trans h
theorem New.kp {p q : Addr} {H H' : Hp} (w : New H' q) (k : ∀ b o, H b = some o → (∀ ps, o ≠ .tbl ps) → H' b = some o) : New H q := fun b o e t => w b o (k b o e t) t
theorem thing_notAlph {K : PySem.W.Frag} {p : Addr} {H : Hp} {v : V} {d : PyData} {t : String} (h : Thing p H v d t) (c : ∀ s, v = .str s → s.length ≤ 1000 ∧ ¬ Alph s) : NotAlph K v H := by
  have ty := h.ty (K := K)
  cases h with
  | str x => exact .inl ⟨x, rfl, (c x rfl).1, (c x rfl).2⟩
  | _ => exact .inr ⟨_, ty, kit_ty (by decide +kernel)⟩
theorem thing_notIn {K : PySem.W.Frag} {p : Addr} {H : Hp} {v : V} {d : PyData} {t : String} {lo hi : Int} (h : Thing p H v d t) (c : ∀ n, v = .int n → ¬ (lo ≤ n ∧ n ≤ hi)) : NotIn K v lo hi H := by
  have ty := h.ty (K := K)
  cases h with
  | int x => exact .inl ⟨x, rfl, c x rfl⟩
  | bl b => exact .inr ⟨_, ty, .inl (kit_ty (by decide +kernel))⟩
  | _ => exact .inr ⟨_, ty, .inr ⟨kit_ty (by decide +kernel), kit_ty (by decide +kernel)⟩⟩
def LetV (v : V) : Prop := ∀ s, v = .str s → s.length ≤ 1000 ∧ ¬ Alph s
def LenV (v : V) : Prop := ∀ n, v = .int n → ¬ (1 ≤ n ∧ n ≤ 6)
structure TxR (mg : Str → Option Value) : Prop where
  repr : mg "repr" = none
section
variable {P : Program} {w : World} {K : PySem.W.Frag} {mg : Str → Option Value} {base : Heap}
theorem ok_right {f c Pt C fG fO fI CI CA CL eA eL : Addr} {fd fdG fdO fdI : FuncData} (F : FunC K "_law_right" "_law_right" sRight f fd c) (T : TxR mg) (TC : TxC K mg C) (TG : TxG K mg CI CA CL) (EA : ErrC K mg "InvalidLetters" "value" CA eA) (EL : ErrC K mg "InvalidLength" "value" CL eL)
    (FG : Fun K "_law_got" "_law_got" sGot fG fdG) (DG : Df K mg "_law_got" fG fdG ["_law_ask"])
    (GO : FnOk P w K mg base L2.CX0 2 fO fdO ["_law_bowl_here", "_law_things"] spOfL) (DO : Df K mg "_law_of" fO fdO ["_law_bowl_here", "_law_things"])
    (GI : FnOk P w K mg base (L2.CX P w) 3 fI fdI ["self", "letters", "length"] (spInitX K C CA CL)) (GI0 : FnOk P w K mg base L2.CX0 2 fI fdI ["self", "letters", "length"] (spInit C)) (M : Mk K C fI) (bI : Binds K fdI ["self", "letters", "length"] [])
    (hM : ∃ mm, base.Ns sysModules mm) (TB : TabB base mg c Pt) : FnG P w K mg base L2.CX0 7 f fd ["_law_bowl_here"] (spRight Pt) := by
  refine F.okG scR_ (fun vs H Q E h => ?_) (fun A outer s H vs Q E g hr h => ?_)
  · obtain ⟨p, rfl, _⟩ := h
    rfl
  · obtain ⟨p, rfl, hp, hT, q⟩ := h
    have nd := scR_.nd
    have hr2 : Room 2 _ := hr.mono (by decide)
    have hr3 : Room 3 _ := hr.mono (by decide)
    obtain ⟨oc, od, kV, doc, pm, an, cdG, ct, osl, rfl, lk, hcd⟩ := FG.ex
    let catsB : List Cat := [⟨CL, "InvalidLength", "value"⟩, ⟨CA, "InvalidLetters", "value"⟩]
    refine ⟨_, (pss_cons (ps_set (i := 1) nd rfl (Or.inl rfl) (pe_lst (pa_cons pe_non (pa_cons pe_int (pa_cons pe_str (pa_cons pe_str (pa_cons pe_str (pa_cons pe_str (pa_cons pe_str (pa_cons pe_str (pa_cons pe_str (pa_cons pe_str (pa_cons (pe_tup (pa_cons pe_str (pa_cons pe_str pa_nil))) (pa_cons (pe_lst (pa_cons pe_str (pa_cons pe_str pa_nil))) (pa_cons pe_str (pa_cons pe_bl (pa_cons pe_dnewK (pa_cons pe_str pa_nil))))))))))))))))))
      (pss_cons (ps_set (i := 5) nd rfl (Or.inr rfl) (pe_call GO hr2 (by rfl) DO.mg DO.kp DO.b .nil L2.pass0 (pa_cons (pv 0) (pa_cons (pe_op op_cat (pv 1) (pe_lst (pa_cons pe_str (pa_cons pe_str (pa_cons pe_str pa_nil))))) pa_nil))))
      (pss_cons (ps_set (i := 6) nd rfl (Or.inr rfl) (pe_call GO hr2 (by rfl) DO.mg DO.kp DO.b .nil L2.pass0 (pa_cons (pv 0) (pa_cons (pe_lst (pa_cons pe_non (pa_cons pe_int (pa_cons pe_int (pa_cons (pe_un un_neg pe_int) (pa_cons pe_bl (pa_cons pe_bl (pa_cons pe_str (pa_cons (pe_tup (pa_cons pe_int pa_nil)) (pa_cons (pe_lst (pa_cons pe_int pa_nil)) (pa_cons (pe_op op_pow pe_int pe_int) (pa_cons pe_dnewK pa_nil)))))))))))) pa_nil))))
      (pss_cons (ps_set (i := 2) nd rfl (Or.inl rfl) (pe_lst (pa_cons (pe_lamcall (T := tabR Pt) (TT := TTgot catsB) (k := 4) (by rfl) DG.mg DG.kp lk hcd DG.b scGot rfl (Or.inl rfl) (got_gives TG EA EL) TB rfl (by exact List.mem_singleton.mpr rfl) (fun z hz _ => by rw [List.mem_singleton.mp hz]; rfl) hr (show LamS (defScope sRight) _ from lamS_by (by decide +kernel)) rfl (fun _ _ _ _ _ => rfl)
          (fun A outer s H E f c' hr4 => pe_make M GI hr4 (by rfl) TC.mgC bI .nil (passes_call (takes_of rfl rfl rfl rfl) fun _ _ _ _ h => h) (pa_cons (pv 5) (pa_cons (pv 6) pa_nil)))) pa_nil)))
      (pss_cons (ps_expr (pe_bm PySem.F.plainAttrs_list PySem.F.slot_list_append PySem.F.type_list_append mt_append (pv 2) (pa_cons (pe_lamcall (T := tabR Pt) (TT := TTgot catsB) (k := 4) (by rfl) DG.mg DG.kp lk hcd DG.b scGot rfl (Or.inl rfl) (got_gives TG EA EL) TB rfl (by exact List.mem_singleton.mpr rfl) (fun z hz _ => by rw [List.mem_singleton.mp hz]; rfl) hr (show LamS (defScope sRight) _ from lamS_by (by decide +kernel)) rfl (fun _ _ _ _ _ => rfl)
          (fun A outer s H E f c' hr4 => pe_make M GI hr4 (by rfl) TC.mgC bI .nil (passes_call (takes_of rfl rfl rfl rfl) fun _ _ _ _ h => h) (pa_cons (pv 5) (pa_cons pe_int pa_nil)))) pa_nil)))
      (pss_cons (ps_expr (pe_bm PySem.F.plainAttrs_list PySem.F.slot_list_append PySem.F.type_list_append mt_append (pv 2) (pa_cons (pe_lamcall (T := tabR Pt) (TT := TTgot catsB) (k := 4) (by rfl) DG.mg DG.kp lk hcd DG.b scGot rfl (Or.inl rfl) (got_gives TG EA EL) TB rfl (by exact List.mem_singleton.mpr rfl) (fun z hz _ => by rw [List.mem_singleton.mp hz]; rfl) hr (show LamS (defScope sRight) _ from lamS_by (by decide +kernel)) rfl (fun _ _ _ _ _ => rfl)
          (fun A outer s H E f c' hr4 => pe_make M GI hr4 (by rfl) TC.mgC bI .nil (passes_call (takes_of rfl rfl rfl rfl) fun _ _ _ _ h => h) (pa_cons pe_str (pa_cons (pv 6) pa_nil)))) pa_nil)))
      (pss_cons (ps_set (i := 3) nd rfl (Or.inl rfl) (pe_lst (pa_cons (pe_lst (pa_cons pe_str (pa_cons (pv 5) (pa_cons pe_bl pa_nil)))) (pa_cons (pe_lst (pa_cons pe_str (pa_cons (pv 5) (pa_cons pe_bl pa_nil)))) (pa_cons (pe_lst (pa_cons pe_str (pa_cons (pv 6) (pa_cons pe_bl pa_nil)))) pa_nil)))))
      (pss_cons (ps_if (pt_cmpR op_ne (pe_callB (call_reprD g hr.units hM) (by rfl) T.repr (by decide +kernel) (pa_cons (pv 2) pa_nil)) (pe_callB (call_reprD g hr.units hM) (by rfl) T.repr (by decide +kernel) (pa_cons (pv 3) pa_nil)) (nomark _)) (pss_one (ps_ret pe_bl)) pss_nil)
      (pss_cons (ps_set (i := 4) nd rfl (Or.inl rfl) pe_str)
      (pss_one (ps_ret (pe_cmpR (op_eqD hr.units) (pe_lst (pa_cons (pe_fld (pe_make M GI0 hr3 (by rfl) TC.mgC bI .nil L2.pass0 (pa_cons pe_str (pa_cons pe_int pa_nil))) rfl) (pa_cons (pe_fld (pe_make M GI0 hr3 (by rfl) TC.mgC bI .nil L2.pass0 (pa_cons (pv 4) (pa_cons pe_int pa_nil))) rfl) (pa_cons (pe_fld (pe_make M GI0 hr3 (by rfl) TC.mgC bI .nil L2.pass0 (pa_cons pe_str (pa_cons pe_int pa_nil))) rfl) (pa_cons (pe_fld (pe_make M GI0 hr3 (by rfl) TC.mgC bI .nil L2.pass0 (pa_cons (pv 4) (pa_cons pe_int pa_nil))) rfl) pa_nil))))) (pe_lst (pa_cons pe_int (pa_cons pe_int (pa_cons pe_int (pa_cons (pv 4) pa_nil))))) (nomark _))))))))))))), ?_⟩
    have sm : Same H H := Same.refl H
    obtain ⟨b0, b1, b2, hpc⟩ := hp
    refine ⟨by rw [sizeLine_eq]; show 2 ≤ 16777216; decide, fun a0 za0 => ?_⟩
    have pa0 : a0 ≠ p := (ne_of_none hpc za0).symm
    have hpc := same_upd (o := HO.tup [.str "a", .str "b"]) za0 _ _ hpc
    have sm := sm.trans (same_upd (o := HO.tup [.str "a", .str "b"]) za0)
    have ea0 := new_at (o := HO.tup [.str "a", .str "b"]) za0
    refine ⟨by rw [sizeLine_eq]; show 2 ≤ 16777216; decide, fun a1 za1 => ?_⟩
    have pa1 : a1 ≠ p := (ne_of_none hpc za1).symm
    have hpc := same_upd (o := HO.lst [.str "a", .str "b"]) za1 _ _ hpc
    have sm := sm.trans (same_upd (o := HO.lst [.str "a", .str "b"]) za1)
    have ea0 := same_upd (o := HO.lst [.str "a", .str "b"]) za1 _ _ ea0
    have ea1 := new_at (o := HO.lst [.str "a", .str "b"]) za1
    refine fun a2 za2 => ?_
    have pa2 : a2 ≠ p := (ne_of_none hpc za2).symm
    have hpc := same_upd (o := HO.dK []) za2 _ _ hpc
    have sm := sm.trans (same_upd (o := HO.dK []) za2)
    have ea0 := same_upd (o := HO.dK []) za2 _ _ ea0
    have ea1 := same_upd (o := HO.dK []) za2 _ _ ea1
    have ea2 := new_at (o := HO.dK []) za2
    refine ⟨by rw [sizeLine_eq]; show 16 ≤ 16777216; decide, fun la zla => ?_⟩
    have pla : la ≠ p := (ne_of_none hpc zla).symm
    have hpc := same_upd (o := HO.lst [.non, .int (5), .str "", .str "a", .str "ba", .str "aa", .str "abb", .str "aB", .str "a b", .str "ab1", .ref a0, .ref a1, .str "AB", .bl true, .ref a2, .str "acb"]) zla _ _ hpc
    have sm := sm.trans (same_upd (o := HO.lst [.non, .int (5), .str "", .str "a", .str "ba", .str "aa", .str "abb", .str "aB", .str "a b", .str "ab1", .ref a0, .ref a1, .str "AB", .bl true, .ref a2, .str "acb"]) zla)
    have ea0 := same_upd (o := HO.lst [.non, .int (5), .str "", .str "a", .str "ba", .str "aa", .str "abb", .str "aB", .str "a b", .str "ab1", .ref a0, .ref a1, .str "AB", .bl true, .ref a2, .str "acb"]) zla _ _ ea0
    have ea1 := same_upd (o := HO.lst [.non, .int (5), .str "", .str "a", .str "ba", .str "aa", .str "abb", .str "aB", .str "a b", .str "ab1", .ref a0, .ref a1, .str "AB", .bl true, .ref a2, .str "acb"]) zla _ _ ea1
    have ea2 := same_upd (o := HO.lst [.non, .int (5), .str "", .str "a", .str "ba", .str "aa", .str "abb", .str "aB", .str "a b", .str "ab1", .ref a0, .ref a1, .str "AB", .bl true, .ref a2, .str "acb"]) zla _ _ ea2
    have ela := new_at (o := HO.lst [.non, .int (5), .str "", .str "a", .str "ba", .str "aa", .str "abb", .str "aB", .str "a b", .str "ab1", .ref a0, .ref a1, .str "AB", .bl true, .ref a2, .str "acb"]) zla
    refine ⟨_, rfl, _, rfl, ?_⟩
    refine ⟨by rw [sizeLine_eq]; show 3 ≤ 16777216; decide, fun lb zlb => ?_⟩
    have plb : lb ≠ p := (ne_of_none hpc zlb).symm
    have hpc := same_upd (o := HO.lst [.str "abcdefghijklmnopqrstuvwxyza", .str "\\ab", .str "ab\n"]) zlb _ _ hpc
    have sm := sm.trans (same_upd (o := HO.lst [.str "abcdefghijklmnopqrstuvwxyza", .str "\\ab", .str "ab\n"]) zlb)
    have ea0 := same_upd (o := HO.lst [.str "abcdefghijklmnopqrstuvwxyza", .str "\\ab", .str "ab\n"]) zlb _ _ ea0
    have ea1 := same_upd (o := HO.lst [.str "abcdefghijklmnopqrstuvwxyza", .str "\\ab", .str "ab\n"]) zlb _ _ ea1
    have ea2 := same_upd (o := HO.lst [.str "abcdefghijklmnopqrstuvwxyza", .str "\\ab", .str "ab\n"]) zlb _ _ ea2
    have ela := same_upd (o := HO.lst [.str "abcdefghijklmnopqrstuvwxyza", .str "\\ab", .str "ab\n"]) zlb _ _ ela
    have elb := new_at (o := HO.lst [.str "abcdefghijklmnopqrstuvwxyza", .str "\\ab", .str "ab\n"]) zlb
    refine ⟨_, _, _, _, rfl, rfl, ela, elb, by rw [sizeLine_eq]; show 19 ≤ 16777216; decide, fun lc zlc => ?_⟩
    have plc : lc ≠ p := (ne_of_none hpc zlc).symm
    have hpc := same_upd (o := HO.lst ([.non, .int (5), .str "", .str "a", .str "ba", .str "aa", .str "abb", .str "aB", .str "a b", .str "ab1", .ref a0, .ref a1, .str "AB", .bl true, .ref a2, .str "acb"] ++ [.str "abcdefghijklmnopqrstuvwxyza", .str "\\ab", .str "ab\n"])) zlc _ _ hpc
    have sm := sm.trans (same_upd (o := HO.lst ([.non, .int (5), .str "", .str "a", .str "ba", .str "aa", .str "abb", .str "aB", .str "a b", .str "ab1", .ref a0, .ref a1, .str "AB", .bl true, .ref a2, .str "acb"] ++ [.str "abcdefghijklmnopqrstuvwxyza", .str "\\ab", .str "ab\n"])) zlc)
    have ea0 := same_upd (o := HO.lst ([.non, .int (5), .str "", .str "a", .str "ba", .str "aa", .str "abb", .str "aB", .str "a b", .str "ab1", .ref a0, .ref a1, .str "AB", .bl true, .ref a2, .str "acb"] ++ [.str "abcdefghijklmnopqrstuvwxyza", .str "\\ab", .str "ab\n"])) zlc _ _ ea0
    have ea1 := same_upd (o := HO.lst ([.non, .int (5), .str "", .str "a", .str "ba", .str "aa", .str "abb", .str "aB", .str "a b", .str "ab1", .ref a0, .ref a1, .str "AB", .bl true, .ref a2, .str "acb"] ++ [.str "abcdefghijklmnopqrstuvwxyza", .str "\\ab", .str "ab\n"])) zlc _ _ ea1
    have ea2 := same_upd (o := HO.lst ([.non, .int (5), .str "", .str "a", .str "ba", .str "aa", .str "abb", .str "aB", .str "a b", .str "ab1", .ref a0, .ref a1, .str "AB", .bl true, .ref a2, .str "acb"] ++ [.str "abcdefghijklmnopqrstuvwxyza", .str "\\ab", .str "ab\n"])) zlc _ _ ea2
    have ela := same_upd (o := HO.lst ([.non, .int (5), .str "", .str "a", .str "ba", .str "aa", .str "abb", .str "aB", .str "a b", .str "ab1", .ref a0, .ref a1, .str "AB", .bl true, .ref a2, .str "acb"] ++ [.str "abcdefghijklmnopqrstuvwxyza", .str "\\ab", .str "ab\n"])) zlc _ _ ela
    have elb := same_upd (o := HO.lst ([.non, .int (5), .str "", .str "a", .str "ba", .str "aa", .str "abb", .str "aB", .str "a b", .str "ab1", .ref a0, .ref a1, .str "AB", .bl true, .ref a2, .str "acb"] ++ [.str "abcdefghijklmnopqrstuvwxyza", .str "\\ab", .str "ab\n"])) zlc _ _ elb
    have elc := new_at (o := HO.lst ([.non, .int (5), .str "", .str "a", .str "ba", .str "aa", .str "abb", .str "aB", .str "a b", .str "ab1", .ref a0, .ref a1, .str "AB", .bl true, .ref a2, .str "acb"] ++ [.str "abcdefghijklmnopqrstuvwxyza", .str "\\ab", .str "ab\n"])) zlc
    have all1 := in_heap (xs := ([V.non, V.int (5), V.str "", V.str "a", V.str "ba", V.str "aa", V.str "abb", V.str "aB", V.str "a b", V.str "ab1", V.ref a0, V.ref a1, V.str "AB", V.bl true, V.ref a2, V.str "acb"] : List V) ++ [V.str "abcdefghijklmnopqrstuvwxyza", V.str "\\ab", V.str "ab\n"]) (C := LetV) hpc (forall_app (List.forall_mem_cons.mpr ⟨item_non (fun s e => by cases e), (List.forall_mem_cons.mpr ⟨item_int _ (by decide +kernel) (by decide +kernel) (fun s e => by cases e), (List.forall_mem_cons.mpr ⟨item_str _ (by decide +kernel) (fun s e => by cases e; exact ⟨by decide, by decide +kernel⟩), (List.forall_mem_cons.mpr ⟨item_str _ (by decide +kernel) (fun s e => by cases e; exact ⟨by decide, by decide +kernel⟩), (List.forall_mem_cons.mpr ⟨item_str _ (by decide +kernel) (fun s e => by cases e; exact ⟨by decide, by decide +kernel⟩), (List.forall_mem_cons.mpr ⟨item_str _ (by decide +kernel) (fun s e => by cases e; exact ⟨by decide, by decide +kernel⟩), (List.forall_mem_cons.mpr ⟨item_str _ (by decide +kernel) (fun s e => by cases e; exact ⟨by decide, by decide +kernel⟩), (List.forall_mem_cons.mpr ⟨item_str _ (by decide +kernel) (fun s e => by cases e; exact ⟨by decide, by decide +kernel⟩), (List.forall_mem_cons.mpr ⟨item_str _ (by decide +kernel) (fun s e => by cases e; exact ⟨by decide, by decide +kernel⟩), (List.forall_mem_cons.mpr ⟨item_str _ (by decide +kernel) (fun s e => by cases e; exact ⟨by decide, by decide +kernel⟩), (List.forall_mem_cons.mpr ⟨item_tup pa0 ea0 (.cons (.str _) (.cons (.str _) (.nil))) (.cons (Sh.str _ (by decide +kernel : _ ≤ 20)) (.cons (Sh.str _ (by decide +kernel : _ ≤ 20)) (ShAll.nil))) (by decide) (fun s e => by cases e), (List.forall_mem_cons.mpr ⟨item_lst pa1 ea1 (.cons (.str _) (.cons (.str _) (.nil))) (.cons (Sh.str _ (by decide +kernel : _ ≤ 20)) (.cons (Sh.str _ (by decide +kernel : _ ≤ 20)) (ShAll.nil))) (by decide) (fun s e => by cases e), (List.forall_mem_cons.mpr ⟨item_str _ (by decide +kernel) (fun s e => by cases e; exact ⟨by decide, by decide +kernel⟩), (List.forall_mem_cons.mpr ⟨item_bl _ (fun s e => by cases e), (List.forall_mem_cons.mpr ⟨item_dic pa2 ea2 (fun s e => by cases e), (List.forall_mem_cons.mpr ⟨item_str _ (by decide +kernel) (fun s e => by cases e; exact ⟨by decide, by decide +kernel⟩), (fun _ h => by cases h)⟩)⟩)⟩)⟩)⟩)⟩)⟩)⟩)⟩)⟩)⟩)⟩)⟩)⟩)⟩)⟩) (List.forall_mem_cons.mpr ⟨item_str _ (by decide +kernel) (fun s e => by cases e; exact ⟨by decide, by decide +kernel⟩), (List.forall_mem_cons.mpr ⟨item_str _ (by decide +kernel) (fun s e => by cases e; exact ⟨by decide, by decide +kernel⟩), (List.forall_mem_cons.mpr ⟨item_str _ (by decide +kernel) (fun s e => by cases e; exact ⟨by decide, by decide +kernel⟩), (fun _ h => by cases h)⟩)⟩)⟩))
    refine ⟨p, lc, _, rfl, ⟨_, _, _, hpc⟩, plc, elc, by show 0 < 19; decide, by show 19 ≤ 1000; decide, fun Ha bad Ra hbad => ?_⟩
    have it1 := (all1 bad hbad).keep (.but Ra.1)
    have kp1 : Kp p H Ha := (Kp.of sm).trans (.but Ra.1)
    have tb1 : Tabs (tabR Pt) Ha := Gm.Tabs.keep (hT.ext sm) ⟨_, hpc⟩ Ra.1
    clear all1 hbad ea0 ea1 ea2 ela elb elc
    obtain ⟨c0, c1, c2, hpc⟩ := Ra.2
    have sm : Same Ha Ha := Same.refl Ha
    refine ⟨_, rfl, ?_⟩
    refine ⟨_, rfl, ?_⟩
    refine ⟨by rw [sizeLine_eq]; show 1 ≤ 16777216; decide, fun d0 zd0 => ?_⟩
    have pd0 : d0 ≠ p := (ne_of_none hpc zd0).symm
    have hpc := same_upd (o := HO.tup [.int (3)]) zd0 _ _ hpc
    have sm := sm.trans (same_upd (o := HO.tup [.int (3)]) zd0)
    have ed0 := new_at (o := HO.tup [.int (3)]) zd0
    refine ⟨by rw [sizeLine_eq]; show 1 ≤ 16777216; decide, fun d1 zd1 => ?_⟩
    have pd1 : d1 ≠ p := (ne_of_none hpc zd1).symm
    have hpc := same_upd (o := HO.lst [.int (3)]) zd1 _ _ hpc
    have sm := sm.trans (same_upd (o := HO.lst [.int (3)]) zd1)
    have ed0 := same_upd (o := HO.lst [.int (3)]) zd1 _ _ ed0
    have ed1 := new_at (o := HO.lst [.int (3)]) zd1
    refine ⟨_, _, rfl, rfl, ⟨by decide, by decide, by decide⟩, ?_⟩
    refine fun d2 zd2 => ?_
    have pd2 : d2 ≠ p := (ne_of_none hpc zd2).symm
    have hpc := same_upd (o := HO.dK []) zd2 _ _ hpc
    have sm := sm.trans (same_upd (o := HO.dK []) zd2)
    have ed0 := same_upd (o := HO.dK []) zd2 _ _ ed0
    have ed1 := same_upd (o := HO.dK []) zd2 _ _ ed1
    have ed2 := new_at (o := HO.dK []) zd2
    refine ⟨by rw [sizeLine_eq]; show 11 ≤ 16777216; decide, fun lo zlo => ?_⟩
    have plo : lo ≠ p := (ne_of_none hpc zlo).symm
    have hpc := same_upd (o := HO.lst [.non, .int (0), .int (7), .int (-1), .bl true, .bl false, .str "3", .ref d0, .ref d1, .int (10 ^ 19), .ref d2]) zlo _ _ hpc
    have sm := sm.trans (same_upd (o := HO.lst [.non, .int (0), .int (7), .int (-1), .bl true, .bl false, .str "3", .ref d0, .ref d1, .int (10 ^ 19), .ref d2]) zlo)
    have ed0 := same_upd (o := HO.lst [.non, .int (0), .int (7), .int (-1), .bl true, .bl false, .str "3", .ref d0, .ref d1, .int (10 ^ 19), .ref d2]) zlo _ _ ed0
    have ed1 := same_upd (o := HO.lst [.non, .int (0), .int (7), .int (-1), .bl true, .bl false, .str "3", .ref d0, .ref d1, .int (10 ^ 19), .ref d2]) zlo _ _ ed1
    have ed2 := same_upd (o := HO.lst [.non, .int (0), .int (7), .int (-1), .bl true, .bl false, .str "3", .ref d0, .ref d1, .int (10 ^ 19), .ref d2]) zlo _ _ ed2
    have elo := new_at (o := HO.lst [.non, .int (0), .int (7), .int (-1), .bl true, .bl false, .str "3", .ref d0, .ref d1, .int (10 ^ 19), .ref d2]) zlo
    have all2 := in_heap (xs := ([V.non, V.int (0), V.int (7), V.int (-1), V.bl true, V.bl false, V.str "3", V.ref d0, V.ref d1, V.int (10 ^ 19), V.ref d2] : List V)) (C := LenV) hpc (List.forall_mem_cons.mpr ⟨item_non (fun n e => by cases e), (List.forall_mem_cons.mpr ⟨item_int _ (by decide +kernel) (by decide +kernel) (fun n e => by cases e; decide), (List.forall_mem_cons.mpr ⟨item_int _ (by decide +kernel) (by decide +kernel) (fun n e => by cases e; decide), (List.forall_mem_cons.mpr ⟨item_int _ (by decide +kernel) (by decide +kernel) (fun n e => by cases e; decide), (List.forall_mem_cons.mpr ⟨item_bl _ (fun n e => by cases e), (List.forall_mem_cons.mpr ⟨item_bl _ (fun n e => by cases e), (List.forall_mem_cons.mpr ⟨item_str _ (by decide +kernel) (fun n e => by cases e), (List.forall_mem_cons.mpr ⟨item_tup pd0 ed0 (.cons (.int _) (.nil)) (.cons (Sh.int _ (by decide +kernel) (by decide +kernel : _ ≤ 20)) (ShAll.nil)) (by decide) (fun n e => by cases e), (List.forall_mem_cons.mpr ⟨item_lst pd1 ed1 (.cons (.int _) (.nil)) (.cons (Sh.int _ (by decide +kernel) (by decide +kernel : _ ≤ 20)) (ShAll.nil)) (by decide) (fun n e => by cases e), (List.forall_mem_cons.mpr ⟨item_int _ (by decide +kernel) (by decide +kernel) (fun n e => by cases e; decide), (List.forall_mem_cons.mpr ⟨item_dic pd2 ed2 (fun n e => by cases e), (fun _ h => by cases h)⟩)⟩)⟩)⟩)⟩)⟩)⟩)⟩)⟩)⟩)⟩)
    refine ⟨p, lo, _, rfl, ⟨_, _, _, hpc⟩, plo, elo, by show 0 < 11; decide, by show 11 ≤ 1000; decide, fun Hb odd Rb hodd => ?_⟩
    have it2 := (all2 odd hodd).keep (.but Rb.1)
    have it1 := it1.keep ((Kp.of sm).trans (.but Rb.1))
    have kp2 : Kp p H Hb := kp1.trans ((Kp.of sm).trans (.but Rb.1))
    have tb2 : Tabs (tabR Pt) Hb := Gm.Tabs.keep (tb1.ext sm) ⟨_, hpc⟩ Rb.1
    have hz : sizeLine = 16777216 := sizeLine_eq
    obtain ⟨db, yb, thb, shb, cb⟩ := it1
    obtain ⟨dn, yn, thn, shn, cn⟩ := it2
    refine ⟨tb2, fun H1 x1 t1 => ⟨_, rfl, _, rfl, fun x dx nx nd ne => ⟨x, dx, bad, odd, rfl, upd_same, .inl ⟨thing_notAlph (thb.keep (Kp.ext (Gm.ExtN.made x1 nx nd))) cb, comes_got (c := ⟨CA, "InvalidLetters", "value"⟩) (.tail _ (.head _)) (Gm.ExtN.made x1 nx nd) (tabs_made t1 nx nd) fun H2 q1 x2 t2 w1 e1 => ?_⟩⟩⟩⟩
    refine ⟨by rw [hz]; show 1 ≤ 16777216; decide, fun S zS => ?_⟩
    have wS : New Hb S := New.kp (p := p) (.of zS) x2
    have nS1 : q1 ≠ S := ne_of_none e1 zS
    have kb := x2.trans (ExtN.of (same_upd (o := HO.lst [.ref q1]) zS))
    have eS := new_at (o := HO.lst [.ref q1]) zS
    have tS := t2.ext (same_upd (o := HO.lst [.ref q1]) zS)
    have e1 := same_upd (o := HO.lst [.ref q1]) zS _ _ e1
    refine ⟨_, rfl, .inl ⟨rfl, _, SqL.of eS⟩, tS, fun H3 x3 t3 => ⟨_, rfl, fun x dx nx nd ne => ⟨x, dx, bad, _, rfl, upd_same, .inl ⟨thing_notAlph (thb.keep (Kp.ext (kb.trans (Gm.ExtN.made x3 nx nd)))) cb, comes_got (c := ⟨CA, "InvalidLetters", "value"⟩) (.tail _ (.head _)) (Gm.ExtN.made x3 nx nd) (tabs_made t3 nx nd) fun H4 q2 x4 t4 w2 e2 => ?_⟩⟩⟩⟩
    have nS2 : q2 ≠ S := (w2 _ _ eS (fun _ z => by cases z)).symm
    have e1 := x4 _ _ e1 (fun _ z => by cases z)
    have eS := x4 _ _ eS (fun _ z => by cases z)
    have kb := kb.trans x4
    refine ⟨S, _, _, rfl, rfl, eS, by rw [hz]; show 1 < 16777216; decide, ?_⟩
    have e1 := at_upd (u := HO.lst ([.ref q1] ++ [.ref q2])) e1 nS1
    have e2 := at_upd (u := HO.lst ([.ref q1] ++ [.ref q2])) e2 nS2
    have tS := tabs_put (ys := [.ref q1] ++ [.ref q2]) t4 eS
    have kb := Gm.ExtN.put (o := HO.lst ([.ref q1] ++ [.ref q2])) kb wS
    have eS := upd_same (H := H4) (a := S) (o := HO.lst ([.ref q1] ++ [.ref q2]))
    refine ⟨_, rfl, .inl ⟨rfl, _, SqL.of eS⟩, tS, fun H5 x5 t5 => ⟨_, rfl, fun x dx nx nd ne => ⟨x, dx, _, odd, rfl, upd_same, .inr ⟨_, rfl, by decide +kernel, .inl ⟨thing_notIn (thn.keep (Kp.ext (kb.trans (Gm.ExtN.made x5 nx nd)))) cn, comes_got (c := ⟨CL, "InvalidLength", "value"⟩) (.head _) (Gm.ExtN.made x5 nx nd) (tabs_made t5 nx nd) fun H6 q3 x6 t6 w3 e3 => ?_⟩⟩⟩⟩⟩
    have nS3 : q3 ≠ S := (w3 _ _ eS (fun _ z => by cases z)).symm
    have e1 := x6 _ _ e1 (fun _ z => by cases z)
    have e2 := x6 _ _ e2 (fun _ z => by cases z)
    have eS := x6 _ _ eS (fun _ z => by cases z)
    have kb := kb.trans x6
    refine ⟨S, _, _, rfl, rfl, eS, by rw [hz]; show 2 < 16777216; decide, ?_⟩
    have e1 := at_upd (u := HO.lst ([.ref q1] ++ [.ref q2] ++ [.ref q3])) e1 nS1
    have e2 := at_upd (u := HO.lst ([.ref q1] ++ [.ref q2] ++ [.ref q3])) e2 nS2
    have e3 := at_upd (u := HO.lst ([.ref q1] ++ [.ref q2] ++ [.ref q3])) e3 nS3
    have tS := tabs_put (ys := [.ref q1] ++ [.ref q2] ++ [.ref q3]) t6 eS
    have kb := Gm.ExtN.put (o := HO.lst ([.ref q1] ++ [.ref q2] ++ [.ref q3])) kb wS
    have eS := upd_same (H := H6) (a := S) (o := HO.lst ([.ref q1] ++ [.ref q2] ++ [.ref q3]))
    refine ⟨_, rfl, by rw [hz]; show 3 ≤ 16777216; decide, fun r1 z1 => ?_⟩
    have e1 := same_upd (o := HO.lst [.str "InvalidLetters", bad, .bl true]) z1 _ _ e1
    have e2 := same_upd (o := HO.lst [.str "InvalidLetters", bad, .bl true]) z1 _ _ e2
    have e3 := same_upd (o := HO.lst [.str "InvalidLetters", bad, .bl true]) z1 _ _ e3
    have eS := same_upd (o := HO.lst [.str "InvalidLetters", bad, .bl true]) z1 _ _ eS
    have tS := tS.ext (same_upd (o := HO.lst [.str "InvalidLetters", bad, .bl true]) z1)
    have kb := kb.trans (ExtN.of (same_upd (o := HO.lst [.str "InvalidLetters", bad, .bl true]) z1))
    have f1 := new_at (o := HO.lst [.str "InvalidLetters", bad, .bl true]) z1
    refine ⟨_, rfl, by rw [hz]; show 3 ≤ 16777216; decide, fun r2 z2 => ?_⟩
    have e1 := same_upd (o := HO.lst [.str "InvalidLetters", bad, .bl true]) z2 _ _ e1
    have e2 := same_upd (o := HO.lst [.str "InvalidLetters", bad, .bl true]) z2 _ _ e2
    have e3 := same_upd (o := HO.lst [.str "InvalidLetters", bad, .bl true]) z2 _ _ e3
    have eS := same_upd (o := HO.lst [.str "InvalidLetters", bad, .bl true]) z2 _ _ eS
    have f1 := same_upd (o := HO.lst [.str "InvalidLetters", bad, .bl true]) z2 _ _ f1
    have tS := tS.ext (same_upd (o := HO.lst [.str "InvalidLetters", bad, .bl true]) z2)
    have kb := kb.trans (ExtN.of (same_upd (o := HO.lst [.str "InvalidLetters", bad, .bl true]) z2))
    have f2 := new_at (o := HO.lst [.str "InvalidLetters", bad, .bl true]) z2
    refine ⟨_, rfl, by rw [hz]; show 3 ≤ 16777216; decide, fun r3 z3 => ?_⟩
    have e1 := same_upd (o := HO.lst [.str "InvalidLength", odd, .bl true]) z3 _ _ e1
    have e2 := same_upd (o := HO.lst [.str "InvalidLength", odd, .bl true]) z3 _ _ e2
    have e3 := same_upd (o := HO.lst [.str "InvalidLength", odd, .bl true]) z3 _ _ e3
    have eS := same_upd (o := HO.lst [.str "InvalidLength", odd, .bl true]) z3 _ _ eS
    have f1 := same_upd (o := HO.lst [.str "InvalidLength", odd, .bl true]) z3 _ _ f1
    have f2 := same_upd (o := HO.lst [.str "InvalidLength", odd, .bl true]) z3 _ _ f2
    have tS := tS.ext (same_upd (o := HO.lst [.str "InvalidLength", odd, .bl true]) z3)
    have kb := kb.trans (ExtN.of (same_upd (o := HO.lst [.str "InvalidLength", odd, .bl true]) z3))
    have f3 := new_at (o := HO.lst [.str "InvalidLength", odd, .bl true]) z3
    refine ⟨by rw [hz]; show 3 ≤ 16777216; decide, fun D zD => ?_⟩
    have e1 := same_upd (o := HO.lst [.ref r1, .ref r2, .ref r3]) zD _ _ e1
    have e2 := same_upd (o := HO.lst [.ref r1, .ref r2, .ref r3]) zD _ _ e2
    have e3 := same_upd (o := HO.lst [.ref r1, .ref r2, .ref r3]) zD _ _ e3
    have eS := same_upd (o := HO.lst [.ref r1, .ref r2, .ref r3]) zD _ _ eS
    have f1 := same_upd (o := HO.lst [.ref r1, .ref r2, .ref r3]) zD _ _ f1
    have f2 := same_upd (o := HO.lst [.ref r1, .ref r2, .ref r3]) zD _ _ f2
    have f3 := same_upd (o := HO.lst [.ref r1, .ref r2, .ref r3]) zD _ _ f3
    have tS := tS.ext (same_upd (o := HO.lst [.ref r1, .ref r2, .ref r3]) zD)
    have kb := kb.trans (ExtN.of (same_upd (o := HO.lst [.ref r1, .ref r2, .ref r3]) zD))
    have eD := new_at (o := HO.lst [.ref r1, .ref r2, .ref r3]) zD
    have qb := (thb.keep (Kp.ext kb)).dq (K := K)
    have qn := (thn.keep (Kp.ext kb)).dq (K := K)
    have sb : Sh (.list [.str "InvalidLetters", db, .bool true]) 400 3 := (Sh.lst (.cons (.str _ (by decide +kernel : _ ≤ 20)) (.cons shb (.cons (Sh.bl true) .nil)))).le (by decide) (by decide)
    have sn : Sh (.list [.str "InvalidLength", dn, .bool true]) 400 3 := (Sh.lst (.cons (.str _ (by decide +kernel : _ ≤ 20)) (.cons shn (.cons (Sh.bl true) .nil)))).le (by decide) (by decide)
    have sh : Sh (.list [.list [.str "InvalidLetters", db, .bool true], .list [.str "InvalidLetters", db, .bool true], .list [.str "InvalidLength", dn, .bool true]]) 16777216 60 := (Sh.lst (.cons sb (.cons sb (.cons sn .nil)))).le (by decide) (by decide)
    have row1 : ∀ {r : Addr} {Hx : Hp} {nm : Str} {v : V} {d : PyData}, Hx r = some (.lst [.str nm, v, .bl true]) → Dq K Hx v d → Dq K Hx (.ref r) (.list [.str nm, d, .bool true]) := fun h k => .lst (SqL.of h) (.cons (.str _) (.cons k (.cons (.bl true) .nil)))
    refine ⟨_, rfl, S, _, rfl, .lst (SqL.of eS) (.cons (row1 e1 qb) (.cons (row1 e2 qb) (.cons (row1 e3 qn) .nil))), sh, ?_⟩
    refine ⟨_, rfl, D, _, rfl, .lst (SqL.of eD) (.cons (row1 f1 qb) (.cons (row1 f2 qb) (.cons (row1 f3 qn) .nil))), sh, ?_⟩
    refine ⟨rfl, _, rfl, ?_⟩
    rw [decide_eq_true rfl]
    refine iteF ?_
    refine fun x0 dx0 nx0 nd0 ne0 => ⟨x0, dx0, _, _, rfl, by decide +kernel, by decide, by decide, upd_same, fun Hm0 bt0 ba0 => ⟨rfl, ?_⟩⟩
    obtain ⟨dd0, hb0⟩ := ba0
    have sb0 := made_same2 nx0 nd0 bt0
    have kb := kb.trans (ExtN.of sb0)
    have tS := tS.ext sb0
    refine ⟨x0, C, dd0, _, _, rfl, hb0, TC.cl, TC.nS, bf_size _ _, ?_⟩
    refine ⟨_, rfl, fun x1 dx1 nx1 nd1 ne1 => ⟨x1, dx1, _, _, rfl, by decide +kernel, by decide, by decide, upd_same, fun Hm1 bt1 ba1 => ⟨rfl, ?_⟩⟩⟩
    obtain ⟨dd1, hb1⟩ := ba1
    have sb1 := made_same2 nx1 nd1 bt1
    have kb := kb.trans (ExtN.of sb1)
    have tS := tS.ext sb1
    refine ⟨x1, C, dd1, _, _, rfl, hb1, TC.cl, TC.nS, bf_size _ _, ?_⟩
    refine fun x2 dx2 nx2 nd2 ne2 => ⟨x2, dx2, _, _, rfl, by decide +kernel, by decide, by decide, upd_same, fun Hm2 bt2 ba2 => ⟨rfl, ?_⟩⟩
    obtain ⟨dd2, hb2⟩ := ba2
    have sb2 := made_same2 nx2 nd2 bt2
    have kb := kb.trans (ExtN.of sb2)
    have tS := tS.ext sb2
    refine ⟨x2, C, dd2, _, _, rfl, hb2, TC.cl, TC.nS, bf_size _ _, ?_⟩
    refine ⟨_, rfl, fun x3 dx3 nx3 nd3 ne3 => ⟨x3, dx3, _, _, rfl, by decide +kernel, by decide, by decide, upd_same, fun Hm3 bt3 ba3 => ⟨rfl, ?_⟩⟩⟩
    obtain ⟨dd3, hb3⟩ := ba3
    have sb3 := made_same2 nx3 nd3 bt3
    have kb := kb.trans (ExtN.of sb3)
    have tS := tS.ext sb3
    refine ⟨x3, C, dd3, _, _, rfl, hb3, TC.cl, TC.nL, bf_letters _ _, ?_⟩
    refine ⟨by rw [hz]; show 4 ≤ 16777216; decide, fun L1 zL1 => ?_⟩
    refine ⟨_, rfl, by rw [hz]; show 4 ≤ 16777216; decide, fun L2 zL2 => ?_⟩
    refine ⟨_, _, .lst (SqL.of (same_upd zL2 _ _ upd_same)) (.cons (.int _) (.cons (.int _) (.cons (.int _) (.cons (.str _) .nil)))), .lst (SqL.of upd_same) (.cons (.int _) (.cons (.int _) (.cons (.int _) (.cons (.str _) .nil)))), by decide +kernel, by decide +kernel, ?_⟩
    rw [show PyData.eqv _ _ = true from by decide +kernel]
    obtain ⟨y0, y1, y2, ey⟩ := Rb.2
    have ey := kb _ _ ey fun _ z => by cases z
    refine q _ (kp2.trans (Kp.ext ?_)) ?_ ⟨y0, y1, y2, ?_⟩
    · exact kb.trans fun b o e t => same_upd zL2 _ _ (same_upd zL1 _ _ e)
    · exact (tS.ext fun b o e => same_upd zL2 _ _ (same_upd zL1 _ _ e))
    · exact same_upd zL2 _ _ (same_upd zL1 _ _ ey)
end
end Gm

namespace Gm
open PySem PySem.Spec PyProof.Rows L2 LamX
abbrev sLaw : Stmt := top 20
def spLaw (K : PySem.W.Frag) : Sp := fun vs H Q _ => ∃ (a : Addr) (ns : List Int), vs = [.ref a] ∧ SqL K H a (ns.map V.int) ∧ ns.length ≤ 63 ∧ ∀ H', Q (.bl true) H'
def spLawT (K : PySem.W.Frag) (c Pt : Addr) : Sp := fun vs H Q E => (∀ p ∈ [(c, Pt)], H p.2 = some (.tbl #[])) ∧ spLaw K vs H Q E
structure TxL (mg : Str → Option Value) : Prop where
  all : mg "all" = none
  range : mg "range" = none
  max : mg "max" = none
  min : mg "min" = none
  len : mg "len" = none
theorem SqL.extN {K : PySem.W.Frag} {H H' : Hp} {a : Addr} {xs : List V} (h : SqL K H a xs) (e : ExtN H H') : SqL K H' a xs := by
  rcases h with (h | ⟨o, h⟩) | h
  · exact .inl (.inl (e _ _ h fun _ z => by cases z))
  · exact .inl (.inr ⟨o, e _ _ h fun _ z => by cases z⟩)
  · exact .inr h
section
variable {P : Program} {w : World} {K : PySem.W.Frag} {mg : Str → Option Value} {base : Heap}
abbrev nL : List Str := ["_law_script", "_law_k"]
theorem scL : FnScope nL ["_law_script"] (defScope sLaw) := ⟨rfl, rfl, rfl, by decide +kernel, rfl, by decide +kernel, by decide +kernel⟩
theorem ok_law {f fB fR c Pt : Addr} {fd fdB fdR : FuncData} (F : Fun K "law" "law" sLaw f fd) (T : TxL mg)
    (GB : FnOk P w K mg base L2.CX0 1 fB fdB ["_law_script", "_law_k"] (spBowl K)) (DB : Df K mg "_law_bowl" fB fdB ["_law_script", "_law_k"])
    (GR : FnG P w K mg base L2.CX0 7 fR fdR ["_law_bowl_here"] (spRight Pt)) (DR : Df K mg "_law_right" fR fdR ["_law_bowl_here"]) : FnG P w K mg base L2.CX0 8 f fd ["_law_script"] (spLawT K c Pt) := by
  refine F.okG scL (fun vs H Q E h => ?_) (fun cdv A outer s H vs Q E g hr h => ?_)
  · obtain ⟨_, a, ns, rfl, _⟩ := h
    rfl
  · obtain ⟨hT, a, ns, rfl, hS, hlen, q⟩ := h
    have nd := scL.nd
    have hr1 : Room 1 _ := hr.mono (by decide)
    refine ⟨_, pss_one (ps_ret (pe_callB (cr_all rfl) (by rfl) T.all (by decide +kernel) (pa_cons
      (pe_lc (own := [("_law_k", 1)]) (g := gName 1) (by rfl) nd
        (pi_range1 (by rfl) T.range (pa_cons (pe_callB (call_max2 rfl) (by rfl) T.max (by decide +kernel) (pa_cons pe_int (pa_cons (pe_callB (call_min2 rfl) (by rfl) T.min (by decide +kernel)
          (pa_cons (pe_callB call_len_seq (by rfl) T.len PySem.boot_len (pa_cons (pv 0) pa_nil)) (pa_cons pe_int pa_nil))) pa_nil))) pa_nil))
        (blkOk_by (own := [("_law_k", 1)]) (N := nL) (sc := defScope sLaw) (by decide +kernel))
        (fun _ _ _ _ _ => pg_name (i := 1) nd rfl (Or.inl rfl)) (fun _ _ _ _ _ => pts_nil)
        (fun _ _ _ _ _ => pe_callG GR g hr (by rfl) DR.mg DR.kp DR.b L2.pass0 (pa_cons (pe_call GB hr1 (by rfl) DB.mg DB.kp DB.b .nil L2.pass0 (pa_cons (pv 0) (pa_cons (pv 1) pa_nil))) pa_nil))) pa_nil))), ?_⟩
    have hline : sizeLine = 16777216 := sizeLine_eq
    refine ⟨_, rfl, a, _, rfl, .inl hS, _, _, rfl, _, _, rfl, ?_⟩
    refine ⟨_, rfl, ?_, ?_, fun D hD => ?_⟩
    · rw [List.length_map]
      split <;> (try split) <;> omega
    · rw [List.length_map]
      split <;> (try split) <;> omega
    have hn : ∀ L : Int, (if (if (6 : Int) < L then (6 : Int) else L) > 2 then (if (6 : Int) < L then (6 : Int) else L) else 2).toNat ≤ 6 := fun L => by
      split <;> (try split) <;> omega
    have tab0 : Tabs (tabR Pt) H := fun z hz => by
      rw [List.mem_singleton.mp hz]
      exact TabS.nil (hT _ (List.mem_singleton.mpr rfl))
    refine lc_range (lo := 0) (fun i H' => ExtN H H' ∧ Tabs (tabR Pt) H' ∧ H' D = some (.lst ((List.replicate i true).map V.bl))) ⟨ExtN.of (same_upd hD), tab0.ext (same_upd hD), upd_same⟩ ?_ ?_
    · rintro i H1 hi ⟨sm, tb, hDi⟩
      have hi6 : i < 6 := Nat.lt_of_lt_of_le hi (hn _)
      refine ⟨rfl, ⟨_, rfl, _, rfl, a, ns, _, rfl, SqL.extN hS sm, hlen, by omega, fun H2 p s2 np B => ⟨p, rfl, B, tb.ext s2, fun H3 k3 t3 B3 => ?_⟩⟩⟩
      have keep : ExtN H1 H3 := fun b o e t => k3 b o (ne_of_none e np) t (s2 b o e)
      have hD3 := keep _ _ hDi fun _ z => by cases z
      refine ⟨_, hD3, ?_, fun b u e t => ?_, ?_, ?_⟩
      · rw [List.length_map, List.length_replicate]
        omega
      · rw [upd_ne (ne_of_none e hD)]
        exact keep b u (sm b u e t) t
      · exact tabs_put t3 hD3
      · rw [upd_same, List.replicate_succ', List.map_append]
        rfl
    · rintro H1 ⟨sm, tb, hD1⟩
      refine ⟨D, _, rfl, SqL.of hD1, ?_⟩
      rw [List.all_replicate]
      simp only [id, if_true, ite_self]
      exact q _
end
end Gm

namespace Gm
open PySem PySem.Spec PyProof.Rows L2 LamX
abbrev sErrA : Stmt := inClass (top 3) 0
abbrev sErrL : Stmt := inClass (top 4) 0
theorem kit_ref {K : PySem.W.Frag} {t : Value} {C : Addr} (h2 : PySem.W.isClsIn K C = true) (h3 : PySem.W.typeIn K (.ref C) = some (.type "type")) (h4 : PySem.W.subIn K t (.ref C) = some true) : PySem.W.kitOne K t (.ref C) = some true := by
  unfold PySem.W.kitOne
  split
  · rfl
  · have e2 : ((PySem.W.clsIn K C).isSome && PySem.W.typeIn K (.ref C) == some (.type "type")) = true := by
      have h2' : (PySem.W.clsIn K C).isSome = true := h2
      rw [h2', h3] <;> rfl
    exact (if_pos e2).trans h4
theorem kit_type {K : PySem.W.Frag} {t : Value} {T : String} (h1 : PySem.W.kitMeta T = true) (h4 : PySem.W.subIn K t (.type T) = some true) : PySem.W.kitOne K t (.type T) = some true := by
  unfold PySem.W.kitOne
  split
  · rfl
  · exact (if_pos h1).trans h4
/-- the code table of a def of the top -/
theorem tab_of {q : Program} {K : PySem.W.Frag} {h : Heap} {mg : Str → Option Value} {x : Str} {f c P : Addr} {oc kV doc pm ct ok : Value} {o2 an dk : Option Addr} {sl sk : Array (Option Value)} {vs : Array Value} {qn : Str} {ar : Arguments} {bd : List Stmt} {sc : Scope} (X : K.In h) (hm : mg x = some (.ref f))
    (lk : K.lookup f = some ⟨oc, o2, .func (PySem.W.fnOf x qn ar bd sc .none kV doc pm an (.ref c) ct), sl⟩) (lc : K.lookup c = some ⟨ok, dk, .fields vs, sk⟩) (hP : vs[11]? = some (.ref P))
    (tab : ∀ d ∈ recsOf q, ∃ a o fd c P, mg d.name = some (.ref a) ∧ h.get? a = some o ∧ o.data = .func fd ∧ fd.code = .ref c ∧ h.IsCode c P #[] ∧ h.TableAt c P #[]) (hr : ∃ d ∈ recsOf q, d.name = x) :
    h.get? P = some { cls := .none, data := .fields #[] } ∧ PySem.W.CodeHd h c P := by
  obtain ⟨d, hd, e⟩ := hr
  obtain ⟨a, o, fd, c', P', m, ho, hof, hc, ic, ta⟩ := tab d hd
  rw [e, hm] at m
  cases m
  have h1 := X _ _ lk
  rw [ho] at h1
  cases h1
  cases hof
  have ec : c = c' := Value.ref.inj hc
  subst ec
  obtain ⟨⟨o', vs', g1, _, g3, g4⟩, g5⟩ := id ta
  have h2 := X _ _ lc
  rw [g1] at h2
  cases h2
  cases g3
  rw [hP] at g4
  cases g4
  exact ⟨g5, .of ic ta⟩
end Gm

namespace Gm
open PySem PySem.Spec PyProof.Rows L2 LamX
theorem all_mk {P : Program} {w : World} {q : Program} {K : PySem.W.Frag} {h : Heap} {mg : Str → Option Value} {fa CB CIn CLt CLn fB fD fOf fGt fR fL fW fA fCn fI fEA fEN adR ptR : Addr} (X : K.In h) (G : h.Ns mainGlobals mg) (hfa : mg "law" = some (.ref fa))
    {odB anB odD anD odOf anOf odGt anGt odR anR odL anL odW anW odA anA odCn anCn odI anI odEA anEA odEN anEN dkR : Option Addr} {slB slD slOf slGt slR slL slW slA slCn slI slEA slEN skR : Array (Option Value)} {ocB kVB dcB pmB cdB ctB ocD kVD dcD pmD cdD ctD ocOf kVOf dcOf pmOf cdOf ctOf ocGt kVGt dcGt pmGt cdGt ctGt ocR kVR dcR pmR ctR ocL kVL dcL pmL cdL ctL ocW kVW dcW pmW cdW ctW ocA kVA dcA pmA cdA ctA ocCn kVCn dcCn pmCn cdCn ctCn ocI kVI dcI pmI cdI ctI ocEA kVEA dcEA pmEA cdEA ctEA ocEN kVEN dcEN pmEN cdEN ctEN okR : Value}
    {vsR : Array Value}
    {tkML tkMM tkLO : Tok}
    {nmLt qnLt : Str} {NSLt : Addr} {bsLt sbLt : List Value} {snLt : List Str} {abLt : Bool} {clLt : Option Bool} {ddLt : Option Addr} {m0Lt m1Lt m2Lt m3Lt m5Lt : Option Value}
    {nmLn qnLn : Str} {NSLn : Addr} {bsLn sbLn : List Value} {snLn : List Str} {abLn : Bool} {clLn : Option Bool} {ddLn : Option Addr} {m0Ln m1Ln m2Ln m3Ln m5Ln : Option Value}
    (gCB : PySem.W.nsIn K mainGlobals "Board" = some (some (.ref CB)))
    (gCIn : PySem.W.nsIn K mainGlobals "InputError" = some (some (.ref CIn)))
    (gCLt : PySem.W.nsIn K mainGlobals "InvalidLetters" = some (some (.ref CLt)))
    (gCLn : PySem.W.nsIn K mainGlobals "InvalidLength" = some (some (.ref CLn)))
    (aB : PySem.W.nsIn K mainGlobals "_law_bowl" = some (some (.ref fB)))
    (lB : K.lookup fB = some ⟨ocB, odB, .func (PySem.W.fnOf "_law_bowl" "_law_bowl" (defArgs sBowl) (defBody sBowl) (defScope sBowl) .none kVB dcB pmB anB cdB ctB), slB⟩)
    (cB : PySem.W.codeIn K cdB "_law_bowl" = true)
    (kB : PySem.W.keepIn K (.ref fB) = true)
    (aD : PySem.W.nsIn K mainGlobals "_law_dip" = some (some (.ref fD)))
    (lD : K.lookup fD = some ⟨ocD, odD, .func (PySem.W.fnOf "_law_dip" "_law_dip" (defArgs sDip) (defBody sDip) (defScope sDip) .none kVD dcD pmD anD cdD ctD), slD⟩)
    (cD : PySem.W.codeIn K cdD "_law_dip" = true)
    (kD : PySem.W.keepIn K (.ref fD) = true)
    (aOf : PySem.W.nsIn K mainGlobals "_law_of" = some (some (.ref fOf)))
    (lOf : K.lookup fOf = some ⟨ocOf, odOf, .func (PySem.W.fnOf "_law_of" "_law_of" (defArgs sOf) (defBody sOf) (defScope sOf) .none kVOf dcOf pmOf anOf cdOf ctOf), slOf⟩)
    (cOf : PySem.W.codeIn K cdOf "_law_of" = true)
    (kOf : PySem.W.keepIn K (.ref fOf) = true)
    (aGt : PySem.W.nsIn K mainGlobals "_law_got" = some (some (.ref fGt)))
    (lGt : K.lookup fGt = some ⟨ocGt, odGt, .func (PySem.W.fnOf "_law_got" "_law_got" (defArgs sGot) (defBody sGot) (defScope sGot) .none kVGt dcGt pmGt anGt cdGt ctGt), slGt⟩)
    (cGt : PySem.W.codeIn K cdGt "_law_got" = true)
    (kGt : PySem.W.keepIn K (.ref fGt) = true)
    (aR : PySem.W.nsIn K mainGlobals "_law_right" = some (some (.ref fR)))
    (lR : K.lookup fR = some ⟨ocR, odR, .func (PySem.W.fnOf "_law_right" "_law_right" (defArgs sRight) (defBody sRight) (defScope sRight) .none kVR dcR pmR anR (.ref adR) ctR), slR⟩)
    (cR : PySem.W.codeIn K (.ref adR) "_law_right" = true)
    (kR : PySem.W.keepIn K (.ref fR) = true)
    (aL : PySem.W.nsIn K mainGlobals "law" = some (some (.ref fL)))
    (lL : K.lookup fL = some ⟨ocL, odL, .func (PySem.W.fnOf "law" "law" (defArgs sLaw) (defBody sLaw) (defScope sLaw) .none kVL dcL pmL anL cdL ctL), slL⟩)
    (cL : PySem.W.codeIn K cdL "law" = true)
    (kL : PySem.W.keepIn K (.ref fL) = true)
    (aW : PySem.W.nsIn K mainGlobals "is_integer_within" = some (some (.ref fW)))
    (lW : K.lookup fW = some ⟨ocW, odW, .func (PySem.W.fnOf "is_integer_within" "is_integer_within" (defArgs sWithin) (defBody sWithin) (defScope sWithin) .none kVW dcW pmW anW cdW ctW), slW⟩)
    (cW : PySem.W.codeIn K cdW "is_integer_within" = true)
    (kW : PySem.W.keepIn K (.ref fW) = true)
    (aA : PySem.W.nsIn K mainGlobals "is_alphabet" = some (some (.ref fA)))
    (lA : K.lookup fA = some ⟨ocA, odA, .func (PySem.W.fnOf "is_alphabet" "is_alphabet" (defArgs sAlpha) (defBody sAlpha) (defScope sAlpha) .none kVA dcA pmA anA cdA ctA), slA⟩)
    (cA : PySem.W.codeIn K cdA "is_alphabet" = true)
    (kA : PySem.W.keepIn K (.ref fA) = true)
    (aCn : PySem.W.nsIn K mainGlobals "count_words" = some (some (.ref fCn)))
    (lCn : K.lookup fCn = some ⟨ocCn, odCn, .func (PySem.W.fnOf "count_words" "count_words" (defArgs sCount) (defBody sCount) (defScope sCount) .none kVCn dcCn pmCn anCn cdCn ctCn), slCn⟩)
    (cCn : PySem.W.codeIn K cdCn "count_words" = true)
    (kCn : PySem.W.keepIn K (.ref fCn) = true)
    (aI : PySem.W.findIn K (.ref CB) "__init__" = some (some (.ref fI)))
    (iI : PySem.W.isFn K (.ref fI) = true)
    (lI : K.lookup fI = some ⟨ocI, odI, .func (PySem.W.fnOf "__init__" "Board.__init__" (defArgs sInit) (defBody sInit) (defScope sInit) .none kVI dcI pmI anI cdI ctI), slI⟩)
    (cI : PySem.W.codeIn K cdI "Board.__init__" = true)
    (kI : PySem.W.keepIn K (.ref fI) = true)
    (aEA : PySem.W.findIn K (.ref CLt) "__init__" = some (some (.ref fEA)))
    (iEA : PySem.W.isFn K (.ref fEA) = true)
    (lEA : K.lookup fEA = some ⟨ocEA, odEA, .func (PySem.W.fnOf "__init__" "InvalidLetters.__init__" (defArgs sErrA) (defBody sErrA) (defScope sErrA) .none kVEA dcEA pmEA anEA cdEA ctEA), slEA⟩)
    (cEA : PySem.W.codeIn K cdEA "InvalidLetters.__init__" = true)
    (kEA : PySem.W.keepIn K (.ref fEA) = true)
    (aEN : PySem.W.findIn K (.ref CLn) "__init__" = some (some (.ref fEN)))
    (iEN : PySem.W.isFn K (.ref fEN) = true)
    (lEN : K.lookup fEN = some ⟨ocEN, odEN, .func (PySem.W.fnOf "__init__" "InvalidLength.__init__" (defArgs sErrL) (defBody sErrL) (defScope sErrL) .none kVEN dcEN pmEN anEN cdEN ctEN), slEN⟩)
    (cEN : PySem.W.codeIn K cdEN "InvalidLength.__init__" = true)
    (kEN : PySem.W.keepIn K (.ref fEN) = true)
    (oR : K.lookup adR = some ⟨okR, dkR, .fields vsR, skR⟩)
    (pR : vsR[11]? = some (.ref ptR))
    (nnR : K.lookup ptR = none)
    (gtc : PySem.W.specialIn K (.builtin "object.__class__") "__get__" = some (some (.builtin "getset_descriptor.__get__")))
    (tkc : PySem.W.takesIn K (.builtin "object.__class__") = some true)
    (ibIn : PySem.W.isClsIn K CIn = true)
    (tbIn : PySem.W.typeIn K (.ref CIn) = some (.type "type"))
    (xLt : K.lookup CLt = some (excClassObj nmLt qnLt CLt NSLt bsLt [.ref CIn, .type "ValueError", .type "Exception", .type "BaseException", .type "object"] true snLt sbLt abLt clLt ddLt m0Lt m1Lt m2Lt m3Lt m5Lt "ValueError.__new__"))
    (saLt : PySem.W.findIn K (.ref CLt) "__setattr__" = some (some (.builtin "object.__setattr__")))
    (ebLt : PySem.W.subIn K (.ref CLt) (.type "BaseException") = some true)
    (tyLt : PySem.W.typeIn K (.ref CLt) = some (.type "type"))
    (kpLt : PySem.W.keepIn K (.ref CLt) = true)
    (noLt : PySem.W.findIn K (.ref CLt) "value" = some none)
    (tiLt : PySem.W.typeIn K (.ref fEA) = some (.type "function"))
    (gaLt : PySem.W.findIn K (.ref CLt) "__getattribute__" = some (some (.builtin "BaseException.__getattribute__")))
    (ggLt : PySem.W.findIn K (.ref CLt) "__getattr__" = some none)
    (hdLt : PySem.W.hasDictIn K CLt = true)
    (acLt : PySem.W.findIn K (.ref CLt) "__class__" = some (some (.builtin "object.__class__")))
    (obLt : PySem.W.mroIn K CLt (.type "object") = some true)
    (ssLt : PySem.W.subIn K (.ref CLt) (.ref CLt) = some true)
    (sBLt : PySem.W.subIn K (.ref CLt) (.ref CIn) = some true)
    (sPLt : PySem.W.subIn K (.ref CLt) (.type "ValueError") = some true)
    (xLn : K.lookup CLn = some (excClassObj nmLn qnLn CLn NSLn bsLn [.ref CIn, .type "ValueError", .type "Exception", .type "BaseException", .type "object"] true snLn sbLn abLn clLn ddLn m0Ln m1Ln m2Ln m3Ln m5Ln "ValueError.__new__"))
    (saLn : PySem.W.findIn K (.ref CLn) "__setattr__" = some (some (.builtin "object.__setattr__")))
    (ebLn : PySem.W.subIn K (.ref CLn) (.type "BaseException") = some true)
    (tyLn : PySem.W.typeIn K (.ref CLn) = some (.type "type"))
    (kpLn : PySem.W.keepIn K (.ref CLn) = true)
    (noLn : PySem.W.findIn K (.ref CLn) "value" = some none)
    (tiLn : PySem.W.typeIn K (.ref fEN) = some (.type "function"))
    (gaLn : PySem.W.findIn K (.ref CLn) "__getattribute__" = some (some (.builtin "BaseException.__getattribute__")))
    (ggLn : PySem.W.findIn K (.ref CLn) "__getattr__" = some none)
    (hdLn : PySem.W.hasDictIn K CLn = true)
    (acLn : PySem.W.findIn K (.ref CLn) "__class__" = some (some (.builtin "object.__class__")))
    (obLn : PySem.W.mroIn K CLn (.type "object") = some true)
    (ssLn : PySem.W.subIn K (.ref CLn) (.ref CLn) = some true)
    (sBLn : PySem.W.subIn K (.ref CLn) (.ref CIn) = some true)
    (sPLn : PySem.W.subIn K (.ref CLn) (.type "ValueError") = some true)
    (sLt_Ln : PySem.W.subIn K (.ref CLt) (.ref CLn) = some false)
    (nML : PySem.W.nsIn K mainGlobals "MOST_LENGTH" = some (some (.int 6 tkML)))
    (nMM : PySem.W.nsIn K mainGlobals "MOST_LETTERS" = some (some (.int 26 tkMM)))
    (nLO : PySem.W.nsIn K mainGlobals "LOWERCASE" = some (some (.str lowTxt tkLO)))
    (zlen : PySem.W.nsIn K mainGlobals "len" = some none)
    (zint : PySem.W.nsIn K mainGlobals "int" = some none)
    (zabs : PySem.W.nsIn K mainGlobals "abs" = some none)
    (zdivmod : PySem.W.nsIn K mainGlobals "divmod" = some none)
    (zisinstance : PySem.W.nsIn K mainGlobals "isinstance" = some none)
    (zbool : PySem.W.nsIn K mainGlobals "bool" = some none)
    (zstr : PySem.W.nsIn K mainGlobals "str" = some none)
    (zrange : PySem.W.nsIn K mainGlobals "range" = some none)
    (zrepr : PySem.W.nsIn K mainGlobals "repr" = some none)
    (zall : PySem.W.nsIn K mainGlobals "all" = some none)
    (zmax : PySem.W.nsIn K mainGlobals "max" = some none)
    (zmin : PySem.W.nsIn K mainGlobals "min" = some none)
    (zValueError : PySem.W.nsIn K mainGlobals "ValueError" = some none)
    (pg : PySem.W.plainGet K CB Str.empty = true)
    (hd : PySem.W.hasDictIn K CB = true)
    (po : PySem.W.plainOver K CB = true)
    (sa : PySem.W.findIn K (.ref CB) "__setattr__" = some (some (.builtin "object.__setattr__")))
    (mk : PySem.W.makesIn K CB = true)
    (kc : PySem.W.keepIn K (.ref CB) = true)
    (naL : PySem.W.findIn K (.ref CB) "letters" = some none)
    (naN : PySem.W.findIn K (.ref CB) "length" = some none)
    (naS : PySem.W.findIn K (.ref CB) "size" = some none)
    (ac : PySem.W.findIn K (.ref CB) "__class__" = some (some (.builtin "object.__class__")))
    (ob : PySem.W.mroIn K CB (.type "object") = some true)
    (kitO : PySem.W.kitOne K (.ref CB) (.ref CB) = some true)
    (tab : ∀ d ∈ recsOf q, ∃ a o fd c P, mg d.name = some (.ref a) ∧ h.get? a = some o ∧ o.data = .func fd ∧ fd.code = .ref c ∧ h.IsCode c P #[] ∧ h.TableAt c P #[])
    (hrec : ∃ d ∈ recsOf q, d.name = "_law_right") :
    ∃ (fd : FuncData) (cs : List (Addr × Addr)), (∀ p ∈ cs, h.get? p.2 = some { cls := .none, data := .fields #[] } ∧ K.lookup p.2 = none ∧ PySem.W.CodeHd h p.1 p.2) ∧ (∀ (s : Shared) (u : Value), BindsTo s fd ⟨[u], []⟩ [("_law_script", u)]) ∧
      ∀ base : Heap, K.In base → base.Ns mainGlobals mg → (∃ mm, base.Ns sysModules mm) → (∀ p ∈ cs, TabB base mg p.1 p.2) → FnG P w K mg base L2.CX0 8 fa fd ["_law_script"] (fun vs H Q E => (∀ p ∈ cs, H p.2 = some (.tbl #[])) ∧ spLaw K vs H Q E) := by
  have e := hfa.symm.trans (PySem.W.mg_of X G aL)
  cases e
  have FB := fun_mk (st := sBowl) lB cB kB
  have FD := fun_mk (st := sDip) lD cD kD
  have FOf := fun_mk (st := sOf) lOf cOf kOf
  have FGt := fun_mk (st := sGot) lGt cGt kGt
  have FR := fun_mk (st := sRight) lR cR kR
  have FL := fun_mk (st := sLaw) lL cL kL
  have FW := fun_mk (st := sWithin) lW cW kW
  have FA := fun_mk (st := sAlpha) lA cA kA
  have FCn := fun_mk (st := sCount) lCn cCn kCn
  have FI := fun_mk (st := sInit) lI cI kI
  have FEA := fun_mk (st := sErrA) lEA cEA kEA
  have FEN := fun_mk (st := sErrL) lEN cEN kEN
  have bB := FB.binds (ps := ["_law_script", "_law_k"]) fun _ _ _ _ _ _ us hl => match us, hl with | [_, _], _ => rfl
  have bD := FD.binds (ps := ["_law_bowl_here", "_law_many"]) fun _ _ _ _ _ _ us hl => match us, hl with | [_, _], _ => rfl
  have bOf := FOf.binds (ps := ["_law_bowl_here", "_law_things"]) fun _ _ _ _ _ _ us hl => match us, hl with | [_, _], _ => rfl
  have bGt := FGt.binds (ps := ["_law_ask"]) fun _ _ _ _ _ _ us hl => match us, hl with | [_], _ => rfl
  have bR := FR.binds (ps := ["_law_bowl_here"]) fun _ _ _ _ _ _ us hl => match us, hl with | [_], _ => rfl
  have bW := FW.binds (ps := ["value", "least", "most"]) fun _ _ _ _ _ _ us hl => match us, hl with | [_, _, _], _ => rfl
  have bA := FA.binds (ps := ["letters"]) fun _ _ _ _ _ _ us hl => match us, hl with | [_], _ => rfl
  have bCn := FCn.binds (ps := ["many", "length"]) fun _ _ _ _ _ _ us hl => match us, hl with | [_, _], _ => rfl
  have bI := FI.binds (ps := ["self", "letters", "length"]) fun _ _ _ _ _ _ us hl => match us, hl with | [_, _, _], _ => rfl
  have bEA := FEA.binds (ps := ["self", "value"]) fun _ _ _ _ _ _ us hl => match us, hl with | [_, _], _ => rfl
  have bEN := FEN.binds (ps := ["self", "value"]) fun _ _ _ _ _ _ us hl => match us, hl with | [_, _], _ => rfl
  have DB : Df K mg "_law_bowl" _ _ _ := ⟨PySem.W.mg_of X G aB, kB, bB⟩
  have DD : Df K mg "_law_dip" _ _ _ := ⟨PySem.W.mg_of X G aD, kD, bD⟩
  have DOf : Df K mg "_law_of" _ _ _ := ⟨PySem.W.mg_of X G aOf, kOf, bOf⟩
  have DGt : Df K mg "_law_got" _ _ _ := ⟨PySem.W.mg_of X G aGt, kGt, bGt⟩
  have DR : Df K mg "_law_right" _ _ _ := ⟨PySem.W.mg_of X G aR, kR, bR⟩
  have DW : Df K mg "is_integer_within" _ _ _ := ⟨PySem.W.mg_of X G aW, kW, bW⟩
  have DA : Df K mg "is_alphabet" _ _ _ := ⟨PySem.W.mg_of X G aA, kA, bA⟩
  have DCn : Df K mg "count_words" _ _ _ := ⟨PySem.W.mg_of X G aCn, kCn, bCn⟩
  have ELt : ErrC K mg "InvalidLetters" "value" CLt fEA := ⟨PySem.W.mg_of X G gCLt, ⟨⟨_, _, _, _, _, _, _, _, _, _, _, _, _, _, _, xLt, rfl⟩, saLt, ebLt, tyLt, kpLt⟩, noLt, aEA, tiLt, gaLt, ggLt, hdLt, acLt, gtc, tkc, obLt⟩
  have ELn : ErrC K mg "InvalidLength" "value" CLn fEN := ⟨PySem.W.mg_of X G gCLn, ⟨⟨_, _, _, _, _, _, _, _, _, _, _, _, _, _, _, xLn, rfl⟩, saLn, ebLn, tyLn, kpLn⟩, noLn, aEN, tiLn, gaLn, ggLn, hdLn, acLn, gtc, tkc, obLn⟩
  obtain ⟨hPR, hCR⟩ := tab_of X (PySem.W.mg_of X G aR) lR oR pR tab hrec
  have FC : FunC K "_law_right" "_law_right" sRight fR _ adR := ⟨⟨_, _, _, _, _, _, _, _, rfl, lR, cR⟩, kR⟩
  have TBx : TxB mg := ⟨PySem.W.mg_none_of X G zlen, PySem.W.mg_none_of X G zint, PySem.W.mg_none_of X G zabs, PySem.W.mg_none_of X G zdivmod⟩
  have TW : TxW mg := ⟨PySem.W.mg_none_of X G zisinstance, PySem.W.mg_none_of X G zbool, PySem.W.mg_none_of X G zint, PySem.W.mg_none_of X G zstr, PySem.W.mg_none_of X G zlen, PySem.W.mg_none_of X G zrange, ⟨_, PySem.W.mg_of X G nMM⟩, ⟨_, PySem.W.mg_of X G nML⟩, ⟨_, PySem.W.mg_of X G nLO⟩⟩
  have TC : TxC K mg CB := ⟨⟨pg, hd, po, sa⟩, PySem.W.mg_of X G gCB, naL, naN, naS, ac, gtc, tkc, ob, kitO⟩
  have TL : TxL mg := ⟨PySem.W.mg_none_of X G zall, PySem.W.mg_none_of X G zrange, PySem.W.mg_none_of X G zmax, PySem.W.mg_none_of X G zmin, PySem.W.mg_none_of X G zlen⟩
  have TG : TxG K mg CIn CLt CLn := ⟨PySem.W.mg_none_of X G zisinstance, PySem.W.mg_none_of X G zValueError, PySem.W.mg_of X G gCIn, PySem.W.exm_ref ebLn hdLn tyLn ssLn, PySem.W.exm_ref ebLn hdLn tyLn sLt_Ln, PySem.W.exm_ref ebLt hdLt tyLt ssLt,
    kit_ref ibIn tbIn sBLn, kit_ref ibIn tbIn sBLt, kit_type (by decide +kernel) sPLn, kit_type (by decide +kernel) sPLt⟩
  refine ⟨PySem.W.fnOf "law" "law" (defArgs sLaw) (defBody sLaw) (defScope sLaw) .none kVL dcL pmL anL cdL ctL, [(adR, ptR)], fun p hp => by rw [List.mem_singleton.mp hp]; exact ⟨hPR, nnR, hCR⟩, fun s v => .of_eq rfl, fun base _ _ hM TB0 => ?_⟩
  have TB := TB0 _ (List.mem_singleton.mpr rfl)
  have GD : FnOk P w K mg base L2.CX0 1 fD _ _ spDip := ok_dip FD TBx
  have GEA : FnOk P w K mg base L2.CX0 1 fEA _ _ (spErr CLt "value") := ok_err (par := "value") FEA ELt rfl ⟨rfl, rfl, rfl, by decide +kernel, rfl, by decide +kernel, by decide +kernel⟩ (.inl rfl) (.inl rfl)
  have GEN : FnOk P w K mg base L2.CX0 1 fEN _ _ (spErr CLn "value") := ok_err (par := "value") FEN ELn rfl ⟨rfl, rfl, rfl, by decide +kernel, rfl, by decide +kernel, by decide +kernel⟩ (.inl rfl) (.inl rfl)
  have GI0 : FnOk P w K mg base L2.CX0 2 fI _ _ (spInit CB) := ok_init FI TW TC (ok_alpha FA TW) DA (ok_within FW TW) DW (ok_count FCn TW) DCn
  have GI : FnOk P w K mg base (L2.CX P w) 3 fI _ _ (spInitX K CB CLt CLn) := ok_initX FI TW TC (ok_alpha FA TW) DA (ok_within FW TW) DW (ok_count FCn TW) DCn ELt GEA bEA ELn GEN bEN
  have GOf : FnOk P w K mg base L2.CX0 2 fOf _ _ spOfL := ok_ofL FOf (PySem.W.mg_none_of X G zlen) GD DD
  have GR : FnG P w K mg base L2.CX0 7 fR _ _ (spRight ptR) := ok_right FC ⟨PySem.W.mg_none_of X G zrepr⟩ TC TG ELt ELn FGt DGt GOf DOf GI GI0 ⟨mk, aI, iI, kc⟩ bI hM TB
  exact ok_law FL TL (ok_bowl FB TBx) DB GR DR
end Gm
open PySem PySem.W PyProof.Rows in
set_option maxRecDepth 100000 in
set_option maxHeartbeats 0 in
theorem PySem.Challenge.cw_guessmarks_k02_boards_refused_holds : PySem.Challenge.rw_guessmarks_k02_boards_refused.Holds := by
  w_on; o_law; k_head; (case hw => w_witness2)
  k_fill
  refine L2.walkG (l := PySem.Challenge.rw_guessmarks_k02_boards_refused) (k := 8) (x := "_law_script") (sp := Gm.spLaw) rfl (by decide) rfl ⟨rfl, by decide, by decide⟩ ?him (fun w h Y => PySem.W.km_in_of Y) ?F (fun K H a ns hl hS => ⟨a, ns, rfl, hS, hl, fun _ => rfl⟩)
  case him => decide +kernel
  case F =>
    intro w mg fa h KX G hmg tab
    refine' Gm.all_mk KX G hmg ?gCB ?gCIn ?gCLt ?gCLn ?aB ?lB ?cB ?kB ?aD ?lD ?cD ?kD ?aOf ?lOf ?cOf ?kOf ?aGt ?lGt ?cGt ?kGt ?aR ?lR ?cR ?kR ?aL ?lL ?cL ?kL ?aW ?lW ?cW ?kW ?aA ?lA ?cA ?kA ?aCn ?lCn ?cCn ?kCn ?aI ?iI ?lI ?cI ?kI ?aEA ?iEA ?lEA ?cEA ?kEA ?aEN ?iEN ?lEN ?cEN ?kEN ?oR ?pR ?nnR ?gtc ?tkc ?ibIn ?tbIn ?xLt ?saLt ?ebLt ?tyLt ?kpLt ?noLt ?tiLt ?gaLt ?ggLt ?hdLt ?acLt ?obLt ?ssLt ?sBLt ?sPLt ?xLn ?saLn ?ebLn ?tyLn ?kpLn ?noLn ?tiLn ?gaLn ?ggLn ?hdLn ?acLn ?obLn ?ssLn ?sBLn ?sPLn ?sLt_Ln ?nML ?nMM ?nLO ?zlen ?zint ?zabs ?zdivmod ?zisinstance ?zbool ?zstr ?zrange ?zrepr ?zall ?zmax ?zmin ?zValueError ?pg ?hd ?po ?sa ?mk ?kc ?naL ?naN ?naS ?ac ?ob ?kitO tab ?hrec
    (case gCB => k_is)
    (case gCIn => k_is)
    (case gCLt => k_is)
    (case gCLn => k_is)
    (case aB => k_is)
    (case lB => k_is)
    (case cB => k_is)
    (case kB => k_is)
    (case aD => k_is)
    (case lD => k_is)
    (case cD => k_is)
    (case kD => k_is)
    (case aOf => k_is)
    (case lOf => k_is)
    (case cOf => k_is)
    (case kOf => k_is)
    (case aGt => k_is)
    (case lGt => k_is)
    (case cGt => k_is)
    (case kGt => k_is)
    (case aR => k_is)
    (case lR => k_is)
    (case cR => k_is)
    (case kR => k_is)
    (case aL => k_is)
    (case lL => k_is)
    (case cL => k_is)
    (case kL => k_is)
    (case aW => k_is)
    (case lW => k_is)
    (case cW => k_is)
    (case kW => k_is)
    (case aA => k_is)
    (case lA => k_is)
    (case cA => k_is)
    (case kA => k_is)
    (case aCn => k_is)
    (case lCn => k_is)
    (case cCn => k_is)
    (case kCn => k_is)
    (case aI => k_is)
    (case iI => k_is)
    (case lI => k_is)
    (case cI => k_is)
    (case kI => k_is)
    (case aEA => k_is)
    (case iEA => k_is)
    (case lEA => k_is)
    (case cEA => k_is)
    (case kEA => k_is)
    (case aEN => k_is)
    (case iEN => k_is)
    (case lEN => k_is)
    (case cEN => k_is)
    (case kEN => k_is)
    (case oR => k_is)
    (case pR => rfl)
    (case nnR => rfl)
    (case gtc => k_is)
    (case tkc => k_is)
    (case ibIn => k_is)
    (case tbIn => k_is)
    (case xLt => k_is)
    (case saLt => k_is)
    (case ebLt => k_is)
    (case tyLt => k_is)
    (case kpLt => k_is)
    (case noLt => k_is)
    (case tiLt => k_is)
    (case gaLt => k_is)
    (case ggLt => k_is)
    (case hdLt => k_is)
    (case acLt => k_is)
    (case obLt => k_is)
    (case ssLt => k_is)
    (case sBLt => k_is)
    (case sPLt => k_is)
    (case xLn => k_is)
    (case saLn => k_is)
    (case ebLn => k_is)
    (case tyLn => k_is)
    (case kpLn => k_is)
    (case noLn => k_is)
    (case tiLn => k_is)
    (case gaLn => k_is)
    (case ggLn => k_is)
    (case hdLn => k_is)
    (case acLn => k_is)
    (case obLn => k_is)
    (case ssLn => k_is)
    (case sBLn => k_is)
    (case sPLn => k_is)
    (case sLt_Ln => k_is)
    (case nML => k_is)
    (case nMM => k_is)
    (case nLO => k_is)
    (case zlen => k_is)
    (case zint => k_is)
    (case zabs => k_is)
    (case zdivmod => k_is)
    (case zisinstance => k_is)
    (case zbool => k_is)
    (case zstr => k_is)
    (case zrange => k_is)
    (case zrepr => k_is)
    (case zall => k_is)
    (case zmax => k_is)
    (case zmin => k_is)
    (case zValueError => k_is)
    (case pg => k_is)
    (case hd => k_is)
    (case po => k_is)
    (case sa => k_is)
    (case mk => k_is)
    (case kc => k_is)
    (case naL => k_is)
    (case naN => k_is)
    (case naS => k_is)
    (case ac => k_is)
    (case ob => k_is)
    (case kitO => first | rfl | k_is)
    (case hrec => decide +kernel)
