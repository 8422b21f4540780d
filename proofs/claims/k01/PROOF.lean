import PyProof.Rows.All
import Wide.All
import OpenK.AllK
import Wide.FinOn
import HandS.ForMost
import HandS.Exc
import HandS.ExcInit
import HandS.ExcIs
import HandS.ExcField
import HandS.Defaults
import HandS.HeadEnd
import HandS.HeadHook2
import HandS.EndBits
import HandS.Wide
import HandS.IsInst
import HandS.Walk
import HandS.ExcValue
import HandS.Style
import HandS.Head0
import HandS.Head1
import HandS.Head2
import HandS.HeadHook1
import PySem.Challenge.RW_needpegs_k01_errors
set_option Elab.async false
set_option linter.all false
set_option maxRecDepth 100000
set_option maxHeartbeats 4000000
namespace Np
open PySem PySem.W PySem.Calls PyProof.Rows PySem.HandSPX
/-- what making an exception asks of the class's row of bases -/
structure Mro3 (B : String) (bm : List Value) : Prop where
  b : bm.contains (.type B) = true
  a : bm.contains (.type "AttributeError") = false
  n : bm.contains (.type "NameError") = false
section
variable {M : Model} {A : Around} {E : Value → Shared → Prop} {h : Heap} {g : Array GenState} {d : Drawn} {t : Nat} {os : OsState}
variable {nm q : Str} {C N : Addr} {bs bm bmB : List Value} {hdct : Bool} {sn : List Str} {sub : List Value} {ab : Bool} {col : Option Bool} {dd : Option Addr} {k0 k1 k2 k3 k5 : Option Value} {B newId initId : String}
theorem newCheck (F : ExcBaseFacts B newId initId bmB) (hT : Mro3 B bm) {us : List Value} {kw : List (Str × Value)} {Q : Unit → Shared → Prop}
    (hC : h.get? C = some (excClassObj nm q C N bs bm hdct sn sub ab col dd k0 k1 k2 k3 k5 newId)) (hq : Q () ⟨h, g, d, t, os⟩) : wpAny M A (checkBuiltinCall newId ⟨.ref C :: us, kw⟩) Q E ⟨h, g, d, t, os⟩ := by
  have c1 : (Value.ref C :: bm).contains (.type B) = true := by rw [List.contains_cons, hT.b, Bool.or_true]
  have c2 := F.noStar
  simp only [checkBuiltinCall, F.newKind, F.newSplit, F.newRow]
  repeat (first | refine wpAny_loadPart_at hC ?_ | (refine wpAny_isSubtype_exc hC ?_; rw [c1]) | refine wpAny_staticBase_exc hC ?_ | refine wpAny_madeBy_exc hC ?_ | simp only [bne_self_eq_false, Bool.false_eq_true, if_false] | wp_step)
  exact hq
end
section
variable {prog : Program} {w : World} {A : Around} {E : Value → Shared → Prop} {R : Result → Shared → Prop} {h : Heap} {g : Array GenState} {d : Drawn} {t : Nat} {os : OsState}
variable {nm q : Str} {C N : Addr} {bs bm bmB : List Value} {hdct : Bool} {sn : List Str} {sub : List Value} {ab : Bool} {col : Option Bool} {dd : Option Addr} {k0 k1 k2 k3 k5 : Option Value} {B newId initId : String}
theorem newMade (F : ExcBaseFacts B newId initId bmB) (hT : Mro3 B bm) {us : List Value} {kw : List (Str × Value)}
    (hC : h.get? C = some (excClassObj nm q C N bs bm hdct sn sub ab col dd k0 k1 k2 k3 k5 newId))
    (hq : R (.ok (.ret (.ref (h.objs.size + 1)))) ⟨(h.push (kdv_tup us)).push (excO C h.objs.size), g, d, t, os⟩) (hz : us.length ≤ sizeLine) :
    codeAny (model prog w) A (.builtin newId ⟨.ref C :: us, kw⟩) R ⟨h, g, d, t, os⟩ := by
  have e0 := F.ends
  have c1 : (Value.ref C :: bm).contains (.type B) = true := by rw [List.contains_cons, hT.b, Bool.or_true]
  have c2 : (Value.ref C :: bm).contains (.type "AttributeError") = false := by rw [List.contains_cons, hT.a]; rfl
  have c3 : (Value.ref C :: bm).contains (.type "NameError") = false := by rw [List.contains_cons, hT.n]; rfl
  refine codeAny_builtinAt F.entry ?_
  unfold Builtin.«BaseException.__new__»
  refine PySem.wpAt_bind ?_
  show PySem.wpAt _ _ _ (stack >>= _) _ _ _
  refine PySem.wpAt_bind (PySem.wpAt_stack fun p below => PySem.wpAt_of_wpAny ?_)
  wp_walk
  refine PySem.wpAt_of_wpAny ?_
  rw [F.owner]
  repeat (first | with_reducible refine wpAny_madeHere_exc F.canon hC ?_ | with_reducible refine wpAny_loadPart_at hC ?_ | (with_reducible refine wpAny_isSubtype_exc hC ?_; first | rw [c1] | rw [c2] | rw [c3]) | wp_step)
  show R _ _
  rw [Heap.size_push]
  exact hq
theorem typeCalled (F : ExcBaseFacts B newId initId bmB) (hT : Mro3 B bm) {us : List Value} {kw : List (Str × Value)} {fI : Addr} {Q : Fin → Shared → Prop}
    (hC : h.get? C = some (excClassObj nm q C N bs bm hdct sn sub ab col dd k0 k1 k2 k3 k5 newId))
    (hi : W.Looks (model prog w) h (typeLookup (.ref C) "__init__") (some (.ref fI))) (hb : ∀ self, W.Looks (model prog w) h (bindSpecial (.ref fI) self) (.ref fI, [self])) (hz : us.length ≤ sizeLine)
    (hq : codeAny (model prog w) A (.call (.ref fI) ⟨.ref (h.objs.size + 1) :: us, kw⟩)
      (fun r s' => match r with | .ok (.ret v) => v = .none ∧ Q (.done (.ret (.ref (h.objs.size + 1)))) s' | .ok _ => False | .error e => E e s')
      ⟨(h.push (kdv_tup us)).push (excO C h.objs.size), g, d, t, os⟩) :
    wpAny (model prog w) A (Builtin.«type.__call__» ⟨.ref C :: us, kw⟩) Q E ⟨h, g, d, t, os⟩ := by
  repeat (first | with_reducible refine wpAny_loadPart_at hC ?_ | with_reducible refine wpAny_madeBy_exc hC ?_ | wp_step)
  refine codeAny_call_builtin_code (Code.quiet_builtin _ F.quiet) (newCheck F hT hC ?_)
  refine newMade F hT hC ?_ hz
  show wpAny _ _ _ _ _ _
  have kp : ∀ b o, h.get? b = some o → ((h.push (kdv_tup us)).push (excO C h.objs.size)).get? b = some o := fun b o e => Heap.get?_push_of_some _ (Heap.get?_push_of_some _ e)
  have hC₁ := kp _ _ hC
  have hx : ((h.push (kdv_tup us)).push (excO C h.objs.size)).get? (h.objs.size + 1) = some (excO C h.objs.size) := by heap_get
  have cC : (Value.ref C :: bm).contains (.ref C) = true := by simp
  have i1 := hi.keeps kp
  have b1 := (hb (.ref (h.objs.size + 1))).keeps kp
  unfold isInstance
  repeat (first | with_reducible refine wpAny_loadPart_at hx ?_ | (with_reducible refine wpAny_isSubtype_exc hC₁ ?_; rw [cC]) | wp_step)
  show wpAny _ _ (typeLookup (.ref C) _) _ _ _
  refine i1.at ?_
  refine wpAny_holding (wpAny_bind (b1.at ?_))
  refine wpAny_bind (wpAny_call (codeAny_mono hq fun r s' z => ?_))
  rcases r with e | (v | _ | _ | _) <;> first | exact z | exact z.elim | skip
  obtain ⟨rfl, z⟩ := z
  first
    | exact wpAny_pure (wpAny_pure z)
    | (wp_walk; exact z)
theorem calledOwn (F : ExcBaseFacts B newId initId bmB) (hT : Mro3 B bm) {us : List Value} {kw : List (Str × Value)} {fI : Addr}
    (hC : h.get? C = some (excClassObj nm q C N bs bm hdct sn sub ab col dd k0 k1 k2 k3 k5 newId))
    (hi : W.Looks (model prog w) h (typeLookup (.ref C) "__init__") (some (.ref fI))) (hb : ∀ self, W.Looks (model prog w) h (bindSpecial (.ref fI) self) (.ref fI, [self])) (hz : us.length ≤ sizeLine)
    (hq : codeAny (model prog w) (A.under (.builtin "type.__call__" ⟨.ref C :: us, kw⟩)) (.call (.ref fI) ⟨.ref (h.objs.size + 1) :: us, kw⟩) (W.InitBack (h.objs.size + 1) R)
      ⟨(h.push (kdv_tup us)).push (excO C h.objs.size), g, d, t, os⟩) :
    codeAny (model prog w) A (.call (.ref C) ⟨us, kw⟩) R ⟨h, g, d, t, os⟩ := by
  have f1 := tc_lookup
  have f2 := tc_bind (.ref C)
  have hTy : (⟨h, g, d, t, os⟩ : Shared).TypeIs (.ref C) "type" := ⟨_, hC, rfl⟩
  refine codeAny_of_tree ?_
  show wpAny _ _ (callAny (.ref C) _) _ _ _
  repeat (any_goals (first | assumption | with_reducible refine wpAny_loadPart_at hC ?_ | wp_step))
  refine ⟨rfl, ?_⟩
  refine codeAny_call_builtin_at (Code.quiet_builtin _ (by decide +kernel)) entry_typeCall (wpAny_check_type_call_sub hC (typeCalled F hT hC hi hb hz ?_))
  refine codeAny_mono hq fun r s' z => ?_
  rcases r with e | (v | _ | _ | _) <;> exact z
end
end Np

set_option Elab.async false
set_option linter.all false
set_option maxRecDepth 100000
set_option maxHeartbeats 4000000
namespace Np
open PySem PySem.W PySem.Calls PyProof.Rows PySem.HandSPX
/-- own classes, then a built-in class's row -/
def tailB (T : List Value) : List Value → Bool
  | .ref _ :: r => tailB T r
  | l => l == T
theorem tailB_split {T : List Value} : ∀ l : List Value, tailB T l = true → (∃ c r, l = .ref c :: r ∧ tailB T r = true) ∨ l = T := by
  intro l h
  unfold tailB at h
  split at h
  · exact .inl ⟨_, _, rfl, h⟩
  · exact .inr (beq_iff_eq.mp h)
theorem tailB_pass {T : List Value} {self : Value} (hp : PySem.refuseLoop self "__setattr__" T = pure ()) : ∀ l : List Value, tailB T l = true → PySem.refuseLoop self "__setattr__" l = pure () := by
  intro l
  induction l with
  | nil =>
    intro e
    rcases tailB_split _ e with ⟨_, _, q, _⟩ | q
    · cases q
    · rw [q]; exact hp
  | cons a r ih =>
    intro e
    rcases tailB_split _ e with ⟨c, r', q, hr⟩ | q
    · obtain ⟨rfl, rfl⟩ := List.cons.inj q
      rw [PySem.refuseLoop_ref]
      exact ih hr
    · rw [q]; exact hp
theorem tailB_has {T : List Value} (X : String) : ∀ l : List Value, tailB T l = true → l.contains (.type X) = T.contains (.type X) := by
  intro l
  induction l with
  | nil =>
    intro e
    rcases tailB_split _ e with ⟨_, _, q, _⟩ | q
    · cases q
    · rw [q]
  | cons a r ih =>
    intro e
    rcases tailB_split _ e with ⟨c, r', q, hr⟩ | q
    · obtain ⟨rfl, rfl⟩ := List.cons.inj q
      rw [List.contains_cons, ih hr]
      rfl
    · rw [q]
abbrev rowV : List Value := [.type "ValueError", .type "Exception", .type "BaseException", .type "object"]
abbrev rowK : List Value := [.type "KeyError", .type "LookupError", .type "Exception", .type "BaseException", .type "object"]
/-- a built-in class's row over which own error classes are made -/
structure RowOk (B newId initId : String) (bmB T : List Value) : Prop where
  base : ExcBaseFacts B newId initId bmB
  pass : ∀ self : Value, PySem.refuseLoop self "__setattr__" T = pure ()
  hasB : T.contains (.type B) = true
  noA : T.contains (.type "AttributeError") = false
  noN : T.contains (.type "NameError") = false
  obj : T.contains (.type "object") = true
theorem rowV_ok : RowOk "ValueError" "ValueError.__new__" "ValueError.__init__" rowV rowV :=
  ⟨PySem.F.excBase_ValueError, PySem.F.store_ValueError.passes, by decide +kernel, by decide +kernel, by decide +kernel, by decide +kernel⟩
theorem rowK_ok : RowOk "LookupError" "LookupError.__new__" "LookupError.__init__" [.type "LookupError", .type "Exception", .type "BaseException", .type "object"] rowK :=
  ⟨PySem.F.excBase_LookupError, fun _ => by kernel_rfl, by decide +kernel, by decide +kernel, by decide +kernel, by decide +kernel⟩
theorem RowOk.mro {B newId initId : String} {bmB T bm : List Value} (R : RowOk B newId initId bmB T) (h : tailB T bm = true) : Mro3 B bm :=
  ⟨(tailB_has _ _ h).trans R.hasB, (tailB_has _ _ h).trans R.noA, (tailB_has _ _ h).trans R.noN⟩
end Np

set_option Elab.async false
set_option linter.all false
set_option maxRecDepth 100000
set_option maxHeartbeats 4000000
namespace PySem
namespace NpX
open PySem.W PySem.Calls PyProof.Rows PySem.HandSPX Np
open Builtin Builtin.ObjectAttr
section
variable {prog : Program} {w : World} {A : Around} {E : Value → Shared → Prop} {R : Result → Shared → Prop} {hp : Heap} {g : Array GenState} {d : Drawn} {t : Nat} {os : OsState}
/-- the class's side of a store to self.name -/
structure StoreRow (K : W.Frag) (C : Addr) (cd : ClassData) (name : Str) : Prop where
  cls : W.clsIn K C = some cd
  pass : ∀ self : Value, refuseLoop self "__setattr__" cd.mro = pure ()
  obj : cd.mro.contains (.type "object") = true
  dct : cd.hasDict = true
  free : W.findIn K (.ref C) name = some none
theorem StoreRow.ne {K : W.Frag} {C : Addr} {cd : ClassData} {name : Str} (S : StoreRow K C cd name) : cd.mro.isEmpty = false := by
  cases e : cd.mro with
  | nil =>
    have h := S.obj
    rw [e] at h
    exact absurd h (by decide)
  | cons a r => rfl
/-- the first field: the dict is made -/
theorem storeNew {K : W.Frag} {name : Str} {tk : Tok} {v : Value} {x C : Addr} {fv : Array Value} {cd : ClassData}
    (X : K.In hp) (hx : hp.get? x = some { cls := .ref C, data := .fields fv }) (S : StoreRow K C cd name)
    (hq : ∀ h' tk' dx, (∀ b o, b ≠ x → hp.get? b = some o → h'.get? b = some o) → hp.objs.size ≤ dx → dx ≠ x → h'.get? x = some { cls := .ref C, dict := some dx, data := .fields fv } →
      h'.Ns1 dx (fun y => if y = name then some v else none) → R (.ok (.ret .none)) ⟨h', g, d, tk', os⟩) :
    codeAny (model prog w) A (.call (.builtin "object.__setattr__") ⟨[.ref x, .str name tk, v], []⟩) R ⟨hp, g, d, t, os⟩ := by
  have J : W.InstAt hp x { cls := .ref C, data := .fields fv } C none := ⟨hx, rfl, rfl, trivial⟩
  have SF := F.store_object
  have hxs : x ≠ hp.objs.size := Nat.ne_of_lt (Heap.lt_size hx)
  have sb : W.Looks (model prog w) hp (isInstance (.ref x) (.type "object")) true := J.type.andThen (W.looks_mroIn X (by unfold W.mroIn; rw [S.cls, Option.bind_some, if_neg (by rw [S.ne]; decide), S.obj]))
  refine codeAny_call_builtin SF.slot.plain SF.entry (@W.check_slot (model prog w) _ _ ⟨hp, g, d, t, os⟩ "object.__setattr__" "object" "__setattr__" (.ref x) [.str name tk, v] [] _ SF.kind SF.split sb (SF.args (.ref x) (.str name tk) v) ?_)
  have l1 : W.Looks (model prog w) hp (mroOf (.ref C)) cd.mro := (W.looks_clsIn X S.cls).andThen .now
  have l2 : W.Looks (model prog w) hp (storeTaker? none) none := .now
  have l3 : W.Looks (model prog w) hp (classData C) cd := W.looks_clsIn X S.cls
  rw [W.osa_eq, refuse_eq]
  refine wpAny_bind (wpAny_bind (J.type.at (wpAny_bind (l1.at ?_))))
  rw [S.pass]
  refine wpAny_pure (wpAny_bind (J.type.at (wpAny_bind ((W.looks_findIn X S.free).at (wpAny_bind (l2.at ?_))))))
  show wpAny _ _ (storeInOwnDict (.ref x) (.ref C) (.str name tk) name v false) _ _ _
  have hh := S.dct
  obtain ⟨nm, bs, mro, ns, qn, hd, sn, sb, ab, col, del⟩ := cd
  dsimp only at hh
  subst hh
  unfold storeInOwnDict ownDictForStores
  repeat (first | with_reducible refine store_in_new ?_ ?_ | with_reducible refine wpAny_loadPart_at hx ?_ | with_reducible refine l3.at ?_ | wp_step)
  · exact ⟨_, #[], _, (Heap.get?_update_ne _ _ _ _ hxs.symm).trans (Heap.get?_push_at rfl rfl), rfl, fun e he => absurd he (by simp), fun _ => rfl⟩
  · intro h' tk' hn' hs
    have hx1 : (hp.push { cls := .type "dict", data := .dict #[] }).get? x = some { cls := .ref C, data := .fields fv } := Heap.get?_push_of_some _ hx
    refine hq h' tk' hp.objs.size (fun b o hb ho => ?_) (Nat.le_refl _) hxs.symm ?_ hn'
    · exact (hs.2 b (Nat.ne_of_lt (Heap.lt_size ho))).trans ((Heap.get?_update_ne _ _ _ _ hb).trans (Heap.get?_push_of_some _ ho))
    · exact (hs.2 x hxs).trans (Heap.get?_update_self _ hx1 rfl)
/-- a further field -/
theorem storeOld {K : W.Frag} {name : Str} {tk : Tok} {v : Value} {x C dx : Addr} {fv : Array Value} {cd : ClassData} {m0 : Str → Option Value} {nl : List Str}
    (X : K.In hp) (hx : hp.get? x = some { cls := .ref C, dict := some dx, data := .fields fv }) (hns : hp.Ns1 dx m0) (hw : Within m0 nl) (hz : nl.length ≤ 1000) (S : StoreRow K C cd name)
    (hq : ∀ h' tk', (∀ b o, b ≠ dx → hp.get? b = some o → h'.get? b = some o) → h'.Ns1 dx (fun y => if y = name then some v else m0 y) → R (.ok (.ret .none)) ⟨h', g, d, tk', os⟩) :
    codeAny (model prog w) A (.call (.builtin "object.__setattr__") ⟨[.ref x, .str name tk, v], []⟩) R ⟨hp, g, d, t, os⟩ := by
  obtain ⟨oD, esD, epD, hoD, hdD, _⟩ := hns.count hw
  have J : W.InstAt hp x { cls := .ref C, dict := some dx, data := .fields fv } C (some oD) := ⟨hx, rfl, rfl, hoD⟩
  have SF := F.store_object
  have sb : W.Looks (model prog w) hp (isInstance (.ref x) (.type "object")) true := J.type.andThen (W.looks_mroIn X (by unfold W.mroIn; rw [S.cls, Option.bind_some, if_neg (by rw [S.ne]; decide), S.obj]))
  refine codeAny_call_builtin SF.slot.plain SF.entry (@W.check_slot (model prog w) _ _ ⟨hp, g, d, t, os⟩ "object.__setattr__" "object" "__setattr__" (.ref x) [.str name tk, v] [] _ SF.kind SF.split sb (SF.args (.ref x) (.str name tk) v) ?_)
  have l1 : W.Looks (model prog w) hp (mroOf (.ref C)) cd.mro := (W.looks_clsIn X S.cls).andThen .now
  have l2 : W.Looks (model prog w) hp (storeTaker? none) none := .now
  have l3 : W.Looks (model prog w) hp (classData C) cd := W.looks_clsIn X S.cls
  rw [W.osa_eq, refuse_eq]
  refine wpAny_bind (wpAny_bind (J.type.at (wpAny_bind (l1.at ?_))))
  rw [S.pass]
  refine wpAny_pure (wpAny_bind (J.type.at (wpAny_bind ((W.looks_findIn X S.free).at (wpAny_bind (l2.at ?_))))))
  show wpAny _ _ (storeInOwnDict (.ref x) (.ref C) (.str name tk) name v false) _ _ _
  have hh := S.dct
  obtain ⟨nm, bs, mro, ns, qn, hd, sn, sb, ab, col, del⟩ := cd
  dsimp only at hh
  subst hh
  unfold storeInOwnDict ownDictForStores
  repeat (first | with_reducible refine PySem.OEX.store_in_old hns hw hz ?_ | with_reducible refine wpAny_loadPart_at hx ?_ | with_reducible refine l3.at ?_ | wp_step)
  intro h' tk' hn' hs
  exact hq h' tk' (fun b o hb ho => (hs.2 b hb).trans ho) hn'
end
end NpX
end PySem

set_option Elab.async false
set_option linter.all false
set_option maxRecDepth 100000
set_option maxHeartbeats 4000000
namespace PySem.W
open PySem PySem.Spec PySem.Calls PyProof.Rows
section
variable {prog : Program} {w : World} {A : Around} {E : Value → Shared → Prop} {s : Shared} {K : Frag} {x D : Addr} {ox : Obj} {od : Option Obj}
theorem np_data {C : Addr} {name : Str} {a g : Value} {od : Option Obj} (hc : (clsIn K C).isSome = true) (ha : findIn K (.ref C) name = some (some a)) (hg : specialIn K a "__get__" = some (some g)) (ht : takesIn K a = some true) : findObj K C od name = some (.bind g a) := by
  obtain ⟨cd, hc⟩ := Option.isSome_iff_exists.mp hc
  unfold findObj
  rw [hc, Option.bind_some, ha, Option.bind_some]
  simp [hg, ht]
theorem np_class {Q : Option Value → Shared → Prop} (c : L2.ExcC K D)
    (X : K.In s.heap) (I : InstAt s.heap x ox D od) (h : Q (some (.ref D)) { s with toks := s.toks + 1 }) : wpAny (model prog w) A (getAttr? (.ref x) "__class__") Q E s := by
  have hf : findObj K D od "__class__" = some (.bind (.builtin "getset_descriptor.__get__") (.builtin "object.__class__")) := np_data (by obtain ⟨cd, hc, _⟩ := any_some c.hd; rw [hc]; rfl) c.ha c.hn c.ht
  obtain ⟨hp, g, d, t, os⟩ := s
  have m0 := I.type (M := model prog w)
  have m1 := looks_findIn (M := model prog w) X c.hg
  have m2 := looks_findIn (M := model prog w) X c.hk
  have m3 := looks_find (M := model prog w) X I hf
  have sb : Looks (model prog w) hp (isInstance (.ref x) (.type "BaseException")) true := m0.andThen (looks_subIn X c.hs)
  have z0 : (false && onTheHeap (Value.builtin "BaseException.__getattribute__")) = false := rfl
  have z2 : (Value.builtin "BaseException.__getattribute__" == Value.builtin "object.__getattribute__") = false := by decide +kernel
  have z1 : (onTheHeap (Value.ref D) && Value.builtin "BaseException.__getattribute__" == Value.builtin "object.__getattribute__") = false := by rw [z2]; rfl
  unfold getAttr? getAttrBy? getAttrBy
  refine wpAny_bind (wpAny_mkText (wpAny_bind (wpAny_attempt (wpAny_holding (wpAny_bind (m0.at (wpAny_bind (m1.at ?_))))))))
  show wpAny _ _ (if (onTheHeap (Value.ref D) && Value.builtin "BaseException.__getattribute__" == Value.builtin "object.__getattribute__") = true then _ else _) _ _ _
  rw [z1, if_neg Bool.false_ne_true]
  unfold getAttrByItsOwn hookBefore
  refine wpAny_bind ?_
  rw [if_pos (show onTheHeap (Value.ref D) = true from rfl)]
  refine m2.at ?_
  refine wpAny_bind (wpAny_attempt (wpAny_holding ?_))
  unfold callGetattribute
  rw [z0, if_neg Bool.false_ne_true]
  unfold boundAndCalled
  rw [PySem.F.excAttr_ValueError.ga.bind (.ref x)]
  refine wpAny_bind (wpAny_pure ?_)
  show wpAny _ _ (call (.builtin "BaseException.__getattribute__") [.ref x, .str "__class__" t]) _ _ _
  refine wpAny_call (codeAny_call_builtin PySem.F.excAttr_ValueError.ga.plain PySem.F.entry_bexc_ga ?_)
  refine @check_slot (model prog w) _ _ ⟨hp, g, d, t + 1, os⟩ "BaseException.__getattribute__" "BaseException" "__getattribute__" (.ref x) [.str "__class__" t] [] _ (by decide +kernel) (by decide +kernel) sb (PySem.F.args_bexc_ga (.ref x) (.str "__class__" t)) ?_
  unfold Builtin.«object.__getattribute__»
  refine wpAny_bind (wpAny_of_eq (a := ((Value.ref x : Value), [Value.str "__class__" t])) (by first | rfl | (simp only [slotArgs]; rfl)) ?_)
  refine wpAny_bind (wpAny_pure (wpAny_bind (m0.at (wpAny_bind (m3.at ?_)))))
  show wpAny _ _ (holding [Value.builtin "object.__class__"] (call (.builtin "getset_descriptor.__get__") [.builtin "object.__class__", .ref x, .ref D]) >>= ret) _ _ _
  refine wpAny_bind (wpAny_holding (wpAny_call (class_get (s := ⟨hp, g, d, t + 1, os⟩) (ox := ox) (od := od) X I c.hm ?_)))
  refine wpAny_pure ?_
  show wpAny _ _ (handedOut (.ref D)) _ _ _
  rw [handedOut_of (v := .ref D) rfl]
  first
    | exact wpAny_pure (wpAny_pure h)
    | exact wpAny_pure h
    | exact wpAny_pure (wpAny_bind (wpAny_pure (wpAny_pure h)))
theorem np_kit (c : L2.ExcC K D) : KitX K (.ref x) (.ref D) (fun h => ∃ ox od, InstAt h x ox D od) where
  ty := fun _ _ _ ⟨_, _, I⟩ => I.type
  it := fun _ _ X _ => by
    obtain ⟨cdD, hcD, _⟩ := any_some c.hd
    unfold clsIn at hcD
    split at hcD
    · rename_i c' d' cd' sl' ho
      intro A' Q' E' s' k q
      unfold isType loadHead
      exact wpAny_bind (wpAny_loadPart (k _ _ (X _ _ ho)) (wpAny_pure q))
    · cases hcD
  ne := fun h tp dd its n sl X htp => by
    obtain ⟨cdD, hcD, _⟩ := any_some c.hd
    refine Bool.eq_false_iff.mpr fun q => ?_
    have e : D = tp := Value.ref.inj (beq_iff_eq.mp q)
    subst e
    unfold clsIn at hcD
    split at hcD
    · rename_i c' d' cd' sl' ho
      have z := (X _ _ ho).symm.trans htp
      cases z
    · cases hcD
  ca := fun X ⟨_, _, I⟩ k => np_class c X I k
end
end PySem.W

set_option Elab.async false
set_option linter.all false
set_option maxRecDepth 100000
set_option maxHeartbeats 4000000
namespace Np
open PySem PySem.Spec PyProof.Rows L2
/-- what the written part says of an own error class over a built-in class's row T -/
structure ExK (K : PySem.W.Frag) (C : Addr) (newId : String) (T : List Value) : Prop where
  cls : ∃ nm q N bs bm sn sub ab col dd k0 k1 k2 k3 k5, K.lookup C = some (excClassObj nm q C N bs bm true sn sub ab col dd k0 k1 k2 k3 k5 newId) ∧ tailB T bm = true
  sa : PySem.W.findIn K (.ref C) "__setattr__" = some (some (.builtin "object.__setattr__"))
  kC : PySem.W.keepIn K (.ref C) = true
  x : ExcC K C
def clsB (C : Addr) (newId : String) (T : List Value) : Option Obj → Bool
  | some ⟨.type c, _, .cls cd, ⟨[_, _, _, _, some (.builtin i), _]⟩⟩ => decide (c = "type") && (decide (i = newId) && ((match cd.mro with
    | .ref c1 :: bm => decide (c1 = C) && tailB T bm
    | _ => false) && (cd.hasDict && !cd.hasDel)))
  | _ => false
theorem clsB_ok {C : Addr} {newId : String} {T : List Value} {o : Option Obj} (h : clsB C newId T o = true) :
    ∃ nm q N bs bm sn sub ab col dd k0 k1 k2 k3 k5, o = some (excClassObj nm q C N bs bm true sn sub ab col dd k0 k1 k2 k3 k5 newId) ∧ tailB T bm = true := by
  unfold clsB at h
  split at h
  · rename_i c dd cd k0 k1 k2 k3 i k5
    obtain ⟨nm, bs, mro, N, q, hd, sn, sub, ab, col, del⟩ := cd
    simp only [Bool.and_eq_true, decide_eq_true_eq, Bool.not_eq_true'] at h
    obtain ⟨rfl, rfl, h3, rfl, rfl⟩ := h
    split at h3
    · rename_i c1 bm
      simp only [Bool.and_eq_true, decide_eq_true_eq] at h3
      obtain ⟨rfl, h4⟩ := h3
      exact ⟨nm, q, N, bs, bm, sn, sub, ab, col, dd, k0, k1, k2, k3, k5, rfl, h4⟩
    · cases h3
  · cases h
def excB (K : PySem.W.Frag) (D : Addr) : Bool := decide (PySem.W.findIn K (.ref D) "__getattribute__" = some (some (.builtin "BaseException.__getattribute__"))) && (decide (PySem.W.findIn K (.ref D) "__getattr__" = some none) &&
  (decide (PySem.W.subIn K (.ref D) (.type "BaseException") = some true) && (PySem.W.hasDictIn K D && (decide (PySem.W.findIn K (.ref D) "__class__" = some (some (.builtin "object.__class__"))) &&
  (decide (PySem.W.specialIn K (.builtin "object.__class__") "__get__" = some (some (.builtin "getset_descriptor.__get__"))) && (decide (PySem.W.takesIn K (.builtin "object.__class__") = some true) && decide (PySem.W.mroIn K D (.type "object") = some true)))))))
theorem excB_ok {K : PySem.W.Frag} {D : Addr} (h : excB K D = true) : ExcC K D := by
  unfold excB at h
  simp only [Bool.and_eq_true, decide_eq_true_eq] at h
  obtain ⟨h1, h2, h3, h4, h5, h6, h7, h8⟩ := h
  exact ⟨h1, h2, h3, h4, h5, h6, h7, h8⟩
def exkB (K : PySem.W.Frag) (C : Addr) (newId : String) (T : List Value) : Bool := clsB C newId T (K.lookup C) && (decide (PySem.W.findIn K (.ref C) "__setattr__" = some (some (.builtin "object.__setattr__"))) && (PySem.W.keepIn K (.ref C) && excB K C))
theorem exkB_ok {K : PySem.W.Frag} {C : Addr} {newId : String} {T : List Value} (h : exkB K C newId T = true) : ExK K C newId T := by
  unfold exkB at h
  simp only [Bool.and_eq_true, decide_eq_true_eq] at h
  obtain ⟨h1, h2, h3, h4⟩ := h
  exact ⟨clsB_ok h1, h2, h3, excB_ok h4⟩
theorem ExK.row {K : PySem.W.Frag} {C : Addr} {B newId initId : String} {bmB T : List Value} (e : ExK K C newId T) (R : RowOk B newId initId bmB T) {f : Str} (hf : PySem.W.findIn K (.ref C) f = some none) : ∃ cd, PySem.NpX.StoreRow K C cd f := by
  obtain ⟨nm, q, N, bs, bm, sn, sub, ab, col, dd, k0, k1, k2, k3, k5, hC, hb⟩ := e.cls
  have ht : tailB T (.ref C :: bm) = true := hb
  refine ⟨{ name := nm, bases := bs, mro := .ref C :: bm, ns := N, qualname := q, hasDict := true, slotNames := sn, subclasses := sub, abstract := ab, collection := col, hasDel := false }, ?_, fun self => tailB_pass (R.pass self) _ ht, (tailB_has _ _ ht).trans R.obj, rfl, hf⟩
  unfold PySem.W.clsIn
  rw [hC] <;> rfl
section
variable {X : Cx} {pins : List (Addr × Obj)} {σ : L2.St} {H : Hp} {s : Shared} {a C dx : Addr} {f : Str} {y : V} {u : Value} {fs : List (Str × V)} {Q : Unit → Shared → Prop} {E : Value → Shared → Prop} {A : Around} {B newId initId : String} {bmB T : List Value}
theorem fld_new (e : ExK X.K C newId T) (R : RowOk B newId initId bmB T) (I : Inv X pins σ H s) (ha : H a = some (exo a C none)) (hf : PySem.W.findIn X.K (.ref C) f = some none) (ry : RelV y u)
    (h : ∀ dx s', H dx = none → dx ≠ a → Inv X pins σ (upd (upd H dx (exd dx [(f, y)])) a (exo a C (some dx))) s' → Q () s') : wpAny (model X.prog X.w) A (setAttr (.ref a) f u) Q E s := by
  obtain ⟨cd, S⟩ := e.row R hf
  obtain ⟨t1, ho⟩ := exo_at I.hok ha
  obtain ⟨hp, g, d, t, os⟩ := s
  refine PySem.W.set_plain I.kIn (ox := { cls := .ref C, dict := none, data := .fields #[.ref t1, .none, .none, .none, .bool false, .none] }) (od := none) ⟨ho, rfl, rfl, trivial⟩ e.sa ?_
  refine PySem.NpX.storeNew I.kIn ho S (fun h' tk' dx k dn dne hx hn => ?_)
  have h0 : H dx = none := I.hok.fresh dn
  have far : ∀ {b : Addr} {o : Obj}, hp.get? b = some o → b ≠ dx := fun {b o} q => Nat.ne_of_lt (Nat.lt_of_lt_of_le (Heap.lt_size q) dn)
  have off : ∀ {b : Addr}, H b = none → b ≠ a := fun {b} n z => by
    rw [z, ha] at n
    cases n
  have un : Un X.fs [] H (upd (upd H dx (exd dx [(f, y)])) a (exo a C (some dx))) hp h' := {
    keep := fun b o q n _ _ => k b o (off n) q
    slot := fun b o q n _ _ => ⟨o.slots, k b o (off n) q⟩
    free := fun b o q n _ => by rw [upd_ne (off n), upd_ne (far q)]; exact n
    there := fun b o q _ => by
      by_cases hb : b = a
      · exact ⟨_, by rw [hb]; exact hx⟩
      · exact ⟨o, k b o hb q⟩
    tups := fun b xs q => by rw [upd_ne (at_ne ha q exo_tup), upd_ne (ne_of_none q h0)]; exact q
    frzs := fun b o v q => by rw [upd_ne (at_ne ha q exo_frz), upd_ne (ne_of_none q h0)]; exact q
    tbls := fun b ps q => ⟨#[], by rw [upd_ne (at_ne ha q exo_tbl), upd_ne (ne_of_none q h0), q]; simp⟩ }
  refine h dx _ h0 dne (I.un (t' := tk') un fun b o q => ?_)
  by_cases hb : b = a
  · subst hb
    rw [upd_same] at q
    cases q
    exact exo_ok hx
  · rw [upd_ne hb] at q
    by_cases hd : b = dx
    · subst hd
      rw [upd_same] at q
      cases q
      exact exd_ok hn (relO_put (fs := []) ry fun g => True.intro)
    · rw [upd_ne hd] at q
      exact (I.hok b o q).stay (fun c v hc z => k c v (by
          rcases hc with hc | hc
          · rw [hc]
            exact hb
          · exact at_ne ha hc exo_own) z)
        (fun c hc => by rw [upd_ne (at_ne ha hc exo_own), upd_ne (ne_of_none hc h0)]; exact hc) (fun c xs hc => by rw [upd_ne (at_ne ha hc exo_tup), upd_ne (ne_of_none hc h0)]; exact hc)
theorem fld_old (e : ExK X.K C newId T) (R : RowOk B newId initId bmB T) (I : Inv X pins σ H s) (ha : H a = some (exo a C (some dx))) (hd : H dx = some (exd dx fs)) (hl : fs.length ≤ 900) (hf : PySem.W.findIn X.K (.ref C) f = some none) (ry : RelV y u)
    (h : ∀ s', Inv X pins σ (upd H dx (exd dx ((f, y) :: fs))) s' → Q () s') : wpAny (model X.prog X.w) A (setAttr (.ref a) f u) Q E s := by
  obtain ⟨cd, S⟩ := e.row R hf
  obtain ⟨t1, ho⟩ := exo_at I.hok ha
  obtain ⟨mA, hns, rel⟩ := exd_at I.hok hd
  have hw := within_of rel
  obtain ⟨hp, g, d, t, os⟩ := s
  obtain ⟨oD, _, _, hoD, _, _⟩ := hns.count hw
  refine PySem.W.set_plain I.kIn (ox := { cls := .ref C, dict := some dx, data := .fields #[.ref t1, .none, .none, .none, .bool false, .none] }) (od := some oD) ⟨ho, rfl, rfl, hoD⟩ e.sa ?_
  refine PySem.NpX.storeOld I.kIn ho hns hw (by rw [List.length_map]; omega) S (fun h' tk' k hn => ?_)
  have hd' : ∃ o, h'.get? dx = some o := by
    obtain ⟨o, _, _, e', _⟩ := hn
    exact ⟨o, e'⟩
  exact h _ (I.write (t' := tk') (x := dx) (e := dx) (o := exd dx ((f, y) :: fs)) (by rw [hd]; exact True.intro) (.inl rfl) k hd' (exd_ok hn (relO_put ry rel)))
end
/-- an error class with its row, for a store to its field f -/
def ExS (K : PySem.W.Frag) (C : Addr) (f : Str) : Prop := ∃ B newId initId bmB T, ExK K C newId T ∧ RowOk B newId initId bmB T ∧ PySem.W.findIn K (.ref C) f = some none
/-- self.f = e, self an error that is being made -/
def tFE (K : PySem.W.Frag) (f : Str) (to te : TE) : TS := fun D σ H => te σ H fun y H1 => to σ H1 fun x H2 => ∃ a C : Addr, x = .ref a ∧ ExS K C f ∧
  ((H2 a = some (exo a C none) ∧ ∀ dx, H2 dx = none → dx ≠ a → D.nx σ (upd (upd H2 dx (exd dx [(f, y)])) a (exo a C (some dx)))) ∨
    ∃ (dx : Addr) (fs : List (Str × V)), H2 a = some (exo a C (some dx)) ∧ H2 dx = some (exd dx fs) ∧ fs.length ≤ 900 ∧ D.nx σ (upd H2 dx (exd dx ((f, y) :: fs))))
section
variable {X : Cx} {o e : Expr} {to te : TE} {f : Str} {p' pos : Pos}
theorem ps_fe (ho : PE X o to) (he : PE X e te) (hs : swapsWith e (some (.Attribute o f p')) pos.line X.env = pure false := by rfl) : PS X (.Assign [.Attribute o f p'] e pos) (tFE X.K f to te) := by
  refine ⟨fun pins s σ H D I h => ?_⟩
  refine plainObj_wpAny_Assign_Attribute (thn (he.run pins s σ H _ I h) fun v s1 ⟨y, H1, I1, r1, q1⟩ => thn (ho.run pins s1 σ H1 _ I1 q1) fun u s2 ⟨x, H2, I2, r2, a, C, ex, ⟨B, newId, initId, bmB, T, ek, R, hno⟩, q⟩ => ?_) hs
  subst ex
  obtain rfl : u = Value.ref a := r2
  rcases q with ⟨ea, q⟩ | ⟨dx, fs, ea, ed, hl, q⟩
  · exact fld_new ek R I2 ea hno r1 fun dx s' n ne J => ⟨σ, _, J, q dx n ne⟩
  · exact fld_old ek R I2 ea ed hl hno r1 fun s' J => ⟨σ, _, J, q⟩
end
end Np

set_option Elab.async false
set_option linter.all false
set_option maxRecDepth 100000
set_option maxHeartbeats 4000000
namespace Np
open PySem PySem.Spec PyProof.Rows L2
/-- what C(..) asks: the class, its own __init__ at fI -/
structure MkE (K : PySem.W.Frag) (C fI : Addr) : Prop where
  row : ∃ B newId initId bmB T, ExK K C newId T ∧ RowOk B newId initId bmB T
  init : PySem.W.findIn K (.ref C) "__init__" = some (some (.ref fI))
  fn : PySem.W.typeIn K (.ref fI) = some (.type "function")
/-- C(e, ..) of an own error class: the new error, then its own __init__ -/
def tME (C : Addr) (sp : Sp) (ta : TA) : TE := fun σ H Q => ta σ H fun vs H1 => vs.length ≤ 1000 ∧ ∀ a, H1 a = none → sp (.ref a :: vs) (upd H1 a (exo a C none)) (fun v H2 => v = .non ∧ Q (.ref a) H2) fun _ _ _ => False
/-- C(k = e, ..), g the keywords' values in the parameters' order -/
def tMEK (C : Addr) (sp : Sp) (n : Nat) (g : List V → List V) (ta : TA) : TE := fun σ H Q => ta σ H fun vs H1 => vs.length = n ∧ ∀ a, H1 a = none → sp (.ref a :: g vs) (upd H1 a (exo a C none)) (fun v H2 => v = .non ∧ Q (.ref a) H2) fun _ _ _ => False
section
variable {X : Cx} {CX : CXT} {k : Nat} {C fI : Addr} {fd : FuncData} {ps ks : List Str} {sp : Sp} {x : Str} {e : Expr} {es : List Expr} {kws : List Keyword} {ta : TA} {p pos : Pos}
theorem run_me {pins : List (Addr × Obj)} {σ : L2.St} {H : Hp} {s : Shared} {Q : VK} {us ws : List Value} {kw : List (Str × Value)} {vs : List V} (M : MkE X.K C fI) (F : FnOk X.prog X.w X.K X.mg X.base CX k fI fd ps sp) (hr : Room (k + 1) X.A)
    (hx : Passes CX X fun _ _ _ => False) (I : Inv X pins σ H s) (hb : ∀ (s : Shared) (a : Addr), X.K.In s.heap → ws.length + 1 = ps.length → BindsTo s fd ⟨.ref a :: us, kw⟩ (ps.zip (.ref a :: ws))) (r : Vals vs ws) (hz : us.length ≤ sizeLine)
    (h : ∀ a, H a = none → sp (.ref a :: vs) (upd H a (exo a C none)) (fun v H2 => v = .non ∧ Q (.ref a) H2) fun _ _ _ => False) : wpAny (model X.prog X.w) X.A (call (.ref C) us kw) (EP X pins σ Q) X.xe s := by
  obtain ⟨B, newId, initId, bmB, T, ek, R⟩ := M.row
  obtain ⟨nm, q, N, bs, bm, sn, sub, ab, col, dd, k0, k1, k2, k3, k5, hC, hbm⟩ := ek.cls
  obtain ⟨hp, g, dr, tk, os⟩ := s
  have up : hp.objs.size ≤ hp.objs.size + 1 := Nat.le_succ _
  have hn : H (hp.objs.size + 1) = none := I.hok.fresh up
  have hq := h (hp.objs.size + 1) hn
  have kk : ∀ b o, hp.get? b = some o → ((hp.push (PySem.W.kdv_tup us)).push (PySem.HandSPX.excO C hp.objs.size)).get? b = some o := fun b o e => Heap.get?_push_of_some _ (Heap.get?_push_of_some _ e)
  have hget : ((hp.push (PySem.W.kdv_tup us)).push (PySem.HandSPX.excO C hp.objs.size)).get? (hp.objs.size + 1) = some (PySem.HandSPX.excO C hp.objs.size) := by heap_get
  have I2 : Inv X pins σ (upd H (hp.objs.size + 1) (exo (hp.objs.size + 1) C none)) ⟨(hp.push (PySem.W.kdv_tup us)).push (PySem.HandSPX.excO C hp.objs.size), g, dr, tk, os⟩ :=
    I.laid (t' := tk) (a := hp.objs.size + 1) (o := exo (hp.objs.size + 1) C none) (h' := (hp.push (PySem.W.kdv_tup us)).push (PySem.HandSPX.excO C hp.objs.size)) kk up (exo_ok hget)
  have r2 : Vals (V.ref (hp.objs.size + 1) :: vs) (Value.ref (hp.objs.size + 1) :: ws) := .cons rfl r
  have hl : ws.length + 1 = ps.length := by
    have e := r2.length
    rw [F.len _ _ _ _ hq] at e
    exact e.symm
  refine wpAny_call (calledOwn R.base (R.mro hbm) (I.kIn _ _ hC) (PySem.W.looks_findIn I.kIn M.init) (fun self => PySem.W.bind_fn I.kIn self M.fn) hz
    (codeAny_mono (F.run _ X.stack _ _ ⟨Value.ref (hp.objs.size + 1) :: us, kw⟩ (Value.ref (hp.objs.size + 1) :: ws) _ _ (fun _ _ _ => False) (hr.make C us kw) (I2.env0.make C us kw) (hb _ _ I2.kIn hl) r2 hq) fun r s' hq' => ?_))
  cases r with
  | error er => exact hx pins σ _ _ er s' I2 hq'
  | ok fl =>
    cases fl with
    | ret u =>
      obtain ⟨v, H', I3, rv, ev, q3⟩ := I2.after hq'
      subst ev
      exact ⟨rv, ⟨V.ref (hp.objs.size + 1), H', I3, rfl, q3⟩⟩
    | next => exact False.elim hq'
    | brk => exact False.elim hq'
    | cont => exact False.elim hq'
theorem kC_of (M : MkE X.K C fI) : PySem.W.keepIn X.K (.ref C) = true := by
  obtain ⟨_, _, _, _, _, ek, _⟩ := M.row
  exact ek.kC
theorem len1000 {n : Nat} (h : n ≤ 1000) : n ≤ sizeLine := by
  rw [sizeLine_eq]
  omega
theorem pe_me (M : MkE X.K C fI) (F : FnOk X.prog X.w X.K X.mg X.base CX k fI fd ps sp) (hr : Room (k + 1) X.A) (hb : Binds X.K fd ps []) (hx : Passes CX X fun _ _ _ => False) (hg : Gl X x) (hm : X.mg x = some (.ref C)) (ha : PA X (e :: es) ta)
    (hdb : (x == ("__debug__" : Str)) = false := by decide) (he : starEach (e :: es) X.env = (false, eval e X.env) :: starEach es X.env := by rfl) (hpl : (backTo pos (starEach es X.env)).any (·.1) = false := by rfl) :
    PE X (.Call (.Name x p) (e :: es) [] pos) (tME C sp ta) := by
  refine ⟨fun pins s σ H Q I h => ?_⟩
  refine wpAny_Call_Name_kw (ld_glob I hg hm ?_ hdb)
  refine PySem.W.callWith_K (h₀ := X.base) I.ok.mod.kin (kC_of M) (thn (ha.run pos pins s σ H _ I h) fun us s1 ⟨vs, H1, I1, r, hz, q⟩ => ⟨I1.kIn, ?_⟩) he hpl
  refine run_me (us := us) (ws := us) (kw := []) M F hr hx I1 (fun s a X1 hl => ?_) r (by rw [← r.length]; exact len1000 hz) q
  have b := hb s (.ref a :: us) X1 (by rw [List.append_nil]; exact hl)
  rw [List.append_nil] at b
  exact b
theorem pe_mek {n : Nat} {g : List Value → List Value} {gV : List V → List V} (M : MkE X.K C fI) (F : FnOk X.prog X.w X.K X.mg X.base CX k fI fd ps sp) (hr : Room (k + 1) X.A)
    (hb : ∀ (s : Shared) (a : Addr) (ws : List Value), ws.length = n → BindsTo s fd ⟨[.ref a], ks.zip ws⟩ (ps.zip (.ref a :: g ws))) (hgv : ∀ {zs : List V} {ws : List Value}, Vals zs ws → Vals (gV zs) (g ws))
    (hx : Passes CX X fun _ _ _ => False) (hg : Gl X x) (hm : X.mg x = some (.ref C)) (hkw : PK X kws ta)
    (hall : (backToKw pos (keywordEach kws X.env)).all (·.1.isSome) = true := by rfl) (hks : (backToKw pos (keywordEach kws X.env)).filterMap (·.1) = ks := by rfl) (hdb : (x == ("__debug__" : Str)) = false := by decide)
    (hpl : ((backTo pos (starEach [] X.env)).any (·.1) || (backToKw pos (keywordEach kws X.env)).any (·.1.isNone)) = false := by rfl) :
    PE X (.Call (.Name x p) [] kws pos) (tMEK C sp n gV ta) := by
  refine ⟨fun pins s σ H Q I h => ?_⟩
  refine wpAny_Call_Name_kw (ld_glob I hg hm ?_ hdb)
  refine PySem.W.callWith_KW0 (h₀ := X.base) I.ok.mod.kin (kC_of M) hall ?_ hpl
  refine thn (hkw.run pos pins s σ H _ I h) fun ws s2 ⟨zs, H2, I2, rz, l2, q2⟩ => ⟨I2.kIn, ?_⟩
  rw [hks]
  exact run_me (us := []) (ws := g ws) (kw := ks.zip ws) M F hr hx I2 (fun s a _ _ => hb s a ws (rz.length.symm.trans l2)) (hgv rz) (Nat.zero_le _) q2
/-- err.f of a tracked error -/
def tAE (K : PySem.W.Frag) (f : Str) (te : TE) : TE := fun σ H Q => te σ H fun x H1 => ∃ (a C dx : Addr) (fs : List (Str × V)) (v : V), x = .ref a ∧ H1 a = some (exo a C (some dx)) ∧ H1 dx = some (exd dx fs) ∧ ExcC K C ∧ PySem.W.findIn K (.ref C) f = some none ∧ fs.lookup f = some v ∧ Q v H1
theorem exo_inst {pins : List (Addr × Obj)} {σ : L2.St} {H : Hp} {s : Shared} {a : Addr} {d : Option Addr} (I : Inv X pins σ H s) (ha : H a = some (exo a C d)) (hd : ∀ dx, d = some dx → ∃ fs, H dx = some (exd dx fs)) :
    ∃ ox od, PySem.W.InstAt s.heap a ox C od ∧ (∀ dx, d = some dx → ∃ o, od = some o ∧ s.heap.get? dx = some o) := by
  obtain ⟨t1, ho⟩ := exo_at I.hok ha
  cases d with
  | none => exact ⟨_, none, ⟨ho, rfl, rfl, trivial⟩, fun dx z => by cases z⟩
  | some dx =>
    obtain ⟨fs, hfs⟩ := hd dx rfl
    obtain ⟨mA, hns, _⟩ := exd_at I.hok hfs
    obtain ⟨o, es, ep, h1, h2⟩ := hns
    exact ⟨_, some o, ⟨ho, rfl, rfl, h1⟩, fun dy z => by cases z; exact ⟨o, rfl, h1⟩⟩
theorem pe_ae {te : TE} {f : Str} (he : PE X e te) (hb : attributeBase e f X.env (eval e X.env) = eval e X.env := by rfl) : PE X (.Attribute e f pos) (tAE X.K f te) := by
  refine ⟨fun pins s σ H Q I h => ?_⟩
  refine attr_of hb (thn (he.run pins s σ H _ I h) fun u s1 hh => ?_)
  obtain ⟨y, H1, I1, rx, a, C, dx, fs, v, ex, ea, ed, T, hno, l, q⟩ := hh
  subst ex
  obtain rfl : u = Value.ref a := rx
  obtain ⟨t1, ho⟩ := exo_at I1.hok ea
  obtain ⟨mA, hns, rel⟩ := exd_at I1.hok ed
  obtain ⟨od, hod, hl⟩ := lookIn_ns hns
  obtain ⟨u, hu, ru⟩ := RelO.some_of (v := v) (o := mA f) (by rw [← l]; exact rel f)
  have J : PySem.W.InstAt s1.heap a { cls := .ref C, dict := some dx, data := .fields #[.ref t1, .none, .none, .none, .bool false, .none] } C (some od) := ⟨ho, rfl, rfl, hod⟩
  exact HandSPX.exc_get I1.kIn J T.hg T.hk T.hs (PySem.W.findObj_own T.hd hno rfl (by rw [hl, hu])) (handed_of ru) ⟨v, H1, I1.tok _, ru, q⟩
/-- isinstance(err, c) of a tracked error -/
def rIE (K : PySem.W.Frag) : List V → Hp → VK → Prop := fun xs H Q => ∃ (a C : Addr) (d : Option Addr) (c : V) (cv : Value) (b : Bool), xs = [.ref a, c] ∧ H a = some (exo a C d) ∧ (∀ dx, d = some dx → ∃ fs, H dx = some (exd dx fs)) ∧ ExcC K C ∧ (∀ u, RelV c u → u = cv) ∧ PySem.W.kitOne K (.ref C) cv = some b ∧ Q (.bl b) H
theorem call_ie : CallR X (.builtin "isinstance") (rIE X.K) := by
  intro pins s σ H xs us Q I r h
  obtain ⟨a, C, d, c, cv, b, rfl, ha, hd, T, hcv, e, q⟩ := h
  cases r with
  | cons rx rr =>
    cases rr with
    | cons rt rr =>
      cases rr
      cases rx
      have ec := hcv _ rt
      subst ec
      obtain ⟨ox, od, J, _⟩ := exo_inst I ha hd
      exact PySem.W.kia_one (PySem.W.np_kit T) I.kIn ⟨ox, od, J⟩ e (fun z => nomatch z) fun tk => ⟨.bl b, H, I.kept (t' := tk) fun _ _ z => z, rfl, q⟩
end
end Np

set_option Elab.async false
set_option linter.all false
set_option maxRecDepth 100000
set_option maxHeartbeats 4000000
namespace Np
open PySem PySem.Spec PyProof.Rows L2
/-! ### defs that ask repr: called where no repr is under way -/
structure FnG (P : Program) (w : World) (K : PySem.W.Frag) (mg : Str → Option Value) (base : Heap) (CX : CXT) (k : Nat) (f : Addr) (fd : FuncData) (ps : List Str) (sp : Sp) : Prop where
  len : ∀ vs H Q E, sp vs H Q E → vs.length = ps.length
  run : ∀ (A : Around) (outer : List Env) (s : Shared) (H : Hp) (args : Args) (us : List Value) (vs : List V) (Q : VK) (E : XK), A.guards = some [] → Room k A → Env0 P w K mg base A outer s H → BindsTo s fd args (ps.zip us) → Vals vs us →
    sp vs H Q E → codeAny (model P w) A (.call (.ref f) args) (CR CX outer P w H s Q E) s
theorem FnG.of {P : Program} {w : World} {K : PySem.W.Frag} {mg : Str → Option Value} {base : Heap} {CX : CXT} {k : Nat} {f : Addr} {fd : FuncData} {ps : List Str} {sp : Sp} (F : FnOk P w K mg base CX k f fd ps sp) : FnG P w K mg base CX k f fd ps sp :=
  ⟨F.len, fun A outer s H args us vs Q E _ => F.run A outer s H args us vs Q E⟩
theorem fnG {P : Program} {w : World} {K : PySem.W.Frag} {mg : Str → Option Value} {base : Heap} {x qual : Str} {params : Arguments} {body : List Stmt} {scope : Scope} {dvs : List V} {kws : List (Str × V)} {f : Addr} {fd : FuncData} {CX : CXT} {N ps : List Str} {k : Nat} {sp : Sp}
    (F : FunD K x qual params body scope dvs kws f fd) (S : FnScope N ps scope) (len : ∀ vs H Q E, sp vs H Q E → vs.length = ps.length)
    (hbody : ∀ (cdv : Value) (A : Around) (outer : List Env) (s : Shared) (H : Hp) (vs : List V) (Q : VK) (E : XK), A.guards = some [] → Room k (A.deeper (envOfC qual scope s.heap.objs.size f cdv)) → sp vs H Q E →
      ∃ t, PSs (cxOf CX P w K mg base N qual scope f cdv A outer s H E) body t ∧ t { nx := fun _ H' => Q .non H', rt := Q } (start N vs) H) : FnG P w K mg base CX (k + 1) f fd ps sp := by
  obtain ⟨oc, od, dV, kV, doc, pm, an, cdv, ct, osl, rfl, lk, hcd, _, _⟩ := F.ex
  refine ⟨len, fun A outer s H args us vs Q E hg hr e0 hb r hsp => ?_⟩
  have hl := len _ _ _ _ hsp
  have KX : K.In s.heap := e0.mod.kin.keeps fun b o e => (e0.bs b o e).1
  have lim : s.heap.NoLimit := e0.mod.nolimit.keeps fun b o e => (e0.bs b o e).1
  have kinds : ∀ y ∈ ps.zip us, scope.names.lookup y.1 = some .local ∨ (scope.names.lookup y.1 = some .cell ∧ ((cellsFrom (s.heap.objs.size + 1) scope.names []).lookup y.1).isSome = true) := fun ⟨n, v⟩ hy => by
    rcases S.par n (List.of_mem_zip hy).1 with q | q
    · exact .inl q
    · exact .inr ⟨q, PySem.W.cellsFrom_some _ _ _ (.inl q)⟩
  refine codeAny_call_function hr.depth (KX _ _ lk) rfl S.co S.gen rfl (PySem.W.codeRec_of KX hcd) (hb _ _ _ _ ?_)
  refine wpAny_newFunctionEnv_cells S.kind kinds fun env he s1 x => ?_
  subst he
  refine ⟨lim.keeps x.toInCall.keep, codeAny_func ?_⟩
  obtain ⟨t, ht, hq⟩ := hbody cdv A outer s H vs Q E hg (hr.deeper _) hsp
  have I : Inv (cxOf CX P w K mg base N qual scope f cdv A outer s H E) [] (start N vs) H s1 := inv_start S hr.hd e0 hl r x
  refine wpAny_mono (ht.run [] s1 (start N vs) H _ I hq) (fun fl s' hs => ?_) fun e s' hs => hs
  have fin : ∀ {σ' : L2.St} {H' : Hp} {v : V} {u : Value}, Inv (cxOf CX P w K mg base N qual scope f cdv A outer s H E) [] σ' H' s' → RelV v u → Q v H' → CE outer P w H s Q u s' :=
    fun {σ' H' v u} J rv q => ⟨v, H', J.os, J.bare, J.base, J.hok, rv, q⟩
  cases fl with
  | ret u =>
    obtain ⟨v, σ', H', J, rv, q⟩ := hs
    exact fin J rv q
  | next =>
    obtain ⟨σ', H', J, q⟩ := hs
    exact fin (v := V.non) (u := Value.none) J rfl q
  | brk =>
    obtain ⟨_, _, _, q⟩ := hs
    exact False.elim q
  | cont =>
    obtain ⟨_, _, _, q⟩ := hs
    exact False.elim q
section
variable {X : Cx} {CX : CXT} {k : Nat} {f C : Addr} {fd : FuncData} {ps : List Str} {sp : Sp} {dvs : List V} {ds : List Value} {E : XK} {x m : Str} {p pos apos : Pos} {e o : Expr} {es : List Expr} {ta : TE} {t : TA}
theorem run_fnG {pins : List (Addr × Obj)} {σ : L2.St} {H : Hp} {s : Shared} {Q : VK} {us : List Value} {vs : List V} (F : FnG X.prog X.w X.K X.mg X.base CX k f fd ps sp) (hg : X.A.guards = some []) (hr : Room k X.A) (hb : Binds X.K fd ps ds) (hd : Vals dvs ds) (hx : Passes CX X E)
    (I : Inv X pins σ H s) (r : Vals vs us) (h : sp (vs ++ dvs) H Q E) : wpAny (model X.prog X.w) X.A (call (.ref f) us) (EP X pins σ Q) X.xe s := by
  have r2 : Vals (vs ++ dvs) (us ++ ds) := r.append hd
  have hl : (us ++ ds).length = ps.length := r2.length.symm.trans (F.len _ _ _ _ h)
  refine wpAny_call (codeAny_mono (F.run X.A X.stack s H ⟨us, []⟩ (us ++ ds) (vs ++ dvs) Q E hg hr I.env0 (hb s us I.kIn hl) r2 h) fun r s' hq => ?_)
  cases r with
  | error e => exact hx pins σ H s e s' I hq
  | ok fl =>
    cases fl with
    | ret u => exact I.after hq
    | next => exact False.elim hq
    | brk => exact False.elim hq
    | cont => exact False.elim hq
theorem pe_callG (F : FnG X.prog X.w X.K X.mg X.base CX k f fd ps sp) (hgd : X.A.guards = some []) (hr : Room k X.A) (hg : Gl X x) (hm : X.mg x = some (.ref f)) (hk : PySem.W.keepIn X.K (.ref f) = true) (hb : Binds X.K fd ps ds) (hd : Vals dvs ds) (hx : Passes CX X E)
    (ha : PA X (e :: es) t) (hdb : (x == ("__debug__" : Str)) = false := by decide) (he : starEach (e :: es) X.env = (false, eval e X.env) :: starEach es X.env := by rfl) (hpl : (backTo pos (starEach es X.env)).any (·.1) = false := by rfl) :
    PE X (.Call (.Name x p) (e :: es) [] pos) (tCall sp dvs E t) := by
  refine ⟨fun pins s σ H Q I h => ?_⟩
  refine wpAny_Call_Name_kw (ld_glob I hg hm ?_ hdb)
  refine PySem.W.callWith_K (h₀ := X.base) I.ok.mod.kin hk (thn (ha.run pos pins s σ H _ I h) fun us s1 ⟨vs, H1, I1, r, q⟩ => ⟨I1.kIn, ?_⟩) he hpl
  exact run_fnG F hgd hr hb hd hx I1 r q
/-- repr of data: None, bools, ints, texts, lists and tuples of these -/
def rRepr (K : PySem.W.Frag) : List V → Hp → VK → Prop := fun xs H Q => ∃ v d, xs = [v] ∧ Dp K H v d ∧ d.showable = true ∧ d.hasDict = false ∧ d.depth ≤ 30 ∧ d.shown.length ≤ sizeLine ∧ Q (.str d.shown) H
theorem call_repr (hgd : X.A.guards = some []) (hu : X.A.units + 64 < cLine) : CallR X (.builtin "repr") (rRepr X.K) := by
  intro pins s σ H xs us Q I r h
  obtain ⟨v, d, rfl, hd, hs, hn, hdp, hz, q⟩ := h
  cases r with
  | cons rx rr =>
    cases rr
    cases hd with
    | non =>
      cases rx
      exact PySem.P.repr_of_none ⟨.str _, H, I.tok _, ⟨_, rfl⟩, q⟩
    | bl b =>
      cases rx
      exact PySem.P.repr_of_bool ⟨.str _, H, I.tok _, ⟨_, rfl⟩, q⟩
    | int i =>
      obtain ⟨t, rfl⟩ := rx
      exact PySem.P.repr_of_int (of_decide_eq_true (by simpa [PyData.showable] using hs)) ⟨.str _, H, I.tok _, ⟨_, rfl⟩, by simpa [PyData.shown] using q⟩
    | str x =>
      obtain ⟨t, rfl⟩ := rx
      exact PySem.P.repr_of_str ⟨.str _, H, I.tok _, ⟨_, rfl⟩, by simpa [PyData.shown] using q⟩ (by simpa [PyData.shown] using hz)
    | lst hl ha =>
      cases rx
      obtain ⟨as, rd⟩ := Dp.reads I _ _ _ (Dp.lst hl ha) rfl
      exact repr_of_reads' rd hs (fun z => by rw [hn] at z; cases z) hgd (by omega) (fun _ _ e => e) (fun h' u tk hk => ⟨.str _, H, I.kept (t' := tk) hk, ⟨_, rfl⟩, q⟩) hz
    | tup hl ha =>
      cases rx
      obtain ⟨as, rd⟩ := Dp.reads I _ _ _ (Dp.tup hl ha) rfl
      exact repr_of_reads' rd hs (fun z => by rw [hn] at z; cases z) hgd (by omega) (fun _ _ e => e) (fun h' u tk hk => ⟨.str _, H, I.kept (t' := tk) hk, ⟨_, rfl⟩, q⟩) hz
end
end Np

set_option Elab.async false
set_option linter.all false
set_option maxRecDepth 100000
set_option maxHeartbeats 4000000
namespace Np
open PySem PySem.Spec PyProof.Rows L2
/-- the law's def runs at the heap behind the top and gives True -/
theorem lawRun {P : Program} {w : World} {K : PySem.W.Frag} {mg mb : Str → Option Value} {k : Nat} {fa a : Addr} {fd : FuncData} {x : Str} {sp : Sp} {s₁ : Shared} {vs : List Value} {ns : List Int}
    (KX : K.In s₁.heap) (hns : s₁.heap.Ns mainGlobals mg) (hb : s₁.heap.Ns builtinsNs mb) (hbb : ∀ x : Str, x ≠ "__name__" → mb x = bootBuiltins x) (hlim : s₁.heap.NoLimit) (hgen : s₁.gens = #[])
    (ha : s₁.heap.get? a = some { cls := .type "list", data := .seq vs.toArray }) (hi : IntsAre vs ns) (hl : ns.length ≤ sizeLine) (hr : Room k callerA)
    (F : ∀ base : Heap, K.In base → base.Ns mainGlobals mg → FnG P w K mg base CX0 k fa fd [x] sp) (hbind : ∀ (s : Shared) (u : Value), BindsTo s fd ⟨[u], []⟩ [(x, u)])
    (hsp : ∀ H : Hp, Only H → SqL K H a (ns.map V.int) → sp [.ref a] H (fun v _ => v = .bl true) fun _ _ _ => False) :
    codeAny (model P w) callerA (.call (.ref fa) ⟨[.ref a], []⟩) (fun r s' => r = .ok (.ret (.bool true)) ∧ OldK s₁.heap s'.heap ∧ s'.os = s₁.os ∧ AllBare s'.gens) s₁ := by
  have rv := vals_ints hi
  have lv := hi.length
  -- the run, from a heap in which the script alone may be told
  have go : ∀ H : Hp, Only H → SqL K H a (ns.map V.int) → HOk P w H s₁.heap → (∀ b, H b ≠ none → b = a) → (H a ≠ none → K.lookup a = none) →
      codeAny (model P w) callerA (.call (.ref fa) ⟨[.ref a], []⟩) (fun r s' => r = .ok (.ret (.bool true)) ∧ OldK s₁.heap s'.heap ∧ s'.os = s₁.os ∧ AllBare s'.gens) s₁ := by
    intro H hO hS ok only out
    have sees : ∀ {b : Addr} {o : Obj} {es : Array DictEntry} {ep : Nat}, s₁.heap.get? b = some o → o.data = .dict es ep → H b = none := by
      intro b o es ep e dd
      cases q : H b with
      | none => rfl
      | some u =>
        obtain rfl : b = a := only b (by rw [q]; exact fun z => nomatch z)
        rw [ha] at e
        cases e
        have z : Data.seq vs.toArray _ = Data.dict es ep := dd
        cases z
    have names : ∀ {b : Addr} {m : Str → Option Value}, s₁.heap.Ns b m → (hidT s₁.heap H).Ns b m := fun {b m} ⟨o, es, ep, e, dd, r⟩ => ⟨o, es, ep, hidT_get e (sees e dd), dd, r⟩
    have KB : K.In (hidT s₁.heap H) := by
      intro b o e
      refine hidT_get (KX b o e) ?_
      cases q : H b with
      | none => rfl
      | some u =>
        obtain rfl : b = a := only b (by rw [q]; exact fun z => nomatch z)
        rw [out (by rw [q]; exact fun z => nomatch z)] at e
        cases e
    have md : Mod K mg (hidT s₁.heap H) := by
      obtain ⟨mc, h1, h2⟩ := hlim
      exact ⟨KB, names hns, ⟨mb, names hb, hbb⟩, ⟨mc, names h1, h2⟩⟩
    have e0 : Env0 P w K mg (hidT s₁.heap H) callerA [] s₁ H :=
      { frames := rfl, mod := md, bs := fun b o e => of_hidT e, bsz := Nat.le_of_eq (hidT_size _ _), funs := trivial, frf := fun b hb => absurd (show b ∈ ([] : List Addr) from hb) (by simp), hok := ok, bare := .of_eq hgen }
    have run := (F _ KB (names hns)).run callerA [] s₁ H ⟨[.ref a], []⟩ [.ref a] [.ref a] _ _ rfl hr e0 (hbind s₁ (.ref a)) (.cons rfl .nil) (hsp H hO hS)
    refine codeAny_mono run fun r s' h => ?_
    match r, h with
    | .error e, h => exact False.elim h
    | .ok .next, h => exact False.elim h
    | .ok .brk, h => exact False.elim h
    | .ok .cont, h => exact False.elim h
    | .ok (.ret u), h =>
      obtain ⟨v, H', os, bare, un, ok', ru, q⟩ := h
      obtain rfl : v = .bl true := q
      obtain rfl : u = Value.bool true := ru
      refine ⟨rfl, OldK.of_keep fun b o e => ?_, os, bare⟩
      have nil : b ∉ ([] : List Addr) := by simp
      rcases hO b with z | ⟨ob, xs, z⟩
      · exact un.keep b o e z nil nil
      · have z2 := un.frzs b ob _ z
        have e1 := (ok b _ z).1
        have e2 := (ok' b _ z2).1
        rw [e] at e1
        cases e1
        exact e2
  cases hk : K.lookup a with
  | some o =>
    have e := KX a o hk
    rw [ha] at e
    cases e
    refine go (fun _ => none) (fun _ => .inl rfl) (.inr ⟨_, vs.toArray, _, hk, rfl, rfl, rfl, ?_, ?_⟩) ?_ (fun b z => absurd rfl z) fun z => absurd rfl z
    · rw [List.size_toArray, lv]; exact hl
    · simpa using rv
    · intro b u z
      cases (show (none : Option HO) = some u from z)
  | none =>
    let H : Hp := fun b => if b = a then some (.frz { cls := .type "list", data := .seq vs.toArray } (.lst (ns.map V.int))) else none
    have at_a : H a = some (.frz { cls := .type "list", data := .seq vs.toArray } (.lst (ns.map V.int))) := if_pos rfl
    have off_a : ∀ {b : Addr}, b ≠ a → H b = none := fun {b} h => if_neg h
    refine go H (fun b => ?_) (.inl (.inr ⟨_, at_a⟩)) (fun b u z => ?_) (fun b z => ?_) fun _ => hk
    · by_cases h : b = a
      · rw [h]; exact .inr ⟨_, _, at_a⟩
      · exact .inl (off_a h)
    · by_cases h : b = a
      · subst h
        rw [at_a] at z
        cases z
        exact ⟨ha, by rw [List.length_map]; exact hl, vs, _, rv, ha⟩
      · rw [off_a h] at z
        cases z
    · by_cases h : b = a
      · exact h
      · exact absurd (off_a h) z
/-- the end of a law's row over a head by facts: F gives the written part, the law's function object, its promise -/
theorem walkG {l : PySem.W.OpenLaw} {n k : Nat} {q : Program} {loose : List Str} {XP : (Str → Option Value) → Heap → Prop} {YP : World → Heap → Prop} {d : DefRec} {x : Str}
    (hn : l.most = some n) (hn2 : n ≤ sizeLine) (hdf : d.params.defaults = []) (hr : Room k callerA)
    (F : ∀ (w : World) (mg : Str → Option Value) (fa : Addr) (h : Heap), YP w h → h.Ns mainGlobals mg → mg d.name = some (.ref fa) →
      ∃ (K : PySem.W.Frag) (fd : FuncData) (sp : Sp), K.In h ∧ (∀ (s : Shared) (u : Value), BindsTo s fd ⟨[u], []⟩ [(x, u)]) ∧
        (∀ (H : Hp) (a : Addr) (ns : List Int), ns.length ≤ n → (∀ z ∈ ns, Builtin.Int.intBits z ≤ 1048576) → Only H → SqL K H a (ns.map V.int) → sp [.ref a] H (fun v _ => v = .bl true) fun _ _ _ => False) ∧
        ∀ base : Heap, K.In base → base.Ns mainGlobals mg → FnG l.prog w K mg base CX0 k fa fd [x] sp) :
    PySem.W.WalkO q loose XP YP l.row.toRowW d [] (fun f vs => PySem.call f vs) := by
  refine Att.attach_callB hn hdf fun w s₀ s₁ mg mb fa o pm cd doc a vs ns G Y ho hd hcd hmg hobj hints hlen hbits hg => ?_
  obtain ⟨K, fd, sp, KX, hb, hsp, hF⟩ := F w mg fa _ Y G.T.g hmg
  exact lawRun KX G.T.g G.T.b G.T.builtins G.T.nolimit hg hobj hints (Nat.le_trans hlen hn2) hr hF hb fun H hO hS => hsp H a ns hlen hbits hO hS
end Np

set_option Elab.async false
set_option linter.all false
set_option maxRecDepth 100000
set_option maxHeartbeats 4000000
namespace Np
open PySem PySem.Spec PyProof.Rows L2
/-- a def of the module, by its name: it keeps sp -/
def Callee (P : Program) (w : World) (K : PySem.W.Frag) (mg : Str → Option Value) (base : Heap) (k : Nat) (x : Str) (ps : List Str) (sp : Sp) : Prop :=
  ∃ (f : Addr) (fd : FuncData), mg x = some (.ref f) ∧ FnOk P w K mg base CX0 k f fd ps sp ∧ PySem.W.keepIn K (.ref f) = true ∧ Binds K fd ps []
def CalleeG (P : Program) (w : World) (K : PySem.W.Frag) (mg : Str → Option Value) (base : Heap) (k : Nat) (x : Str) (ps : List Str) (sp : Sp) : Prop :=
  ∃ (f : Addr) (fd : FuncData), mg x = some (.ref f) ∧ FnG P w K mg base CX0 k f fd ps sp ∧ PySem.W.keepIn K (.ref f) = true ∧ Binds K fd ps []
section
variable {X : Cx} {k : Nat} {x : Str} {ps : List Str} {sp : Sp} {p pos : Pos} {e : Expr} {es : List Expr} {t : TA}
theorem pe_callC (c : Callee X.prog X.w X.K X.mg X.base k x ps sp) (hr : Room k X.A) (ha : PA X (e :: es) t) (hg : Gl X x := by rfl) (hdb : (x == ("__debug__" : Str)) = false := by decide)
    (he : starEach (e :: es) X.env = (false, eval e X.env) :: starEach es X.env := by rfl) (hpl : (backTo pos (starEach es X.env)).any (·.1) = false := by rfl) : PE X (.Call (.Name x p) (e :: es) [] pos) (tCall sp [] E0 t) := by
  obtain ⟨f, fd, hm, F, hk, hb⟩ := c
  exact pe_call F hr hg hm hk hb .nil pass0 ha hdb he hpl
theorem pe_callCG (hgd : X.A.guards = some []) (c : CalleeG X.prog X.w X.K X.mg X.base k x ps sp) (hr : Room k X.A) (ha : PA X (e :: es) t) (hg : Gl X x := by rfl) (hdb : (x == ("__debug__" : Str)) = false := by decide)
    (he : starEach (e :: es) X.env = (false, eval e X.env) :: starEach es X.env := by rfl) (hpl : (backTo pos (starEach es X.env)).any (·.1) = false := by rfl) : PE X (.Call (.Name x p) (e :: es) [] pos) (tCall sp [] E0 t) := by
  obtain ⟨f, fd, hm, F, hk, hb⟩ := c
  exact pe_callG F hgd hr hg hm hk hb .nil pass0 ha hdb he hpl
end
/-- a def of the text without defaults, as it stands behind the top -/
abbrev FnT (K : PySem.W.Frag) (x : Str) (st : Stmt) (f : Addr) (fd : FuncData) : Prop := FunD K x x (defArgs st) (defBody st) (defScope st) [] [] f fd
theorem upd_none {H : Hp} {p q : Addr} {o : HO} (h : upd H p o q = none) : q ≠ p ∧ H q = none := by
  by_cases e : q = p
  · rw [e, upd_same] at h
    cases h
  · rw [upd_ne e] at h
    exact ⟨e, h⟩
/-- all but p is as it was -/
def But (p : Addr) (H H' : Hp) : Prop := ∀ b o, b ≠ p → H b = some o → H' b = some o
theorem But.upd {p : Addr} {H : Hp} {o : HO} : But p H (L2.upd H p o) := fun b u n h => by rw [upd_ne n]; exact h
theorem But.trans {p : Addr} {H H1 H2 : Hp} (a : But p H H1) (b : But p H1 H2) : But p H H2 := fun c o n h => b c o n (a c o n h)
theorem But.of {p : Addr} {H H' : Hp} (a : Same H H') : But p H H' := fun c o _ h => a c o h
theorem Same.new {H : Hp} {p : Addr} {o : HO} (h : H p = none) : Same H (L2.upd H p o) := fun b u q => by rw [upd_ne (ne_of_none q h)]; exact q
end Np

set_option Elab.async false
set_option linter.all false
set_option maxRecDepth 100000
set_option maxHeartbeats 4000000
namespace Np
open PySem PySem.Spec PyProof.Rows L2
/-- the error at e, of the class at C, with these fields -/
def ErrAt (H : Hp) (e C : Addr) (fs : List (Str × V)) : Prop := (fs = [] ∧ H e = some (exo e C none)) ∨ ∃ dx, H e = some (exo e C (some dx)) ∧ H dx = some (exd dx fs)
theorem ErrAt.mono {H H' : Hp} {e C : Addr} {fs : List (Str × V)} (s : Same H H') (h : ErrAt H e C fs) : ErrAt H' e C fs := by
  rcases h with ⟨h1, h2⟩ | ⟨dx, h1, h2⟩
  · exact .inl ⟨h1, s _ _ h2⟩
  · exact .inr ⟨dx, s _ _ h1, s _ _ h2⟩
theorem ErrAt.at {H : Hp} {e C : Addr} {fs : List (Str × V)} (h : ErrAt H e C fs) : ∃ d, H e = some (exo e C d) ∧ ∀ dx, d = some dx → ∃ fs, H dx = some (exd dx fs) := by
  rcases h with ⟨_, h2⟩ | ⟨dx, h1, h2⟩
  · exact ⟨none, h2, fun _ z => nomatch z⟩
  · exact ⟨some dx, h1, fun _ z => by cases z; exact ⟨fs, h2⟩⟩
theorem ErrAt.dict {H : Hp} {e C : Addr} {p : Str × V} {fs : List (Str × V)} (h : ErrAt H e C (p :: fs)) : ∃ dx, H e = some (exo e C (some dx)) ∧ H dx = some (exd dx (p :: fs)) := by
  rcases h with ⟨h1, _⟩ | h
  · cases h1
  · exact h
/-- __init__ of an error class: the fields fs, in this order -/
def spInit (C : Addr) (fs : List Str) : Sp := fun vs H Q _ => ∃ (a : Addr) (ws : List V), vs = .ref a :: ws ∧ ws.length = fs.length ∧ H a = some (exo a C none) ∧
  ∀ (dx : Addr) (H' : Hp), H dx = none → But a H H' → H' a = some (exo a C (some dx)) → H' dx = some (exd dx (fs.zip ws).reverse) → Q .non H'
theorem spInit_len {C : Addr} {fs : List Str} : ∀ vs H Q E, spInit C fs vs H Q E → vs.length = (("self" : Str) :: fs).length := by
  rintro vs H Q E ⟨a, ws, rfl, hl, _⟩
  exact congrArg Nat.succ hl
/-- an error class of the module, made by its own __init__ (its text: st) with the fields fs -/
def ErrC (P : Program) (w : World) (K : PySem.W.Frag) (mg : Str → Option Value) (base : Heap) (x q : Str) (st : Stmt) (fs : List Str) : Prop :=
  ∃ (fI : Addr) (fd : FuncData), mg x = some (.ref (He.ga K x)) ∧ MkE K (He.ga K x) fI ∧ FnOk P w K mg base CX0 1 fI fd (("self" : Str) :: fs) (spInit (He.ga K x) fs) ∧ FunD K "__init__" q (defArgs st) (defBody st) (defScope st) [] [] fI fd ∧ Binds K fd (("self" : Str) :: fs) []
theorem err_step {C : Addr} {fs : List Str} {ws : List V} {H : Hp} {Q : VK} (hl : ws.length = fs.length) (h : ∀ e H', H e = none → Same H H' → ErrAt H' e C (fs.zip ws).reverse → Q (.ref e) H') :
    ∀ a, H a = none → spInit C fs (.ref a :: ws) (upd H a (exo a C none)) (fun v H2 => v = .non ∧ Q (.ref a) H2) fun _ _ _ => False := fun a ha =>
  ⟨a, ws, rfl, hl, upd_same, fun dx H' n b h1 h2 => ⟨rfl, h a H' ha (fun c o q => b c o (ne_of_none q ha) (by rw [upd_ne (ne_of_none q ha)]; exact q)) (.inr ⟨dx, h1, h2⟩)⟩⟩
def tErr (x : Str) (fs : List Str) (K : PySem.W.Frag) (ta : TA) : TE := fun σ H Q => ta σ H fun ws H1 => ws.length = fs.length ∧ ∀ e H', H1 e = none → Same H1 H' → ErrAt H' e (He.ga K x) (fs.zip ws).reverse → Q (.ref e) H'
def tErrK (x : Str) (fs : List Str) (K : PySem.W.Frag) (g : List V → List V) (ta : TA) : TE := fun σ H Q => ta σ H fun ws H1 => ws.length = fs.length ∧ ∀ e H', H1 e = none → Same H1 H' → ErrAt H' e (He.ga K x) (fs.zip (g ws)).reverse → Q (.ref e) H'
theorem PE.imp {X : Cx} {e : Expr} {t u : TE} (h : PE X e t) (i : ∀ σ H Q, u σ H Q → t σ H Q) : PE X e u := ⟨fun pins s σ H Q I q => h.run pins s σ H Q I (i σ H Q q)⟩
/-- readings are monotone: what a PA's reading is used for -/
def MonoA (t : TA) : Prop := ∀ σ H Q Q', (∀ vs H', Q vs H' → Q' vs H') → t σ H Q → t σ H Q'
def MonoE (t : TE) : Prop := ∀ σ H Q Q', (∀ v H', Q v H' → Q' v H') → t σ H Q → t σ H Q'
theorem mono_nil : MonoA tNil := fun _ _ _ _ h q => h _ _ q
theorem mono_var {i : Nat} : MonoE (tVar i) := fun _ _ _ _ h ⟨v, e, q⟩ => ⟨v, e, h _ _ q⟩
theorem mono_cons {t : TE} {u : TA} (a : MonoE t) (b : MonoA u) : MonoA (tCons t u) := fun σ H Q Q' h q => a σ H _ _ (fun x H1 q1 => b σ H1 _ _ (fun xs H2 q2 => h _ _ q2) q1) q
section
variable {X : Cx} {x q : Str} {st : Stmt} {fs ks : List Str} {e : Expr} {es : List Expr} {kws : List Keyword} {ta : TA} {p pos : Pos}
theorem pe_err (c : ErrC X.prog X.w X.K X.mg X.base x q st fs) (hr : Room 2 X.A) (ha : PA X (e :: es) ta) (hm : MonoA ta) (hn : fs.length ≤ 1000 := by decide) (hg : Gl X x := by rfl) (hdb : (x == ("__debug__" : Str)) = false := by decide)
    (he : starEach (e :: es) X.env = (false, eval e X.env) :: starEach es X.env := by rfl) (hpl : (backTo pos (starEach es X.env)).any (·.1) = false := by rfl) : PE X (.Call (.Name x p) (e :: es) [] pos) (tErr x fs X.K ta) := by
  obtain ⟨fI, fd, hmg, M, F, _, hb⟩ := c
  refine PE.imp (pe_me M F hr hb pass0 hg hmg ha hdb he hpl) fun σ H Q q => hm σ H _ _ (fun vs H1 q1 => ?_) q
  exact ⟨by omega, err_step q1.1 q1.2⟩
theorem pe_errK {g : {α : Type} → List α → List α} (c : ErrC X.prog X.w X.K X.mg X.base x q st fs) (hr : Room 2 X.A) (ha : PK X kws ta) (hm : MonoA ta)
    (hb : ∀ (kV doc pm : Value) (an : Option Addr) (cdv ct : Value) (a : Addr) (ws : List Value), ws.length = fs.length → bindArgs (PySem.W.fnOf "__init__" q (defArgs st) (defBody st) (defScope st) .none kV doc pm an cdv ct) ⟨[.ref a], ks.zip ws⟩ = pure ((("self" : Str) :: fs).zip (.ref a :: g ws)))
    (hgv : ∀ {zs : List V} {ws : List Value}, Vals zs ws → Vals (g zs) (g ws)) (hl : ∀ zs : List V, zs.length = fs.length → (g zs).length = fs.length)
    (hall : (backToKw pos (keywordEach kws X.env)).all (·.1.isSome) = true := by rfl) (hks : (backToKw pos (keywordEach kws X.env)).filterMap (·.1) = ks := by rfl) (hg : Gl X x := by rfl) (hdb : (x == ("__debug__" : Str)) = false := by decide)
    (hpl : ((backTo pos (starEach [] X.env)).any (·.1) || (backToKw pos (keywordEach kws X.env)).any (·.1.isNone)) = false := by rfl) : PE X (.Call (.Name x p) [] kws pos) (tErrK x fs X.K g ta) := by
  obtain ⟨fI, fd, hmg, M, F, FD, _⟩ := c
  obtain ⟨oc, od, dV, kV, doc, pm, an, cdv, ct, osl, rfl, lk, hcd, hD, hK⟩ := FD.ex
  rcases hD with ⟨_, rfl⟩ | ⟨z, _⟩
  · refine PE.imp (pe_mek (n := fs.length) (g := g) (gV := g) M F hr (fun s a ws hw => .of_eq (hb kV doc pm an cdv ct a ws hw)) hgv pass0 hg hmg ha hall hks hdb hpl) fun σ H Q q => hm σ H _ _ (fun vs H1 q1 => ?_) q
    exact ⟨q1.1, err_step (hl _ q1.1) q1.2⟩
  · exact absurd rfl z
/-- an error class without an own __init__, called with nothing -/
structure ErrN (K : PySem.W.Frag) (mg : Str → Option Value) (x : Str) : Prop where
  mgx : mg x = some (.ref (He.ga K x))
  q : PySem.W.excIn K (He.ga K x) rowV "ValueError.__new__" = true
  kC : PySem.W.keepIn K (.ref (He.ga K x)) = true
def tErrN (x : Str) (K : PySem.W.Frag) : TE := fun _ H Q => ∀ e H', H e = none → Same H H' → ErrAt H' e (He.ga K x) [] → Q (.ref e) H'
theorem pe_errN (c : ErrN X.K X.mg x) (hg : Gl X x := by rfl) (hdb : (x == ("__debug__" : Str)) = false := by decide) : PE X (.Call (.Name x p) [] [] pos) (tErrN x X.K) := by
  refine ⟨fun pins s σ H Q I h => ?_⟩
  refine wpAny_Call_Name_kw (ld_glob I hg c.mgx ?_ hdb)
  refine PySem.W.callWith_K0 I.kIn c.kC ?_
  obtain ⟨bm, N, nm, qn, bs, hdct, sn, sub, ab, col, dd, k0, k1, k2, k3, k5, mN, hC, hN, hni, T⟩ := exc_obj I.kIn c.q
  obtain ⟨hp, g, dr, tk, os⟩ := s
  refine wpAny_call_exc_subT PySem.F.excBase_ValueError T hC hN hni (fun h' a hm => ?_) (Nat.zero_le _)
  have hn : H a = none := I.hok.gone hm.new
  obtain ⟨t, ht, _, _⟩ := hm.there
  exact ⟨.ref a, upd H a (exo a (He.ga X.K x) none), I.laidN hm.keeps hm.new hn (exo_ok ht), rfl, h a _ hn (Same.new hn) (.inl ⟨rfl, upd_same⟩)⟩
end
end Np

set_option Elab.async false
set_option linter.all false
set_option maxRecDepth 100000
set_option maxHeartbeats 4000000
namespace Np
open PySem PySem.Spec PyProof.Rows L2
/-- data that repr tells: at most dep deep, its text at most len long -/
structure Good (dep len : Nat) (d : PyData) : Prop where
  s : d.showable = true
  n : d.hasDict = false
  dp : d.depth ≤ dep
  l : d.shown.length ≤ len
theorem Good.mono {a b m n : Nat} {d : PyData} (h : Good a m d) (h1 : a ≤ b) (h2 : m ≤ n) : Good b n d := ⟨h.s, h.n, Nat.le_trans h.dp h1, Nat.le_trans h.l h2⟩
theorem all_good {k L : Nat} : ∀ {ds : List PyData}, (∀ d ∈ ds, Good k L d) → PyData.showableAll ds = true ∧ PyData.hasDictAll ds = false ∧ PyData.depthAll ds ≤ k ∧ (PyData.shownAll ds).length = ds.length ∧ ((PyData.shownAll ds).map (·.length)).sum ≤ L * ds.length
  | [], _ => ⟨rfl, rfl, Nat.zero_le _, rfl, Nat.zero_le _⟩
  | d :: ds, h => by
    obtain ⟨h1, h2, h3, h4, h5⟩ := all_good (ds := ds) fun e he => h e (List.mem_cons_of_mem _ he)
    have g := h d List.mem_cons_self
    refine ⟨?_, ?_, ?_, ?_, ?_⟩
    · simp only [PyData.showableAll, g.s, h1, Bool.and_self]
    · simp only [PyData.hasDictAll, g.n, h2, Bool.or_self]
    · simp only [PyData.depthAll]
      exact Nat.max_le.mpr ⟨g.dp, h3⟩
    · simp only [PyData.shownAll, List.length_cons, h4]
    · simp only [PyData.shownAll, List.map_cons, List.sum_cons, List.length_cons]
      have := g.l
      rw [Nat.mul_succ]
      omega
theorem good_list {k L : Nat} {ds : List PyData} (h : ∀ d ∈ ds, Good k L d) : Good (k + 1) ((L + 2) * ds.length + 3) (.list ds) := by
  obtain ⟨h1, h2, h3, h4, h5⟩ := all_good h
  refine ⟨by simpa only [PyData.showable] using h1, by simpa only [PyData.hasDict] using h2, by simp only [PyData.depth]; omega, ?_⟩
  simp only [PyData.shown]
  have e := listText_len_le (PyData.shownAll ds)
  rw [h4] at e
  rw [Nat.add_mul]
  omega
theorem good_tuple {k L : Nat} {ds : List PyData} (h : ∀ d ∈ ds, Good k L d) : Good (k + 1) ((L + 2) * ds.length + 3) (.tuple ds) := by
  obtain ⟨h1, h2, h3, h4, h5⟩ := all_good h
  refine ⟨by simpa only [PyData.showable] using h1, by simpa only [PyData.hasDict] using h2, by simp only [PyData.depth]; omega, ?_⟩
  simp only [PyData.shown]
  have e := tupleText_len_le (PyData.shownAll ds)
  rw [h4] at e
  rw [Nat.add_mul]
  omega
theorem good_int {i : Int} {n : Nat} (hn : 0 < n) (hm : n ≤ 1920) (h : i.natAbs.log2 < n) : Good 0 (n + 1) (.int i) := by
  refine ⟨by simp only [PyData.showable]; exact decide_eq_true (by omega), by simp only [PyData.hasDict], by simp only [PyData.depth]; omega, ?_⟩
  simp only [PyData.shown]
  have e := int_text_length_le hn h
  rw [PySem.ofString_length]
  exact e
theorem good_str {x : Str} {n : Nat} (hl : x.length ≤ n) (h : ∀ c ∈ x.cps.toList, c < 16 ^ 8) : Good 0 (10 * n + 2) (.str x) := by
  refine ⟨by simp only [PyData.showable], by simp only [PyData.hasDict], by simp only [PyData.depth]; omega, ?_⟩
  simp only [PyData.shown]
  have e := StrLaws.reprText_len x h
  omega
theorem good_non : Good 0 4 .none := ⟨by simp only [PyData.showable], by simp only [PyData.hasDict], by simp only [PyData.depth]; omega, by simp only [PyData.shown]; decide⟩
theorem good_bool (b : Bool) : Good 0 5 (.bool b) := ⟨by simp only [PyData.showable], by simp only [PyData.hasDict], by simp only [PyData.depth]; omega, by cases b <;> simp only [PyData.shown] <;> decide⟩
/-- a value that repr tells -/
def Tells (K : PySem.W.Frag) (H : Hp) (k L : Nat) (v : V) : Prop := ∃ d, Dp K H v d ∧ Good k L d
theorem tells_all {K : PySem.W.Frag} {H : Hp} {k L : Nat} : ∀ {vs : List V}, (∀ v ∈ vs, Tells K H k L v) → ∃ ds, DpAll K H vs ds ∧ ds.length = vs.length ∧ ∀ d ∈ ds, Good k L d
  | [], _ => ⟨[], .nil, rfl, fun _ h => nomatch h⟩
  | v :: vs, h => by
    obtain ⟨d, h1, h2⟩ := h v List.mem_cons_self
    obtain ⟨ds, h3, h4, h5⟩ := tells_all (vs := vs) fun u hu => h u (List.mem_cons_of_mem _ hu)
    refine ⟨d :: ds, .cons h1 h3, congrArg Nat.succ h4, fun e he => ?_⟩
    rcases List.mem_cons.mp he with rfl | he
    · exact h2
    · exact h5 e he
theorem Tells.mono {K : PySem.W.Frag} {H : Hp} {a b m n : Nat} {v : V} (h : Tells K H a m v) (h1 : a ≤ b) (h2 : m ≤ n) : Tells K H b n v := let ⟨d, p, g⟩ := h; ⟨d, p, g.mono h1 h2⟩
theorem tells_list {K : PySem.W.Frag} {H : Hp} {k L : Nat} {p : Addr} {vs : List V} (hp : SqL K H p vs) (h : ∀ v ∈ vs, Tells K H k L v) : Tells K H (k + 1) ((L + 2) * vs.length + 3) (.ref p) := by
  obtain ⟨ds, h1, h2, h3⟩ := tells_all h
  exact ⟨.list ds, .lst hp h1, h2 ▸ good_list h3⟩
theorem tells_tuple {K : PySem.W.Frag} {H : Hp} {k L : Nat} {p : Addr} {vs : List V} (hp : SqT K H p vs) (h : ∀ v ∈ vs, Tells K H k L v) : Tells K H (k + 1) ((L + 2) * vs.length + 3) (.ref p) := by
  obtain ⟨ds, h1, h2, h3⟩ := tells_all h
  exact ⟨.tuple ds, .tup hp h1, h2 ▸ good_tuple h3⟩
/-- what repr asks of a list of such values -/
theorem tells_vals {K : PySem.W.Frag} {H : Hp} {k L : Nat} {vs : List V} (h : ∀ v ∈ vs, Tells K H k L v) (hk : k ≤ 29) (hz : (L + 2) * vs.length + 3 ≤ sizeLine) :
    ∃ ds, DpAll K H vs ds ∧ (PyData.list ds).showable = true ∧ (PyData.list ds).hasDict = false ∧ (PyData.list ds).depth ≤ 30 ∧ (PyData.list ds).shown.length ≤ sizeLine := by
  obtain ⟨ds, h1, h2, h3⟩ := tells_all h
  have g := good_list h3
  rw [h2] at g
  exact ⟨ds, h1, g.s, g.n, Nat.le_trans g.dp (by omega), Nat.le_trans g.l hz⟩
end Np

set_option Elab.async false
set_option linter.all false
set_option maxRecDepth 100000
set_option maxHeartbeats 4000000
namespace K01
open PySem PySem.Spec PyProof.Rows L2 Np
def topS (i : Nat) : Stmt := PySem.Challenge.pw_needpegs_k01_errors.main.body.getD i (.Pass ⟨0, 0, 0, 0⟩)
local macro_rules | `(tactic| walk_at "np_h") => `(tactic| first | assumption | exact upd_same | (refine (upd_ne ?_).trans ?_; (walk_at "np_ne"); (walk_at "np_h")) | exact SqL.of (by walk_at "np_h") | exact SqT.of (by walk_at "np_h"))
local macro_rules | `(tactic| walk_at "np_ne") => `(tactic| first | assumption | exact Ne.symm (by assumption))
local macro_rules | `(tactic| walk_at "np_r") => `(tactic| first
  | refine ⟨_, rfl, ?_⟩
  | refine ⟨_, _, rfl, rfl, ?_⟩
  | refine ⟨(.inl ⟨by decide, by decide⟩ : CMul _ _), ?_⟩
  | refine ⟨(.inr ⟨by decide, by decide⟩ : CMul _ _), ?_⟩
  | refine ⟨(by first | decide | omega : (0 : Int) < _), ?_⟩
  | refine ⟨(⟨by decide, by decide⟩ : CDiv _ _), ?_⟩
  | (refine' ⟨_, _, _, _, rfl, rfl, ?np1, ?np2, ?_⟩; (case np1 => walk_at "np_h"); (case np2 => rfl)))
abbrev sBox : Stmt := topS 20
abbrev sTake : Stmt := topS 21
abbrev sThing : Stmt := topS 22
/-- what the layer asks of the built-in names -/
structure Bl (mg : Str → Option Value) : Prop where
  len : mg "len" = none
  int : mg "int" = none
  range : mg "range" = none
  repr : mg "repr" = none
  isinstance : mg "isinstance" = none
  list : mg "list" = none
  enumerate : mg "enumerate" = none
  ValueError : mg "ValueError" = none
  KeyError : mg "KeyError" = none
  IndexError : mg "IndexError" = none
section
variable {P : Program} {w : World} {K : PySem.W.Frag} {mg : Str → Option Value} {base : Heap}
/-! ### the source of draws -/
abbrev bx (x y z : Int) : HO := .lst [.int x, .int y, .int z]
def spBox (K : PySem.W.Frag) : Sp := fun vs H Q _ => ∃ (a : Addr) (ns : List Int) (k : Int), vs = [.ref a, .int k] ∧ SqL K H a (ns.map V.int) ∧ ns.length ≤ 63 ∧ 0 ≤ k ∧ k < 10 ∧
  ∀ (p : Addr) (H' : Hp) (x y z : Int), H p = none → Same H H' → H' p = some (bx x y z) → Q (.ref p) H'
def spTake : Sp := fun vs H Q _ => ∃ (b : Addr) (x y z m : Int), vs = [.ref b, .int m] ∧ H b = some (bx x y z) ∧ 1 ≤ m ∧ m < 2 ^ 100 ∧
  ∀ (r x' y' z' : Int), 0 ≤ r → r < m → Q (.int r) (upd H b (bx x' y' z'))
theorem scTake : FnScope ["_law_box_here", "_law_many", "_law_digit", "_law_one"] ["_law_box_here", "_law_many"] (defScope sTake) := ⟨rfl, rfl, rfl, by decide +kernel, rfl, by decide +kernel, by decide +kernel⟩
theorem wide {x m : Int} (h1 : 1 ≤ m) (h2 : m < 2 ^ 100) : CDivW x m := wide_div (b := 100) (by omega) (by omega) (by decide) (by decide)
theorem ok_take {f : Addr} {fd : FuncData} (F : FnT K "_law_take" sTake f fd) : FnOk P w K mg base CX0 1 f fd ["_law_box_here", "_law_many"] spTake := by
  have nd := scTake.nd
  refine F.ok scTake (fun vs H Q E h => ?_) (fun cdv A outer s H vs Q E hr h => ?_)
  · obtain ⟨b, x, y, z, m, rfl, _⟩ := h
    rfl
  · obtain ⟨b, x, y, z, m, rfl, hb, h1, h2, k⟩ := h
    refine ⟨_, PSs.nox (pss_cons (ps_if (pt_cmpR op_gt (pe_ix ix_list (pv 0) pe_int (fun _ _ => rfl)) pe_int (nomark _)) (pss_cons (ps_set (i := 2) nd rfl (.inl rfl) (pe_op op_mod (pe_ix ix_list (pv 0) pe_int (fun _ _ => rfl)) (pv 1)))
  (pss_cons (ps_asg (pe_op op_fdivW (pe_ix ix_list (pv 0) pe_int (fun _ _ => rfl)) (pv 1)) (pg_sub (pv 0) pe_int set_list))
  (pss_one (ps_ret (pv 2))))) pss_nil)
  (pss_cons (ps_asg (pe_op op_add (pe_ix ix_list (pv 0) pe_int (fun _ _ => rfl)) pe_int) (pg_sub (pv 0) pe_int set_list))
  (pss_cons (ps_set (i := 3) nd rfl (.inl rfl) (pe_op op_mod (pe_op op_mul (pe_op op_add (pe_ix ix_list (pv 0) pe_int (fun _ _ => rfl)) (pe_op op_mul pe_int (pe_ix ix_list (pv 0) pe_int (fun _ _ => rfl)))) pe_int) pe_int))
  (pss_cons (ps_asg (pe_op op_add (pe_op op_mod (pe_op op_add (pe_op op_mul (pv 3) pe_int) pe_int) pe_int) pe_int) (pg_sub (pv 0) pe_int set_list))
  (pss_one (ps_ret (pe_op op_mod (pe_op op_fdiv (pe_op op_add (pe_op op_mul (pv 3) pe_int) (pe_ix ix_list (pv 0) pe_int (fun _ _ => rfl))) pe_int) (pv 1)))))))), ?_⟩
    repeat (walk_at "np_r")
    refine ite2 (fun c => ?_) (fun c => ?_)
    · repeat (first | walk_at "np_r" | (refine ⟨wide h1 h2, ?_⟩))
      exact k (x % m) (x / m) y z (Int.emod_nonneg _ (by omega)) (Int.emod_lt_of_pos _ (by omega))
    · repeat (walk_at "np_r")
      have e := k (((((y + 104729 * (z + 1)) * 69623 % 2147483647) * 2147483647 + (((y + 104729 * (z + 1)) * 69623 % 2147483647 * 48271 + 30103) % 2147483629 + 1)) / 8191) % m) x (((y + 104729 * (z + 1)) * 69623 % 2147483647 * 48271 + 30103) % 2147483629 + 1) (z + 1) (Int.emod_nonneg _ (by omega)) (Int.emod_lt_of_pos _ (by omega))
      rw [← upd_upd] at e
      exact e
theorem scBox : FnScope ["_law_script", "_law_k", "_law_cell", "_law_seed"] ["_law_script", "_law_k"] (defScope sBox) := ⟨rfl, rfl, rfl, by decide +kernel, rfl, by decide +kernel, by decide +kernel⟩
theorem pick {b : Bool} {i j : Int} : atI [V.int i, V.int j] (if b = true then 1 else 0) = some (.int (if b = true then j else i)) := by cases b <;> rfl
theorem ok_box {f : Addr} {fd : FuncData} (F : FnT K "_law_box" sBox f fd) (m : Bl mg) : FnOk P w K mg base CX0 1 f fd ["_law_script", "_law_k"] (spBox K) := by
  have nd := scBox.nd
  refine F.ok scBox (fun vs H Q E h => ?_) (fun cdv A outer s H vs Q E hr h => ?_)
  · obtain ⟨a, ns, k, rfl, _⟩ := h
    rfl
  · obtain ⟨a, ns, k, rfl, hS, hl, k0, k1, q⟩ := h
    obtain ⟨j, rfl⟩ : ∃ j : Nat, k = (j : Int) := ⟨k.toNat, by omega⟩
    have hlen : (ns.map V.int).length = ns.length := List.length_map ..
    refine ⟨_, PSs.nox (pss_cons (ps_set (i := 2) nd rfl (.inl rfl) (pe_op op_add (pe_op op_mul pe_int (pv 1)) pe_int))
  (pss_cons (ps_if (pt_cmpR op_lt (pv 1) (pe_callB call_len_seq (by rfl) m.len (by decide +kernel) (pa_cons (pv 0) pa_nil)) (nomark _)) (pss_one (ps_set (i := 2) nd rfl (.inl rfl) (pe_ix ix_list (pv 0) (pv 1) (fun _ _ => rfl)))) (pss_one (ps_if (pt_cmpR op_gt (pe_callB call_len_seq (by rfl) m.len (by decide +kernel) (pa_cons (pv 0) pa_nil)) pe_int (nomark _)) (pss_one (ps_set (i := 2) nd rfl (.inl rfl) (pe_op op_add (pv 2) (pe_op op_mul (pe_op op_mod (pe_ix ix_list (pv 0) (pe_op op_mod (pv 1) (pe_callB call_len_seq (by rfl) m.len (by decide +kernel) (pa_cons (pv 0) pa_nil))) (fun _ _ => rfl)) pe_int) pe_int)))) pss_nil)))
  (pss_cons (ps_set (i := 3) nd rfl (.inl rfl) (pe_op op_add (pe_op op_mod (pe_op op_add (pe_op op_mul (pe_op op_mod (pv 2) pe_int) pe_int) (pe_op op_mul pe_int (pv 1))) pe_int) pe_int))
  (pss_one (ps_ret (pe_lst (pa_cons (pe_ix ix_list (pe_lst (pa_cons pe_int (pa_cons (pv 2) pa_nil))) (pe_callTy call_int1 (by rfl) m.int (by decide +kernel) (pa_cons (pe_cmpR op_ge (pv 2) (pe_op op_pow pe_int pe_int) (nomark _)) pa_nil)) (fun _ _ => rfl)) (pa_cons (pv 3) (pa_cons pe_int pa_nil))))))))), ?_⟩
    repeat (walk_at "np_r")
    refine ⟨_, _, rfl, .inl hS, ?_⟩
    repeat (walk_at "np_r")
    refine ite2 (fun c => ?_) (fun c => ?_)
    · have cj : j < ns.length := by
        have c2 : (j : Int) < ((ns.map V.int).length : Int) := of_decide_eq_true c
        omega
      refine ⟨_, rfl, _, rfl, _, _, _, _, rfl, rfl, hS, atI_nat (j := j) (by rw [List.getElem?_map, List.getElem?_eq_getElem cj]; rfl), ?_⟩
      repeat (walk_at "np_r")
      refine ⟨by show 2 ≤ sizeLine; decide, fun p1 h1 => ?_⟩
      refine ⟨_, rfl, _, _, rfl, rfl, ⟨by decide, by decide, by decide⟩, _, _, rfl, rfl, .inr ⟨_, rfl, ?_⟩⟩
      refine ⟨p1, _, _, _, rfl, rfl, SqL.of upd_same, pick, ?_⟩
      refine ⟨_, rfl, by show 3 ≤ sizeLine; decide, fun p2 h2 => ?_⟩
      exact q p2 _ _ _ _ (upd_none h2).2 ((Same.new h1).trans (Same.new h2)) upd_same

    · repeat (first | walk_at "np_r" | refine ⟨_, _, rfl, .inl hS, ?_⟩)
      refine ite2 (fun c2 => ?_) (fun c2 => ?_)
      · have c3 : (0 : Int) < ((ns.map V.int).length : Int) := of_decide_eq_true c2
        have hj : j % ns.length < ns.length := Nat.mod_lt _ (by omega)
        have ej : (j : Int) % ((ns.map V.int).length : Int) = ((j % ns.length : Nat) : Int) := by rw [hlen]; rfl
        have hat : atI (ns.map V.int) ((j : Int) % ((ns.map V.int).length : Int)) = some (.int ns[j % ns.length]) := by
          rw [ej]
          exact atI_nat (by rw [List.getElem?_map, List.getElem?_eq_getElem hj]; rfl)
        refine ⟨_, rfl, _, rfl, _, rfl, _, rfl, _, _, rfl, .inl hS, _, _, rfl, rfl, c3, _, _, _, .int ns[j % ns.length], rfl, rfl, hS, hat, ?_⟩
        repeat (walk_at "np_r")
        refine ⟨by show 2 ≤ sizeLine; decide, fun p1 h1 => ?_⟩
        refine ⟨_, rfl, _, _, rfl, rfl, ⟨by decide, by decide, by decide⟩, _, _, rfl, rfl, .inr ⟨_, rfl, ?_⟩⟩
        refine ⟨p1, _, _, _, rfl, rfl, SqL.of upd_same, pick, ?_⟩
        refine ⟨_, rfl, by show 3 ≤ sizeLine; decide, fun p2 h2 => ?_⟩
        exact q p2 _ _ _ _ (upd_none h2).2 ((Same.new h1).trans (Same.new h2)) upd_same

      · repeat (walk_at "np_r")
        refine ⟨by show 2 ≤ sizeLine; decide, fun p1 h1 => ?_⟩
        refine ⟨_, rfl, _, _, rfl, rfl, ⟨by decide, by decide, by decide⟩, _, _, rfl, rfl, .inr ⟨_, rfl, ?_⟩⟩
        refine ⟨p1, _, _, _, rfl, rfl, SqL.of upd_same, pick, ?_⟩
        refine ⟨_, rfl, by show 3 ≤ sizeLine; decide, fun p2 h2 => ?_⟩
        exact q p2 _ _ _ _ (upd_none h2).2 ((Same.new h1).trans (Same.new h2)) upd_same

end
end K01

set_option Elab.async false
set_option linter.all false
set_option maxRecDepth 100000
set_option maxHeartbeats 4000000
namespace K01
open PySem PySem.Spec PyProof.Rows L2 Np TL




/-! ### any value -/
def Flat : V → Prop
  | .non => True
  | .bl _ => True
  | .int i => i.natAbs.log2 < 200
  | .str s => s.length ≤ 8 ∧ ∀ c ∈ s.cps.toList, c < 128
  | _ => False
inductive Thing (H : Hp) (m : Nat) : V → Prop
  | flat {v : V} (h : Flat v) : Thing H m v
  | tup {p : Addr} {xs : List V} (h : H p = some (.tup xs)) (f : ∀ x ∈ xs, Flat x) (l : xs.length ≤ m) : Thing H m (.ref p)
  | lst {p : Addr} {xs : List V} (h : H p = some (.lst xs)) (f : ∀ x ∈ xs, Flat x) (l : xs.length ≤ m) : Thing H m (.ref p)
theorem flat_tells {K : PySem.W.Frag} {H : Hp} {v : V} (h : Flat v) : Tells K H 0 300 v := by
  cases v with
  | non => exact ⟨_, .non, good_non.mono (by decide) (by decide)⟩
  | bl b => exact ⟨_, .bl b, (good_bool b).mono (by decide) (by decide)⟩
  | int i => exact ⟨_, .int i, (good_int (n := 200) (by decide) (by decide) h).mono (by decide) (by decide)⟩
  | str s => exact ⟨_, .str s, (good_str (n := 8) h.1 fun c hc => Nat.lt_trans (h.2 c hc) (by decide)).mono (by decide) (by decide)⟩
  | _ => exact False.elim h
theorem thing_tells {K : PySem.W.Frag} {H : Hp} {m : Nat} {v : V} (h : Thing H m v) (hm : m ≤ 20) : Tells K H 1 7000 v := by
  cases h with
  | flat h => exact (flat_tells h).mono (by decide) (by decide)
  | tup h f l => exact (tells_tuple (SqT.of h) fun x hx => flat_tells (f x hx)).mono (by decide) (by omega)
  | lst h f l => exact (tells_list (SqL.of h) fun x hx => flat_tells (f x hx)).mono (by decide) (by omega)
theorem Thing.mono {H H' : Hp} {m : Nat} {v : V} (h : Thing H m v) (s : Same H H') : Thing H' m v := by
  cases h with
  | flat h => exact .flat h
  | tup h f l => exact .tup (s _ _ h) f l
  | lst h f l => exact .lst (s _ _ h) f l
section
variable {P : Program} {w : World} {K : PySem.W.Frag} {mg : Str → Option Value} {base : Heap}
/-- the box drawn from: all else stays, the value is known -/
def spThing : Sp := fun vs H Q _ => ∃ (b : Addr) (x y z : Int), vs = [.ref b] ∧ H b = some (bx x y z) ∧
  ∀ (v : V) (H' : Hp) (x' y' z' : Int), But b H H' → H' b = some (bx x' y' z') → Thing H' 2 v → (∀ p, v = .ref p → H p = none) → Q v H'
theorem joinL_nil : ∀ l : List (List Nat), (joinL [] l).length = (l.map List.length).sum ∧ ∀ c ∈ joinL [] l, ∃ p ∈ l, c ∈ p
  | [] => ⟨rfl, fun _ h => nomatch h⟩
  | [p] => ⟨by simp [joinL], fun c h => ⟨p, List.mem_cons_self, h⟩⟩
  | p :: q :: r => by
    obtain ⟨h1, h2⟩ := joinL_nil (q :: r)
    refine ⟨?_, fun c h => ?_⟩
    · simp only [joinL, List.nil_append, List.length_append, h1, List.map_cons, List.sum_cons]
    · have h' : c ∈ p ++ ([] ++ joinL [] (q :: r)) := h
      rw [List.nil_append] at h'
      rcases List.mem_append.mp h' with h3 | h3
      · exact ⟨p, List.mem_cons_self, h3⟩
      · obtain ⟨s, h4, h5⟩ := h2 c h3
        exact ⟨s, List.mem_cons_of_mem _ h4, h5⟩
theorem ones_sum : ∀ {ys : List Str}, (∀ t ∈ ys, t.length = 1) → (ys.map (·.length)).sum = ys.length
  | [], _ => rfl
  | y :: ys, h => by
    have e := ones_sum (ys := ys) fun t ht => h t (List.mem_cons_of_mem _ ht)
    rw [List.map_cons, List.sum_cons, e, h y List.mem_cons_self, List.length_cons]
    omega
theorem join_flat {ys : List Str} (hl : ys.length ≤ 8) (h : ∀ t ∈ ys, t.length = 1 ∧ ∀ c ∈ t.cps.toList, c < 128) : Flat (.str (Txt.join "" ys)) := by
  rw [join_eq]
  have e : tl (Str.join "" ys) = joinL (tl "") (ys.map tl) := tl_join "" ys
  obtain ⟨h1, h2⟩ := joinL_nil (ys.map tl)
  have e0 : tl ("" : Str) = [] := rfl
  rw [e0] at e
  refine ⟨?_, fun c hc => ?_⟩
  · have e1 : (Str.join "" ys).length = (tl (Str.join "" ys)).length := rfl
    rw [e1, e, h1, List.map_map]
    have e2 : (List.length ∘ tl) = (fun t : Str => t.length) := rfl
    rw [e2, ones_sum fun t ht => (h t ht).1]
    exact hl
  · have hc' : c ∈ tl (Str.join "" ys) := hc
    rw [e] at hc'
    obtain ⟨p, hp, hcp⟩ := h2 c hc'
    obtain ⟨t, ht, rfl⟩ := List.mem_map.mp hp
    exact (h t ht).2 c hcp
theorem sign_at (r : Int) (h0 : 0 ≤ r) (h1 : r < 9) : ∃ c, atI (("abz XY09-" : Str).cps.toList) r = some c ∧ c < 128 := by
  obtain ⟨k, rfl⟩ : ∃ k : Nat, r = (k : Int) := ⟨r.toNat, by omega⟩
  have hk : k < 9 := by omega
  have all : ∀ k : Nat, k < 9 → ∃ c, (("abz XY09-" : Str).cps.toList)[k]? = some c ∧ c < 128 := by decide
  obtain ⟨c, h1, h2⟩ := all k hk
  exact ⟨c, atI_nat h1, h2⟩
theorem at_some {xs : List V} {r : Int} (h0 : 0 ≤ r) (h1 : r < xs.length) : ∃ v, atI xs r = some v ∧ v ∈ xs := by
  obtain ⟨k, rfl⟩ : ∃ k : Nat, r = (k : Int) := ⟨r.toNat, by omega⟩
  have hk : k < xs.length := by omega
  exact ⟨xs[k], atI_nat (List.getElem?_eq_getElem hk), List.getElem_mem hk⟩
theorem log2_small {i : Int} (h : i.natAbs < 2 ^ 100) : i.natAbs.log2 < 200 := by
  by_cases h0 : i.natAbs = 0
  · rw [h0]; decide
  · exact Nat.lt_trans ((Nat.log2_lt h0).mpr h) (by decide)
theorem scThing : FnScope ["_law_box_here", "_law_k", "_law_text", "_law_some"] ["_law_box_here"] (defScope sThing) := ⟨rfl, rfl, rfl, by decide +kernel, rfl, by decide +kernel, by decide +kernel⟩
theorem ok_thing {f : Addr} {fd : FuncData} (F : FnT K "_law_thing" sThing f fd) (m : Bl mg) (c_take : Callee P w K mg base 1 "_law_take" ["_law_box_here", "_law_many"] spTake) : FnOk P w K mg base CX0 2 f fd ["_law_box_here"] spThing := by
  have nd := scThing.nd
  refine F.ok scThing (fun vs H Q E h => ?_) (fun cdv A outer s H vs Q E hr h => ?_)
  · obtain ⟨b, x, y, z, rfl, _⟩ := h
    rfl
  · obtain ⟨b, x, y, z, rfl, hb, q⟩ := h
    refine ⟨_, PSs.nox (pss_cons (ps_set (i := 2) nd rfl (.inl rfl) (pe_bm PySem.F.plainAttrs_str PySem.F.slot_str_join PySem.F.type_str_join mt_join pe_str (pa_cons (pe_lc (own := [("_law_k", 1)]) (g := gName 1) (tt := tYes) rfl nd (pi_range1 (by rfl) m.range (pa_cons (pe_callC c_take (hr.mono (by decide)) (pa_cons (pv 0) (pa_cons pe_int pa_nil))) pa_nil)) (blkOk_by (N := ["_law_box_here", "_law_k", "_law_text", "_law_some"]) (sc := defScope sThing) (by decide +kernel)) (fun _ _ _ _ _ => (pg_name (i := 1) nd rfl (.inl rfl))) (fun _ _ _ _ _ => pts_nil) (fun _ _ _ _ _ => (pe_ix ix_str pe_str (pe_callC c_take (hr.mono (by decide)) (pa_cons (pv 0) (pa_cons pe_int pa_nil))) (fun _ _ => rfl)))) pa_nil)))
  (pss_cons (ps_set (i := 3) nd rfl (.inl rfl) (pe_lst (pa_cons (pv 2) (pa_cons (pe_op op_sub (pe_callC c_take (hr.mono (by decide)) (pa_cons (pv 0) (pa_cons (pe_op op_pow pe_int pe_int) pa_nil))) (pe_op op_pow pe_int pe_int)) (pa_cons (pe_tup (pa_cons (pv 2) (pa_cons pe_int pa_nil))) (pa_cons pe_non (pa_cons pe_int (pa_cons pe_str (pa_cons pe_bl (pa_cons pe_bl (pa_cons (pe_lst (pa_cons (pv 2) pa_nil)) (pa_cons (pe_tup pa_nil) (pa_cons (pe_op op_sub pe_int (pe_op op_pow pe_int pe_int)) pa_nil)))))))))))))
  (pss_one (ps_ret (pe_ix ix_list (pv 3) (pe_callC c_take (hr.mono (by decide)) (pa_cons (pv 0) (pa_cons pe_int pa_nil))) (fun _ _ => rfl)))))), ?_⟩
    refine ⟨?ty, _, rfl, b, x, y, z, 9, rfl, hb, by decide, by decide, fun r x1 y1 z1 r0 r1 => ?_⟩
    case ty => exact rfl
    refine ⟨r, rfl, by omega, by omega, fun D hD => ?_⟩
    obtain ⟨nDb, hD0⟩ := upd_none hD
    refine lc_range (lo := 0) (n := r.toNat) (fun i H2 => ∃ (ys : List Str) (x y z : Int), H2 D = some (.lst (ys.map V.str)) ∧ ys.length = i ∧ (∀ t ∈ ys, t.length = 1 ∧ ∀ c ∈ t.cps.toList, c < 128) ∧ H2 b = some (bx x y z) ∧ But b H H2) ?_ ?_ ?_
    · exact ⟨[], x1, y1, z1, upd_same, rfl, (fun t ht => absurd ht (by simp)), (upd_ne nDb.symm).trans upd_same, (But.upd (o := bx x1 y1 z1)).trans (But.of (Same.new hD))⟩
    · rintro i H2 hi ⟨ys, x2, y2, z2, e1, rfl, e3, e4, e5⟩
      refine ⟨rfl, ?_⟩
      refine ⟨_, rfl, b, x2, y2, z2, 9, rfl, e4, by decide, by decide, fun k x3 y3 z3 k0 k1 => ?_⟩
      obtain ⟨c, hc, hc2⟩ := sign_at k k0 k1
      refine ⟨_, _, c, rfl, rfl, by decide, hc, _, (upd_ne nDb).trans e1, ?_, ?_⟩
      · rw [List.length_map]
        exact small1000 (by omega)
      · refine ⟨ys ++ [⟨#[c]⟩], x3, y3, z3, ?_, ?_, ?_, ?_, ?_⟩
        · rw [upd_same, List.map_append]; rfl
        · rw [List.length_append]; rfl
        · intro t ht
          rcases List.mem_append.mp ht with h | h
          · exact e3 t h
          · cases List.mem_singleton.mp h
            exact ⟨rfl, fun d hd => by cases List.mem_singleton.mp hd; exact hc2⟩
        · exact (upd_ne nDb.symm).trans upd_same
        · intro p o np hp
          rw [upd_ne (ne_of_none hp hD0), upd_ne np]
          exact e5 p o np hp
    · rintro H2 ⟨ys, x2, y2, z2, e1, e2, e3, e4, e5⟩
      have ft := join_flat (by omega) e3
      generalize htx : Txt.join "" ys = tx at ft
      refine ⟨_, D, ys, rfl, rfl, .inl (SqL.of e1), ?_, ?_⟩
      · rw [ones_sum fun t ht => (e3 t ht).1]
        show ys.length + ys.length * 0 ≤ 16777216
        omega
      rw [htx]
      refine ⟨_, rfl, _, rfl, _, _, rfl, rfl, ⟨by decide, by decide, by decide⟩, b, x2, y2, z2, _, rfl, e4, by decide, by decide, fun r2 x3 y3 z3 s0 s1 => ?_⟩
      refine ⟨_, _, rfl, rfl, ⟨by decide, by decide, by decide⟩, _, _, rfl, rfl, _, rfl, by show 2 ≤ sizeLine; decide, fun T hT => ?_⟩
      refine ⟨_, rfl, by show 1 ≤ sizeLine; decide, fun L hL => ?_⟩
      refine ⟨by show 0 ≤ sizeLine; decide, fun T0 hT0 => ?_⟩
      refine ⟨_, _, rfl, rfl, ⟨by decide, by decide, by decide⟩, _, _, rfl, rfl, by show 11 ≤ sizeLine; decide, fun S hS => ?_⟩
      obtain ⟨a1, a2⟩ := upd_none hT
      obtain ⟨b1, b2⟩ := upd_none hL
      obtain ⟨c1, c2⟩ := upd_none hT0
      obtain ⟨d1, d2⟩ := upd_none hS
      obtain ⟨b3, b4⟩ := upd_none b2
      obtain ⟨c3, c4⟩ := upd_none c2
      obtain ⟨c5, c6⟩ := upd_none c4
      obtain ⟨d3, d4⟩ := upd_none d2
      obtain ⟨d5, d6⟩ := upd_none d4
      obtain ⟨d7, d8⟩ := upd_none d6
      have hbx : (upd (upd (upd (upd (upd H2 b (bx x3 y3 z3)) T (.tup [.str tx, .int 3])) L (.lst [.str tx])) T0 (.tup [])) S (.lst [.str tx, .int (r2 - 1000000), .ref T, .non, .int 0, .str "", .bl true, .bl false, .ref L, .ref T0, .int (0 - 1000000000000000000000000000000)])) b = some (bx x3 y3 z3) := by
        rw [upd_ne d7.symm, upd_ne c5.symm, upd_ne b3.symm, upd_ne a1.symm, upd_same]
      refine ⟨_, rfl, _, rfl, b, x3, y3, z3, 11, rfl, hbx, by decide, by decide, fun r4 x4 y4 z4 t0 t1 => ?_⟩
      obtain ⟨v, hv, hm⟩ := at_some (xs := [.str tx, .int (r2 - 1000000), .ref T, .non, .int 0, .str "", .bl true, .bl false, .ref L, .ref T0, .int (0 - 1000000000000000000000000000000)]) t0 t1
      refine ⟨S, _, _, v, rfl, rfl, SqL.of ((upd_ne d7).trans upd_same), hv, ?_⟩
      have zT : (upd (upd (upd (upd (upd (upd H2 b (bx x3 y3 z3)) T (.tup [.str tx, .int 3])) L (.lst [.str tx])) T0 (.tup [])) S (.lst [.str tx, .int (r2 - 1000000), .ref T, .non, .int 0, .str "", .bl true, .bl false, .ref L, .ref T0, .int (0 - 1000000000000000000000000000000)])) b (bx x4 y4 z4)) T = some (.tup [.str tx, .int 3]) := by
        rw [upd_ne a1, upd_ne d5.symm, upd_ne c3.symm, upd_ne b1.symm, upd_same]
      have zL : (upd (upd (upd (upd (upd (upd H2 b (bx x3 y3 z3)) T (.tup [.str tx, .int 3])) L (.lst [.str tx])) T0 (.tup [])) S (.lst [.str tx, .int (r2 - 1000000), .ref T, .non, .int 0, .str "", .bl true, .bl false, .ref L, .ref T0, .int (0 - 1000000000000000000000000000000)])) b (bx x4 y4 z4)) L = some (.lst [.str tx]) := by
        rw [upd_ne b3, upd_ne d3.symm, upd_ne c1.symm, upd_same]
      have z0 : (upd (upd (upd (upd (upd (upd H2 b (bx x3 y3 z3)) T (.tup [.str tx, .int 3])) L (.lst [.str tx])) T0 (.tup [])) S (.lst [.str tx, .int (r2 - 1000000), .ref T, .non, .int 0, .str "", .bl true, .bl false, .ref L, .ref T0, .int (0 - 1000000000000000000000000000000)])) b (bx x4 y4 z4)) T0 = some (.tup []) := by
        rw [upd_ne c5, upd_ne d1.symm, upd_same]
      have zH : But b H (upd (upd (upd (upd (upd (upd H2 b (bx x3 y3 z3)) T (.tup [.str tx, .int 3])) L (.lst [.str tx])) T0 (.tup [])) S (.lst [.str tx, .int (r2 - 1000000), .ref T, .non, .int 0, .str "", .bl true, .bl false, .ref L, .ref T0, .int (0 - 1000000000000000000000000000000)])) b (bx x4 y4 z4)) :=
        (((((e5.trans But.upd).trans (But.of (Same.new hT))).trans (But.of (Same.new hL))).trans (But.of (Same.new hT0))).trans (But.of (Same.new hS))).trans But.upd
      refine q v _ x4 y4 z4 zH upd_same ?_ ?_
      · simp only [List.mem_cons, List.not_mem_nil, or_false] at hm
        rcases hm with rfl | rfl | rfl | rfl | rfl | rfl | rfl | rfl | rfl | rfl | rfl
        · exact .flat ft
        · refine .flat ?_
          show (r2 - 1000000).natAbs.log2 < 200
          exact log2_small (by have : r2 < 1000000000000 := s1; omega)
        · exact .tup zT (fun u hu => by
            simp only [List.mem_cons, List.not_mem_nil, or_false] at hu
            rcases hu with rfl | rfl
            · exact ft
            · exact log2_small (by decide)) (by show 2 ≤ 2; decide)
        · exact .flat trivial
        · exact .flat (log2_small (by decide))
        · exact .flat ⟨by decide, by decide⟩
        · exact .flat trivial
        · exact .flat trivial
        · exact .lst zL (fun u hu => by
            simp only [List.mem_cons, List.not_mem_nil, or_false] at hu
            rcases hu with rfl
            exact ft) (by show 1 ≤ 2; decide)
        · exact .tup z0 (fun u hu => by simp at hu) (by decide)
        · exact .flat (log2_small (by decide))
      · intro p hp
        subst hp
        have fr : ∀ u : Addr, u ≠ b → H2 u = none → H u = none := fun u n h => by
          cases e : H u with
          | none => rfl
          | some o =>
            rw [e5 u o n e] at h
            cases h
        simp only [List.mem_cons, List.not_mem_nil, or_false, V.ref.injEq, reduceCtorEq, false_or] at hm
        rcases hm with rfl | rfl | rfl
        · exact fr _ a1 a2
        · exact fr _ b3 b4
        · exact fr _ c5 c6
end
end K01

set_option Elab.async false
set_option linter.all false
set_option maxRecDepth 100000
set_option maxHeartbeats 4000000
namespace K01
open PySem PySem.Spec PyProof.Rows L2 Np





def errNames : List Str := ["NoBoard", "NoText", "NoFamily", "NoTurn", "Missing", "Needed", "Barred", "NoMatch", "Stuck", "Unmet", "Held", "Spent", "NoDeed", "Broken", "NoCommand", "NoPeg", "NoWalker"]
abbrev errC (K : PySem.W.Frag) (j : Nat) : Addr := He.ga K (errNames.getD j "")
abbrev sINoBoard : Stmt := inClass (topS 2) 0
abbrev sINoText : Stmt := inClass (topS 3) 0
abbrev sINoFamily : Stmt := inClass (topS 4) 0
abbrev sINoTurn : Stmt := inClass (topS 5) 0
abbrev sIMissing : Stmt := inClass (topS 6) 0
abbrev sINeeded : Stmt := inClass (topS 7) 0
abbrev sIBarred : Stmt := inClass (topS 8) 0
abbrev sINoMatch : Stmt := inClass (topS 9) 0
abbrev sIStuck : Stmt := inClass (topS 10) 0
abbrev sIUnmet : Stmt := inClass (topS 11) 0
abbrev sIHeld : Stmt := inClass (topS 12) 0
abbrev sISpent : Stmt := inClass (topS 13) 0
abbrev sINoDeed : Stmt := inClass (topS 14) 0
abbrev sIBroken : Stmt := inClass (topS 15) 0
abbrev sINoPeg : Stmt := inClass (topS 17) 0
abbrev sINoWalker : Stmt := inClass (topS 18) 0
section
variable {P : Program} {w : World} {K : PySem.W.Frag} {mg : Str → Option Value} {base : Heap}
theorem scINoBoard : FnScope ["self", "word", "at"] ["self", "word", "at"] (defScope sINoBoard) := ⟨rfl, rfl, rfl, by decide +kernel, rfl, by decide +kernel, by decide +kernel⟩
theorem okINoBoard {fI C : Addr} {fd : FuncData} (F : FunD K "__init__" "NoBoard.__init__" (defArgs sINoBoard) (defBody sINoBoard) (defScope sINoBoard) [] [] fI fd) (h0 : ExS K C "word") (h1 : ExS K C "at") : FnOk P w K mg base CX0 1 fI fd ["self", "word", "at"] (spInit C ["word", "at"]) := by
  refine F.ok scINoBoard spInit_len (fun cdv A outer s H vs Q E hr h => ?_)
  obtain ⟨a, ws, rfl, hl, ha, k⟩ := h
  obtain ⟨v0, v1, rfl⟩ : ∃ v0 v1 : V, ws = [v0, v1] := by
    match ws, hl with
    | [a0, a1], _ => exact ⟨a0, a1, rfl⟩
  refine ⟨_, PSs.nox (pss_cons (ps_fe (pv 0) (pv 1)) (pss_one (ps_fe (pv 0) (pv 2)))), ?_⟩
  refine ⟨_, rfl, _, rfl, a, C, rfl, h0, .inl ⟨ha, fun dx n ne => ?_⟩⟩
  refine ⟨_, rfl, _, rfl, a, C, rfl, h1, .inr ⟨dx, _, upd_same, (upd_ne ne).trans upd_same, by show 1 ≤ 900; decide, ?_⟩⟩
  refine k dx _ n (fun b o nb hb => ?_) ?_ upd_same
  · have nd : b ≠ dx := ne_of_none hb n
    rw [upd_ne nd, upd_ne nb, upd_ne nd]
    exact hb
  · rw [upd_ne ne.symm, upd_same]
theorem scINoText : FnScope ["self", "line"] ["self", "line"] (defScope sINoText) := ⟨rfl, rfl, rfl, by decide +kernel, rfl, by decide +kernel, by decide +kernel⟩
theorem okINoText {fI C : Addr} {fd : FuncData} (F : FunD K "__init__" "NoText.__init__" (defArgs sINoText) (defBody sINoText) (defScope sINoText) [] [] fI fd) (h0 : ExS K C "line") : FnOk P w K mg base CX0 1 fI fd ["self", "line"] (spInit C ["line"]) := by
  refine F.ok scINoText spInit_len (fun cdv A outer s H vs Q E hr h => ?_)
  obtain ⟨a, ws, rfl, hl, ha, k⟩ := h
  obtain ⟨v0, rfl⟩ : ∃ v0 : V, ws = [v0] := by
    match ws, hl with
    | [a0], _ => exact ⟨a0, rfl⟩
  refine ⟨_, PSs.nox (pss_one (ps_fe (pv 0) (pv 1))), ?_⟩
  refine ⟨_, rfl, _, rfl, a, C, rfl, h0, .inl ⟨ha, fun dx n ne => ?_⟩⟩
  exact k dx _ n (But.trans (But.of (Same.new n)) But.upd) upd_same ((upd_ne ne).trans upd_same)
theorem scINoFamily : FnScope ["self", "word", "sets"] ["self", "word", "sets"] (defScope sINoFamily) := ⟨rfl, rfl, rfl, by decide +kernel, rfl, by decide +kernel, by decide +kernel⟩
theorem okINoFamily {fI C : Addr} {fd : FuncData} (F : FunD K "__init__" "NoFamily.__init__" (defArgs sINoFamily) (defBody sINoFamily) (defScope sINoFamily) [] [] fI fd) (h0 : ExS K C "word") (h1 : ExS K C "sets") : FnOk P w K mg base CX0 1 fI fd ["self", "word", "sets"] (spInit C ["word", "sets"]) := by
  refine F.ok scINoFamily spInit_len (fun cdv A outer s H vs Q E hr h => ?_)
  obtain ⟨a, ws, rfl, hl, ha, k⟩ := h
  obtain ⟨v0, v1, rfl⟩ : ∃ v0 v1 : V, ws = [v0, v1] := by
    match ws, hl with
    | [a0, a1], _ => exact ⟨a0, a1, rfl⟩
  refine ⟨_, PSs.nox (pss_cons (ps_fe (pv 0) (pv 1)) (pss_one (ps_fe (pv 0) (pv 2)))), ?_⟩
  refine ⟨_, rfl, _, rfl, a, C, rfl, h0, .inl ⟨ha, fun dx n ne => ?_⟩⟩
  refine ⟨_, rfl, _, rfl, a, C, rfl, h1, .inr ⟨dx, _, upd_same, (upd_ne ne).trans upd_same, by show 1 ≤ 900; decide, ?_⟩⟩
  refine k dx _ n (fun b o nb hb => ?_) ?_ upd_same
  · have nd : b ≠ dx := ne_of_none hb n
    rw [upd_ne nd, upd_ne nb, upd_ne nd]
    exact hb
  · rw [upd_ne ne.symm, upd_same]
theorem scINoTurn : FnScope ["self", "peg"] ["self", "peg"] (defScope sINoTurn) := ⟨rfl, rfl, rfl, by decide +kernel, rfl, by decide +kernel, by decide +kernel⟩
theorem okINoTurn {fI C : Addr} {fd : FuncData} (F : FunD K "__init__" "NoTurn.__init__" (defArgs sINoTurn) (defBody sINoTurn) (defScope sINoTurn) [] [] fI fd) (h0 : ExS K C "peg") : FnOk P w K mg base CX0 1 fI fd ["self", "peg"] (spInit C ["peg"]) := by
  refine F.ok scINoTurn spInit_len (fun cdv A outer s H vs Q E hr h => ?_)
  obtain ⟨a, ws, rfl, hl, ha, k⟩ := h
  obtain ⟨v0, rfl⟩ : ∃ v0 : V, ws = [v0] := by
    match ws, hl with
    | [a0], _ => exact ⟨a0, rfl⟩
  refine ⟨_, PSs.nox (pss_one (ps_fe (pv 0) (pv 1))), ?_⟩
  refine ⟨_, rfl, _, rfl, a, C, rfl, h0, .inl ⟨ha, fun dx n ne => ?_⟩⟩
  exact k dx _ n (But.trans (But.of (Same.new n)) But.upd) upd_same ((upd_ne ne).trans upd_same)
theorem scIMissing : FnScope ["self", "peg", "needed"] ["self", "peg", "needed"] (defScope sIMissing) := ⟨rfl, rfl, rfl, by decide +kernel, rfl, by decide +kernel, by decide +kernel⟩
theorem okIMissing {fI C : Addr} {fd : FuncData} (F : FunD K "__init__" "Missing.__init__" (defArgs sIMissing) (defBody sIMissing) (defScope sIMissing) [] [] fI fd) (h0 : ExS K C "peg") (h1 : ExS K C "needed") : FnOk P w K mg base CX0 1 fI fd ["self", "peg", "needed"] (spInit C ["peg", "needed"]) := by
  refine F.ok scIMissing spInit_len (fun cdv A outer s H vs Q E hr h => ?_)
  obtain ⟨a, ws, rfl, hl, ha, k⟩ := h
  obtain ⟨v0, v1, rfl⟩ : ∃ v0 v1 : V, ws = [v0, v1] := by
    match ws, hl with
    | [a0, a1], _ => exact ⟨a0, a1, rfl⟩
  refine ⟨_, PSs.nox (pss_cons (ps_fe (pv 0) (pv 1)) (pss_one (ps_fe (pv 0) (pv 2)))), ?_⟩
  refine ⟨_, rfl, _, rfl, a, C, rfl, h0, .inl ⟨ha, fun dx n ne => ?_⟩⟩
  refine ⟨_, rfl, _, rfl, a, C, rfl, h1, .inr ⟨dx, _, upd_same, (upd_ne ne).trans upd_same, by show 1 ≤ 900; decide, ?_⟩⟩
  refine k dx _ n (fun b o nb hb => ?_) ?_ upd_same
  · have nd : b ≠ dx := ne_of_none hb n
    rw [upd_ne nd, upd_ne nb, upd_ne nd]
    exact hb
  · rw [upd_ne ne.symm, upd_same]
theorem scINeeded : FnScope ["self", "peg", "by"] ["self", "peg", "by"] (defScope sINeeded) := ⟨rfl, rfl, rfl, by decide +kernel, rfl, by decide +kernel, by decide +kernel⟩
theorem okINeeded {fI C : Addr} {fd : FuncData} (F : FunD K "__init__" "Needed.__init__" (defArgs sINeeded) (defBody sINeeded) (defScope sINeeded) [] [] fI fd) (h0 : ExS K C "peg") (h1 : ExS K C "by") : FnOk P w K mg base CX0 1 fI fd ["self", "peg", "by"] (spInit C ["peg", "by"]) := by
  refine F.ok scINeeded spInit_len (fun cdv A outer s H vs Q E hr h => ?_)
  obtain ⟨a, ws, rfl, hl, ha, k⟩ := h
  obtain ⟨v0, v1, rfl⟩ : ∃ v0 v1 : V, ws = [v0, v1] := by
    match ws, hl with
    | [a0, a1], _ => exact ⟨a0, a1, rfl⟩
  refine ⟨_, PSs.nox (pss_cons (ps_fe (pv 0) (pv 1)) (pss_one (ps_fe (pv 0) (pv 2)))), ?_⟩
  refine ⟨_, rfl, _, rfl, a, C, rfl, h0, .inl ⟨ha, fun dx n ne => ?_⟩⟩
  refine ⟨_, rfl, _, rfl, a, C, rfl, h1, .inr ⟨dx, _, upd_same, (upd_ne ne).trans upd_same, by show 1 ≤ 900; decide, ?_⟩⟩
  refine k dx _ n (fun b o nb hb => ?_) ?_ upd_same
  · have nd : b ≠ dx := ne_of_none hb n
    rw [upd_ne nd, upd_ne nb, upd_ne nd]
    exact hb
  · rw [upd_ne ne.symm, upd_same]
theorem scIBarred : FnScope ["self", "peg", "other"] ["self", "peg", "other"] (defScope sIBarred) := ⟨rfl, rfl, rfl, by decide +kernel, rfl, by decide +kernel, by decide +kernel⟩
theorem okIBarred {fI C : Addr} {fd : FuncData} (F : FunD K "__init__" "Barred.__init__" (defArgs sIBarred) (defBody sIBarred) (defScope sIBarred) [] [] fI fd) (h0 : ExS K C "peg") (h1 : ExS K C "other") : FnOk P w K mg base CX0 1 fI fd ["self", "peg", "other"] (spInit C ["peg", "other"]) := by
  refine F.ok scIBarred spInit_len (fun cdv A outer s H vs Q E hr h => ?_)
  obtain ⟨a, ws, rfl, hl, ha, k⟩ := h
  obtain ⟨v0, v1, rfl⟩ : ∃ v0 v1 : V, ws = [v0, v1] := by
    match ws, hl with
    | [a0, a1], _ => exact ⟨a0, a1, rfl⟩
  refine ⟨_, PSs.nox (pss_cons (ps_fe (pv 0) (pv 1)) (pss_one (ps_fe (pv 0) (pv 2)))), ?_⟩
  refine ⟨_, rfl, _, rfl, a, C, rfl, h0, .inl ⟨ha, fun dx n ne => ?_⟩⟩
  refine ⟨_, rfl, _, rfl, a, C, rfl, h1, .inr ⟨dx, _, upd_same, (upd_ne ne).trans upd_same, by show 1 ≤ 900; decide, ?_⟩⟩
  refine k dx _ n (fun b o nb hb => ?_) ?_ upd_same
  · have nd : b ≠ dx := ne_of_none hb n
    rw [upd_ne nd, upd_ne nb, upd_ne nd]
    exact hb
  · rw [upd_ne ne.symm, upd_same]
theorem scINoMatch : FnScope ["self", "word"] ["self", "word"] (defScope sINoMatch) := ⟨rfl, rfl, rfl, by decide +kernel, rfl, by decide +kernel, by decide +kernel⟩
theorem okINoMatch {fI C : Addr} {fd : FuncData} (F : FunD K "__init__" "NoMatch.__init__" (defArgs sINoMatch) (defBody sINoMatch) (defScope sINoMatch) [] [] fI fd) (h0 : ExS K C "word") : FnOk P w K mg base CX0 1 fI fd ["self", "word"] (spInit C ["word"]) := by
  refine F.ok scINoMatch spInit_len (fun cdv A outer s H vs Q E hr h => ?_)
  obtain ⟨a, ws, rfl, hl, ha, k⟩ := h
  obtain ⟨v0, rfl⟩ : ∃ v0 : V, ws = [v0] := by
    match ws, hl with
    | [a0], _ => exact ⟨a0, rfl⟩
  refine ⟨_, PSs.nox (pss_one (ps_fe (pv 0) (pv 1))), ?_⟩
  refine ⟨_, rfl, _, rfl, a, C, rfl, h0, .inl ⟨ha, fun dx n ne => ?_⟩⟩
  exact k dx _ n (But.trans (But.of (Same.new n)) But.upd) upd_same ((upd_ne ne).trans upd_same)
theorem scIStuck : FnScope ["self", "at"] ["self", "at"] (defScope sIStuck) := ⟨rfl, rfl, rfl, by decide +kernel, rfl, by decide +kernel, by decide +kernel⟩
theorem okIStuck {fI C : Addr} {fd : FuncData} (F : FunD K "__init__" "Stuck.__init__" (defArgs sIStuck) (defBody sIStuck) (defScope sIStuck) [] [] fI fd) (h0 : ExS K C "at") : FnOk P w K mg base CX0 1 fI fd ["self", "at"] (spInit C ["at"]) := by
  refine F.ok scIStuck spInit_len (fun cdv A outer s H vs Q E hr h => ?_)
  obtain ⟨a, ws, rfl, hl, ha, k⟩ := h
  obtain ⟨v0, rfl⟩ : ∃ v0 : V, ws = [v0] := by
    match ws, hl with
    | [a0], _ => exact ⟨a0, rfl⟩
  refine ⟨_, PSs.nox (pss_one (ps_fe (pv 0) (pv 1))), ?_⟩
  refine ⟨_, rfl, _, rfl, a, C, rfl, h0, .inl ⟨ha, fun dx n ne => ?_⟩⟩
  exact k dx _ n (But.trans (But.of (Same.new n)) But.upd) upd_same ((upd_ne ne).trans upd_same)
theorem scIUnmet : FnScope ["self", "word", "peg", "other"] ["self", "word", "peg", "other"] (defScope sIUnmet) := ⟨rfl, rfl, rfl, by decide +kernel, rfl, by decide +kernel, by decide +kernel⟩
theorem okIUnmet {fI C : Addr} {fd : FuncData} (F : FunD K "__init__" "Unmet.__init__" (defArgs sIUnmet) (defBody sIUnmet) (defScope sIUnmet) [] [] fI fd) (h0 : ExS K C "word") (h1 : ExS K C "peg") (h2 : ExS K C "other") : FnOk P w K mg base CX0 1 fI fd ["self", "word", "peg", "other"] (spInit C ["word", "peg", "other"]) := by
  refine F.ok scIUnmet spInit_len (fun cdv A outer s H vs Q E hr h => ?_)
  obtain ⟨a, ws, rfl, hl, ha, k⟩ := h
  obtain ⟨v0, v1, v2, rfl⟩ : ∃ v0 v1 v2 : V, ws = [v0, v1, v2] := by
    match ws, hl with
    | [a0, a1, a2], _ => exact ⟨a0, a1, a2, rfl⟩
  refine ⟨_, PSs.nox (pss_cons (ps_fe (pv 0) (pv 1)) (pss_cons (ps_fe (pv 0) (pv 2)) (pss_one (ps_fe (pv 0) (pv 3))))), ?_⟩
  refine ⟨_, rfl, _, rfl, a, C, rfl, h0, .inl ⟨ha, fun dx n ne => ?_⟩⟩
  refine ⟨_, rfl, _, rfl, a, C, rfl, h1, .inr ⟨dx, _, upd_same, (upd_ne ne).trans upd_same, by show 1 ≤ 900; decide, ?_⟩⟩
  refine ⟨_, rfl, _, rfl, a, C, rfl, h2, .inr ⟨dx, _, (upd_ne ne.symm).trans upd_same, upd_same, by show 2 ≤ 900; decide, ?_⟩⟩
  refine k dx _ n (fun b o nb hb => ?_) ?_ upd_same
  · have nd : b ≠ dx := ne_of_none hb n
    rw [upd_ne nd, upd_ne nd, upd_ne nb, upd_ne nd]
    exact hb
  · rw [upd_ne ne.symm, upd_ne ne.symm, upd_same]
theorem scIHeld : FnScope ["self", "peg"] ["self", "peg"] (defScope sIHeld) := ⟨rfl, rfl, rfl, by decide +kernel, rfl, by decide +kernel, by decide +kernel⟩
theorem okIHeld {fI C : Addr} {fd : FuncData} (F : FunD K "__init__" "Held.__init__" (defArgs sIHeld) (defBody sIHeld) (defScope sIHeld) [] [] fI fd) (h0 : ExS K C "peg") : FnOk P w K mg base CX0 1 fI fd ["self", "peg"] (spInit C ["peg"]) := by
  refine F.ok scIHeld spInit_len (fun cdv A outer s H vs Q E hr h => ?_)
  obtain ⟨a, ws, rfl, hl, ha, k⟩ := h
  obtain ⟨v0, rfl⟩ : ∃ v0 : V, ws = [v0] := by
    match ws, hl with
    | [a0], _ => exact ⟨a0, rfl⟩
  refine ⟨_, PSs.nox (pss_one (ps_fe (pv 0) (pv 1))), ?_⟩
  refine ⟨_, rfl, _, rfl, a, C, rfl, h0, .inl ⟨ha, fun dx n ne => ?_⟩⟩
  exact k dx _ n (But.trans (But.of (Same.new n)) But.upd) upd_same ((upd_ne ne).trans upd_same)
theorem scISpent : FnScope ["self", "cost"] ["self", "cost"] (defScope sISpent) := ⟨rfl, rfl, rfl, by decide +kernel, rfl, by decide +kernel, by decide +kernel⟩
theorem okISpent {fI C : Addr} {fd : FuncData} (F : FunD K "__init__" "Spent.__init__" (defArgs sISpent) (defBody sISpent) (defScope sISpent) [] [] fI fd) (h0 : ExS K C "cost") : FnOk P w K mg base CX0 1 fI fd ["self", "cost"] (spInit C ["cost"]) := by
  refine F.ok scISpent spInit_len (fun cdv A outer s H vs Q E hr h => ?_)
  obtain ⟨a, ws, rfl, hl, ha, k⟩ := h
  obtain ⟨v0, rfl⟩ : ∃ v0 : V, ws = [v0] := by
    match ws, hl with
    | [a0], _ => exact ⟨a0, rfl⟩
  refine ⟨_, PSs.nox (pss_one (ps_fe (pv 0) (pv 1))), ?_⟩
  refine ⟨_, rfl, _, rfl, a, C, rfl, h0, .inl ⟨ha, fun dx n ne => ?_⟩⟩
  exact k dx _ n (But.trans (But.of (Same.new n)) But.upd) upd_same ((upd_ne ne).trans upd_same)
theorem scINoDeed : FnScope ["self", "word"] ["self", "word"] (defScope sINoDeed) := ⟨rfl, rfl, rfl, by decide +kernel, rfl, by decide +kernel, by decide +kernel⟩
theorem okINoDeed {fI C : Addr} {fd : FuncData} (F : FunD K "__init__" "NoDeed.__init__" (defArgs sINoDeed) (defBody sINoDeed) (defScope sINoDeed) [] [] fI fd) (h0 : ExS K C "word") : FnOk P w K mg base CX0 1 fI fd ["self", "word"] (spInit C ["word"]) := by
  refine F.ok scINoDeed spInit_len (fun cdv A outer s H vs Q E hr h => ?_)
  obtain ⟨a, ws, rfl, hl, ha, k⟩ := h
  obtain ⟨v0, rfl⟩ : ∃ v0 : V, ws = [v0] := by
    match ws, hl with
    | [a0], _ => exact ⟨a0, rfl⟩
  refine ⟨_, PSs.nox (pss_one (ps_fe (pv 0) (pv 1))), ?_⟩
  refine ⟨_, rfl, _, rfl, a, C, rfl, h0, .inl ⟨ha, fun dx n ne => ?_⟩⟩
  exact k dx _ n (But.trans (But.of (Same.new n)) But.upd) upd_same ((upd_ne ne).trans upd_same)
theorem scIBroken : FnScope ["self", "at"] ["self", "at"] (defScope sIBroken) := ⟨rfl, rfl, rfl, by decide +kernel, rfl, by decide +kernel, by decide +kernel⟩
theorem okIBroken {fI C : Addr} {fd : FuncData} (F : FunD K "__init__" "Broken.__init__" (defArgs sIBroken) (defBody sIBroken) (defScope sIBroken) [] [] fI fd) (h0 : ExS K C "at") : FnOk P w K mg base CX0 1 fI fd ["self", "at"] (spInit C ["at"]) := by
  refine F.ok scIBroken spInit_len (fun cdv A outer s H vs Q E hr h => ?_)
  obtain ⟨a, ws, rfl, hl, ha, k⟩ := h
  obtain ⟨v0, rfl⟩ : ∃ v0 : V, ws = [v0] := by
    match ws, hl with
    | [a0], _ => exact ⟨a0, rfl⟩
  refine ⟨_, PSs.nox (pss_one (ps_fe (pv 0) (pv 1))), ?_⟩
  refine ⟨_, rfl, _, rfl, a, C, rfl, h0, .inl ⟨ha, fun dx n ne => ?_⟩⟩
  exact k dx _ n (But.trans (But.of (Same.new n)) But.upd) upd_same ((upd_ne ne).trans upd_same)
theorem scINoPeg : FnScope ["self", "peg"] ["self", "peg"] (defScope sINoPeg) := ⟨rfl, rfl, rfl, by decide +kernel, rfl, by decide +kernel, by decide +kernel⟩
theorem okINoPeg {fI C : Addr} {fd : FuncData} (F : FunD K "__init__" "NoPeg.__init__" (defArgs sINoPeg) (defBody sINoPeg) (defScope sINoPeg) [] [] fI fd) (h0 : ExS K C "peg") : FnOk P w K mg base CX0 1 fI fd ["self", "peg"] (spInit C ["peg"]) := by
  refine F.ok scINoPeg spInit_len (fun cdv A outer s H vs Q E hr h => ?_)
  obtain ⟨a, ws, rfl, hl, ha, k⟩ := h
  obtain ⟨v0, rfl⟩ : ∃ v0 : V, ws = [v0] := by
    match ws, hl with
    | [a0], _ => exact ⟨a0, rfl⟩
  refine ⟨_, PSs.nox (pss_one (ps_fe (pv 0) (pv 1))), ?_⟩
  refine ⟨_, rfl, _, rfl, a, C, rfl, h0, .inl ⟨ha, fun dx n ne => ?_⟩⟩
  exact k dx _ n (But.trans (But.of (Same.new n)) But.upd) upd_same ((upd_ne ne).trans upd_same)
theorem scINoWalker : FnScope ["self", "name"] ["self", "name"] (defScope sINoWalker) := ⟨rfl, rfl, rfl, by decide +kernel, rfl, by decide +kernel, by decide +kernel⟩
theorem okINoWalker {fI C : Addr} {fd : FuncData} (F : FunD K "__init__" "NoWalker.__init__" (defArgs sINoWalker) (defBody sINoWalker) (defScope sINoWalker) [] [] fI fd) (h0 : ExS K C "name") : FnOk P w K mg base CX0 1 fI fd ["self", "name"] (spInit C ["name"]) := by
  refine F.ok scINoWalker spInit_len (fun cdv A outer s H vs Q E hr h => ?_)
  obtain ⟨a, ws, rfl, hl, ha, k⟩ := h
  obtain ⟨v0, rfl⟩ : ∃ v0 : V, ws = [v0] := by
    match ws, hl with
    | [a0], _ => exact ⟨a0, rfl⟩
  refine ⟨_, PSs.nox (pss_one (ps_fe (pv 0) (pv 1))), ?_⟩
  refine ⟨_, rfl, _, rfl, a, C, rfl, h0, .inl ⟨ha, fun dx n ne => ?_⟩⟩
  exact k dx _ n (But.trans (But.of (Same.new n)) But.upd) upd_same ((upd_ne ne).trans upd_same)
/-- the error classes of the module -/
structure EF (P : Program) (w : World) (K : PySem.W.Frag) (mg : Str → Option Value) (base : Heap) : Prop where
  mkNoBoard : ErrC P w K mg base "NoBoard" "NoBoard.__init__" sINoBoard ["word", "at"]
  mkNoText : ErrC P w K mg base "NoText" "NoText.__init__" sINoText ["line"]
  mkNoFamily : ErrC P w K mg base "NoFamily" "NoFamily.__init__" sINoFamily ["word", "sets"]
  mkNoTurn : ErrC P w K mg base "NoTurn" "NoTurn.__init__" sINoTurn ["peg"]
  mkMissing : ErrC P w K mg base "Missing" "Missing.__init__" sIMissing ["peg", "needed"]
  mkNeeded : ErrC P w K mg base "Needed" "Needed.__init__" sINeeded ["peg", "by"]
  mkBarred : ErrC P w K mg base "Barred" "Barred.__init__" sIBarred ["peg", "other"]
  mkNoMatch : ErrC P w K mg base "NoMatch" "NoMatch.__init__" sINoMatch ["word"]
  mkStuck : ErrC P w K mg base "Stuck" "Stuck.__init__" sIStuck ["at"]
  mkUnmet : ErrC P w K mg base "Unmet" "Unmet.__init__" sIUnmet ["word", "peg", "other"]
  mkHeld : ErrC P w K mg base "Held" "Held.__init__" sIHeld ["peg"]
  mkSpent : ErrC P w K mg base "Spent" "Spent.__init__" sISpent ["cost"]
  mkNoDeed : ErrC P w K mg base "NoDeed" "NoDeed.__init__" sINoDeed ["word"]
  mkBroken : ErrC P w K mg base "Broken" "Broken.__init__" sIBroken ["at"]
  mkNoPeg : ErrC P w K mg base "NoPeg" "NoPeg.__init__" sINoPeg ["peg"]
  mkNoWalker : ErrC P w K mg base "NoWalker" "NoWalker.__init__" sINoWalker ["name"]
  nc : ErrN K mg "NoCommand"
  gNoBoard : mg "NoBoard" = some (.ref (He.ga K "NoBoard"))
  gNoText : mg "NoText" = some (.ref (He.ga K "NoText"))
  gNoFamily : mg "NoFamily" = some (.ref (He.ga K "NoFamily"))
  gNoTurn : mg "NoTurn" = some (.ref (He.ga K "NoTurn"))
  gMissing : mg "Missing" = some (.ref (He.ga K "Missing"))
  gNeeded : mg "Needed" = some (.ref (He.ga K "Needed"))
  gBarred : mg "Barred" = some (.ref (He.ga K "Barred"))
  gNoMatch : mg "NoMatch" = some (.ref (He.ga K "NoMatch"))
  gStuck : mg "Stuck" = some (.ref (He.ga K "Stuck"))
  gUnmet : mg "Unmet" = some (.ref (He.ga K "Unmet"))
  gHeld : mg "Held" = some (.ref (He.ga K "Held"))
  gSpent : mg "Spent" = some (.ref (He.ga K "Spent"))
  gNoDeed : mg "NoDeed" = some (.ref (He.ga K "NoDeed"))
  gBroken : mg "Broken" = some (.ref (He.ga K "Broken"))
  gNoCommand : mg "NoCommand" = some (.ref (He.ga K "NoCommand"))
  gNoPeg : mg "NoPeg" = some (.ref (He.ga K "NoPeg"))
  gNoWalker : mg "NoWalker" = some (.ref (He.ga K "NoWalker"))
  gPegError : mg "PegError" = some (.ref (He.ga K "PegError"))
  exc : ∀ j : Nat, j < 17 → ExcC K (errC K j)
  free : ∀ j : Nat, j < 17 → ∀ f ∈ (["at", "by", "cost", "line", "name", "needed", "other", "peg", "sets", "word"] : List Str), PySem.W.findIn K (.ref (errC K j)) f = some none
  kit : ∀ i j : Nat, i < 17 → j < 17 → PySem.W.kitOne K (.ref (errC K i)) (.ref (errC K j)) = some (decide (i = j))
  kitP : ∀ i : Nat, i < 17 → PySem.W.kitOne K (.ref (errC K i)) (.ref (He.ga K "PegError")) = some (decide (i < 15))
  kitV : ∀ i : Nat, i < 17 → PySem.W.kitOne K (.ref (errC K i)) (.type "ValueError") = some (decide (i < 15))
  kitK : ∀ i : Nat, i < 17 → PySem.W.kitOne K (.ref (errC K i)) (.type "KeyError") = some (decide (14 < i))
  kitI : ∀ i : Nat, i < 17 → PySem.W.kitOne K (.ref (errC K i)) (.type "IndexError") = some false
/-- the fields of the errors, the last one first -/
def flds (v1 v2 v3 : V) : List (List (Str × V)) := [[("at", v2), ("word", v1)], [("line", v1)], [("sets", v2), ("word", v1)], [("peg", v1)], [("needed", v2), ("peg", v1)], [("by", v2), ("peg", v1)], [("other", v2), ("peg", v1)], [("word", v1)], [("at", v1)], [("other", v3), ("peg", v2), ("word", v1)], [("peg", v1)], [("cost", v1)], [("word", v1)], [("at", v1)], [], [("peg", v1)], [("name", v1)]]
/-- the lot: the errors in their order -/
def Lot (K : PySem.W.Frag) (H : Hp) (v1 v2 v3 : V) (as : List Addr) : Prop := as.length = 17 ∧ ∀ j : Nat, j < 17 → ErrAt H (as.getD j 0) (errC K j) ((flds v1 v2 v3).getD j [])
def spLot (K : PySem.W.Frag) : Sp := fun vs H Q _ => ∃ v1 v2 v3 : V, vs = [v1, v2, v3] ∧ ∀ (p : Addr) (H' : Hp) (as : List Addr), H p = none → Same H H' → H' p = some (.lst (as.map V.ref)) → Lot K H' v1 v2 v3 as → Q (.ref p) H'
abbrev sMade : Stmt := topS 23
abbrev sNamed : Stmt := topS 24
theorem scMade : FnScope ["_law_one", "_law_two", "_law_three", "_law_found"] ["_law_one", "_law_two", "_law_three"] (defScope sMade) := ⟨rfl, rfl, rfl, by decide +kernel, rfl, by decide +kernel, by decide +kernel⟩
theorem ok_made {f : Addr} {fd : FuncData} (F : FnT K "_law_made" sMade f fd) (E0 : EF P w K mg base) : FnOk P w K mg base CX0 3 f fd ["_law_one", "_law_two", "_law_three"] (spLot K) := by
  have nd := scMade.nd
  refine F.ok scMade (fun vs H Q E h => ?_) (fun cdv A outer s H vs Q E hr h => ?_)
  · obtain ⟨v1, v2, v3, rfl, _⟩ := h
    rfl
  · obtain ⟨v1, v2, v3, rfl, q⟩ := h
    refine ⟨_, PSs.nox (pss_cons (ps_set (i := 3) nd rfl (.inl rfl) (pe_lst (pa_cons (pe_err E0.mkNoBoard (hr.mono (by decide)) (pa_cons (pv 0) (pa_cons (pv 1) pa_nil)) (mono_cons mono_var (mono_cons mono_var mono_nil))) (pa_cons (pe_err E0.mkNoText (hr.mono (by decide)) (pa_cons (pv 0) pa_nil) (mono_cons mono_var mono_nil)) (pa_cons (pe_err E0.mkNoFamily (hr.mono (by decide)) (pa_cons (pv 0) (pa_cons (pv 1) pa_nil)) (mono_cons mono_var (mono_cons mono_var mono_nil))) (pa_cons (pe_err E0.mkNoTurn (hr.mono (by decide)) (pa_cons (pv 0) pa_nil) (mono_cons mono_var mono_nil)) (pa_cons (pe_err E0.mkMissing (hr.mono (by decide)) (pa_cons (pv 0) (pa_cons (pv 1) pa_nil)) (mono_cons mono_var (mono_cons mono_var mono_nil))) (pa_cons (pe_err E0.mkNeeded (hr.mono (by decide)) (pa_cons (pv 0) (pa_cons (pv 1) pa_nil)) (mono_cons mono_var (mono_cons mono_var mono_nil))) pa_nil))))))))
  (pss_cons (ps_set (i := 3) nd rfl (.inl rfl) (pe_op op_cat (pv 3) (pe_lst (pa_cons (pe_err E0.mkBarred (hr.mono (by decide)) (pa_cons (pv 0) (pa_cons (pv 1) pa_nil)) (mono_cons mono_var (mono_cons mono_var mono_nil))) (pa_cons (pe_err E0.mkNoMatch (hr.mono (by decide)) (pa_cons (pv 0) pa_nil) (mono_cons mono_var mono_nil)) (pa_cons (pe_err E0.mkStuck (hr.mono (by decide)) (pa_cons (pv 0) pa_nil) (mono_cons mono_var mono_nil)) (pa_cons (pe_err E0.mkUnmet (hr.mono (by decide)) (pa_cons (pv 0) (pa_cons (pv 1) (pa_cons (pv 2) pa_nil))) (mono_cons mono_var (mono_cons mono_var (mono_cons mono_var mono_nil)))) (pa_cons (pe_err E0.mkHeld (hr.mono (by decide)) (pa_cons (pv 0) pa_nil) (mono_cons mono_var mono_nil)) (pa_cons (pe_err E0.mkSpent (hr.mono (by decide)) (pa_cons (pv 0) pa_nil) (mono_cons mono_var mono_nil)) pa_nil)))))))))
  (pss_one (ps_ret (pe_op op_cat (pv 3) (pe_lst (pa_cons (pe_err E0.mkNoDeed (hr.mono (by decide)) (pa_cons (pv 0) pa_nil) (mono_cons mono_var mono_nil)) (pa_cons (pe_err E0.mkBroken (hr.mono (by decide)) (pa_cons (pv 0) pa_nil) (mono_cons mono_var mono_nil)) (pa_cons (pe_errN E0.nc) (pa_cons (pe_err E0.mkNoPeg (hr.mono (by decide)) (pa_cons (pv 0) pa_nil) (mono_cons mono_var mono_nil)) (pa_cons (pe_err E0.mkNoWalker (hr.mono (by decide)) (pa_cons (pv 0) pa_nil) (mono_cons mono_var mono_nil)) pa_nil))))))))))), ?_⟩
    refine ⟨_, rfl, _, rfl, rfl, fun e1 H1 n1 s1 r1 => ?_⟩
    refine ⟨_, rfl, rfl, fun e2 H2 n2 s2 r2 => ?_⟩
    refine ⟨_, rfl, _, rfl, rfl, fun e3 H3 n3 s3 r3 => ?_⟩
    refine ⟨_, rfl, rfl, fun e4 H4 n4 s4 r4 => ?_⟩
    refine ⟨_, rfl, _, rfl, rfl, fun e5 H5 n5 s5 r5 => ?_⟩
    refine ⟨_, rfl, _, rfl, rfl, fun e6 H6 n6 s6 r6 => ?_⟩
    refine ⟨by show 6 ≤ sizeLine; decide, fun p1 hp1 => ?_⟩
    refine ⟨_, rfl, ?_⟩
    refine ⟨_, rfl, _, rfl, rfl, fun e7 H7 n7 s7 r7 => ?_⟩
    refine ⟨_, rfl, rfl, fun e8 H8 n8 s8 r8 => ?_⟩
    refine ⟨_, rfl, rfl, fun e9 H9 n9 s9 r9 => ?_⟩
    refine ⟨_, rfl, _, rfl, _, rfl, rfl, fun e10 H10 n10 s10 r10 => ?_⟩
    refine ⟨_, rfl, rfl, fun e11 H11 n11 s11 r11 => ?_⟩
    refine ⟨_, rfl, rfl, fun e12 H12 n12 s12 r12 => ?_⟩
    refine ⟨by show 6 ≤ sizeLine; decide, fun p2 hp2 => ?_⟩
    refine ⟨p1, p2, _, _, rfl, rfl, (Same.trans s7 (Same.trans s8 (Same.trans s9 (Same.trans s10 (Same.trans s11 (Same.trans s12 (Same.new hp2))))))) _ _ upd_same, upd_same, by show 6 + 6 ≤ sizeLine; decide, fun p3 hp3 => ?_⟩
    refine ⟨_, rfl, ?_⟩
    refine ⟨_, rfl, rfl, fun e13 H13 n13 s13 r13 => ?_⟩
    refine ⟨_, rfl, rfl, fun e14 H14 n14 s14 r14 => ?_⟩
    refine fun e15 H15 n15 s15 r15 => ?_
    refine ⟨_, rfl, rfl, fun e16 H16 n16 s16 r16 => ?_⟩
    refine ⟨_, rfl, rfl, fun e17 H17 n17 s17 r17 => ?_⟩
    refine ⟨by show 5 ≤ sizeLine; decide, fun p4 hp4 => ?_⟩
    refine ⟨p3, p4, _, _, rfl, rfl, (Same.trans s13 (Same.trans s14 (Same.trans s15 (Same.trans s16 (Same.trans s17 (Same.new hp4)))))) _ _ upd_same, upd_same, by show 12 + 5 ≤ sizeLine; decide, fun p5 hp5 => ?_⟩
    refine q _ _ [e1, e2, e3, e4, e5, e6, e7, e8, e9, e10, e11, e12, e13, e14, e15, e16, e17] ?_ ((Same.trans s1 (Same.trans s2 (Same.trans s3 (Same.trans s4 (Same.trans s5 (Same.trans s6 (Same.trans (Same.new hp1) (Same.trans s7 (Same.trans s8 (Same.trans s9 (Same.trans s10 (Same.trans s11 (Same.trans s12 (Same.trans (Same.new hp2) (Same.trans (Same.new hp3) (Same.trans s13 (Same.trans s14 (Same.trans s15 (Same.trans s16 (Same.trans s17 (Same.trans (Same.new hp4) (Same.new hp5))))))))))))))))))))))) upd_same ⟨rfl, fun j hj => ?_⟩
    · exact Same.free ((Same.trans s1 (Same.trans s2 (Same.trans s3 (Same.trans s4 (Same.trans s5 (Same.trans s6 (Same.trans (Same.new hp1) (Same.trans s7 (Same.trans s8 (Same.trans s9 (Same.trans s10 (Same.trans s11 (Same.trans s12 (Same.trans (Same.new hp2) (Same.trans (Same.new hp3) (Same.trans s13 (Same.trans s14 (Same.trans s15 (Same.trans s16 (Same.trans s17 (Same.new hp4)))))))))))))))))))))) hp5
    · match j, hj with
      | 0, _ => exact r1.mono ((Same.trans s2 (Same.trans s3 (Same.trans s4 (Same.trans s5 (Same.trans s6 (Same.trans (Same.new hp1) (Same.trans s7 (Same.trans s8 (Same.trans s9 (Same.trans s10 (Same.trans s11 (Same.trans s12 (Same.trans (Same.new hp2) (Same.trans (Same.new hp3) (Same.trans s13 (Same.trans s14 (Same.trans s15 (Same.trans s16 (Same.trans s17 (Same.trans (Same.new hp4) (Same.new hp5))))))))))))))))))))))
      | 1, _ => exact r2.mono ((Same.trans s3 (Same.trans s4 (Same.trans s5 (Same.trans s6 (Same.trans (Same.new hp1) (Same.trans s7 (Same.trans s8 (Same.trans s9 (Same.trans s10 (Same.trans s11 (Same.trans s12 (Same.trans (Same.new hp2) (Same.trans (Same.new hp3) (Same.trans s13 (Same.trans s14 (Same.trans s15 (Same.trans s16 (Same.trans s17 (Same.trans (Same.new hp4) (Same.new hp5)))))))))))))))))))))
      | 2, _ => exact r3.mono ((Same.trans s4 (Same.trans s5 (Same.trans s6 (Same.trans (Same.new hp1) (Same.trans s7 (Same.trans s8 (Same.trans s9 (Same.trans s10 (Same.trans s11 (Same.trans s12 (Same.trans (Same.new hp2) (Same.trans (Same.new hp3) (Same.trans s13 (Same.trans s14 (Same.trans s15 (Same.trans s16 (Same.trans s17 (Same.trans (Same.new hp4) (Same.new hp5))))))))))))))))))))
      | 3, _ => exact r4.mono ((Same.trans s5 (Same.trans s6 (Same.trans (Same.new hp1) (Same.trans s7 (Same.trans s8 (Same.trans s9 (Same.trans s10 (Same.trans s11 (Same.trans s12 (Same.trans (Same.new hp2) (Same.trans (Same.new hp3) (Same.trans s13 (Same.trans s14 (Same.trans s15 (Same.trans s16 (Same.trans s17 (Same.trans (Same.new hp4) (Same.new hp5)))))))))))))))))))
      | 4, _ => exact r5.mono ((Same.trans s6 (Same.trans (Same.new hp1) (Same.trans s7 (Same.trans s8 (Same.trans s9 (Same.trans s10 (Same.trans s11 (Same.trans s12 (Same.trans (Same.new hp2) (Same.trans (Same.new hp3) (Same.trans s13 (Same.trans s14 (Same.trans s15 (Same.trans s16 (Same.trans s17 (Same.trans (Same.new hp4) (Same.new hp5))))))))))))))))))
      | 5, _ => exact r6.mono ((Same.trans (Same.new hp1) (Same.trans s7 (Same.trans s8 (Same.trans s9 (Same.trans s10 (Same.trans s11 (Same.trans s12 (Same.trans (Same.new hp2) (Same.trans (Same.new hp3) (Same.trans s13 (Same.trans s14 (Same.trans s15 (Same.trans s16 (Same.trans s17 (Same.trans (Same.new hp4) (Same.new hp5)))))))))))))))))
      | 6, _ => exact r7.mono ((Same.trans s8 (Same.trans s9 (Same.trans s10 (Same.trans s11 (Same.trans s12 (Same.trans (Same.new hp2) (Same.trans (Same.new hp3) (Same.trans s13 (Same.trans s14 (Same.trans s15 (Same.trans s16 (Same.trans s17 (Same.trans (Same.new hp4) (Same.new hp5)))))))))))))))
      | 7, _ => exact r8.mono ((Same.trans s9 (Same.trans s10 (Same.trans s11 (Same.trans s12 (Same.trans (Same.new hp2) (Same.trans (Same.new hp3) (Same.trans s13 (Same.trans s14 (Same.trans s15 (Same.trans s16 (Same.trans s17 (Same.trans (Same.new hp4) (Same.new hp5))))))))))))))
      | 8, _ => exact r9.mono ((Same.trans s10 (Same.trans s11 (Same.trans s12 (Same.trans (Same.new hp2) (Same.trans (Same.new hp3) (Same.trans s13 (Same.trans s14 (Same.trans s15 (Same.trans s16 (Same.trans s17 (Same.trans (Same.new hp4) (Same.new hp5)))))))))))))
      | 9, _ => exact r10.mono ((Same.trans s11 (Same.trans s12 (Same.trans (Same.new hp2) (Same.trans (Same.new hp3) (Same.trans s13 (Same.trans s14 (Same.trans s15 (Same.trans s16 (Same.trans s17 (Same.trans (Same.new hp4) (Same.new hp5))))))))))))
      | 10, _ => exact r11.mono ((Same.trans s12 (Same.trans (Same.new hp2) (Same.trans (Same.new hp3) (Same.trans s13 (Same.trans s14 (Same.trans s15 (Same.trans s16 (Same.trans s17 (Same.trans (Same.new hp4) (Same.new hp5)))))))))))
      | 11, _ => exact r12.mono ((Same.trans (Same.new hp2) (Same.trans (Same.new hp3) (Same.trans s13 (Same.trans s14 (Same.trans s15 (Same.trans s16 (Same.trans s17 (Same.trans (Same.new hp4) (Same.new hp5))))))))))
      | 12, _ => exact r13.mono ((Same.trans s14 (Same.trans s15 (Same.trans s16 (Same.trans s17 (Same.trans (Same.new hp4) (Same.new hp5)))))))
      | 13, _ => exact r14.mono ((Same.trans s15 (Same.trans s16 (Same.trans s17 (Same.trans (Same.new hp4) (Same.new hp5))))))
      | 14, _ => exact r15.mono ((Same.trans s16 (Same.trans s17 (Same.trans (Same.new hp4) (Same.new hp5)))))
      | 15, _ => exact r16.mono ((Same.trans s17 (Same.trans (Same.new hp4) (Same.new hp5))))
      | 16, _ => exact r17.mono ((Same.trans (Same.new hp4) (Same.new hp5)))
      | n + 17, h => exact absurd h (by omega)
def perm0 {α : Type} (l : List α) : List α := l
def perm10 {α : Type} : List α → List α
  | [a, b] => [b, a]
  | l => l
def perm120 {α : Type} : List α → List α
  | [a, b, c] => [b, c, a]
  | l => l
theorem perm0_rel {zs : List V} {ws : List Value} (h : Vals zs ws) : Vals (perm0 zs) (perm0 ws) := h
theorem perm10_rel {zs : List V} {ws : List Value} (h : Vals zs ws) : Vals (perm10 zs) (perm10 ws) := by
  match zs, ws, h with
  | [], [], h => exact h
  | [_], [_], h => exact h
  | [_, _], [_, _], .cons a (.cons b .nil) => exact .cons b (.cons a .nil)
  | _ :: _ :: _ :: _, _ :: _ :: _ :: _, h => exact h
  | [_, _], _ :: _ :: _ :: _, .cons _ (.cons _ h) => cases h
  | _ :: _ :: _ :: _, [_, _], .cons _ (.cons _ h) => cases h
theorem perm120_rel {zs : List V} {ws : List Value} (h : Vals zs ws) : Vals (perm120 zs) (perm120 ws) := by
  match zs, ws, h with
  | [], [], h => exact h
  | [_], [_], h => exact h
  | [_, _], [_, _], h => exact h
  | [_, _, _], [_, _, _], .cons a (.cons b (.cons c .nil)) => exact .cons b (.cons c (.cons a .nil))
  | _ :: _ :: _ :: _ :: _, _ :: _ :: _ :: _ :: _, h => exact h
  | [_, _, _], _ :: _ :: _ :: _ :: _, .cons _ (.cons _ (.cons _ h)) => cases h
  | _ :: _ :: _ :: _ :: _, [_, _, _], .cons _ (.cons _ (.cons _ h)) => cases h
theorem perm0_len {n : Nat} (zs : List V) (h : zs.length = n) : (perm0 zs).length = n := h
theorem perm10_len {n : Nat} (zs : List V) (h : zs.length = n) : (perm10 zs).length = n := by
  match zs with
  | [] => exact h
  | [_] => exact h
  | [_, _] => exact h
  | _ :: _ :: _ :: _ => exact h
theorem perm120_len {n : Nat} (zs : List V) (h : zs.length = n) : (perm120 zs).length = n := by
  match zs with
  | [] => exact h
  | [_] => exact h
  | [_, _] => exact h
  | [_, _, _] => exact h
  | _ :: _ :: _ :: _ :: _ => exact h
theorem scNamed : FnScope ["_law_one", "_law_two", "_law_three", "_law_found"] ["_law_one", "_law_two", "_law_three"] (defScope sNamed) := ⟨rfl, rfl, rfl, by decide +kernel, rfl, by decide +kernel, by decide +kernel⟩
theorem ok_named {f : Addr} {fd : FuncData} (F : FnT K "_law_named" sNamed f fd) (E0 : EF P w K mg base) : FnOk P w K mg base CX0 3 f fd ["_law_one", "_law_two", "_law_three"] (spLot K) := by
  have nd := scNamed.nd
  refine F.ok scNamed (fun vs H Q E h => ?_) (fun cdv A outer s H vs Q E hr h => ?_)
  · obtain ⟨v1, v2, v3, rfl, _⟩ := h
    rfl
  · obtain ⟨v1, v2, v3, rfl, q⟩ := h
    refine ⟨_, PSs.nox (pss_cons (ps_set (i := 3) nd rfl (.inl rfl) (pe_lst (pa_cons (pe_errK (g := perm10) E0.mkNoBoard (hr.mono (by decide)) (pk_cons (pv 1) (pk_cons (pv 0) pk_nil)) (mono_cons mono_var (mono_cons mono_var mono_nil)) (fun kV doc pm an cdv ct a ws hw => match ws, hw with | [_, _], _ => rfl) perm10_rel perm10_len) (pa_cons (pe_errK (g := perm0) E0.mkNoText (hr.mono (by decide)) (pk_cons (pv 0) pk_nil) (mono_cons mono_var mono_nil) (fun kV doc pm an cdv ct a ws hw => match ws, hw with | [_], _ => rfl) perm0_rel perm0_len) (pa_cons (pe_errK (g := perm10) E0.mkNoFamily (hr.mono (by decide)) (pk_cons (pv 1) (pk_cons (pv 0) pk_nil)) (mono_cons mono_var (mono_cons mono_var mono_nil)) (fun kV doc pm an cdv ct a ws hw => match ws, hw with | [_, _], _ => rfl) perm10_rel perm10_len) (pa_cons (pe_errK (g := perm0) E0.mkNoTurn (hr.mono (by decide)) (pk_cons (pv 0) pk_nil) (mono_cons mono_var mono_nil) (fun kV doc pm an cdv ct a ws hw => match ws, hw with | [_], _ => rfl) perm0_rel perm0_len) pa_nil))))))
  (pss_cons (ps_set (i := 3) nd rfl (.inl rfl) (pe_op op_cat (pv 3) (pe_lst (pa_cons (pe_errK (g := perm10) E0.mkMissing (hr.mono (by decide)) (pk_cons (pv 1) (pk_cons (pv 0) pk_nil)) (mono_cons mono_var (mono_cons mono_var mono_nil)) (fun kV doc pm an cdv ct a ws hw => match ws, hw with | [_, _], _ => rfl) perm10_rel perm10_len) (pa_cons (pe_errK (g := perm10) E0.mkNeeded (hr.mono (by decide)) (pk_cons (pv 1) (pk_cons (pv 0) pk_nil)) (mono_cons mono_var (mono_cons mono_var mono_nil)) (fun kV doc pm an cdv ct a ws hw => match ws, hw with | [_, _], _ => rfl) perm10_rel perm10_len) (pa_cons (pe_errK (g := perm10) E0.mkBarred (hr.mono (by decide)) (pk_cons (pv 1) (pk_cons (pv 0) pk_nil)) (mono_cons mono_var (mono_cons mono_var mono_nil)) (fun kV doc pm an cdv ct a ws hw => match ws, hw with | [_, _], _ => rfl) perm10_rel perm10_len) pa_nil))))))
  (pss_cons (ps_set (i := 3) nd rfl (.inl rfl) (pe_op op_cat (pv 3) (pe_lst (pa_cons (pe_errK (g := perm0) E0.mkNoMatch (hr.mono (by decide)) (pk_cons (pv 0) pk_nil) (mono_cons mono_var mono_nil) (fun kV doc pm an cdv ct a ws hw => match ws, hw with | [_], _ => rfl) perm0_rel perm0_len) (pa_cons (pe_errK (g := perm0) E0.mkStuck (hr.mono (by decide)) (pk_cons (pv 0) pk_nil) (mono_cons mono_var mono_nil) (fun kV doc pm an cdv ct a ws hw => match ws, hw with | [_], _ => rfl) perm0_rel perm0_len) (pa_cons (pe_errK (g := perm120) E0.mkUnmet (hr.mono (by decide)) (pk_cons (pv 2) (pk_cons (pv 0) (pk_cons (pv 1) pk_nil))) (mono_cons mono_var (mono_cons mono_var (mono_cons mono_var mono_nil))) (fun kV doc pm an cdv ct a ws hw => match ws, hw with | [_, _, _], _ => rfl) perm120_rel perm120_len) (pa_cons (pe_errK (g := perm0) E0.mkHeld (hr.mono (by decide)) (pk_cons (pv 0) pk_nil) (mono_cons mono_var mono_nil) (fun kV doc pm an cdv ct a ws hw => match ws, hw with | [_], _ => rfl) perm0_rel perm0_len) pa_nil)))))))
  (pss_cons (ps_set (i := 3) nd rfl (.inl rfl) (pe_op op_cat (pv 3) (pe_lst (pa_cons (pe_errK (g := perm0) E0.mkSpent (hr.mono (by decide)) (pk_cons (pv 0) pk_nil) (mono_cons mono_var mono_nil) (fun kV doc pm an cdv ct a ws hw => match ws, hw with | [_], _ => rfl) perm0_rel perm0_len) (pa_cons (pe_errK (g := perm0) E0.mkNoDeed (hr.mono (by decide)) (pk_cons (pv 0) pk_nil) (mono_cons mono_var mono_nil) (fun kV doc pm an cdv ct a ws hw => match ws, hw with | [_], _ => rfl) perm0_rel perm0_len) (pa_cons (pe_errK (g := perm0) E0.mkBroken (hr.mono (by decide)) (pk_cons (pv 0) pk_nil) (mono_cons mono_var mono_nil) (fun kV doc pm an cdv ct a ws hw => match ws, hw with | [_], _ => rfl) perm0_rel perm0_len) (pa_cons (pe_errN E0.nc) (pa_cons (pe_errK (g := perm0) E0.mkNoPeg (hr.mono (by decide)) (pk_cons (pv 0) pk_nil) (mono_cons mono_var mono_nil) (fun kV doc pm an cdv ct a ws hw => match ws, hw with | [_], _ => rfl) perm0_rel perm0_len) pa_nil))))))))
  (pss_one (ps_ret (pe_op op_cat (pv 3) (pe_lst (pa_cons (pe_errK (g := perm0) E0.mkNoWalker (hr.mono (by decide)) (pk_cons (pv 0) pk_nil) (mono_cons mono_var mono_nil) (fun kV doc pm an cdv ct a ws hw => match ws, hw with | [_], _ => rfl) perm0_rel perm0_len) pa_nil))))))))), ?_⟩
    refine ⟨_, rfl, _, rfl, rfl, fun e1 H1 n1 s1 r1 => ?_⟩
    refine ⟨_, rfl, rfl, fun e2 H2 n2 s2 r2 => ?_⟩
    refine ⟨_, rfl, _, rfl, rfl, fun e3 H3 n3 s3 r3 => ?_⟩
    refine ⟨_, rfl, rfl, fun e4 H4 n4 s4 r4 => ?_⟩
    refine ⟨by show 4 ≤ sizeLine; decide, fun p1 hp1 => ?_⟩
    refine ⟨_, rfl, ?_⟩
    refine ⟨_, rfl, _, rfl, rfl, fun e5 H5 n5 s5 r5 => ?_⟩
    refine ⟨_, rfl, _, rfl, rfl, fun e6 H6 n6 s6 r6 => ?_⟩
    refine ⟨_, rfl, _, rfl, rfl, fun e7 H7 n7 s7 r7 => ?_⟩
    refine ⟨by show 3 ≤ sizeLine; decide, fun p2 hp2 => ?_⟩
    refine ⟨p1, p2, _, _, rfl, rfl, (Same.trans s5 (Same.trans s6 (Same.trans s7 (Same.new hp2)))) _ _ upd_same, upd_same, by show 4 + 3 ≤ sizeLine; decide, fun p3 hp3 => ?_⟩
    refine ⟨_, rfl, ?_⟩
    refine ⟨_, rfl, rfl, fun e8 H8 n8 s8 r8 => ?_⟩
    refine ⟨_, rfl, rfl, fun e9 H9 n9 s9 r9 => ?_⟩
    refine ⟨_, rfl, _, rfl, _, rfl, rfl, fun e10 H10 n10 s10 r10 => ?_⟩
    refine ⟨_, rfl, rfl, fun e11 H11 n11 s11 r11 => ?_⟩
    refine ⟨by show 4 ≤ sizeLine; decide, fun p4 hp4 => ?_⟩
    refine ⟨p3, p4, _, _, rfl, rfl, (Same.trans s8 (Same.trans s9 (Same.trans s10 (Same.trans s11 (Same.new hp4))))) _ _ upd_same, upd_same, by show 7 + 4 ≤ sizeLine; decide, fun p5 hp5 => ?_⟩
    refine ⟨_, rfl, ?_⟩
    refine ⟨_, rfl, rfl, fun e12 H12 n12 s12 r12 => ?_⟩
    refine ⟨_, rfl, rfl, fun e13 H13 n13 s13 r13 => ?_⟩
    refine ⟨_, rfl, rfl, fun e14 H14 n14 s14 r14 => ?_⟩
    refine fun e15 H15 n15 s15 r15 => ?_
    refine ⟨_, rfl, rfl, fun e16 H16 n16 s16 r16 => ?_⟩
    refine ⟨by show 5 ≤ sizeLine; decide, fun p6 hp6 => ?_⟩
    refine ⟨p5, p6, _, _, rfl, rfl, (Same.trans s12 (Same.trans s13 (Same.trans s14 (Same.trans s15 (Same.trans s16 (Same.new hp6)))))) _ _ upd_same, upd_same, by show 11 + 5 ≤ sizeLine; decide, fun p7 hp7 => ?_⟩
    refine ⟨_, rfl, ?_⟩
    refine ⟨_, rfl, rfl, fun e17 H17 n17 s17 r17 => ?_⟩
    refine ⟨by show 1 ≤ sizeLine; decide, fun p8 hp8 => ?_⟩
    refine ⟨p7, p8, _, _, rfl, rfl, (Same.trans s17 (Same.new hp8)) _ _ upd_same, upd_same, by show 16 + 1 ≤ sizeLine; decide, fun p9 hp9 => ?_⟩
    refine q _ _ [e1, e2, e3, e4, e5, e6, e7, e8, e9, e10, e11, e12, e13, e14, e15, e16, e17] ?_ ((Same.trans s1 (Same.trans s2 (Same.trans s3 (Same.trans s4 (Same.trans (Same.new hp1) (Same.trans s5 (Same.trans s6 (Same.trans s7 (Same.trans (Same.new hp2) (Same.trans (Same.new hp3) (Same.trans s8 (Same.trans s9 (Same.trans s10 (Same.trans s11 (Same.trans (Same.new hp4) (Same.trans (Same.new hp5) (Same.trans s12 (Same.trans s13 (Same.trans s14 (Same.trans s15 (Same.trans s16 (Same.trans (Same.new hp6) (Same.trans (Same.new hp7) (Same.trans s17 (Same.trans (Same.new hp8) (Same.new hp9))))))))))))))))))))))))))) upd_same ⟨rfl, fun j hj => ?_⟩
    · exact Same.free ((Same.trans s1 (Same.trans s2 (Same.trans s3 (Same.trans s4 (Same.trans (Same.new hp1) (Same.trans s5 (Same.trans s6 (Same.trans s7 (Same.trans (Same.new hp2) (Same.trans (Same.new hp3) (Same.trans s8 (Same.trans s9 (Same.trans s10 (Same.trans s11 (Same.trans (Same.new hp4) (Same.trans (Same.new hp5) (Same.trans s12 (Same.trans s13 (Same.trans s14 (Same.trans s15 (Same.trans s16 (Same.trans (Same.new hp6) (Same.trans (Same.new hp7) (Same.trans s17 (Same.new hp8)))))))))))))))))))))))))) hp9
    · match j, hj with
      | 0, _ => exact r1.mono ((Same.trans s2 (Same.trans s3 (Same.trans s4 (Same.trans (Same.new hp1) (Same.trans s5 (Same.trans s6 (Same.trans s7 (Same.trans (Same.new hp2) (Same.trans (Same.new hp3) (Same.trans s8 (Same.trans s9 (Same.trans s10 (Same.trans s11 (Same.trans (Same.new hp4) (Same.trans (Same.new hp5) (Same.trans s12 (Same.trans s13 (Same.trans s14 (Same.trans s15 (Same.trans s16 (Same.trans (Same.new hp6) (Same.trans (Same.new hp7) (Same.trans s17 (Same.trans (Same.new hp8) (Same.new hp9))))))))))))))))))))))))))
      | 1, _ => exact r2.mono ((Same.trans s3 (Same.trans s4 (Same.trans (Same.new hp1) (Same.trans s5 (Same.trans s6 (Same.trans s7 (Same.trans (Same.new hp2) (Same.trans (Same.new hp3) (Same.trans s8 (Same.trans s9 (Same.trans s10 (Same.trans s11 (Same.trans (Same.new hp4) (Same.trans (Same.new hp5) (Same.trans s12 (Same.trans s13 (Same.trans s14 (Same.trans s15 (Same.trans s16 (Same.trans (Same.new hp6) (Same.trans (Same.new hp7) (Same.trans s17 (Same.trans (Same.new hp8) (Same.new hp9)))))))))))))))))))))))))
      | 2, _ => exact r3.mono ((Same.trans s4 (Same.trans (Same.new hp1) (Same.trans s5 (Same.trans s6 (Same.trans s7 (Same.trans (Same.new hp2) (Same.trans (Same.new hp3) (Same.trans s8 (Same.trans s9 (Same.trans s10 (Same.trans s11 (Same.trans (Same.new hp4) (Same.trans (Same.new hp5) (Same.trans s12 (Same.trans s13 (Same.trans s14 (Same.trans s15 (Same.trans s16 (Same.trans (Same.new hp6) (Same.trans (Same.new hp7) (Same.trans s17 (Same.trans (Same.new hp8) (Same.new hp9))))))))))))))))))))))))
      | 3, _ => exact r4.mono ((Same.trans (Same.new hp1) (Same.trans s5 (Same.trans s6 (Same.trans s7 (Same.trans (Same.new hp2) (Same.trans (Same.new hp3) (Same.trans s8 (Same.trans s9 (Same.trans s10 (Same.trans s11 (Same.trans (Same.new hp4) (Same.trans (Same.new hp5) (Same.trans s12 (Same.trans s13 (Same.trans s14 (Same.trans s15 (Same.trans s16 (Same.trans (Same.new hp6) (Same.trans (Same.new hp7) (Same.trans s17 (Same.trans (Same.new hp8) (Same.new hp9)))))))))))))))))))))))
      | 4, _ => exact r5.mono ((Same.trans s6 (Same.trans s7 (Same.trans (Same.new hp2) (Same.trans (Same.new hp3) (Same.trans s8 (Same.trans s9 (Same.trans s10 (Same.trans s11 (Same.trans (Same.new hp4) (Same.trans (Same.new hp5) (Same.trans s12 (Same.trans s13 (Same.trans s14 (Same.trans s15 (Same.trans s16 (Same.trans (Same.new hp6) (Same.trans (Same.new hp7) (Same.trans s17 (Same.trans (Same.new hp8) (Same.new hp9)))))))))))))))))))))
      | 5, _ => exact r6.mono ((Same.trans s7 (Same.trans (Same.new hp2) (Same.trans (Same.new hp3) (Same.trans s8 (Same.trans s9 (Same.trans s10 (Same.trans s11 (Same.trans (Same.new hp4) (Same.trans (Same.new hp5) (Same.trans s12 (Same.trans s13 (Same.trans s14 (Same.trans s15 (Same.trans s16 (Same.trans (Same.new hp6) (Same.trans (Same.new hp7) (Same.trans s17 (Same.trans (Same.new hp8) (Same.new hp9))))))))))))))))))))
      | 6, _ => exact r7.mono ((Same.trans (Same.new hp2) (Same.trans (Same.new hp3) (Same.trans s8 (Same.trans s9 (Same.trans s10 (Same.trans s11 (Same.trans (Same.new hp4) (Same.trans (Same.new hp5) (Same.trans s12 (Same.trans s13 (Same.trans s14 (Same.trans s15 (Same.trans s16 (Same.trans (Same.new hp6) (Same.trans (Same.new hp7) (Same.trans s17 (Same.trans (Same.new hp8) (Same.new hp9)))))))))))))))))))
      | 7, _ => exact r8.mono ((Same.trans s9 (Same.trans s10 (Same.trans s11 (Same.trans (Same.new hp4) (Same.trans (Same.new hp5) (Same.trans s12 (Same.trans s13 (Same.trans s14 (Same.trans s15 (Same.trans s16 (Same.trans (Same.new hp6) (Same.trans (Same.new hp7) (Same.trans s17 (Same.trans (Same.new hp8) (Same.new hp9))))))))))))))))
      | 8, _ => exact r9.mono ((Same.trans s10 (Same.trans s11 (Same.trans (Same.new hp4) (Same.trans (Same.new hp5) (Same.trans s12 (Same.trans s13 (Same.trans s14 (Same.trans s15 (Same.trans s16 (Same.trans (Same.new hp6) (Same.trans (Same.new hp7) (Same.trans s17 (Same.trans (Same.new hp8) (Same.new hp9)))))))))))))))
      | 9, _ => exact r10.mono ((Same.trans s11 (Same.trans (Same.new hp4) (Same.trans (Same.new hp5) (Same.trans s12 (Same.trans s13 (Same.trans s14 (Same.trans s15 (Same.trans s16 (Same.trans (Same.new hp6) (Same.trans (Same.new hp7) (Same.trans s17 (Same.trans (Same.new hp8) (Same.new hp9))))))))))))))
      | 10, _ => exact r11.mono ((Same.trans (Same.new hp4) (Same.trans (Same.new hp5) (Same.trans s12 (Same.trans s13 (Same.trans s14 (Same.trans s15 (Same.trans s16 (Same.trans (Same.new hp6) (Same.trans (Same.new hp7) (Same.trans s17 (Same.trans (Same.new hp8) (Same.new hp9)))))))))))))
      | 11, _ => exact r12.mono ((Same.trans s13 (Same.trans s14 (Same.trans s15 (Same.trans s16 (Same.trans (Same.new hp6) (Same.trans (Same.new hp7) (Same.trans s17 (Same.trans (Same.new hp8) (Same.new hp9))))))))))
      | 12, _ => exact r13.mono ((Same.trans s14 (Same.trans s15 (Same.trans s16 (Same.trans (Same.new hp6) (Same.trans (Same.new hp7) (Same.trans s17 (Same.trans (Same.new hp8) (Same.new hp9)))))))))
      | 13, _ => exact r14.mono ((Same.trans s15 (Same.trans s16 (Same.trans (Same.new hp6) (Same.trans (Same.new hp7) (Same.trans s17 (Same.trans (Same.new hp8) (Same.new hp9))))))))
      | 14, _ => exact r15.mono ((Same.trans s16 (Same.trans (Same.new hp6) (Same.trans (Same.new hp7) (Same.trans s17 (Same.trans (Same.new hp8) (Same.new hp9)))))))
      | 15, _ => exact r16.mono ((Same.trans (Same.new hp6) (Same.trans (Same.new hp7) (Same.trans s17 (Same.trans (Same.new hp8) (Same.new hp9))))))
      | 16, _ => exact r17.mono ((Same.trans (Same.new hp8) (Same.new hp9)))
      | n + 17, h => exact absurd h (by omega)
end
end K01

set_option Elab.async false
set_option linter.all false
set_option maxRecDepth 100000
set_option maxHeartbeats 4000000
namespace K01
open PySem PySem.Spec PyProof.Rows L2 Np




abbrev sFields : Stmt := topS 25
abbrev sSorts : Stmt := topS 26
abbrev sBases : Stmt := topS 27
section
variable {P : Program} {w : World} {K : PySem.W.Frag} {mg : Str → Option Value} {base : Heap}

def due (v1 v2 v3 : V) : List V := [v1, v2, v1, v1, v2, v1, v1, v2, v1, v2, v1, v2, v1, v1, v1, v2, v3, v1, v1, v1, v1, v1, v1]
def spFields (K : PySem.W.Frag) : Sp := fun vs H Q _ => ∃ (p : Addr) (as : List Addr) (v1 v2 v3 : V), vs = [.ref p] ∧ H p = some (.lst (as.map V.ref)) ∧ Lot K H v1 v2 v3 as ∧
  ∀ (q : Addr) (H' : Hp), H q = none → Same H H' → H' q = some (.lst (due v1 v2 v3)) → Q (.ref q) H'
theorem lot_at {H : Hp} {v1 v2 v3 : V} {as : List Addr} (h : Lot K H v1 v2 v3 as) (j : Nat) (hj : j < 17) : atI (as.map V.ref) (j : Int) = some (.ref (as.getD j 0)) := by
  have hl : j < as.length := by rw [h.1]; exact hj
  refine atI_nat ?_
  rw [List.getElem?_map, List.getElem?_eq_getElem hl]
  simp [List.getD, List.getElem?_eq_getElem hl]
theorem scFields : FnScope ["_law_lot", "_law_found"] ["_law_lot"] (defScope sFields) := ⟨rfl, rfl, rfl, by decide +kernel, rfl, by decide +kernel, by decide +kernel⟩
theorem ok_fields {f : Addr} {fd : FuncData} (F : FnT K "_law_fields" sFields f fd) (E0 : EF P w K mg base) : FnOk P w K mg base CX0 1 f fd ["_law_lot"] (spFields K) := by
  have nd := scFields.nd
  refine F.ok scFields (fun vs H Q E h => ?_) (fun cdv A outer s H vs Q E hr h => ?_)
  · obtain ⟨p, as, v1, v2, v3, rfl, _⟩ := h
    rfl
  · obtain ⟨p, as, v1, v2, v3, rfl, hp, lot, q⟩ := h
    obtain ⟨d0, x0, y0⟩ := ErrAt.dict (lot.2 0 (by decide))
    obtain ⟨d1, x1, y1⟩ := ErrAt.dict (lot.2 1 (by decide))
    obtain ⟨d2, x2, y2⟩ := ErrAt.dict (lot.2 2 (by decide))
    obtain ⟨d3, x3, y3⟩ := ErrAt.dict (lot.2 3 (by decide))
    obtain ⟨d4, x4, y4⟩ := ErrAt.dict (lot.2 4 (by decide))
    obtain ⟨d5, x5, y5⟩ := ErrAt.dict (lot.2 5 (by decide))
    obtain ⟨d6, x6, y6⟩ := ErrAt.dict (lot.2 6 (by decide))
    obtain ⟨d7, x7, y7⟩ := ErrAt.dict (lot.2 7 (by decide))
    obtain ⟨d8, x8, y8⟩ := ErrAt.dict (lot.2 8 (by decide))
    obtain ⟨d9, x9, y9⟩ := ErrAt.dict (lot.2 9 (by decide))
    obtain ⟨d10, x10, y10⟩ := ErrAt.dict (lot.2 10 (by decide))
    obtain ⟨d11, x11, y11⟩ := ErrAt.dict (lot.2 11 (by decide))
    obtain ⟨d12, x12, y12⟩ := ErrAt.dict (lot.2 12 (by decide))
    obtain ⟨d13, x13, y13⟩ := ErrAt.dict (lot.2 13 (by decide))
    obtain ⟨d15, x15, y15⟩ := ErrAt.dict (lot.2 15 (by decide))
    obtain ⟨d16, x16, y16⟩ := ErrAt.dict (lot.2 16 (by decide))
    refine ⟨_, PSs.nox (pss_cons (ps_set (i := 1) nd rfl (.inl rfl) (pe_lst (pa_cons (pe_ae (pe_ix ix_list (pv 0) pe_int (fun _ _ => rfl))) (pa_cons (pe_ae (pe_ix ix_list (pv 0) pe_int (fun _ _ => rfl))) (pa_cons (pe_ae (pe_ix ix_list (pv 0) pe_int (fun _ _ => rfl))) (pa_cons (pe_ae (pe_ix ix_list (pv 0) pe_int (fun _ _ => rfl))) (pa_cons (pe_ae (pe_ix ix_list (pv 0) pe_int (fun _ _ => rfl))) (pa_cons (pe_ae (pe_ix ix_list (pv 0) pe_int (fun _ _ => rfl))) (pa_cons (pe_ae (pe_ix ix_list (pv 0) pe_int (fun _ _ => rfl))) (pa_cons (pe_ae (pe_ix ix_list (pv 0) pe_int (fun _ _ => rfl))) pa_nil))))))))))
  (pss_cons (ps_set (i := 1) nd rfl (.inl rfl) (pe_op op_cat (pv 1) (pe_lst (pa_cons (pe_ae (pe_ix ix_list (pv 0) pe_int (fun _ _ => rfl))) (pa_cons (pe_ae (pe_ix ix_list (pv 0) pe_int (fun _ _ => rfl))) (pa_cons (pe_ae (pe_ix ix_list (pv 0) pe_int (fun _ _ => rfl))) (pa_cons (pe_ae (pe_ix ix_list (pv 0) pe_int (fun _ _ => rfl))) (pa_cons (pe_ae (pe_ix ix_list (pv 0) pe_int (fun _ _ => rfl))) (pa_cons (pe_ae (pe_ix ix_list (pv 0) pe_int (fun _ _ => rfl))) pa_nil)))))))))
  (pss_cons (ps_set (i := 1) nd rfl (.inl rfl) (pe_op op_cat (pv 1) (pe_lst (pa_cons (pe_ae (pe_ix ix_list (pv 0) pe_int (fun _ _ => rfl))) (pa_cons (pe_ae (pe_ix ix_list (pv 0) pe_int (fun _ _ => rfl))) (pa_cons (pe_ae (pe_ix ix_list (pv 0) pe_int (fun _ _ => rfl))) (pa_cons (pe_ae (pe_ix ix_list (pv 0) pe_int (fun _ _ => rfl))) (pa_cons (pe_ae (pe_ix ix_list (pv 0) pe_int (fun _ _ => rfl))) (pa_cons (pe_ae (pe_ix ix_list (pv 0) pe_int (fun _ _ => rfl))) (pa_cons (pe_ae (pe_ix ix_list (pv 0) pe_int (fun _ _ => rfl))) pa_nil))))))))))
  (pss_one (ps_ret (pe_op op_cat (pv 1) (pe_lst (pa_cons (pe_ae (pe_ix ix_list (pv 0) pe_int (fun _ _ => rfl))) (pa_cons (pe_ae (pe_ix ix_list (pv 0) pe_int (fun _ _ => rfl))) pa_nil))))))))), ?_⟩
    refine ⟨_, rfl, p, _, 0, _, rfl, rfl, SqL.of (Same.refl _ _ _ hp), lot_at lot 0 (by decide), _, errC K 0, d0, _, _, rfl, Same.refl _ _ _ x0, Same.refl _ _ _ y0, E0.exc 0 (by decide), E0.free 0 (by decide) _ (by decide), rfl, ?_⟩
    refine ⟨_, rfl, p, _, 0, _, rfl, rfl, SqL.of (Same.refl _ _ _ hp), lot_at lot 0 (by decide), _, errC K 0, d0, _, _, rfl, Same.refl _ _ _ x0, Same.refl _ _ _ y0, E0.exc 0 (by decide), E0.free 0 (by decide) _ (by decide), rfl, ?_⟩
    refine ⟨_, rfl, p, _, 1, _, rfl, rfl, SqL.of (Same.refl _ _ _ hp), lot_at lot 1 (by decide), _, errC K 1, d1, _, _, rfl, Same.refl _ _ _ x1, Same.refl _ _ _ y1, E0.exc 1 (by decide), E0.free 1 (by decide) _ (by decide), rfl, ?_⟩
    refine ⟨_, rfl, p, _, 2, _, rfl, rfl, SqL.of (Same.refl _ _ _ hp), lot_at lot 2 (by decide), _, errC K 2, d2, _, _, rfl, Same.refl _ _ _ x2, Same.refl _ _ _ y2, E0.exc 2 (by decide), E0.free 2 (by decide) _ (by decide), rfl, ?_⟩
    refine ⟨_, rfl, p, _, 2, _, rfl, rfl, SqL.of (Same.refl _ _ _ hp), lot_at lot 2 (by decide), _, errC K 2, d2, _, _, rfl, Same.refl _ _ _ x2, Same.refl _ _ _ y2, E0.exc 2 (by decide), E0.free 2 (by decide) _ (by decide), rfl, ?_⟩
    refine ⟨_, rfl, p, _, 3, _, rfl, rfl, SqL.of (Same.refl _ _ _ hp), lot_at lot 3 (by decide), _, errC K 3, d3, _, _, rfl, Same.refl _ _ _ x3, Same.refl _ _ _ y3, E0.exc 3 (by decide), E0.free 3 (by decide) _ (by decide), rfl, ?_⟩
    refine ⟨_, rfl, p, _, 4, _, rfl, rfl, SqL.of (Same.refl _ _ _ hp), lot_at lot 4 (by decide), _, errC K 4, d4, _, _, rfl, Same.refl _ _ _ x4, Same.refl _ _ _ y4, E0.exc 4 (by decide), E0.free 4 (by decide) _ (by decide), rfl, ?_⟩
    refine ⟨_, rfl, p, _, 4, _, rfl, rfl, SqL.of (Same.refl _ _ _ hp), lot_at lot 4 (by decide), _, errC K 4, d4, _, _, rfl, Same.refl _ _ _ x4, Same.refl _ _ _ y4, E0.exc 4 (by decide), E0.free 4 (by decide) _ (by decide), rfl, ?_⟩
    refine ⟨by show 8 ≤ sizeLine; decide, fun p1 hp1 => ?_⟩
    refine ⟨_, rfl, ?_⟩
    refine ⟨_, rfl, p, _, 5, _, rfl, rfl, SqL.of ((Same.new hp1) _ _ hp), lot_at lot 5 (by decide), _, errC K 5, d5, _, _, rfl, (Same.new hp1) _ _ x5, (Same.new hp1) _ _ y5, E0.exc 5 (by decide), E0.free 5 (by decide) _ (by decide), rfl, ?_⟩
    refine ⟨_, rfl, p, _, 5, _, rfl, rfl, SqL.of ((Same.new hp1) _ _ hp), lot_at lot 5 (by decide), _, errC K 5, d5, _, _, rfl, (Same.new hp1) _ _ x5, (Same.new hp1) _ _ y5, E0.exc 5 (by decide), E0.free 5 (by decide) _ (by decide), rfl, ?_⟩
    refine ⟨_, rfl, p, _, 6, _, rfl, rfl, SqL.of ((Same.new hp1) _ _ hp), lot_at lot 6 (by decide), _, errC K 6, d6, _, _, rfl, (Same.new hp1) _ _ x6, (Same.new hp1) _ _ y6, E0.exc 6 (by decide), E0.free 6 (by decide) _ (by decide), rfl, ?_⟩
    refine ⟨_, rfl, p, _, 6, _, rfl, rfl, SqL.of ((Same.new hp1) _ _ hp), lot_at lot 6 (by decide), _, errC K 6, d6, _, _, rfl, (Same.new hp1) _ _ x6, (Same.new hp1) _ _ y6, E0.exc 6 (by decide), E0.free 6 (by decide) _ (by decide), rfl, ?_⟩
    refine ⟨_, rfl, p, _, 7, _, rfl, rfl, SqL.of ((Same.new hp1) _ _ hp), lot_at lot 7 (by decide), _, errC K 7, d7, _, _, rfl, (Same.new hp1) _ _ x7, (Same.new hp1) _ _ y7, E0.exc 7 (by decide), E0.free 7 (by decide) _ (by decide), rfl, ?_⟩
    refine ⟨_, rfl, p, _, 8, _, rfl, rfl, SqL.of ((Same.new hp1) _ _ hp), lot_at lot 8 (by decide), _, errC K 8, d8, _, _, rfl, (Same.new hp1) _ _ x8, (Same.new hp1) _ _ y8, E0.exc 8 (by decide), E0.free 8 (by decide) _ (by decide), rfl, ?_⟩
    refine ⟨by show 6 ≤ sizeLine; decide, fun p2 hp2 => ?_⟩
    refine ⟨p1, p2, _, _, rfl, rfl, (Same.new hp2) _ _ upd_same, upd_same, by show 8 + 6 ≤ sizeLine; decide, fun p3 hp3 => ?_⟩
    refine ⟨_, rfl, ?_⟩
    refine ⟨_, rfl, p, _, 9, _, rfl, rfl, SqL.of ((Same.trans (Same.new hp1) (Same.trans (Same.new hp2) (Same.new hp3))) _ _ hp), lot_at lot 9 (by decide), _, errC K 9, d9, _, _, rfl, (Same.trans (Same.new hp1) (Same.trans (Same.new hp2) (Same.new hp3))) _ _ x9, (Same.trans (Same.new hp1) (Same.trans (Same.new hp2) (Same.new hp3))) _ _ y9, E0.exc 9 (by decide), E0.free 9 (by decide) _ (by decide), rfl, ?_⟩
    refine ⟨_, rfl, p, _, 9, _, rfl, rfl, SqL.of ((Same.trans (Same.new hp1) (Same.trans (Same.new hp2) (Same.new hp3))) _ _ hp), lot_at lot 9 (by decide), _, errC K 9, d9, _, _, rfl, (Same.trans (Same.new hp1) (Same.trans (Same.new hp2) (Same.new hp3))) _ _ x9, (Same.trans (Same.new hp1) (Same.trans (Same.new hp2) (Same.new hp3))) _ _ y9, E0.exc 9 (by decide), E0.free 9 (by decide) _ (by decide), rfl, ?_⟩
    refine ⟨_, rfl, p, _, 9, _, rfl, rfl, SqL.of ((Same.trans (Same.new hp1) (Same.trans (Same.new hp2) (Same.new hp3))) _ _ hp), lot_at lot 9 (by decide), _, errC K 9, d9, _, _, rfl, (Same.trans (Same.new hp1) (Same.trans (Same.new hp2) (Same.new hp3))) _ _ x9, (Same.trans (Same.new hp1) (Same.trans (Same.new hp2) (Same.new hp3))) _ _ y9, E0.exc 9 (by decide), E0.free 9 (by decide) _ (by decide), rfl, ?_⟩
    refine ⟨_, rfl, p, _, 10, _, rfl, rfl, SqL.of ((Same.trans (Same.new hp1) (Same.trans (Same.new hp2) (Same.new hp3))) _ _ hp), lot_at lot 10 (by decide), _, errC K 10, d10, _, _, rfl, (Same.trans (Same.new hp1) (Same.trans (Same.new hp2) (Same.new hp3))) _ _ x10, (Same.trans (Same.new hp1) (Same.trans (Same.new hp2) (Same.new hp3))) _ _ y10, E0.exc 10 (by decide), E0.free 10 (by decide) _ (by decide), rfl, ?_⟩
    refine ⟨_, rfl, p, _, 11, _, rfl, rfl, SqL.of ((Same.trans (Same.new hp1) (Same.trans (Same.new hp2) (Same.new hp3))) _ _ hp), lot_at lot 11 (by decide), _, errC K 11, d11, _, _, rfl, (Same.trans (Same.new hp1) (Same.trans (Same.new hp2) (Same.new hp3))) _ _ x11, (Same.trans (Same.new hp1) (Same.trans (Same.new hp2) (Same.new hp3))) _ _ y11, E0.exc 11 (by decide), E0.free 11 (by decide) _ (by decide), rfl, ?_⟩
    refine ⟨_, rfl, p, _, 12, _, rfl, rfl, SqL.of ((Same.trans (Same.new hp1) (Same.trans (Same.new hp2) (Same.new hp3))) _ _ hp), lot_at lot 12 (by decide), _, errC K 12, d12, _, _, rfl, (Same.trans (Same.new hp1) (Same.trans (Same.new hp2) (Same.new hp3))) _ _ x12, (Same.trans (Same.new hp1) (Same.trans (Same.new hp2) (Same.new hp3))) _ _ y12, E0.exc 12 (by decide), E0.free 12 (by decide) _ (by decide), rfl, ?_⟩
    refine ⟨_, rfl, p, _, 13, _, rfl, rfl, SqL.of ((Same.trans (Same.new hp1) (Same.trans (Same.new hp2) (Same.new hp3))) _ _ hp), lot_at lot 13 (by decide), _, errC K 13, d13, _, _, rfl, (Same.trans (Same.new hp1) (Same.trans (Same.new hp2) (Same.new hp3))) _ _ x13, (Same.trans (Same.new hp1) (Same.trans (Same.new hp2) (Same.new hp3))) _ _ y13, E0.exc 13 (by decide), E0.free 13 (by decide) _ (by decide), rfl, ?_⟩
    refine ⟨by show 7 ≤ sizeLine; decide, fun p4 hp4 => ?_⟩
    refine ⟨p3, p4, _, _, rfl, rfl, (Same.new hp4) _ _ upd_same, upd_same, by show 14 + 7 ≤ sizeLine; decide, fun p5 hp5 => ?_⟩
    refine ⟨_, rfl, ?_⟩
    refine ⟨_, rfl, p, _, 15, _, rfl, rfl, SqL.of ((Same.trans (Same.new hp1) (Same.trans (Same.new hp2) (Same.trans (Same.new hp3) (Same.trans (Same.new hp4) (Same.new hp5))))) _ _ hp), lot_at lot 15 (by decide), _, errC K 15, d15, _, _, rfl, (Same.trans (Same.new hp1) (Same.trans (Same.new hp2) (Same.trans (Same.new hp3) (Same.trans (Same.new hp4) (Same.new hp5))))) _ _ x15, (Same.trans (Same.new hp1) (Same.trans (Same.new hp2) (Same.trans (Same.new hp3) (Same.trans (Same.new hp4) (Same.new hp5))))) _ _ y15, E0.exc 15 (by decide), E0.free 15 (by decide) _ (by decide), rfl, ?_⟩
    refine ⟨_, rfl, p, _, 16, _, rfl, rfl, SqL.of ((Same.trans (Same.new hp1) (Same.trans (Same.new hp2) (Same.trans (Same.new hp3) (Same.trans (Same.new hp4) (Same.new hp5))))) _ _ hp), lot_at lot 16 (by decide), _, errC K 16, d16, _, _, rfl, (Same.trans (Same.new hp1) (Same.trans (Same.new hp2) (Same.trans (Same.new hp3) (Same.trans (Same.new hp4) (Same.new hp5))))) _ _ x16, (Same.trans (Same.new hp1) (Same.trans (Same.new hp2) (Same.trans (Same.new hp3) (Same.trans (Same.new hp4) (Same.new hp5))))) _ _ y16, E0.exc 16 (by decide), E0.free 16 (by decide) _ (by decide), rfl, ?_⟩
    refine ⟨by show 2 ≤ sizeLine; decide, fun p6 hp6 => ?_⟩
    refine ⟨p5, p6, _, _, rfl, rfl, (Same.new hp6) _ _ upd_same, upd_same, by show 21 + 2 ≤ sizeLine; decide, fun p7 hp7 => ?_⟩
    exact q _ _ (Same.free ((Same.trans (Same.new hp1) (Same.trans (Same.new hp2) (Same.trans (Same.new hp3) (Same.trans (Same.new hp4) (Same.trans (Same.new hp5) (Same.new hp6))))))) hp7) ((Same.trans (Same.new hp1) (Same.trans (Same.new hp2) (Same.trans (Same.new hp3) (Same.trans (Same.new hp4) (Same.trans (Same.new hp5) (Same.trans (Same.new hp6) (Same.new hp7)))))))) upd_same

def spSorts (K : PySem.W.Frag) : Sp := fun vs H Q _ => ∃ (e : Addr) (i : Nat) (fs : List (Str × V)), vs = [.ref e] ∧ i < 17 ∧ ErrAt H e (errC K i) fs ∧
  ∀ (q : Addr) (H' : Hp), H q = none → Same H H' → H' q = some (.lst ([.bl (decide (i = 0)), .bl (decide (i = 1)), .bl (decide (i = 2)), .bl (decide (i = 3)), .bl (decide (i = 4)), .bl (decide (i = 5)), .bl (decide (i = 6)), .bl (decide (i = 7)), .bl (decide (i = 8)), .bl (decide (i = 9)), .bl (decide (i = 10)), .bl (decide (i = 11)), .bl (decide (i = 12)), .bl (decide (i = 13)), .bl (decide (i = 14)), .bl (decide (i = 15)), .bl (decide (i = 16))])) → Q (.ref q) H'
theorem scSorts : FnScope ["_law_e", "_law_found"] ["_law_e"] (defScope sSorts) := ⟨rfl, rfl, rfl, by decide +kernel, rfl, by decide +kernel, by decide +kernel⟩
theorem ok_sorts {f : Addr} {fd : FuncData} (F : FnT K "_law_sorts" sSorts f fd) (E0 : EF P w K mg base) (m : Bl mg) : FnOk P w K mg base CX0 1 f fd ["_law_e"] (spSorts K) := by
  have nd := scSorts.nd
  refine F.ok scSorts (fun vs H Q E h => ?_) (fun cdv A outer s H vs Q E hr h => ?_)
  · obtain ⟨e, i, fs, rfl, _⟩ := h
    rfl
  · obtain ⟨e, i, fs, rfl, hi, he, q⟩ := h
    obtain ⟨d, x0, y0⟩ := he.at
    refine ⟨_, PSs.nox (pss_cons (ps_set (i := 1) nd rfl (.inl rfl) (pe_lst (pa_cons (pe_callB call_ie (by rfl) m.isinstance (by decide +kernel) (pa_cons (pv 0) (pa_cons (pe_glob (v := .ref (He.ga K "NoBoard")) (by rfl) E0.gNoBoard rfl) pa_nil))) (pa_cons (pe_callB call_ie (by rfl) m.isinstance (by decide +kernel) (pa_cons (pv 0) (pa_cons (pe_glob (v := .ref (He.ga K "NoText")) (by rfl) E0.gNoText rfl) pa_nil))) (pa_cons (pe_callB call_ie (by rfl) m.isinstance (by decide +kernel) (pa_cons (pv 0) (pa_cons (pe_glob (v := .ref (He.ga K "NoFamily")) (by rfl) E0.gNoFamily rfl) pa_nil))) (pa_cons (pe_callB call_ie (by rfl) m.isinstance (by decide +kernel) (pa_cons (pv 0) (pa_cons (pe_glob (v := .ref (He.ga K "NoTurn")) (by rfl) E0.gNoTurn rfl) pa_nil))) pa_nil))))))
  (pss_cons (ps_set (i := 1) nd rfl (.inl rfl) (pe_op op_cat (pv 1) (pe_lst (pa_cons (pe_callB call_ie (by rfl) m.isinstance (by decide +kernel) (pa_cons (pv 0) (pa_cons (pe_glob (v := .ref (He.ga K "Missing")) (by rfl) E0.gMissing rfl) pa_nil))) (pa_cons (pe_callB call_ie (by rfl) m.isinstance (by decide +kernel) (pa_cons (pv 0) (pa_cons (pe_glob (v := .ref (He.ga K "Needed")) (by rfl) E0.gNeeded rfl) pa_nil))) (pa_cons (pe_callB call_ie (by rfl) m.isinstance (by decide +kernel) (pa_cons (pv 0) (pa_cons (pe_glob (v := .ref (He.ga K "Barred")) (by rfl) E0.gBarred rfl) pa_nil))) (pa_cons (pe_callB call_ie (by rfl) m.isinstance (by decide +kernel) (pa_cons (pv 0) (pa_cons (pe_glob (v := .ref (He.ga K "NoMatch")) (by rfl) E0.gNoMatch rfl) pa_nil))) pa_nil)))))))
  (pss_cons (ps_set (i := 1) nd rfl (.inl rfl) (pe_op op_cat (pv 1) (pe_lst (pa_cons (pe_callB call_ie (by rfl) m.isinstance (by decide +kernel) (pa_cons (pv 0) (pa_cons (pe_glob (v := .ref (He.ga K "Stuck")) (by rfl) E0.gStuck rfl) pa_nil))) (pa_cons (pe_callB call_ie (by rfl) m.isinstance (by decide +kernel) (pa_cons (pv 0) (pa_cons (pe_glob (v := .ref (He.ga K "Unmet")) (by rfl) E0.gUnmet rfl) pa_nil))) (pa_cons (pe_callB call_ie (by rfl) m.isinstance (by decide +kernel) (pa_cons (pv 0) (pa_cons (pe_glob (v := .ref (He.ga K "Held")) (by rfl) E0.gHeld rfl) pa_nil))) (pa_cons (pe_callB call_ie (by rfl) m.isinstance (by decide +kernel) (pa_cons (pv 0) (pa_cons (pe_glob (v := .ref (He.ga K "Spent")) (by rfl) E0.gSpent rfl) pa_nil))) pa_nil)))))))
  (pss_cons (ps_set (i := 1) nd rfl (.inl rfl) (pe_op op_cat (pv 1) (pe_lst (pa_cons (pe_callB call_ie (by rfl) m.isinstance (by decide +kernel) (pa_cons (pv 0) (pa_cons (pe_glob (v := .ref (He.ga K "NoDeed")) (by rfl) E0.gNoDeed rfl) pa_nil))) (pa_cons (pe_callB call_ie (by rfl) m.isinstance (by decide +kernel) (pa_cons (pv 0) (pa_cons (pe_glob (v := .ref (He.ga K "Broken")) (by rfl) E0.gBroken rfl) pa_nil))) (pa_cons (pe_callB call_ie (by rfl) m.isinstance (by decide +kernel) (pa_cons (pv 0) (pa_cons (pe_glob (v := .ref (He.ga K "NoCommand")) (by rfl) E0.gNoCommand rfl) pa_nil))) (pa_cons (pe_callB call_ie (by rfl) m.isinstance (by decide +kernel) (pa_cons (pv 0) (pa_cons (pe_glob (v := .ref (He.ga K "NoPeg")) (by rfl) E0.gNoPeg rfl) pa_nil))) pa_nil)))))))
  (pss_one (ps_ret (pe_op op_cat (pv 1) (pe_lst (pa_cons (pe_callB call_ie (by rfl) m.isinstance (by decide +kernel) (pa_cons (pv 0) (pa_cons (pe_glob (v := .ref (He.ga K "NoWalker")) (by rfl) E0.gNoWalker rfl) pa_nil))) pa_nil))))))))), ?_⟩
    refine ⟨_, rfl, e, errC K i, d, _, _, _, rfl, Same.refl _ _ _ x0, (fun dx z => let ⟨fs, h⟩ := y0 dx z; ⟨fs, Same.refl _ _ _ h⟩), E0.exc i hi, (fun _ h => h), E0.kit i 0 hi (by decide), ?_⟩
    refine ⟨_, rfl, e, errC K i, d, _, _, _, rfl, Same.refl _ _ _ x0, (fun dx z => let ⟨fs, h⟩ := y0 dx z; ⟨fs, Same.refl _ _ _ h⟩), E0.exc i hi, (fun _ h => h), E0.kit i 1 hi (by decide), ?_⟩
    refine ⟨_, rfl, e, errC K i, d, _, _, _, rfl, Same.refl _ _ _ x0, (fun dx z => let ⟨fs, h⟩ := y0 dx z; ⟨fs, Same.refl _ _ _ h⟩), E0.exc i hi, (fun _ h => h), E0.kit i 2 hi (by decide), ?_⟩
    refine ⟨_, rfl, e, errC K i, d, _, _, _, rfl, Same.refl _ _ _ x0, (fun dx z => let ⟨fs, h⟩ := y0 dx z; ⟨fs, Same.refl _ _ _ h⟩), E0.exc i hi, (fun _ h => h), E0.kit i 3 hi (by decide), ?_⟩
    refine ⟨by show 4 ≤ sizeLine; decide, fun p1 hp1 => ?_⟩
    refine ⟨_, rfl, ?_⟩
    refine ⟨_, rfl, e, errC K i, d, _, _, _, rfl, (Same.new hp1) _ _ x0, (fun dx z => let ⟨fs, h⟩ := y0 dx z; ⟨fs, (Same.new hp1) _ _ h⟩), E0.exc i hi, (fun _ h => h), E0.kit i 4 hi (by decide), ?_⟩
    refine ⟨_, rfl, e, errC K i, d, _, _, _, rfl, (Same.new hp1) _ _ x0, (fun dx z => let ⟨fs, h⟩ := y0 dx z; ⟨fs, (Same.new hp1) _ _ h⟩), E0.exc i hi, (fun _ h => h), E0.kit i 5 hi (by decide), ?_⟩
    refine ⟨_, rfl, e, errC K i, d, _, _, _, rfl, (Same.new hp1) _ _ x0, (fun dx z => let ⟨fs, h⟩ := y0 dx z; ⟨fs, (Same.new hp1) _ _ h⟩), E0.exc i hi, (fun _ h => h), E0.kit i 6 hi (by decide), ?_⟩
    refine ⟨_, rfl, e, errC K i, d, _, _, _, rfl, (Same.new hp1) _ _ x0, (fun dx z => let ⟨fs, h⟩ := y0 dx z; ⟨fs, (Same.new hp1) _ _ h⟩), E0.exc i hi, (fun _ h => h), E0.kit i 7 hi (by decide), ?_⟩
    refine ⟨by show 4 ≤ sizeLine; decide, fun p2 hp2 => ?_⟩
    refine ⟨p1, p2, _, _, rfl, rfl, (Same.new hp2) _ _ upd_same, upd_same, by show 4 + 4 ≤ sizeLine; decide, fun p3 hp3 => ?_⟩
    refine ⟨_, rfl, ?_⟩
    refine ⟨_, rfl, e, errC K i, d, _, _, _, rfl, (Same.trans (Same.new hp1) (Same.trans (Same.new hp2) (Same.new hp3))) _ _ x0, (fun dx z => let ⟨fs, h⟩ := y0 dx z; ⟨fs, (Same.trans (Same.new hp1) (Same.trans (Same.new hp2) (Same.new hp3))) _ _ h⟩), E0.exc i hi, (fun _ h => h), E0.kit i 8 hi (by decide), ?_⟩
    refine ⟨_, rfl, e, errC K i, d, _, _, _, rfl, (Same.trans (Same.new hp1) (Same.trans (Same.new hp2) (Same.new hp3))) _ _ x0, (fun dx z => let ⟨fs, h⟩ := y0 dx z; ⟨fs, (Same.trans (Same.new hp1) (Same.trans (Same.new hp2) (Same.new hp3))) _ _ h⟩), E0.exc i hi, (fun _ h => h), E0.kit i 9 hi (by decide), ?_⟩
    refine ⟨_, rfl, e, errC K i, d, _, _, _, rfl, (Same.trans (Same.new hp1) (Same.trans (Same.new hp2) (Same.new hp3))) _ _ x0, (fun dx z => let ⟨fs, h⟩ := y0 dx z; ⟨fs, (Same.trans (Same.new hp1) (Same.trans (Same.new hp2) (Same.new hp3))) _ _ h⟩), E0.exc i hi, (fun _ h => h), E0.kit i 10 hi (by decide), ?_⟩
    refine ⟨_, rfl, e, errC K i, d, _, _, _, rfl, (Same.trans (Same.new hp1) (Same.trans (Same.new hp2) (Same.new hp3))) _ _ x0, (fun dx z => let ⟨fs, h⟩ := y0 dx z; ⟨fs, (Same.trans (Same.new hp1) (Same.trans (Same.new hp2) (Same.new hp3))) _ _ h⟩), E0.exc i hi, (fun _ h => h), E0.kit i 11 hi (by decide), ?_⟩
    refine ⟨by show 4 ≤ sizeLine; decide, fun p4 hp4 => ?_⟩
    refine ⟨p3, p4, _, _, rfl, rfl, (Same.new hp4) _ _ upd_same, upd_same, by show 8 + 4 ≤ sizeLine; decide, fun p5 hp5 => ?_⟩
    refine ⟨_, rfl, ?_⟩
    refine ⟨_, rfl, e, errC K i, d, _, _, _, rfl, (Same.trans (Same.new hp1) (Same.trans (Same.new hp2) (Same.trans (Same.new hp3) (Same.trans (Same.new hp4) (Same.new hp5))))) _ _ x0, (fun dx z => let ⟨fs, h⟩ := y0 dx z; ⟨fs, (Same.trans (Same.new hp1) (Same.trans (Same.new hp2) (Same.trans (Same.new hp3) (Same.trans (Same.new hp4) (Same.new hp5))))) _ _ h⟩), E0.exc i hi, (fun _ h => h), E0.kit i 12 hi (by decide), ?_⟩
    refine ⟨_, rfl, e, errC K i, d, _, _, _, rfl, (Same.trans (Same.new hp1) (Same.trans (Same.new hp2) (Same.trans (Same.new hp3) (Same.trans (Same.new hp4) (Same.new hp5))))) _ _ x0, (fun dx z => let ⟨fs, h⟩ := y0 dx z; ⟨fs, (Same.trans (Same.new hp1) (Same.trans (Same.new hp2) (Same.trans (Same.new hp3) (Same.trans (Same.new hp4) (Same.new hp5))))) _ _ h⟩), E0.exc i hi, (fun _ h => h), E0.kit i 13 hi (by decide), ?_⟩
    refine ⟨_, rfl, e, errC K i, d, _, _, _, rfl, (Same.trans (Same.new hp1) (Same.trans (Same.new hp2) (Same.trans (Same.new hp3) (Same.trans (Same.new hp4) (Same.new hp5))))) _ _ x0, (fun dx z => let ⟨fs, h⟩ := y0 dx z; ⟨fs, (Same.trans (Same.new hp1) (Same.trans (Same.new hp2) (Same.trans (Same.new hp3) (Same.trans (Same.new hp4) (Same.new hp5))))) _ _ h⟩), E0.exc i hi, (fun _ h => h), E0.kit i 14 hi (by decide), ?_⟩
    refine ⟨_, rfl, e, errC K i, d, _, _, _, rfl, (Same.trans (Same.new hp1) (Same.trans (Same.new hp2) (Same.trans (Same.new hp3) (Same.trans (Same.new hp4) (Same.new hp5))))) _ _ x0, (fun dx z => let ⟨fs, h⟩ := y0 dx z; ⟨fs, (Same.trans (Same.new hp1) (Same.trans (Same.new hp2) (Same.trans (Same.new hp3) (Same.trans (Same.new hp4) (Same.new hp5))))) _ _ h⟩), E0.exc i hi, (fun _ h => h), E0.kit i 15 hi (by decide), ?_⟩
    refine ⟨by show 4 ≤ sizeLine; decide, fun p6 hp6 => ?_⟩
    refine ⟨p5, p6, _, _, rfl, rfl, (Same.new hp6) _ _ upd_same, upd_same, by show 12 + 4 ≤ sizeLine; decide, fun p7 hp7 => ?_⟩
    refine ⟨_, rfl, ?_⟩
    refine ⟨_, rfl, e, errC K i, d, _, _, _, rfl, (Same.trans (Same.new hp1) (Same.trans (Same.new hp2) (Same.trans (Same.new hp3) (Same.trans (Same.new hp4) (Same.trans (Same.new hp5) (Same.trans (Same.new hp6) (Same.new hp7))))))) _ _ x0, (fun dx z => let ⟨fs, h⟩ := y0 dx z; ⟨fs, (Same.trans (Same.new hp1) (Same.trans (Same.new hp2) (Same.trans (Same.new hp3) (Same.trans (Same.new hp4) (Same.trans (Same.new hp5) (Same.trans (Same.new hp6) (Same.new hp7))))))) _ _ h⟩), E0.exc i hi, (fun _ h => h), E0.kit i 16 hi (by decide), ?_⟩
    refine ⟨by show 1 ≤ sizeLine; decide, fun p8 hp8 => ?_⟩
    refine ⟨p7, p8, _, _, rfl, rfl, (Same.new hp8) _ _ upd_same, upd_same, by show 16 + 1 ≤ sizeLine; decide, fun p9 hp9 => ?_⟩
    exact q _ _ (Same.free ((Same.trans (Same.new hp1) (Same.trans (Same.new hp2) (Same.trans (Same.new hp3) (Same.trans (Same.new hp4) (Same.trans (Same.new hp5) (Same.trans (Same.new hp6) (Same.trans (Same.new hp7) (Same.new hp8))))))))) hp9) ((Same.trans (Same.new hp1) (Same.trans (Same.new hp2) (Same.trans (Same.new hp3) (Same.trans (Same.new hp4) (Same.trans (Same.new hp5) (Same.trans (Same.new hp6) (Same.trans (Same.new hp7) (Same.trans (Same.new hp8) (Same.new hp9)))))))))) upd_same
def spBases (K : PySem.W.Frag) : Sp := fun vs H Q _ => ∃ (e : Addr) (i : Nat) (fs : List (Str × V)), vs = [.ref e] ∧ i < 17 ∧ ErrAt H e (errC K i) fs ∧
  ∀ (q : Addr) (H' : Hp), H q = none → Same H H' → H' q = some (.lst ([.bl (decide (i < 15)), .bl (decide (i < 15)), .bl (decide (14 < i)), .bl false])) → Q (.ref q) H'
theorem scBases : FnScope ["_law_e"] ["_law_e"] (defScope sBases) := ⟨rfl, rfl, rfl, by decide +kernel, rfl, by decide +kernel, by decide +kernel⟩
theorem ok_bases {f : Addr} {fd : FuncData} (F : FnT K "_law_bases" sBases f fd) (E0 : EF P w K mg base) (m : Bl mg) : FnOk P w K mg base CX0 1 f fd ["_law_e"] (spBases K) := by
  have nd := scBases.nd
  refine F.ok scBases (fun vs H Q E h => ?_) (fun cdv A outer s H vs Q E hr h => ?_)
  · obtain ⟨e, i, fs, rfl, _⟩ := h
    rfl
  · obtain ⟨e, i, fs, rfl, hi, he, q⟩ := h
    obtain ⟨d, x0, y0⟩ := he.at
    refine ⟨_, PSs.nox (pss_one (ps_ret (pe_lst (pa_cons (pe_callB call_ie (by rfl) m.isinstance (by decide +kernel) (pa_cons (pv 0) (pa_cons (pe_glob (v := .ref (He.ga K "PegError")) (by rfl) E0.gPegError rfl) pa_nil))) (pa_cons (pe_callB call_ie (by rfl) m.isinstance (by decide +kernel) (pa_cons (pv 0) (pa_cons (pe_bltn (v := .ty "ValueError") (by rfl) m.ValueError (by decide +kernel) rfl) pa_nil))) (pa_cons (pe_callB call_ie (by rfl) m.isinstance (by decide +kernel) (pa_cons (pv 0) (pa_cons (pe_bltn (v := .ty "KeyError") (by rfl) m.KeyError (by decide +kernel) rfl) pa_nil))) (pa_cons (pe_callB call_ie (by rfl) m.isinstance (by decide +kernel) (pa_cons (pv 0) (pa_cons (pe_bltn (v := .ty "IndexError") (by rfl) m.IndexError (by decide +kernel) rfl) pa_nil))) pa_nil))))))), ?_⟩
    refine ⟨_, rfl, e, errC K i, d, _, _, _, rfl, Same.refl _ _ _ x0, (fun dx z => let ⟨fs, h⟩ := y0 dx z; ⟨fs, Same.refl _ _ _ h⟩), E0.exc i hi, (fun _ h => h), E0.kitP i hi, ?_⟩
    refine ⟨_, rfl, e, errC K i, d, _, _, _, rfl, Same.refl _ _ _ x0, (fun dx z => let ⟨fs, h⟩ := y0 dx z; ⟨fs, Same.refl _ _ _ h⟩), E0.exc i hi, (fun _ h => h), E0.kitV i hi, ?_⟩
    refine ⟨_, rfl, e, errC K i, d, _, _, _, rfl, Same.refl _ _ _ x0, (fun dx z => let ⟨fs, h⟩ := y0 dx z; ⟨fs, Same.refl _ _ _ h⟩), E0.exc i hi, (fun _ h => h), E0.kitK i hi, ?_⟩
    refine ⟨_, rfl, e, errC K i, d, _, _, _, rfl, Same.refl _ _ _ x0, (fun dx z => let ⟨fs, h⟩ := y0 dx z; ⟨fs, Same.refl _ _ _ h⟩), E0.exc i hi, (fun _ h => h), E0.kitI i hi, ?_⟩
    refine ⟨by show 4 ≤ sizeLine; decide, fun p1 hp1 => ?_⟩
    exact q _ _ (Same.free (Same.refl _) hp1) ((Same.new hp1)) upd_same
end
end K01

set_option Elab.async false
set_option linter.all false
set_option maxRecDepth 100000
set_option maxHeartbeats 4000000
namespace K01
open PySem PySem.Spec PyProof.Rows L2 Np




abbrev sLaw : Stmt := topS 28
theorem exo_lst {e C : Addr} {d : Option Addr} {xs : List V} : exo e C d ≠ .lst xs := fun z => by
  have z' : HO.ext _ = HO.lst xs := z
  cases z'
theorem exd_lst {e : Addr} {fs : List (Str × V)} {xs : List V} : exd e fs ≠ .lst xs := fun z => by
  have z' : HO.ext _ = HO.lst xs := z
  cases z'
theorem errApp {H : Hp} {e C q : Addr} {fs : List (Str × V)} {xs ys : List V} (hq : H q = some (.lst xs)) (h : ErrAt H e C fs) : ErrAt (upd H q (.lst ys)) e C fs := by
  rcases h with ⟨h1, h2⟩ | ⟨dx, h1, h2⟩
  · exact .inl ⟨h1, by rw [upd_ne (ne_of h2 hq exo_lst)]; exact h2⟩
  · exact .inr ⟨dx, by rw [upd_ne (ne_of h1 hq exo_lst)]; exact h1, by rw [upd_ne (ne_of h2 hq exd_lst)]; exact h2⟩
theorem Lot.mono {K : PySem.W.Frag} {H H' : Hp} {v1 v2 v3 : V} {as : List Addr} (h : Lot K H v1 v2 v3 as) (s : Same H H') : Lot K H' v1 v2 v3 as := ⟨h.1, fun j hj => (h.2 j hj).mono s⟩
theorem Lot.app {K : PySem.W.Frag} {H : Hp} {v1 v2 v3 : V} {as : List Addr} {q : Addr} {xs ys : List V} (hq : H q = some (.lst xs)) (h : Lot K H v1 v2 v3 as) : Lot K (upd H q (.lst ys)) v1 v2 v3 as := ⟨h.1, fun j hj => errApp hq (h.2 j hj)⟩
theorem Thing.weak {H : Hp} {m n : Nat} {v : V} (h : Thing H m v) (l : m ≤ n) : Thing H n v := by
  cases h with
  | flat h => exact .flat h
  | tup h f k => exact .tup h f (Nat.le_trans k l)
  | lst h f k => exact .lst h f (Nat.le_trans k l)
theorem flat_b : Flat (.str "b") := ⟨by decide, by decide⟩
theorem Thing.app {H : Hp} {m : Nat} {v : V} {q : Addr} {xs : List V} (hq : H q = some (.lst xs)) (hf : ∀ x ∈ xs, Flat x) (hl : xs.length ≤ m) (h : Thing H m v) : Thing (upd H q (.lst (xs ++ [.str "b"]))) (m + 1) v := by
  cases h with
  | flat h => exact .flat h
  | tup h f k => exact .tup (by rw [upd_ne (ne_of h hq (fun z => nomatch z))]; exact h) f (Nat.le_succ_of_le k)
  | @lst p ys h f k =>
    by_cases e : p = q
    · subst e
      refine .lst upd_same (fun u hu => ?_) ?_
      · rcases List.mem_append.mp hu with h1 | h1
        · exact hf u h1
        · cases List.mem_singleton.mp h1
          exact flat_b
      · rw [List.length_append]
        exact Nat.add_le_add_right hl 1
    · exact .lst (by rw [upd_ne e]; exact h) f (Nat.le_succ_of_le k)
/-- how things lie in the loop over the two lots -/
structure Sit (K : PySem.W.Frag) (H0 H : Hp) (D p1 p2 : Addr) (as1 as2 : List Addr) (v1 v2 v3 : V) (m : Nat) : Prop where
  s0 : Same H0 H
  hd : H D = some (.lst (due v1 v2 v3))
  h1 : H p1 = some (.lst (as1.map V.ref))
  h2 : H p2 = some (.lst (as2.map V.ref))
  l1 : Lot K H v1 v2 v3 as1
  l2 : Lot K H v1 v2 v3 as2
  t1 : Thing H m v1
  t2 : Thing H m v2
  t3 : Thing H m v3
  o : ∀ q : Addr, (V.ref q = v1 ∨ V.ref q = v2 ∨ V.ref q = v3) → H0 q = none ∧ q ≠ D ∧ q ≠ p1 ∧ q ≠ p2
section
variable {K : PySem.W.Frag} {H0 H H' : Hp} {D p1 p2 : Addr} {as1 as2 : List Addr} {v1 v2 v3 : V} {m n : Nat}
theorem Sit.mono (h : Sit K H0 H D p1 p2 as1 as2 v1 v2 v3 m) (s : Same H H') : Sit K H0 H' D p1 p2 as1 as2 v1 v2 v3 m :=
  ⟨h.s0.trans s, s _ _ h.hd, s _ _ h.h1, s _ _ h.h2, h.l1.mono s, h.l2.mono s, h.t1.mono s, h.t2.mono s, h.t3.mono s, h.o⟩
theorem Sit.weak (h : Sit K H0 H D p1 p2 as1 as2 v1 v2 v3 m) (l : m ≤ n) : Sit K H0 H D p1 p2 as1 as2 v1 v2 v3 n :=
  ⟨h.s0, h.hd, h.h1, h.h2, h.l1, h.l2, h.t1.weak l, h.t2.weak l, h.t3.weak l, h.o⟩
theorem Sit.app {q : Addr} {xs : List V} (h : Sit K H0 H D p1 p2 as1 as2 v1 v2 v3 m) (hv : V.ref q = v1 ∨ V.ref q = v2 ∨ V.ref q = v3) (hq : H q = some (.lst xs)) (hf : ∀ x ∈ xs, Flat x) (hl : xs.length ≤ m) :
    Sit K H0 (upd H q (.lst (xs ++ [.str "b"]))) D p1 p2 as1 as2 v1 v2 v3 (m + 1) := by
  obtain ⟨o1, o2, o3, o4⟩ := h.o q hv
  exact ⟨fun b u e => by rw [upd_ne (ne_of_none e o1)]; exact h.s0 b u e, by rw [upd_ne o2.symm]; exact h.hd, by rw [upd_ne o3.symm]; exact h.h1, by rw [upd_ne o4.symm]; exact h.h2,
    h.l1.app hq, h.l2.app hq, h.t1.app hq hf hl, h.t2.app hq hf hl, h.t3.app hq hf hl, h.o⟩
theorem due_mem {v : V} (h : v ∈ due v1 v2 v3) : v = v1 ∨ v = v2 ∨ v = v3 := by
  simp only [due, List.mem_cons, List.not_mem_nil, or_false] at h
  rcases h with h | h | h | h | h | h | h | h | h | h | h | h | h | h | h | h | h | h | h | h | h | h | h <;> simp [h]
theorem Sit.tells (h : Sit K H0 H D p1 p2 as1 as2 v1 v2 v3 m) (hm : m ≤ 20) : ∀ v ∈ due v1 v2 v3, Tells K H 1 7000 v := fun v hv => by
  rcases due_mem hv with e | e | e
  · rw [e]; exact thing_tells h.t1 hm
  · rw [e]; exact thing_tells h.t2 hm
  · rw [e]; exact thing_tells h.t3 hm
end
/-- lists of bools -/
theorem dp_bools {K : PySem.W.Frag} {H : Hp} {p : Addr} {bs : List Bool} (h : H p = some (.lst (bs.map V.bl))) : Dp K H (.ref p) (.list (bs.map PyData.bool)) := by
  refine .lst (SqL.of h) ?_
  clear h
  induction bs with
  | nil => exact .nil
  | cons b bs ih => exact .cons (.bl b) ih
theorem shaped_bools (bs : List Bool) : SeqAt.shaped (.list (bs.map PyData.bool)) = true := by
  have h : ∀ bs : List Bool, PyData.canLayAll0 (bs.map PyData.bool) = true ∧ PyData.depthAll (bs.map PyData.bool) = 0 := by
    intro bs
    induction bs with
    | nil => exact ⟨rfl, rfl⟩
    | cons b bs ih => exact ⟨by simp only [List.map_cons, PyData.canLayAll0, PyData.canLay0, ih.1, Bool.and_self], by simp only [List.map_cons, PyData.depthAll, PyData.depth, ih.2]; rfl⟩
  unfold SeqAt.shaped
  rw [Bool.and_eq_true]
  refine ⟨?_, decide_eq_true ?_⟩
  · simp only [PyData.canLay0]
    exact (h bs).1
  · simp only [PyData.depth, (h bs).2]
    decide
theorem ne_bools {K : PySem.W.Frag} {H : Hp} {p q : Addr} {bs : List Bool} (hp : H p = some (.lst (bs.map V.bl))) (hq : H q = some (.lst (bs.map V.bl))) {Q : VK} (h : Q (.bl false) H) : rNeD K (.ref p) (.ref q) H Q := by
  refine ⟨_, _, dp_bools hp, dp_bools hq, shaped_bools bs, shaped_bools bs, ?_⟩
  rw [SeqAt.eqv_refl _ (SeqAt.canLay_of_shaped (shaped_bools bs))]
  exact h
end K01

set_option Elab.async false
set_option linter.all false
set_option maxRecDepth 100000
set_option maxHeartbeats 4000000
namespace K01
open PySem PySem.Spec PyProof.Rows L2 Np




/-- which of the first j numbers is i -/
def bl (i j : Nat) : List Bool := (List.range j).map fun t => decide (i = t)
theorem bl_len (i j : Nat) : (bl i j).length = j := by simp [bl]
theorem bl_succ (i j : Nat) : (bl i (j + 1)).map V.bl = (bl i j).map V.bl ++ [.bl (decide (V.int (i : Nat) = V.int (0 + (j : Nat))))] := by
  have e : decide (V.int (i : Nat) = V.int (0 + (j : Nat))) = decide (i = j) := decide_eq_decide.mpr ⟨fun h => by have h2 := V.int.inj h; omega, fun h => by rw [h, Int.zero_add]⟩
  rw [e]
  simp [bl, List.range_succ]
theorem Thing.there {H : Hp} {m : Nat} {q : Addr} (h : Thing H m (.ref q)) : ∃ o, H q = some o := by
  cases h with
  | flat h => exact False.elim h
  | tup h _ _ => exact ⟨_, h⟩
  | lst h _ _ => exact ⟨_, h⟩
theorem Thing.but {H H' : Hp} {m : Nat} {v : V} {B : Addr} (h : Thing H m v) (b : But B H H') (n : ∀ p, v = .ref p → p ≠ B) : Thing H' m v := by
  cases h with
  | flat h => exact .flat h
  | tup h f k => exact .tup (b _ _ (n _ rfl) h) f k
  | lst h f k => exact .lst (b _ _ (n _ rfl) h) f k
section
variable {P : Program} {w : World} {K : PySem.W.Frag} {mg : Str → Option Value} {base : Heap}
def spLaw (K : PySem.W.Frag) : Sp := fun vs H Q _ => ∃ (a : Addr) (ns : List Int), vs = [.ref a] ∧ SqL K H a (ns.map V.int) ∧ ns.length ≤ 63 ∧ ∀ H', Q (.bl true) H'
theorem scLaw : FnScope ["_law_script", "_law_k", "_law_box_here", "_law_one", "_law_two", "_law_three", "_law_due", "_law_lot", "_law_thing_here", "_law_n", "_law_e", "_law_j"] ["_law_script"] (defScope sLaw) := ⟨rfl, rfl, rfl, by decide +kernel, rfl, by decide +kernel, by decide +kernel⟩
theorem ok_law {f : Addr} {fd : FuncData} (F : FnT K "law" sLaw f fd) (m : Bl mg) (c_box : Callee P w K mg base 1 "_law_box" ["_law_script", "_law_k"] (spBox K)) (c_thing : Callee P w K mg base 2 "_law_thing" ["_law_box_here"] spThing)
    (c_made : Callee P w K mg base 3 "_law_made" ["_law_one", "_law_two", "_law_three"] (spLot K)) (c_named : Callee P w K mg base 3 "_law_named" ["_law_one", "_law_two", "_law_three"] (spLot K)) (c_fields : Callee P w K mg base 1 "_law_fields" ["_law_lot"] (spFields K))
    (c_sorts : Callee P w K mg base 1 "_law_sorts" ["_law_e"] (spSorts K)) (c_bases : Callee P w K mg base 1 "_law_bases" ["_law_e"] (spBases K)) : FnG P w K mg base CX0 4 f fd ["_law_script"] (spLaw K) := by
  have nd := scLaw.nd
  refine fnG F scLaw (fun vs H Q E h => ?_) (fun cdv A outer s H vs Q E hgd hr h => ?_)
  · obtain ⟨a, ns, rfl, _⟩ := h
    rfl
  · obtain ⟨a, ns, rfl, hS, hl, q⟩ := h
    refine ⟨_, PSs.nox (pss_cons (ps_for PassesOwn.never rfl (pi_range1 (by rfl) m.range (pa_cons pe_int pa_nil)) (pg_name (i := 1) nd rfl (.inl rfl))
   (pss_cons (ps_set (i := 2) nd rfl (.inl rfl) (pe_callC c_box (hr.mono (by decide)) (pa_cons (pv 0) (pa_cons (pv 1) pa_nil))))
  (pss_cons (ps_par3 (i := 3) (j := 4) (l := 5) (by rfl) nd rfl rfl rfl (by decide) (by decide) (by decide) rfl rfl rfl (pa_cons (pe_callC c_thing (hr.mono (by decide)) (pa_cons (pv 2) pa_nil)) (pa_cons (pe_callC c_thing (hr.mono (by decide)) (pa_cons (pv 2) pa_nil)) (pa_cons (pe_callC c_thing (hr.mono (by decide)) (pa_cons (pv 2) pa_nil)) pa_nil))) (by rfl))
  (pss_cons (ps_set (i := 6) nd rfl (.inl rfl) (pe_lst (pa_cons (pv 3) (pa_cons (pv 4) (pa_cons (pv 3) (pa_cons (pv 3) (pa_cons (pv 4) (pa_cons (pv 3) (pa_cons (pv 3) (pa_cons (pv 4) (pa_cons (pv 3) (pa_cons (pv 4) (pa_cons (pv 3) (pa_cons (pv 4) (pa_cons (pv 3) (pa_cons (pv 3) (pa_cons (pv 3) (pa_cons (pv 4) (pa_cons (pv 5) (pa_cons (pv 3) (pa_cons (pv 3) (pa_cons (pv 3) pa_nil))))))))))))))))))))))
  (pss_cons (ps_set (i := 6) nd rfl (.inl rfl) (pe_op op_cat (pv 6) (pe_lst (pa_cons (pv 3) (pa_cons (pv 3) (pa_cons (pv 3) pa_nil))))))
  (pss_one (ps_for PassesOwn.never rfl (pi_tup (pe_tup (pa_cons (pe_callC c_made (hr.mono (by decide)) (pa_cons (pv 3) (pa_cons (pv 4) (pa_cons (pv 5) pa_nil)))) (pa_cons (pe_callC c_named (hr.mono (by decide)) (pa_cons (pv 3) (pa_cons (pv 4) (pa_cons (pv 5) pa_nil)))) pa_nil)))) (pg_name (i := 7) nd rfl (.inl rfl))
   (pss_cons (ps_if (pt_cmpR op_ne (pe_callB (call_repr hgd hr.units) (by rfl) m.repr (by decide +kernel) (pa_cons (pe_callC c_fields (hr.mono (by decide)) (pa_cons (pv 7) pa_nil)) pa_nil)) (pe_callB (call_repr hgd hr.units) (by rfl) m.repr (by decide +kernel) (pa_cons (pv 6) pa_nil)) (nomark _)) (pss_one (ps_ret pe_bl)) pss_nil)
  (pss_cons (ps_for PassesOwn.never rfl (pi_tup (pe_tup (pa_cons (pv 3) (pa_cons (pv 4) (pa_cons (pv 5) pa_nil))))) (pg_name (i := 8) nd rfl (.inl rfl))
   (pss_one (ps_if (pt_val (pe_callB call_isi (by rfl) m.isinstance (by decide +kernel) (pa_cons (pv 8) (pa_cons (pe_bltn (v := .ty "list") (by rfl) m.list (by decide +kernel) rfl) pa_nil)))) (pss_one (ps_expr (pe_bm PySem.F.plainAttrs_list PySem.F.slot_list_append PySem.F.type_list_append mt_append (pv 8) (pa_cons pe_str pa_nil)))) pss_nil)))
  (pss_cons (ps_if (pt_cmpR op_ne (pe_callB (call_repr hgd hr.units) (by rfl) m.repr (by decide +kernel) (pa_cons (pe_callC c_fields (hr.mono (by decide)) (pa_cons (pv 7) pa_nil)) pa_nil)) (pe_callB (call_repr hgd hr.units) (by rfl) m.repr (by decide +kernel) (pa_cons (pv 6) pa_nil)) (nomark _)) (pss_one (ps_ret pe_bl)) pss_nil)
  (pss_one (ps_for PassesOwn.never rfl (pi_enum (by rfl) m.enumerate (pa_cons (pv 7) pa_nil)) (pg_tup (by rfl) (pgs_cons (pg_name (i := 9) nd rfl (.inr rfl)) (pgs_cons (pg_name (i := 10) nd rfl (.inl rfl)) pgs_nil)))
   (pss_cons (ps_if (pt_cmpR (op_neD hr.units) (pe_callC c_sorts (hr.mono (by decide)) (pa_cons (pv 10) pa_nil)) (pe_lc (own := [("_law_j", 11)]) (g := gName 11) (tt := tYes) rfl nd (pi_range1 (by rfl) m.range (pa_cons pe_int pa_nil)) (blkOk_by (N := ["_law_script", "_law_k", "_law_box_here", "_law_one", "_law_two", "_law_three", "_law_due", "_law_lot", "_law_thing_here", "_law_n", "_law_e", "_law_j"]) (sc := defScope sLaw) (by decide +kernel)) (fun _ _ _ _ _ => (pg_name (i := 11) nd rfl (.inl rfl))) (fun _ _ _ _ _ => pts_nil) (fun _ _ _ _ _ => (pe_cmpR op_eq (pv 9) (pv 11) (nomark _)))) (nomark _)) (pss_one (ps_ret pe_bl)) pss_nil)
  (pss_one (ps_if (pt_cmpR (op_neD hr.units) (pe_callC c_bases (hr.mono (by decide)) (pa_cons (pv 10) pa_nil)) (pe_lst (pa_cons (pe_cmpR op_lt (pv 9) pe_int (nomark _)) (pa_cons (pe_cmpR op_lt (pv 9) pe_int (nomark _)) (pa_cons (pe_cmpR op_gt (pv 9) pe_int (nomark _)) (pa_cons pe_bl pa_nil))))) (nomark _)) (pss_one (ps_ret pe_bl)) pss_nil)))))))))))))))
  (pss_one (ps_ret pe_bl))), ?_⟩
    -- for _law_k in range(2)
    refine ⟨2, rfl, by decide, by decide, for_range (n := 2) (fun i σ H1 => (∃ s1 s2 s3 s4 s5 s6 s7 s8 s9 s10 s11 : Option V, σ = [some (.ref a), s1, s2, s3, s4, s5, s6, s7, s8, s9, s10, s11]) ∧ Same H H1) ⟨⟨_, _, _, _, _, _, _, _, _, _, _, rfl⟩, Same.refl _⟩ ?_ ?_⟩
    · rintro i σ H1 hi ⟨⟨s1, s2, s3, s4, s5, s6, s7, s8, s9, s10, s11, rfl⟩, S1⟩
      -- the box
      refine ⟨_, rfl, _, rfl, a, ns, 0 + (i : Int), rfl, S1.seq hS, hl, by omega, by omega, fun B H2 x y z nB S2 eB => ?_⟩
      -- the three things
      refine ⟨_, rfl, B, x, y, z, rfl, eB, fun v1 H3 x3 y3 z3 B3 e3 T1 F1 => ?_⟩
      refine ⟨_, rfl, B, x3, y3, z3, rfl, e3, fun v2 H4 x4 y4 z4 B4 e4 T2 F2 => ?_⟩
      refine ⟨_, rfl, B, x4, y4, z4, rfl, e4, fun v3 H5 x5 y5 z5 B5 e5 T3 F3 => ?_⟩
      refine ⟨v1, v2, v3, rfl, ?_⟩
      -- what is due
      refine ⟨_, rfl, _, rfl, _, rfl, _, rfl, _, rfl, _, rfl, _, rfl, _, rfl, _, rfl, _, rfl, _, rfl, _, rfl, _, rfl, _, rfl, _, rfl, _, rfl, _, rfl, _, rfl, _, rfl, _, rfl, by show 20 ≤ sizeLine; decide, fun d1 hd1 => ?_⟩
      refine ⟨_, rfl, _, rfl, _, rfl, _, rfl, by show 3 ≤ sizeLine; decide, fun d2 hd2 => ?_⟩
      refine ⟨d1, d2, _, _, rfl, rfl, Same.new hd2 _ _ upd_same, upd_same, by show 20 + 3 ≤ sizeLine; decide, fun D hD => ?_⟩
      have SD : Same H5 (upd (upd (upd H5 d1 (.lst [v1, v2, v1, v1, v2, v1, v1, v2, v1, v2, v1, v2, v1, v1, v1, v2, v3, v1, v1, v1])) d2 (.lst [v1, v1, v1])) D (.lst (due v1 v2 v3))) := ((Same.new hd1).trans (Same.new hd2)).trans (Same.new hD)
      have fD : H5 D = none := Same.free ((Same.new hd1).trans (Same.new hd2)) hD
      -- the two lots
      refine ⟨_, rfl, _, rfl, _, rfl, v1, v2, v3, rfl, fun p1 H6 as1 n1 S6 q1 L1 => ?_⟩
      refine ⟨_, rfl, _, rfl, _, rfl, v1, v2, v3, rfl, fun p2 H7 as2 n2 S7 q2 L2 => ?_⟩
      refine ⟨by show 2 ≤ sizeLine; decide, fun T hT => ?_⟩
      have sit : Sit K H1 (upd H7 T (.tup [.ref p1, .ref p2])) D p1 p2 as1 as2 v1 v2 v3 2 := by
        have sB : ∀ b o, H1 b = some o → b ≠ B := fun b o e => ne_of_none e nB
        have S13 : Same H1 H3 := fun b o e => B3 b o (sB b o e) (S2 b o e)
        have S14 : Same H1 H4 := fun b o e => B4 b o (sB b o e) (S13 b o e)
        have S15 : Same H1 H5 := fun b o e => B5 b o (sB b o e) (S14 b o e)
        have f1 : ∀ r, V.ref r = v1 → H1 r = none ∧ r ≠ B := fun r e => ⟨S2.free (F1 r e.symm), fun z => by rw [z] at e; have := F1 B e.symm; rw [eB] at this; cases this⟩
        have f2 : ∀ r, V.ref r = v2 → H1 r = none ∧ r ≠ B := fun r e => ⟨S13.free (F2 r e.symm), fun z => by rw [z] at e; have := F2 B e.symm; rw [e3] at this; cases this⟩
        have f3 : ∀ r, V.ref r = v3 → H1 r = none ∧ r ≠ B := fun r e => ⟨S14.free (F3 r e.symm), fun z => by rw [z] at e; have := F3 B e.symm; rw [e4] at this; cases this⟩
        have T14 := T1.but B4 fun r e => (f1 r e.symm).2
        have T15 := T14.but B5 fun r e => (f1 r e.symm).2
        have T25 := T2.but B5 fun r e => (f2 r e.symm).2
        have S57 : Same H5 (upd H7 T (.tup [.ref p1, .ref p2])) := (SD.trans (S6.trans S7)).trans (Same.new hT)
        have off : ∀ v r, Thing H5 2 v → V.ref r = v → r ≠ D ∧ r ≠ p1 ∧ r ≠ p2 := fun v r t e => by
          obtain ⟨o, ho⟩ := (e ▸ t : Thing H5 2 (.ref r)).there
          exact ⟨ne_of_none ho fD, ne_of_none (SD _ _ ho) n1, ne_of_none (S6 _ _ (SD _ _ ho)) n2⟩
        refine ⟨S15.trans S57, ?_, ?_, ?_, L1.mono (S7.trans (Same.new hT)), L2.mono (Same.new hT), T15.mono S57, T25.mono S57, T3.mono S57, fun r hr => ?_⟩
        · exact (Same.new hT) _ _ (S7 _ _ (S6 _ _ upd_same))
        · exact (Same.new hT) _ _ (S7 _ _ q1)
        · exact (Same.new hT) _ _ q2
        · rcases hr with e | e | e
          · exact ⟨(f1 r e).1, off v1 r T15 e⟩
          · exact ⟨(f2 r e).1, off v2 r T25 e⟩
          · exact ⟨(f3 r e).1, off v3 r T3 e⟩
      refine ⟨T, rfl, ⟨_, SqT.of upd_same⟩, for_tup (K := K) (a := T) (xs := [.ref p1, .ref p2]) (fun i2 σ H9 => (∃ s7 s8 s9 s10 s11 : Option V, σ = [some (.ref a), some (.int (0 + (i : Int))), some (.ref B), some v1, some v2, some v3, some (.ref D), s7, s8, s9, s10, s11]) ∧
        Sit K H1 H9 D p1 p2 as1 as2 v1 v2 v3 (2 + 3 * i2) ∧ H9 T = some (.tup [.ref p1, .ref p2])) ⟨⟨_, _, _, _, _, rfl⟩, sit, upd_same⟩ (fun _ _ _ _ h => SqT.of h.2.2) ?_ ?_⟩
      · rintro i2 x2 σ H9 hx2 ⟨⟨s7, s8, s9, s10, s11, rfl⟩, sit9, hT9⟩
        obtain ⟨p, as, rfl, hpk⟩ : ∃ (p : Addr) (as : List Addr), x2 = .ref p ∧ ∀ H m, Sit K H1 H D p1 p2 as1 as2 v1 v2 v3 m → H p = some (.lst (as.map V.ref)) ∧ Lot K H v1 v2 v3 as := by
          match i2, hx2 with
          | 0, h => cases h; exact ⟨p1, as1, rfl, fun H m s => ⟨s.h1, s.l1⟩⟩
          | 1, h => cases h; exact ⟨p2, as2, rfl, fun H m s => ⟨s.h2, s.l2⟩⟩
          | n + 2, h => simp at h
        have hi2 : i2 < 2 := (List.getElem?_eq_some_iff.mp hx2).1
        -- if repr(_law_fields(_law_lot)) != repr(_law_due)
        obtain ⟨g1, g2⟩ := hpk _ _ sit9
        refine ⟨_, rfl, p, as, v1, v2, v3, rfl, g1, g2, fun r1 H10 m1 S10 e10 => ?_⟩
        have sit10 := sit9.mono S10
        obtain ⟨ds, z1, z2, z3, z4, z5⟩ := tells_vals (sit10.tells (by omega)) (by decide) (by show (7000 + 2) * 23 + 3 ≤ sizeLine; decide)
        refine ⟨_, .list ds, rfl, .lst (SqL.of e10) z1, z2, z3, z4, z5, ?_⟩
        refine ⟨_, rfl, _, .list ds, rfl, .lst (SqL.of sit10.hd) z1, z2, z3, z4, z5, ?_⟩
        refine ⟨rfl, _, rfl, ?_⟩
        refine iteNS rfl ?_
        -- for _law_thing_here in (_law_one, _law_two, _law_three)
        refine ⟨_, rfl, _, rfl, _, rfl, by show 3 ≤ sizeLine; decide, fun T3 hT3 => ?_⟩
        have hTa : H10 T = some (.tup [.ref p1, .ref p2]) := S10 _ _ hT9
        refine ⟨T3, rfl, ⟨_, SqT.of upd_same⟩, for_tup (K := K) (a := T3) (xs := [v1, v2, v3]) (fun i3 σ H11 => (∃ s8 s9 s10 s11 : Option V, σ = [some (.ref a), some (.int (0 + (i : Int))), some (.ref B), some v1, some v2, some v3, some (.ref D), some (.ref p), s8, s9, s10, s11]) ∧
          Sit K H1 H11 D p1 p2 as1 as2 v1 v2 v3 (2 + 3 * i2 + i3) ∧ H11 T = some (.tup [.ref p1, .ref p2]) ∧ H11 T3 = some (.tup [v1, v2, v3])) ⟨⟨_, _, _, _, rfl⟩, sit10.mono (Same.new hT3), Same.new hT3 _ _ hTa, upd_same⟩ (fun _ _ _ _ h => SqT.of h.2.2.2) ?_ ?_⟩
        · rintro i3 x3 σ H11 hx3 ⟨⟨s8, s9, s10, s11, rfl⟩, sit11, hT11, hT311⟩
          obtain ⟨hv, ht⟩ : (x3 = v1 ∨ x3 = v2 ∨ x3 = v3) ∧ Thing H11 (2 + 3 * i2 + i3) x3 := by
            match i3, hx3 with
            | 0, h => cases h; exact ⟨.inl rfl, sit11.t1⟩
            | 1, h => cases h; exact ⟨.inr (.inl rfl), sit11.t2⟩
            | 2, h => cases h; exact ⟨.inr (.inr rfl), sit11.t3⟩
            | n + 3, h => simp at h
          have hi3 : i3 < 3 := (List.getElem?_eq_some_iff.mp hx3).1
          have keep : ∃ t8 t9 t10 t11 : Option V, ([some (.ref a), some (.int (0 + (i : Int))), some (.ref B), some v1, some v2, some v3, some (.ref D), some (.ref p), s8, s9, s10, s11] : List (Option V)).set 8 (some x3) = [some (.ref a), some (.int (0 + (i : Int))), some (.ref B), some v1, some v2, some v3, some (.ref D), some (.ref p), t8, t9, t10, t11] := ⟨_, _, _, _, rfl⟩
          cases ht with
          | flat hf =>
            obtain ⟨tn, ty, kt⟩ : ∃ tn : String, TyOf K H11 x3 (.type tn) ∧ PySem.W.kitOne K (.type tn) (.type "list") = some false := by
              cases x3 with
              | non => exact ⟨_, .non, kit_ty (by decide +kernel)⟩
              | bl b => exact ⟨_, .bl b, kit_ty (by decide +kernel)⟩
              | int i => exact ⟨_, .int i, kit_ty (by decide +kernel)⟩
              | str z => exact ⟨_, .str z, kit_ty (by decide +kernel)⟩
              | _ => exact False.elim hf
            refine ⟨_, rfl, x3, _, _, _, false, rfl, .ty _, .base ty, kt, _, rfl, ?_⟩
            refine iteF ?_
            exact ⟨keep, sit11.weak (Nat.le_succ _), hT11, hT311⟩
          | @tup q xs hq hf hl =>
            refine ⟨_, rfl, .ref q, _, _, _, false, rfl, .ty _, .base (.tup hq), kit_ty (by decide +kernel), _, rfl, ?_⟩
            refine iteF ?_
            exact ⟨keep, sit11.weak (Nat.le_succ _), hT11, hT311⟩
          | @lst q xs hq hf hl =>
            refine ⟨_, rfl, .ref q, _, _, _, true, rfl, .ty _, .base (.lst hq), kit_ty (by decide +kernel), _, rfl, ?_⟩
            refine iteT ?_
            refine ⟨_, rfl, .inl ⟨rfl, _, SqL.of hq⟩, q, xs, .str "b", rfl, rfl, hq, small1000 (by omega), ?_⟩
            exact ⟨keep, sit11.app hv hq hf hl, by rw [upd_ne (ne_of hT11 hq (fun z => nomatch z))]; exact hT11, by rw [upd_ne (ne_of hT311 hq (fun z => nomatch z))]; exact hT311⟩
        · rintro σ H11 ⟨⟨s8, s9, s10, s11, rfl⟩, sit11, hT11, _⟩
          -- the same once more
          obtain ⟨g1, g2⟩ := hpk _ _ sit11
          refine ⟨_, rfl, p, as, v1, v2, v3, rfl, g1, g2, fun r1 H12 m1 S12 e12 => ?_⟩
          have sit12 := sit11.mono S12
          obtain ⟨ds, z1, z2, z3, z4, z5⟩ := tells_vals (sit12.tells (by show 2 + 3 * i2 + 3 ≤ 20; omega)) (by decide) (by show (7000 + 2) * 23 + 3 ≤ sizeLine; decide)
          refine ⟨_, .list ds, rfl, .lst (SqL.of e12) z1, z2, z3, z4, z5, ?_⟩
          refine ⟨_, rfl, _, .list ds, rfl, .lst (SqL.of sit12.hd) z1, z2, z3, z4, z5, ?_⟩
          refine ⟨rfl, _, rfl, ?_⟩
          refine iteNS rfl ?_
          -- for _law_n, _law_e in enumerate(_law_lot)
          obtain ⟨g3, g4⟩ := hpk _ _ sit12
          refine ⟨_, rfl, p, _, rfl, SqL.of g3, for_it (walk_enum (K := K) (a := p) (xs := as.map V.ref)) (fun i4 σ H13 => (∃ s8 s9 s10 s11 : Option V, σ = [some (.ref a), some (.int (0 + (i : Int))), some (.ref B), some v1, some v2, some v3, some (.ref D), some (.ref p), s8, s9, s10, s11]) ∧
            Sit K H1 H13 D p1 p2 as1 as2 v1 v2 v3 (2 + 3 * i2 + 3) ∧ H13 T = some (.tup [.ref p1, .ref p2])) ⟨⟨_, _, _, _, rfl⟩, sit12, S12 _ _ hT11⟩ (fun _ _ H13 _ h => SqL.of (hpk _ _ h.2.1).1) ?_ ?_⟩
          · rintro i4 x4 σ H13 H14 hi4 ⟨⟨s8, s9, s10, s11, rfl⟩, sit13, hT13⟩ ⟨Tp, xa, xb, rfl, nTp, rfl, ea, eb⟩
            cases ea
            have g5 := hpk _ _ sit13
            have hl4 : i4 < as.length := by simpa using hi4
            have h17 : i4 < 17 := by rw [← g5.2.1]; exact hl4
            obtain rfl : xb = .ref (as.getD i4 0) := by
              have eb : (as.map V.ref)[i4]? = some xb := eb
              rw [List.getElem?_map, List.getElem?_eq_getElem hl4] at eb
              cases eb
              simp [List.getD, List.getElem?_eq_getElem hl4]
            have er := g5.2.2 i4 h17
            have SA : Same H13 (upd H13 Tp (.tup [.int (i4 : Nat), .ref (as.getD i4 0)])) := Same.new nTp
            refine ⟨Tp, _, rfl, SqT.of upd_same, rfl, _, _, rfl, _, _, rfl, rfl, ?_⟩
            -- if _law_sorts(_law_e) != [..]
            refine ⟨_, rfl, _, i4, _, rfl, h17, er.mono SA, fun r2 H15 m2 S15 e15 => ?_⟩
            refine ⟨17, rfl, by decide, by decide, fun Dl hDl => ?_⟩
            refine lc_range (lo := 0) (n := 17) (fun j Hc => Hc Dl = some (.lst ((bl i4 j).map V.bl)) ∧ Same H15 Hc) ⟨upd_same, Same.new hDl⟩ ?_ ?_
            · rintro j Hc hj ⟨c1, c2⟩
              refine ⟨rfl, ?_⟩
              refine ⟨_, rfl, _, rfl, rfl, _, c1, ?_, ?_, ?_⟩
              · rw [List.length_map]
                exact small1000 (by rw [bl_len]; omega)
              · rw [upd_same, bl_succ]
              · exact fun b o e => by
                  rw [upd_ne (ne_of_none e hDl)]
                  exact c2 b o e
            · rintro Hc ⟨c1, c2⟩
              have hS : Hc r2 = some (.lst ((bl i4 17).map V.bl)) := c2 _ _ e15
              refine ⟨_, _, dp_bools hS, dp_bools c1, shaped_bools _, shaped_bools _, ?_⟩
              refine ⟨false, congrArg V.bl (by rw [SeqAt.eqv_refl _ (SeqAt.canLay_of_shaped (shaped_bools _))]; rfl), ?_⟩
              refine iteF ?_
              -- if _law_bases(_law_e) != [..]
              have SB : Same H13 Hc := (SA.trans S15).trans c2
              refine ⟨_, rfl, _, i4, _, rfl, h17, er.mono SB, fun r3 H16 m3 S16 e16 => ?_⟩
              refine ⟨_, rfl, _, _, rfl, rfl, _, rfl, _, _, rfl, rfl, _, rfl, _, _, rfl, rfl, by show 4 ≤ sizeLine; decide, fun Lb hLb => ?_⟩
              have b1 : (upd H16 Lb (.lst [.bl (decide ((i4 : Int) < 15)), .bl (decide ((i4 : Int) < 15)), .bl (decide ((14 : Int) < (i4 : Int))), .bl false])) r3 = some (.lst ([decide (i4 < 15), decide (i4 < 15), decide (14 < i4), false].map V.bl)) := Same.new hLb _ _ e16
              have b2 : (upd H16 Lb (.lst [.bl (decide ((i4 : Int) < 15)), .bl (decide ((i4 : Int) < 15)), .bl (decide ((14 : Int) < (i4 : Int))), .bl false])) Lb = some (.lst ([decide (i4 < 15), decide (i4 < 15), decide (14 < i4), false].map V.bl)) := by
                rw [upd_same, show decide ((i4 : Int) < 15) = decide (i4 < 15) from decide_eq_decide.mpr (by omega), show decide ((14 : Int) < (i4 : Int)) = decide (14 < i4) from decide_eq_decide.mpr (by omega)]
                rfl
              refine ⟨_, _, dp_bools b1, dp_bools b2, shaped_bools _, shaped_bools _, ?_⟩
              refine ⟨false, congrArg V.bl (by rw [SeqAt.eqv_refl _ (SeqAt.canLay_of_shaped (shaped_bools _))]; rfl), ?_⟩
              refine iteF ?_
              exact ⟨⟨_, _, _, _, rfl⟩, sit13.mono ((SB.trans S16).trans (Same.new hLb)), Same.new hLb _ _ (S16 _ _ (SB _ _ hT13))⟩
          · rintro σ H13 ⟨⟨s8, s9, s10, s11, rfl⟩, sit13, hT13⟩
            exact ⟨⟨_, _, _, _, _, rfl⟩, sit13, hT13⟩
      · rintro σ H9 ⟨⟨s7, s8, s9, s10, s11, rfl⟩, sit9, _⟩
        exact ⟨⟨_, _, _, _, _, _, _, _, _, _, _, rfl⟩, S1.trans sit9.s0⟩
    · rintro σ H1 ⟨_, _⟩
      exact q _
end
end K01

set_option Elab.async false
set_option linter.all false
set_option maxRecDepth 100000
set_option maxHeartbeats 0
namespace K01
open PySem PySem.Spec PyProof.Rows L2 Np
/-! ### the head: facts by names, the run -/
def hookN (n : Nat) (fa : List He.Fa) (fn : List He.DefD) (ex : PySem.W.Frag → Bool) : PySem.W.Hook where
  α := He.AlD × Bool
  obs := fun s => (He.obsDG n fa fn s.heap.get?, ex (He.frG s.heap.get? (He.asD s.heap.get? n)))
  val := fun _ => (He.valD fn, true)
  says := fun _ h => ∃ K : PySem.W.Frag, K.In h ∧ He.SaysD fa fn K ∧ ex K = true
  of := fun _ _ e => ⟨_, He.frG_in, congrArg Prod.fst e, congrArg Prod.snd e⟩
  keeps := fun _ _ _ ⟨K, hK, c⟩ k => ⟨K, PySem.W.Frag.In.keeps hK k, c⟩
def obsN (n : Nat) (fa : List He.Fa) (fn : List He.DefD) (ex : PySem.W.Frag → Bool) (g : Addr → Option Obj) : He.AlD × Bool := (He.obsDG n fa fn g, ex (He.frG g (He.asD g n)))
theorem obsN_eq {n : Nat} {fa : List He.Fa} {fn : List He.DefD} {ex : PySem.W.Frag → Bool} {g : Addr → Option Obj} {s : Shared} (h : ∀ a, g a = s.heap.get? a) : obsN n fa fn ex g = (hookN n fa fn ex).obs s := by
  have e : g = s.heap.get? := funext h
  rw [e] <;> rfl
def tdef (x : Str) (st : Stmt) : He.DefD := ⟨(x, none), x, x, defArgs st, defBody st, defScope st, [], []⟩
def idef (x q : Str) (st : Stmt) : He.DefD := ⟨(x, some "__init__"), "__init__", q, defArgs st, defBody st, defScope st, [], []⟩
def fns : List He.DefD := [tdef "_law_box" sBox, tdef "_law_take" sTake, tdef "_law_thing" sThing, tdef "_law_made" sMade, tdef "_law_named" sNamed, tdef "_law_fields" sFields, tdef "_law_sorts" sSorts, tdef "_law_bases" sBases, tdef "law" sLaw, idef "NoBoard" "NoBoard.__init__" sINoBoard, idef "NoText" "NoText.__init__" sINoText, idef "NoFamily" "NoFamily.__init__" sINoFamily, idef "NoTurn" "NoTurn.__init__" sINoTurn, idef "Missing" "Missing.__init__" sIMissing, idef "Needed" "Needed.__init__" sINeeded, idef "Barred" "Barred.__init__" sIBarred, idef "NoMatch" "NoMatch.__init__" sINoMatch, idef "Stuck" "Stuck.__init__" sIStuck, idef "Unmet" "Unmet.__init__" sIUnmet, idef "Held" "Held.__init__" sIHeld, idef "Spent" "Spent.__init__" sISpent, idef "NoDeed" "NoDeed.__init__" sINoDeed, idef "Broken" "Broken.__init__" sIBroken, idef "NoPeg" "NoPeg.__init__" sINoPeg, idef "NoWalker" "NoWalker.__init__" sINoWalker]
def fas : List He.Fa := [.glo "_law_box", .glo "_law_take", .glo "_law_thing", .glo "_law_made", .glo "_law_named", .glo "_law_fields", .glo "_law_sorts", .glo "_law_bases", .glo "law", .glo "NoBoard", .glo "NoText", .glo "NoFamily", .glo "NoTurn", .glo "Missing", .glo "Needed", .glo "Barred", .glo "NoMatch", .glo "Stuck", .glo "Unmet", .glo "Held", .glo "Spent", .glo "NoDeed", .glo "Broken", .glo "NoCommand", .glo "NoPeg", .glo "NoWalker", .glo "PegError", .free "len", .free "int", .free "range", .free "repr", .free "isinstance", .free "list", .free "enumerate", .free "ValueError", .free "KeyError", .free "IndexError", .meth "NoBoard" "__init__", .meth "NoText" "__init__", .meth "NoFamily" "__init__", .meth "NoTurn" "__init__", .meth "Missing" "__init__", .meth "Needed" "__init__", .meth "Barred" "__init__", .meth "NoMatch" "__init__", .meth "Stuck" "__init__", .meth "Unmet" "__init__", .meth "Held" "__init__", .meth "Spent" "__init__", .meth "NoDeed" "__init__", .meth "Broken" "__init__", .meth "NoPeg" "__init__", .meth "NoWalker" "__init__"]
def exB (K : PySem.W.Frag) : Bool :=
  (exkB K (He.ga K "NoBoard") "ValueError.__new__" rowV && (exkB K (He.ga K "NoText") "ValueError.__new__" rowV && (exkB K (He.ga K "NoFamily") "ValueError.__new__" rowV && (exkB K (He.ga K "NoTurn") "ValueError.__new__" rowV && (exkB K (He.ga K "Missing") "ValueError.__new__" rowV && (exkB K (He.ga K "Needed") "ValueError.__new__" rowV && (exkB K (He.ga K "Barred") "ValueError.__new__" rowV && (exkB K (He.ga K "NoMatch") "ValueError.__new__" rowV && (exkB K (He.ga K "Stuck") "ValueError.__new__" rowV && (exkB K (He.ga K "Unmet") "ValueError.__new__" rowV && (exkB K (He.ga K "Held") "ValueError.__new__" rowV && (exkB K (He.ga K "Spent") "ValueError.__new__" rowV && (exkB K (He.ga K "NoDeed") "ValueError.__new__" rowV && (exkB K (He.ga K "Broken") "ValueError.__new__" rowV && (exkB K (He.ga K "NoPeg") "LookupError.__new__" rowK && (exkB K (He.ga K "NoWalker") "LookupError.__new__" rowK && (PySem.W.excIn K (He.ga K "NoCommand") rowV "ValueError.__new__" && (PySem.W.keepIn K (.ref (He.ga K "NoCommand")) && (excB K (He.ga K "NoCommand") && ((List.range 17).all (fun j => (["at", "by", "cost", "line", "name", "needed", "other", "peg", "sets", "word"] : List Str).all fun f => decide (PySem.W.findIn K (.ref (errC K j)) f = some none)) && ((List.range 17).all (fun i => (List.range 17).all fun j => decide (PySem.W.kitOne K (.ref (errC K i)) (.ref (errC K j)) = some (decide (i = j)))) && ((List.range 17).all (fun i => decide (PySem.W.kitOne K (.ref (errC K i)) (.ref (He.ga K "PegError")) = some (decide (i < 15)))) && ((List.range 17).all (fun i => decide (PySem.W.kitOne K (.ref (errC K i)) (.type "ValueError") = some (decide (i < 15)))) && ((List.range 17).all (fun i => decide (PySem.W.kitOne K (.ref (errC K i)) (.type "KeyError") = some (decide (14 < i)))) && (List.range 17).all (fun i => decide (PySem.W.kitOne K (.ref (errC K i)) (.type "IndexError") = some false))))))))))))))))))))))))))
abbrev R : PySem.W.OpenRow := PySem.W.OpenLaw.row PySem.Challenge.rw_needpegs_k01_errors
abbrev hk : PySem.W.Hook := hookN 6 fas fns exB
def ob (s : PySem.W.SharedT) : He.AlD × Bool := obsN 6 fas fns exB (HandSHeadRun.getT s)
theorem ob_eq (s : PySem.W.SharedT) : ob s = hk.obs s.abs := obsN_eq (HandSHeadRun.getT_eq s)
def loose : List Str := ["PegError", "NoBoard", "NoText", "NoFamily", "NoTurn", "Missing", "Needed", "Barred", "NoMatch", "Stuck", "Unmet", "Held", "Spent", "NoDeed", "Broken", "NoCommand", "NoPeg", "NoWalker", "_law_box", "_law_take", "_law_thing", "_law_made", "_law_named", "_law_fields", "_law_sorts", "_law_bases"]
theorem run (w : World) : HandSHeadRun.RunEq R (PySem.W.view R.prog [28]) hk ob 6000 loose w := by
  intro os
  kernel_rfl
end K01

set_option Elab.async false
set_option linter.all false
set_option maxRecDepth 100000
set_option maxHeartbeats 4000000
namespace K01
open PySem PySem.Spec PyProof.Rows L2 Np
theorem all17 {p : Nat → Bool} (h : (List.range 17).all p = true) (j : Nat) (hj : j < 17) : p j = true := List.all_eq_true.mp h j (List.mem_range.mpr hj)
section
variable {P : Program} {w : World} {K : PySem.W.Frag} {mg : Str → Option Value} {base h : Heap}
theorem blOf (X : K.In h) (G : h.Ns mainGlobals mg) (c : He.SaysD fas fns K) : Bl mg where
  len := He.free_ok X G (c.fact 27 (f := .free "len") rfl)
  int := He.free_ok X G (c.fact 28 (f := .free "int") rfl)
  range := He.free_ok X G (c.fact 29 (f := .free "range") rfl)
  repr := He.free_ok X G (c.fact 30 (f := .free "repr") rfl)
  isinstance := He.free_ok X G (c.fact 31 (f := .free "isinstance") rfl)
  list := He.free_ok X G (c.fact 32 (f := .free "list") rfl)
  enumerate := He.free_ok X G (c.fact 33 (f := .free "enumerate") rfl)
  ValueError := He.free_ok X G (c.fact 34 (f := .free "ValueError") rfl)
  KeyError := He.free_ok X G (c.fact 35 (f := .free "KeyError") rfl)
  IndexError := He.free_ok X G (c.fact 36 (f := .free "IndexError") rfl)
theorem glo (X : K.In h) (G : h.Ns mainGlobals mg) (c : He.SaysD fas fns K) (x : Str) (hx : (He.Fa.glo x) ∈ fas) : mg x = some (.ref (He.ga K x)) := He.glo_ok X G (by
  obtain ⟨i, hi, e⟩ := List.mem_iff_getElem.mp hx
  exact c.fact i (f := .glo x) (by rw [List.getElem?_eq_getElem hi, e]))
theorem efOf (X : K.In h) (G : h.Ns mainGlobals mg) (c : He.SaysD fas fns K) (ex : exB K = true) : EF P w K mg base := by
  simp only [exB, Bool.and_eq_true] at ex
  obtain ⟨xNoBoard, xNoText, xNoFamily, xNoTurn, xMissing, xNeeded, xBarred, xNoMatch, xStuck, xUnmet, xHeld, xSpent, xNoDeed, xBroken, xNoPeg, xNoWalker, n1, n2, n3, f0, k0, k1, k2, k3, k4⟩ := ex
  have fr : ∀ j : Nat, j < 17 → ∀ f ∈ (["at", "by", "cost", "line", "name", "needed", "other", "peg", "sets", "word"] : List Str), PySem.W.findIn K (.ref (errC K j)) f = some none := fun j hj f hf => of_decide_eq_true (List.all_eq_true.mp (all17 f0 j hj) f hf)
  refine {
    mkNoBoard := by
      obtain ⟨fd, F⟩ := c.def_ 9 (d := idef "NoBoard" "NoBoard.__init__" sINoBoard) rfl
      have M := He.meth_ok (c.fact 37 (f := .meth "NoBoard" "__init__") rfl)
      exact ⟨_, fd, He.glo_ok X G (c.fact 9 (f := .glo "NoBoard") rfl), ⟨⟨_, _, _, _, _, exkB_ok xNoBoard, rowV_ok⟩, M.at_, beq_iff_eq.mp M.fn⟩, okINoBoard F (⟨_, _, _, _, _, exkB_ok xNoBoard, rowV_ok, fr 0 (by decide) "word" (by decide)⟩) (⟨_, _, _, _, _, exkB_ok xNoBoard, rowV_ok, fr 0 (by decide) "at" (by decide)⟩), F, F.bindsN fun _ _ _ _ _ _ us hl => match us, hl with | [_, _, _], _ => rfl⟩
    mkNoText := by
      obtain ⟨fd, F⟩ := c.def_ 10 (d := idef "NoText" "NoText.__init__" sINoText) rfl
      have M := He.meth_ok (c.fact 38 (f := .meth "NoText" "__init__") rfl)
      exact ⟨_, fd, He.glo_ok X G (c.fact 10 (f := .glo "NoText") rfl), ⟨⟨_, _, _, _, _, exkB_ok xNoText, rowV_ok⟩, M.at_, beq_iff_eq.mp M.fn⟩, okINoText F (⟨_, _, _, _, _, exkB_ok xNoText, rowV_ok, fr 1 (by decide) "line" (by decide)⟩), F, F.bindsN fun _ _ _ _ _ _ us hl => match us, hl with | [_, _], _ => rfl⟩
    mkNoFamily := by
      obtain ⟨fd, F⟩ := c.def_ 11 (d := idef "NoFamily" "NoFamily.__init__" sINoFamily) rfl
      have M := He.meth_ok (c.fact 39 (f := .meth "NoFamily" "__init__") rfl)
      exact ⟨_, fd, He.glo_ok X G (c.fact 11 (f := .glo "NoFamily") rfl), ⟨⟨_, _, _, _, _, exkB_ok xNoFamily, rowV_ok⟩, M.at_, beq_iff_eq.mp M.fn⟩, okINoFamily F (⟨_, _, _, _, _, exkB_ok xNoFamily, rowV_ok, fr 2 (by decide) "word" (by decide)⟩) (⟨_, _, _, _, _, exkB_ok xNoFamily, rowV_ok, fr 2 (by decide) "sets" (by decide)⟩), F, F.bindsN fun _ _ _ _ _ _ us hl => match us, hl with | [_, _, _], _ => rfl⟩
    mkNoTurn := by
      obtain ⟨fd, F⟩ := c.def_ 12 (d := idef "NoTurn" "NoTurn.__init__" sINoTurn) rfl
      have M := He.meth_ok (c.fact 40 (f := .meth "NoTurn" "__init__") rfl)
      exact ⟨_, fd, He.glo_ok X G (c.fact 12 (f := .glo "NoTurn") rfl), ⟨⟨_, _, _, _, _, exkB_ok xNoTurn, rowV_ok⟩, M.at_, beq_iff_eq.mp M.fn⟩, okINoTurn F (⟨_, _, _, _, _, exkB_ok xNoTurn, rowV_ok, fr 3 (by decide) "peg" (by decide)⟩), F, F.bindsN fun _ _ _ _ _ _ us hl => match us, hl with | [_, _], _ => rfl⟩
    mkMissing := by
      obtain ⟨fd, F⟩ := c.def_ 13 (d := idef "Missing" "Missing.__init__" sIMissing) rfl
      have M := He.meth_ok (c.fact 41 (f := .meth "Missing" "__init__") rfl)
      exact ⟨_, fd, He.glo_ok X G (c.fact 13 (f := .glo "Missing") rfl), ⟨⟨_, _, _, _, _, exkB_ok xMissing, rowV_ok⟩, M.at_, beq_iff_eq.mp M.fn⟩, okIMissing F (⟨_, _, _, _, _, exkB_ok xMissing, rowV_ok, fr 4 (by decide) "peg" (by decide)⟩) (⟨_, _, _, _, _, exkB_ok xMissing, rowV_ok, fr 4 (by decide) "needed" (by decide)⟩), F, F.bindsN fun _ _ _ _ _ _ us hl => match us, hl with | [_, _, _], _ => rfl⟩
    mkNeeded := by
      obtain ⟨fd, F⟩ := c.def_ 14 (d := idef "Needed" "Needed.__init__" sINeeded) rfl
      have M := He.meth_ok (c.fact 42 (f := .meth "Needed" "__init__") rfl)
      exact ⟨_, fd, He.glo_ok X G (c.fact 14 (f := .glo "Needed") rfl), ⟨⟨_, _, _, _, _, exkB_ok xNeeded, rowV_ok⟩, M.at_, beq_iff_eq.mp M.fn⟩, okINeeded F (⟨_, _, _, _, _, exkB_ok xNeeded, rowV_ok, fr 5 (by decide) "peg" (by decide)⟩) (⟨_, _, _, _, _, exkB_ok xNeeded, rowV_ok, fr 5 (by decide) "by" (by decide)⟩), F, F.bindsN fun _ _ _ _ _ _ us hl => match us, hl with | [_, _, _], _ => rfl⟩
    mkBarred := by
      obtain ⟨fd, F⟩ := c.def_ 15 (d := idef "Barred" "Barred.__init__" sIBarred) rfl
      have M := He.meth_ok (c.fact 43 (f := .meth "Barred" "__init__") rfl)
      exact ⟨_, fd, He.glo_ok X G (c.fact 15 (f := .glo "Barred") rfl), ⟨⟨_, _, _, _, _, exkB_ok xBarred, rowV_ok⟩, M.at_, beq_iff_eq.mp M.fn⟩, okIBarred F (⟨_, _, _, _, _, exkB_ok xBarred, rowV_ok, fr 6 (by decide) "peg" (by decide)⟩) (⟨_, _, _, _, _, exkB_ok xBarred, rowV_ok, fr 6 (by decide) "other" (by decide)⟩), F, F.bindsN fun _ _ _ _ _ _ us hl => match us, hl with | [_, _, _], _ => rfl⟩
    mkNoMatch := by
      obtain ⟨fd, F⟩ := c.def_ 16 (d := idef "NoMatch" "NoMatch.__init__" sINoMatch) rfl
      have M := He.meth_ok (c.fact 44 (f := .meth "NoMatch" "__init__") rfl)
      exact ⟨_, fd, He.glo_ok X G (c.fact 16 (f := .glo "NoMatch") rfl), ⟨⟨_, _, _, _, _, exkB_ok xNoMatch, rowV_ok⟩, M.at_, beq_iff_eq.mp M.fn⟩, okINoMatch F (⟨_, _, _, _, _, exkB_ok xNoMatch, rowV_ok, fr 7 (by decide) "word" (by decide)⟩), F, F.bindsN fun _ _ _ _ _ _ us hl => match us, hl with | [_, _], _ => rfl⟩
    mkStuck := by
      obtain ⟨fd, F⟩ := c.def_ 17 (d := idef "Stuck" "Stuck.__init__" sIStuck) rfl
      have M := He.meth_ok (c.fact 45 (f := .meth "Stuck" "__init__") rfl)
      exact ⟨_, fd, He.glo_ok X G (c.fact 17 (f := .glo "Stuck") rfl), ⟨⟨_, _, _, _, _, exkB_ok xStuck, rowV_ok⟩, M.at_, beq_iff_eq.mp M.fn⟩, okIStuck F (⟨_, _, _, _, _, exkB_ok xStuck, rowV_ok, fr 8 (by decide) "at" (by decide)⟩), F, F.bindsN fun _ _ _ _ _ _ us hl => match us, hl with | [_, _], _ => rfl⟩
    mkUnmet := by
      obtain ⟨fd, F⟩ := c.def_ 18 (d := idef "Unmet" "Unmet.__init__" sIUnmet) rfl
      have M := He.meth_ok (c.fact 46 (f := .meth "Unmet" "__init__") rfl)
      exact ⟨_, fd, He.glo_ok X G (c.fact 18 (f := .glo "Unmet") rfl), ⟨⟨_, _, _, _, _, exkB_ok xUnmet, rowV_ok⟩, M.at_, beq_iff_eq.mp M.fn⟩, okIUnmet F (⟨_, _, _, _, _, exkB_ok xUnmet, rowV_ok, fr 9 (by decide) "word" (by decide)⟩) (⟨_, _, _, _, _, exkB_ok xUnmet, rowV_ok, fr 9 (by decide) "peg" (by decide)⟩) (⟨_, _, _, _, _, exkB_ok xUnmet, rowV_ok, fr 9 (by decide) "other" (by decide)⟩), F, F.bindsN fun _ _ _ _ _ _ us hl => match us, hl with | [_, _, _, _], _ => rfl⟩
    mkHeld := by
      obtain ⟨fd, F⟩ := c.def_ 19 (d := idef "Held" "Held.__init__" sIHeld) rfl
      have M := He.meth_ok (c.fact 47 (f := .meth "Held" "__init__") rfl)
      exact ⟨_, fd, He.glo_ok X G (c.fact 19 (f := .glo "Held") rfl), ⟨⟨_, _, _, _, _, exkB_ok xHeld, rowV_ok⟩, M.at_, beq_iff_eq.mp M.fn⟩, okIHeld F (⟨_, _, _, _, _, exkB_ok xHeld, rowV_ok, fr 10 (by decide) "peg" (by decide)⟩), F, F.bindsN fun _ _ _ _ _ _ us hl => match us, hl with | [_, _], _ => rfl⟩
    mkSpent := by
      obtain ⟨fd, F⟩ := c.def_ 20 (d := idef "Spent" "Spent.__init__" sISpent) rfl
      have M := He.meth_ok (c.fact 48 (f := .meth "Spent" "__init__") rfl)
      exact ⟨_, fd, He.glo_ok X G (c.fact 20 (f := .glo "Spent") rfl), ⟨⟨_, _, _, _, _, exkB_ok xSpent, rowV_ok⟩, M.at_, beq_iff_eq.mp M.fn⟩, okISpent F (⟨_, _, _, _, _, exkB_ok xSpent, rowV_ok, fr 11 (by decide) "cost" (by decide)⟩), F, F.bindsN fun _ _ _ _ _ _ us hl => match us, hl with | [_, _], _ => rfl⟩
    mkNoDeed := by
      obtain ⟨fd, F⟩ := c.def_ 21 (d := idef "NoDeed" "NoDeed.__init__" sINoDeed) rfl
      have M := He.meth_ok (c.fact 49 (f := .meth "NoDeed" "__init__") rfl)
      exact ⟨_, fd, He.glo_ok X G (c.fact 21 (f := .glo "NoDeed") rfl), ⟨⟨_, _, _, _, _, exkB_ok xNoDeed, rowV_ok⟩, M.at_, beq_iff_eq.mp M.fn⟩, okINoDeed F (⟨_, _, _, _, _, exkB_ok xNoDeed, rowV_ok, fr 12 (by decide) "word" (by decide)⟩), F, F.bindsN fun _ _ _ _ _ _ us hl => match us, hl with | [_, _], _ => rfl⟩
    mkBroken := by
      obtain ⟨fd, F⟩ := c.def_ 22 (d := idef "Broken" "Broken.__init__" sIBroken) rfl
      have M := He.meth_ok (c.fact 50 (f := .meth "Broken" "__init__") rfl)
      exact ⟨_, fd, He.glo_ok X G (c.fact 22 (f := .glo "Broken") rfl), ⟨⟨_, _, _, _, _, exkB_ok xBroken, rowV_ok⟩, M.at_, beq_iff_eq.mp M.fn⟩, okIBroken F (⟨_, _, _, _, _, exkB_ok xBroken, rowV_ok, fr 13 (by decide) "at" (by decide)⟩), F, F.bindsN fun _ _ _ _ _ _ us hl => match us, hl with | [_, _], _ => rfl⟩
    mkNoPeg := by
      obtain ⟨fd, F⟩ := c.def_ 23 (d := idef "NoPeg" "NoPeg.__init__" sINoPeg) rfl
      have M := He.meth_ok (c.fact 51 (f := .meth "NoPeg" "__init__") rfl)
      exact ⟨_, fd, He.glo_ok X G (c.fact 24 (f := .glo "NoPeg") rfl), ⟨⟨_, _, _, _, _, exkB_ok xNoPeg, rowK_ok⟩, M.at_, beq_iff_eq.mp M.fn⟩, okINoPeg F (⟨_, _, _, _, _, exkB_ok xNoPeg, rowK_ok, fr 15 (by decide) "peg" (by decide)⟩), F, F.bindsN fun _ _ _ _ _ _ us hl => match us, hl with | [_, _], _ => rfl⟩
    mkNoWalker := by
      obtain ⟨fd, F⟩ := c.def_ 24 (d := idef "NoWalker" "NoWalker.__init__" sINoWalker) rfl
      have M := He.meth_ok (c.fact 52 (f := .meth "NoWalker" "__init__") rfl)
      exact ⟨_, fd, He.glo_ok X G (c.fact 25 (f := .glo "NoWalker") rfl), ⟨⟨_, _, _, _, _, exkB_ok xNoWalker, rowK_ok⟩, M.at_, beq_iff_eq.mp M.fn⟩, okINoWalker F (⟨_, _, _, _, _, exkB_ok xNoWalker, rowK_ok, fr 16 (by decide) "name" (by decide)⟩), F, F.bindsN fun _ _ _ _ _ _ us hl => match us, hl with | [_, _], _ => rfl⟩
    nc := ⟨He.glo_ok X G (c.fact 23 (f := .glo "NoCommand") rfl), n1, n2⟩
    gNoBoard := He.glo_ok X G (c.fact 9 (f := .glo "NoBoard") rfl)
    gNoText := He.glo_ok X G (c.fact 10 (f := .glo "NoText") rfl)
    gNoFamily := He.glo_ok X G (c.fact 11 (f := .glo "NoFamily") rfl)
    gNoTurn := He.glo_ok X G (c.fact 12 (f := .glo "NoTurn") rfl)
    gMissing := He.glo_ok X G (c.fact 13 (f := .glo "Missing") rfl)
    gNeeded := He.glo_ok X G (c.fact 14 (f := .glo "Needed") rfl)
    gBarred := He.glo_ok X G (c.fact 15 (f := .glo "Barred") rfl)
    gNoMatch := He.glo_ok X G (c.fact 16 (f := .glo "NoMatch") rfl)
    gStuck := He.glo_ok X G (c.fact 17 (f := .glo "Stuck") rfl)
    gUnmet := He.glo_ok X G (c.fact 18 (f := .glo "Unmet") rfl)
    gHeld := He.glo_ok X G (c.fact 19 (f := .glo "Held") rfl)
    gSpent := He.glo_ok X G (c.fact 20 (f := .glo "Spent") rfl)
    gNoDeed := He.glo_ok X G (c.fact 21 (f := .glo "NoDeed") rfl)
    gBroken := He.glo_ok X G (c.fact 22 (f := .glo "Broken") rfl)
    gNoCommand := He.glo_ok X G (c.fact 23 (f := .glo "NoCommand") rfl)
    gNoPeg := He.glo_ok X G (c.fact 24 (f := .glo "NoPeg") rfl)
    gNoWalker := He.glo_ok X G (c.fact 25 (f := .glo "NoWalker") rfl)
    gPegError := He.glo_ok X G (c.fact 26 (f := .glo "PegError") rfl)
    exc := fun j hj => match j, hj with
      | 0, _ => (exkB_ok xNoBoard).x
      | 1, _ => (exkB_ok xNoText).x
      | 2, _ => (exkB_ok xNoFamily).x
      | 3, _ => (exkB_ok xNoTurn).x
      | 4, _ => (exkB_ok xMissing).x
      | 5, _ => (exkB_ok xNeeded).x
      | 6, _ => (exkB_ok xBarred).x
      | 7, _ => (exkB_ok xNoMatch).x
      | 8, _ => (exkB_ok xStuck).x
      | 9, _ => (exkB_ok xUnmet).x
      | 10, _ => (exkB_ok xHeld).x
      | 11, _ => (exkB_ok xSpent).x
      | 12, _ => (exkB_ok xNoDeed).x
      | 13, _ => (exkB_ok xBroken).x
      | 14, _ => excB_ok n3
      | 15, _ => (exkB_ok xNoPeg).x
      | 16, _ => (exkB_ok xNoWalker).x
      | n + 17, h => absurd h (by omega)
    free := fr
    kit := fun i j hi hj => of_decide_eq_true (all17 (all17 k0 i hi) j hj)
    kitP := fun i hi => of_decide_eq_true (all17 k1 i hi)
    kitV := fun i hi => of_decide_eq_true (all17 k2 i hi)
    kitK := fun i hi => of_decide_eq_true (all17 k3 i hi)
    kitI := fun i hi => of_decide_eq_true (all17 k4 i hi) }
theorem facts {f : Addr} (X : K.In h) (G : h.Ns mainGlobals mg) (hfa : mg ("law" : Str) = some (.ref f)) (c : He.SaysD fas fns K) (ex : exB K = true) :
    ∃ fd : FuncData, (∀ (s : Shared) (v : Value), BindsTo s fd ⟨[v], []⟩ [("_law_script", v)]) ∧ ∀ base : Heap, K.In base → base.Ns mainGlobals mg → FnG P w K mg base CX0 4 f fd ["_law_script"] (spLaw K) := by
  have m := blOf X G c
  obtain ⟨fd0, F0⟩ := c.def_ 0 (d := tdef "_law_box" sBox) rfl
  have G0 := He.glo_ok X G (c.fact 0 (f := .glo "_law_box") rfl)
  obtain ⟨fd1, F1⟩ := c.def_ 1 (d := tdef "_law_take" sTake) rfl
  have G1 := He.glo_ok X G (c.fact 1 (f := .glo "_law_take") rfl)
  obtain ⟨fd2, F2⟩ := c.def_ 2 (d := tdef "_law_thing" sThing) rfl
  have G2 := He.glo_ok X G (c.fact 2 (f := .glo "_law_thing") rfl)
  obtain ⟨fd3, F3⟩ := c.def_ 3 (d := tdef "_law_made" sMade) rfl
  have G3 := He.glo_ok X G (c.fact 3 (f := .glo "_law_made") rfl)
  obtain ⟨fd4, F4⟩ := c.def_ 4 (d := tdef "_law_named" sNamed) rfl
  have G4 := He.glo_ok X G (c.fact 4 (f := .glo "_law_named") rfl)
  obtain ⟨fd5, F5⟩ := c.def_ 5 (d := tdef "_law_fields" sFields) rfl
  have G5 := He.glo_ok X G (c.fact 5 (f := .glo "_law_fields") rfl)
  obtain ⟨fd6, F6⟩ := c.def_ 6 (d := tdef "_law_sorts" sSorts) rfl
  have G6 := He.glo_ok X G (c.fact 6 (f := .glo "_law_sorts") rfl)
  obtain ⟨fd7, F7⟩ := c.def_ 7 (d := tdef "_law_bases" sBases) rfl
  have G7 := He.glo_ok X G (c.fact 7 (f := .glo "_law_bases") rfl)
  obtain ⟨fd8, F8⟩ := c.def_ 8 (d := tdef "law" sLaw) rfl
  have G8 := He.glo_ok X G (c.fact 8 (f := .glo "law") rfl)
  have e := hfa.symm.trans G8
  cases e
  refine ⟨fd8, fun s v => FunD.bindsA (ps := ["_law_script"]) F8 (fun _ _ _ _ _ _ us hl => match us, hl with | [_], _ => rfl) s [v] rfl, fun base _ _ => ?_⟩
  have E0 : EF P w K mg base := efOf X G c ex
  have C0 : Callee P w K mg base 1 "_law_box" ["_law_script", "_law_k"] (spBox K) := ⟨_, fd0, G0, ok_box F0 m, F0.kp, F0.bindsN fun _ _ _ _ _ _ us hl => match us, hl with | [_, _], _ => rfl⟩
  have C1 : Callee P w K mg base 1 "_law_take" ["_law_box_here", "_law_many"] spTake := ⟨_, fd1, G1, ok_take F1, F1.kp, F1.bindsN fun _ _ _ _ _ _ us hl => match us, hl with | [_, _], _ => rfl⟩
  have C2 : Callee P w K mg base 2 "_law_thing" ["_law_box_here"] spThing := ⟨_, fd2, G2, ok_thing F2 m C1, F2.kp, F2.bindsN fun _ _ _ _ _ _ us hl => match us, hl with | [_], _ => rfl⟩
  have C3 : Callee P w K mg base 3 "_law_made" ["_law_one", "_law_two", "_law_three"] (spLot K) := ⟨_, fd3, G3, ok_made F3 E0, F3.kp, F3.bindsN fun _ _ _ _ _ _ us hl => match us, hl with | [_, _, _], _ => rfl⟩
  have C4 : Callee P w K mg base 3 "_law_named" ["_law_one", "_law_two", "_law_three"] (spLot K) := ⟨_, fd4, G4, ok_named F4 E0, F4.kp, F4.bindsN fun _ _ _ _ _ _ us hl => match us, hl with | [_, _, _], _ => rfl⟩
  have C5 : Callee P w K mg base 1 "_law_fields" ["_law_lot"] (spFields K) := ⟨_, fd5, G5, ok_fields F5 E0, F5.kp, F5.bindsN fun _ _ _ _ _ _ us hl => match us, hl with | [_], _ => rfl⟩
  have C6 : Callee P w K mg base 1 "_law_sorts" ["_law_e"] (spSorts K) := ⟨_, fd6, G6, ok_sorts F6 E0 m, F6.kp, F6.bindsN fun _ _ _ _ _ _ us hl => match us, hl with | [_], _ => rfl⟩
  have C7 : Callee P w K mg base 1 "_law_bases" ["_law_e"] (spBases K) := ⟨_, fd7, G7, ok_bases F7 E0 m, F7.kp, F7.bindsN fun _ _ _ _ _ _ us hl => match us, hl with | [_], _ => rfl⟩
  exact ok_law F8 m C0 C2 C3 C4 C5 C6 C7
end
end K01
open PySem PySem.W PySem.Calls PyProof.Rows
set_option maxRecDepth 100000 in
set_option maxHeartbeats 0 in
theorem PySem.Challenge.cw_needpegs_k01_errors_holds : PySem.Challenge.rw_needpegs_k01_errors.Holds := by
  w_on; o_law
  refine HandSHeadRun.head_any (r := OpenLaw.row PySem.Challenge.rw_needpegs_k01_errors) (q := view (OpenLaw.row PySem.Challenge.rw_needpegs_k01_errors).prog [28]) (H := K01.hk) (ob := K01.ob) (M := 6000) (loose := K01.loose) (d := HandSHeadRun.topDef (OpenLaw.row PySem.Challenge.rw_needpegs_k01_errors).prog 28) (kwd := []) K01.ob_eq
    (by kernel_rfl) (fun s => by kernel_rfl) K01.run (by kernel_rfl) (by kernel_rfl) (by kernel_rfl) (by rfl) (by first | assumption | decide +kernel) (by decide +kernel) ⟨rfl, rfl, rfl, rfl, rfl, by decide +kernel⟩ ?hw ?hc
  case hw => w_witness2
  case hc =>
    refine Np.walkG (l := PySem.Challenge.rw_needpegs_k01_errors) (n := 63) (k := 4) (x := "_law_script") rfl (by decide) (by kernel_rfl) ⟨rfl, by decide, by decide⟩ ?F
    intro w mg fa h Y G hmg0
    obtain ⟨K, KX, c, ex⟩ := Y
    have hmg : mg ("law" : PySem.Str) = some (.ref fa) := by
      have e : (HandSHeadRun.topDef (OpenLaw.row PySem.Challenge.rw_needpegs_k01_errors).prog 28).name = ("law" : PySem.Str) := by kernel_rfl
      rw [← e]
      exact hmg0
    obtain ⟨fd, hb, hF⟩ := K01.facts (P := (PySem.Challenge.rw_needpegs_k01_errors).prog) (w := w) KX G hmg c ex
    exact ⟨K, fd, K01.spLaw K, KX, hb, fun H a ns hl _ _ hS => ⟨a, ns, rfl, hS, hl, fun _ => rfl⟩, hF⟩

#print axioms PySem.Challenge.cw_needpegs_k01_errors_holds
