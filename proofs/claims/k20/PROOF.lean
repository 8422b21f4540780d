import PyProof.Rows.All
import Wide.All
import OpenK.AllK
import Wide.FinOn
import HandS.ForMost
import HandS.Exc
import HandS.ExcInit
import HandS.ExcIs
import HandS.ExcField
import HandS.Defaults
import HandS.Property
import HandS.Star
import HandS.ClsMeth
import HandS.HeadHook2
import HandS.HeadHook1
import HandS.Words
import HandS.Style
import HandS.Head0
import HandS.Head1
import HandS.Head2
import HandS.HeadEnd
import HandS.EndBits
import HandS.Wide
import HandS.IsInst
import HandS.Walk
import HandS.ExcValue
import KE.GoesMore
import KE.GoesEnum
import HandS.Iter
import HandS.Small
import KE.OsArith
import HandS.WideBits
import HandS.TupAny
import HandS.TryMany
import HandS.More
import HandS.MakeKwOnly
import HandS.OwnEq
import HandS.SlotsOwn
import HandS.DictComp
import OpenK.KOps
import OpenK.KMeth
import KE.KOpsOwn
import HandS.Zip
import KE.KDictZip
import HandS.HotCalls
import KE.SortData
import PyProof.InstNe
import HandS.TupMul
import KE.KTupSum
import HandS.Set
import HandS.Strs
import HandS.FStr
import HandS.Deep
import PySem.Challenge.RW_needpegs_k20_precedence
set_option Elab.async false
set_option linter.all false
set_option maxRecDepth 100000
set_option maxHeartbeats 4000000
namespace Np
open PySem PySem.W PySem.Calls PyProof.Rows PySem.HandSPX
/-- what making an exception asks of the class's row of bases -/
structure Mro3 (B : String) (bm : List Value) : Prop where
  b : bm.contains (.type B) = true
  a : bm.contains (.type "AttributeError") = false
  n : bm.contains (.type "NameError") = false
section
variable {M : Model} {A : Around} {E : Value → Shared → Prop} {h : Heap} {g : Array GenState} {d : Drawn} {t : Nat} {os : OsState}
variable {nm q : Str} {C N : Addr} {bs bm bmB : List Value} {hdct : Bool} {sn : List Str} {sub : List Value} {ab : Bool} {col : Option Bool} {dd : Option Addr} {k0 k1 k2 k3 k5 : Option Value} {B newId initId : String}
theorem newCheck (F : ExcBaseFacts B newId initId bmB) (hT : Mro3 B bm) {us : List Value} {kw : List (Str × Value)} {Q : Unit → Shared → Prop}
    (hC : h.get? C = some (excClassObj nm q C N bs bm hdct sn sub ab col dd k0 k1 k2 k3 k5 newId)) (hq : Q () ⟨h, g, d, t, os⟩) : wpAny M A (checkBuiltinCall newId ⟨.ref C :: us, kw⟩) Q E ⟨h, g, d, t, os⟩ := by
  have c1 : (Value.ref C :: bm).contains (.type B) = true := by rw [List.contains_cons, hT.b, Bool.or_true]
  have c2 := F.noStar
  simp only [checkBuiltinCall, F.newKind, F.newSplit, F.newRow]
  repeat (first | refine wpAny_loadPart_at hC ?_ | (refine wpAny_isSubtype_exc hC ?_; rw [c1]) | refine wpAny_staticBase_exc hC ?_ | refine wpAny_madeBy_exc hC ?_ | simp only [bne_self_eq_false, Bool.false_eq_true, if_false] | wp_step)
  exact hq
end
section
variable {prog : Program} {w : World} {A : Around} {E : Value → Shared → Prop} {R : Result → Shared → Prop} {h : Heap} {g : Array GenState} {d : Drawn} {t : Nat} {os : OsState}
variable {nm q : Str} {C N : Addr} {bs bm bmB : List Value} {hdct : Bool} {sn : List Str} {sub : List Value} {ab : Bool} {col : Option Bool} {dd : Option Addr} {k0 k1 k2 k3 k5 : Option Value} {B newId initId : String}
theorem newMade (F : ExcBaseFacts B newId initId bmB) (hT : Mro3 B bm) {us : List Value} {kw : List (Str × Value)}
    (hC : h.get? C = some (excClassObj nm q C N bs bm hdct sn sub ab col dd k0 k1 k2 k3 k5 newId))
    (hq : R (.ok (.ret (.ref (h.objs.size + 1)))) ⟨(h.push (kdv_tup us)).push (excO C h.objs.size), g, d, t, os⟩) (hz : us.length ≤ sizeLine) :
    codeAny (model prog w) A (.builtin newId ⟨.ref C :: us, kw⟩) R ⟨h, g, d, t, os⟩ := by
  have e0 := F.ends
  have c1 : (Value.ref C :: bm).contains (.type B) = true := by rw [List.contains_cons, hT.b, Bool.or_true]
  have c2 : (Value.ref C :: bm).contains (.type "AttributeError") = false := by rw [List.contains_cons, hT.a]; rfl
  have c3 : (Value.ref C :: bm).contains (.type "NameError") = false := by rw [List.contains_cons, hT.n]; rfl
  refine codeAny_builtinAt F.entry ?_
  unfold Builtin.«BaseException.__new__»
  refine PySem.wpAt_bind ?_
  show PySem.wpAt _ _ _ (stack >>= _) _ _ _
  refine PySem.wpAt_bind (PySem.wpAt_stack fun p below => PySem.wpAt_of_wpAny ?_)
  wp_walk
  refine PySem.wpAt_of_wpAny ?_
  rw [F.owner]
  repeat (first | with_reducible refine wpAny_madeHere_exc F.canon hC ?_ | with_reducible refine wpAny_loadPart_at hC ?_ | (with_reducible refine wpAny_isSubtype_exc hC ?_; first | rw [c1] | rw [c2] | rw [c3]) | wp_step)
  show R _ _
  rw [Heap.size_push]
  exact hq
theorem typeCalled (F : ExcBaseFacts B newId initId bmB) (hT : Mro3 B bm) {us : List Value} {kw : List (Str × Value)} {fI : Addr} {Q : Fin → Shared → Prop}
    (hC : h.get? C = some (excClassObj nm q C N bs bm hdct sn sub ab col dd k0 k1 k2 k3 k5 newId))
    (hi : W.Looks (model prog w) h (typeLookup (.ref C) "__init__") (some (.ref fI))) (hb : ∀ self, W.Looks (model prog w) h (bindSpecial (.ref fI) self) (.ref fI, [self])) (hz : us.length ≤ sizeLine)
    (hq : codeAny (model prog w) A (.call (.ref fI) ⟨.ref (h.objs.size + 1) :: us, kw⟩)
      (fun r s' => match r with | .ok (.ret v) => v = .none ∧ Q (.done (.ret (.ref (h.objs.size + 1)))) s' | .ok _ => False | .error e => E e s')
      ⟨(h.push (kdv_tup us)).push (excO C h.objs.size), g, d, t, os⟩) :
    wpAny (model prog w) A (Builtin.«type.__call__» ⟨.ref C :: us, kw⟩) Q E ⟨h, g, d, t, os⟩ := by
  repeat (first | with_reducible refine wpAny_loadPart_at hC ?_ | with_reducible refine wpAny_madeBy_exc hC ?_ | wp_step)
  refine codeAny_call_builtin_code (Code.quiet_builtin _ F.quiet) (newCheck F hT hC ?_)
  refine newMade F hT hC ?_ hz
  show wpAny _ _ _ _ _ _
  have kp : ∀ b o, h.get? b = some o → ((h.push (kdv_tup us)).push (excO C h.objs.size)).get? b = some o := fun b o e => Heap.get?_push_of_some _ (Heap.get?_push_of_some _ e)
  have hC₁ := kp _ _ hC
  have hx : ((h.push (kdv_tup us)).push (excO C h.objs.size)).get? (h.objs.size + 1) = some (excO C h.objs.size) := by heap_get
  have cC : (Value.ref C :: bm).contains (.ref C) = true := by simp
  have i1 := hi.keeps kp
  have b1 := (hb (.ref (h.objs.size + 1))).keeps kp
  unfold isInstance
  repeat (first | with_reducible refine wpAny_loadPart_at hx ?_ | (with_reducible refine wpAny_isSubtype_exc hC₁ ?_; rw [cC]) | wp_step)
  show wpAny _ _ (typeLookup (.ref C) _) _ _ _
  refine i1.at ?_
  refine wpAny_holding (wpAny_bind (b1.at ?_))
  refine wpAny_bind (wpAny_call (codeAny_mono hq fun r s' z => ?_))
  rcases r with e | (v | _ | _ | _) <;> first | exact z | exact z.elim | skip
  obtain ⟨rfl, z⟩ := z
  first
    | exact wpAny_pure (wpAny_pure z)
    | (wp_walk; exact z)
theorem calledOwn (F : ExcBaseFacts B newId initId bmB) (hT : Mro3 B bm) {us : List Value} {kw : List (Str × Value)} {fI : Addr}
    (hC : h.get? C = some (excClassObj nm q C N bs bm hdct sn sub ab col dd k0 k1 k2 k3 k5 newId))
    (hi : W.Looks (model prog w) h (typeLookup (.ref C) "__init__") (some (.ref fI))) (hb : ∀ self, W.Looks (model prog w) h (bindSpecial (.ref fI) self) (.ref fI, [self])) (hz : us.length ≤ sizeLine)
    (hq : codeAny (model prog w) (A.under (.builtin "type.__call__" ⟨.ref C :: us, kw⟩)) (.call (.ref fI) ⟨.ref (h.objs.size + 1) :: us, kw⟩) (W.InitBack (h.objs.size + 1) R)
      ⟨(h.push (kdv_tup us)).push (excO C h.objs.size), g, d, t, os⟩) :
    codeAny (model prog w) A (.call (.ref C) ⟨us, kw⟩) R ⟨h, g, d, t, os⟩ := by
  have f1 := tc_lookup
  have f2 := tc_bind (.ref C)
  have hTy : (⟨h, g, d, t, os⟩ : Shared).TypeIs (.ref C) "type" := ⟨_, hC, rfl⟩
  refine codeAny_of_tree ?_
  show wpAny _ _ (callAny (.ref C) _) _ _ _
  repeat (any_goals (first | assumption | with_reducible refine wpAny_loadPart_at hC ?_ | wp_step))
  refine ⟨rfl, ?_⟩
  refine codeAny_call_builtin_at (Code.quiet_builtin _ (by decide +kernel)) entry_typeCall (wpAny_check_type_call_sub hC (typeCalled F hT hC hi hb hz ?_))
  refine codeAny_mono hq fun r s' z => ?_
  rcases r with e | (v | _ | _ | _) <;> exact z
end
end Np

set_option Elab.async false
set_option linter.all false
set_option maxRecDepth 100000
set_option maxHeartbeats 4000000
namespace Np
open PySem PySem.W PySem.Calls PyProof.Rows PySem.HandSPX
/-- own classes, then a built-in class's row -/
def tailB (T : List Value) : List Value → Bool
  | .ref _ :: r => tailB T r
  | l => l == T
theorem tailB_split {T : List Value} : ∀ l : List Value, tailB T l = true → (∃ c r, l = .ref c :: r ∧ tailB T r = true) ∨ l = T := by
  intro l h
  unfold tailB at h
  split at h
  · exact .inl ⟨_, _, rfl, h⟩
  · exact .inr (beq_iff_eq.mp h)
theorem tailB_pass {T : List Value} {self : Value} (hp : PySem.refuseLoop self "__setattr__" T = pure ()) : ∀ l : List Value, tailB T l = true → PySem.refuseLoop self "__setattr__" l = pure () := by
  intro l
  induction l with
  | nil =>
    intro e
    rcases tailB_split _ e with ⟨_, _, q, _⟩ | q
    · cases q
    · rw [q]; exact hp
  | cons a r ih =>
    intro e
    rcases tailB_split _ e with ⟨c, r', q, hr⟩ | q
    · obtain ⟨rfl, rfl⟩ := List.cons.inj q
      rw [PySem.refuseLoop_ref]
      exact ih hr
    · rw [q]; exact hp
theorem tailB_has {T : List Value} (X : String) : ∀ l : List Value, tailB T l = true → l.contains (.type X) = T.contains (.type X) := by
  intro l
  induction l with
  | nil =>
    intro e
    rcases tailB_split _ e with ⟨_, _, q, _⟩ | q
    · cases q
    · rw [q]
  | cons a r ih =>
    intro e
    rcases tailB_split _ e with ⟨c, r', q, hr⟩ | q
    · obtain ⟨rfl, rfl⟩ := List.cons.inj q
      rw [List.contains_cons, ih hr]
      rfl
    · rw [q]
abbrev rowV : List Value := [.type "ValueError", .type "Exception", .type "BaseException", .type "object"]
abbrev rowK : List Value := [.type "KeyError", .type "LookupError", .type "Exception", .type "BaseException", .type "object"]
/-- a built-in class's row over which own error classes are made -/
structure RowOk (B newId initId : String) (bmB T : List Value) : Prop where
  base : ExcBaseFacts B newId initId bmB
  pass : ∀ self : Value, PySem.refuseLoop self "__setattr__" T = pure ()
  hasB : T.contains (.type B) = true
  noA : T.contains (.type "AttributeError") = false
  noN : T.contains (.type "NameError") = false
  obj : T.contains (.type "object") = true
theorem rowV_ok : RowOk "ValueError" "ValueError.__new__" "ValueError.__init__" rowV rowV :=
  ⟨PySem.F.excBase_ValueError, PySem.F.store_ValueError.passes, by decide +kernel, by decide +kernel, by decide +kernel, by decide +kernel⟩
theorem rowK_ok : RowOk "LookupError" "LookupError.__new__" "LookupError.__init__" [.type "LookupError", .type "Exception", .type "BaseException", .type "object"] rowK :=
  ⟨PySem.F.excBase_LookupError, fun _ => by kernel_rfl, by decide +kernel, by decide +kernel, by decide +kernel, by decide +kernel⟩
theorem RowOk.mro {B newId initId : String} {bmB T bm : List Value} (R : RowOk B newId initId bmB T) (h : tailB T bm = true) : Mro3 B bm :=
  ⟨(tailB_has _ _ h).trans R.hasB, (tailB_has _ _ h).trans R.noA, (tailB_has _ _ h).trans R.noN⟩
end Np

set_option Elab.async false
set_option linter.all false
set_option maxRecDepth 100000
set_option maxHeartbeats 4000000
namespace PySem
namespace NpX
open PySem.W PySem.Calls PyProof.Rows PySem.HandSPX Np
open Builtin Builtin.ObjectAttr
section
variable {prog : Program} {w : World} {A : Around} {E : Value → Shared → Prop} {R : Result → Shared → Prop} {hp : Heap} {g : Array GenState} {d : Drawn} {t : Nat} {os : OsState}
/-- the class's side of a store to self.name -/
structure StoreRow (K : W.Frag) (C : Addr) (cd : ClassData) (name : Str) : Prop where
  cls : W.clsIn K C = some cd
  pass : ∀ self : Value, refuseLoop self "__setattr__" cd.mro = pure ()
  obj : cd.mro.contains (.type "object") = true
  dct : cd.hasDict = true
  free : W.findIn K (.ref C) name = some none
theorem StoreRow.ne {K : W.Frag} {C : Addr} {cd : ClassData} {name : Str} (S : StoreRow K C cd name) : cd.mro.isEmpty = false := by
  cases e : cd.mro with
  | nil =>
    have h := S.obj
    rw [e] at h
    exact absurd h (by decide)
  | cons a r => rfl
/-- the first field: the dict is made -/
theorem storeNew {K : W.Frag} {name : Str} {tk : Tok} {v : Value} {x C : Addr} {fv : Array Value} {cd : ClassData}
    (X : K.In hp) (hx : hp.get? x = some { cls := .ref C, data := .fields fv }) (S : StoreRow K C cd name)
    (hq : ∀ h' tk' dx, (∀ b o, b ≠ x → hp.get? b = some o → h'.get? b = some o) → hp.objs.size ≤ dx → dx ≠ x → h'.get? x = some { cls := .ref C, dict := some dx, data := .fields fv } →
      h'.Ns1 dx (fun y => if y = name then some v else none) → R (.ok (.ret .none)) ⟨h', g, d, tk', os⟩) :
    codeAny (model prog w) A (.call (.builtin "object.__setattr__") ⟨[.ref x, .str name tk, v], []⟩) R ⟨hp, g, d, t, os⟩ := by
  have J : W.InstAt hp x { cls := .ref C, data := .fields fv } C none := ⟨hx, rfl, rfl, trivial⟩
  have SF := F.store_object
  have hxs : x ≠ hp.objs.size := Nat.ne_of_lt (Heap.lt_size hx)
  have sb : W.Looks (model prog w) hp (isInstance (.ref x) (.type "object")) true := J.type.andThen (W.looks_mroIn X (by unfold W.mroIn; rw [S.cls, Option.bind_some, if_neg (by rw [S.ne]; decide), S.obj]))
  refine codeAny_call_builtin SF.slot.plain SF.entry (@W.check_slot (model prog w) _ _ ⟨hp, g, d, t, os⟩ "object.__setattr__" "object" "__setattr__" (.ref x) [.str name tk, v] [] _ SF.kind SF.split sb (SF.args (.ref x) (.str name tk) v) ?_)
  have l1 : W.Looks (model prog w) hp (mroOf (.ref C)) cd.mro := (W.looks_clsIn X S.cls).andThen .now
  have l2 : W.Looks (model prog w) hp (storeTaker? none) none := .now
  have l3 : W.Looks (model prog w) hp (classData C) cd := W.looks_clsIn X S.cls
  rw [W.osa_eq, refuse_eq]
  refine wpAny_bind (wpAny_bind (J.type.at (wpAny_bind (l1.at ?_))))
  rw [S.pass]
  refine wpAny_pure (wpAny_bind (J.type.at (wpAny_bind ((W.looks_findIn X S.free).at (wpAny_bind (l2.at ?_))))))
  show wpAny _ _ (storeInOwnDict (.ref x) (.ref C) (.str name tk) name v false) _ _ _
  have hh := S.dct
  obtain ⟨nm, bs, mro, ns, qn, hd, sn, sb, ab, col, del⟩ := cd
  dsimp only at hh
  subst hh
  unfold storeInOwnDict ownDictForStores
  repeat (first | with_reducible refine store_in_new ?_ ?_ | with_reducible refine wpAny_loadPart_at hx ?_ | with_reducible refine l3.at ?_ | wp_step)
  · exact ⟨_, #[], _, (Heap.get?_update_ne _ _ _ _ hxs.symm).trans (Heap.get?_push_at rfl rfl), rfl, fun e he => absurd he (by simp), fun _ => rfl⟩
  · intro h' tk' hn' hs
    have hx1 : (hp.push { cls := .type "dict", data := .dict #[] }).get? x = some { cls := .ref C, data := .fields fv } := Heap.get?_push_of_some _ hx
    refine hq h' tk' hp.objs.size (fun b o hb ho => ?_) (Nat.le_refl _) hxs.symm ?_ hn'
    · exact (hs.2 b (Nat.ne_of_lt (Heap.lt_size ho))).trans ((Heap.get?_update_ne _ _ _ _ hb).trans (Heap.get?_push_of_some _ ho))
    · exact (hs.2 x hxs).trans (Heap.get?_update_self _ hx1 rfl)
/-- a further field -/
theorem storeOld {K : W.Frag} {name : Str} {tk : Tok} {v : Value} {x C dx : Addr} {fv : Array Value} {cd : ClassData} {m0 : Str → Option Value} {nl : List Str}
    (X : K.In hp) (hx : hp.get? x = some { cls := .ref C, dict := some dx, data := .fields fv }) (hns : hp.Ns1 dx m0) (hw : Within m0 nl) (hz : nl.length ≤ 1000) (S : StoreRow K C cd name)
    (hq : ∀ h' tk', (∀ b o, b ≠ dx → hp.get? b = some o → h'.get? b = some o) → h'.Ns1 dx (fun y => if y = name then some v else m0 y) → R (.ok (.ret .none)) ⟨h', g, d, tk', os⟩) :
    codeAny (model prog w) A (.call (.builtin "object.__setattr__") ⟨[.ref x, .str name tk, v], []⟩) R ⟨hp, g, d, t, os⟩ := by
  obtain ⟨oD, esD, epD, hoD, hdD, _⟩ := hns.count hw
  have J : W.InstAt hp x { cls := .ref C, dict := some dx, data := .fields fv } C (some oD) := ⟨hx, rfl, rfl, hoD⟩
  have SF := F.store_object
  have sb : W.Looks (model prog w) hp (isInstance (.ref x) (.type "object")) true := J.type.andThen (W.looks_mroIn X (by unfold W.mroIn; rw [S.cls, Option.bind_some, if_neg (by rw [S.ne]; decide), S.obj]))
  refine codeAny_call_builtin SF.slot.plain SF.entry (@W.check_slot (model prog w) _ _ ⟨hp, g, d, t, os⟩ "object.__setattr__" "object" "__setattr__" (.ref x) [.str name tk, v] [] _ SF.kind SF.split sb (SF.args (.ref x) (.str name tk) v) ?_)
  have l1 : W.Looks (model prog w) hp (mroOf (.ref C)) cd.mro := (W.looks_clsIn X S.cls).andThen .now
  have l2 : W.Looks (model prog w) hp (storeTaker? none) none := .now
  have l3 : W.Looks (model prog w) hp (classData C) cd := W.looks_clsIn X S.cls
  rw [W.osa_eq, refuse_eq]
  refine wpAny_bind (wpAny_bind (J.type.at (wpAny_bind (l1.at ?_))))
  rw [S.pass]
  refine wpAny_pure (wpAny_bind (J.type.at (wpAny_bind ((W.looks_findIn X S.free).at (wpAny_bind (l2.at ?_))))))
  show wpAny _ _ (storeInOwnDict (.ref x) (.ref C) (.str name tk) name v false) _ _ _
  have hh := S.dct
  obtain ⟨nm, bs, mro, ns, qn, hd, sn, sb, ab, col, del⟩ := cd
  dsimp only at hh
  subst hh
  unfold storeInOwnDict ownDictForStores
  repeat (first | with_reducible refine PySem.OEX.store_in_old hns hw hz ?_ | with_reducible refine wpAny_loadPart_at hx ?_ | with_reducible refine l3.at ?_ | wp_step)
  intro h' tk' hn' hs
  exact hq h' tk' (fun b o hb ho => (hs.2 b hb).trans ho) hn'
end
end NpX
end PySem

set_option Elab.async false
set_option linter.all false
set_option maxRecDepth 100000
set_option maxHeartbeats 4000000
namespace PySem.W
open PySem PySem.Spec PySem.Calls PyProof.Rows
section
variable {prog : Program} {w : World} {A : Around} {E : Value → Shared → Prop} {s : Shared} {K : Frag} {x D : Addr} {ox : Obj} {od : Option Obj}
theorem np_data {C : Addr} {name : Str} {a g : Value} {od : Option Obj} (hc : (clsIn K C).isSome = true) (ha : findIn K (.ref C) name = some (some a)) (hg : specialIn K a "__get__" = some (some g)) (ht : takesIn K a = some true) : findObj K C od name = some (.bind g a) := by
  obtain ⟨cd, hc⟩ := Option.isSome_iff_exists.mp hc
  unfold findObj
  rw [hc, Option.bind_some, ha, Option.bind_some]
  simp [hg, ht]
theorem np_class {Q : Option Value → Shared → Prop} (c : L2.ExcC K D)
    (X : K.In s.heap) (I : InstAt s.heap x ox D od) (h : Q (some (.ref D)) { s with toks := s.toks + 1 }) : wpAny (model prog w) A (getAttr? (.ref x) "__class__") Q E s := by
  have hf : findObj K D od "__class__" = some (.bind (.builtin "getset_descriptor.__get__") (.builtin "object.__class__")) := np_data (by obtain ⟨cd, hc, _⟩ := any_some c.hd; rw [hc]; rfl) c.ha c.hn c.ht
  obtain ⟨hp, g, d, t, os⟩ := s
  have m0 := I.type (M := model prog w)
  have m1 := looks_findIn (M := model prog w) X c.hg
  have m2 := looks_findIn (M := model prog w) X c.hk
  have m3 := looks_find (M := model prog w) X I hf
  have sb : Looks (model prog w) hp (isInstance (.ref x) (.type "BaseException")) true := m0.andThen (looks_subIn X c.hs)
  have z0 : (false && onTheHeap (Value.builtin "BaseException.__getattribute__")) = false := rfl
  have z2 : (Value.builtin "BaseException.__getattribute__" == Value.builtin "object.__getattribute__") = false := by decide +kernel
  have z1 : (onTheHeap (Value.ref D) && Value.builtin "BaseException.__getattribute__" == Value.builtin "object.__getattribute__") = false := by rw [z2]; rfl
  unfold getAttr? getAttrBy? getAttrBy
  refine wpAny_bind (wpAny_mkText (wpAny_bind (wpAny_attempt (wpAny_holding (wpAny_bind (m0.at (wpAny_bind (m1.at ?_))))))))
  show wpAny _ _ (if (onTheHeap (Value.ref D) && Value.builtin "BaseException.__getattribute__" == Value.builtin "object.__getattribute__") = true then _ else _) _ _ _
  rw [z1, if_neg Bool.false_ne_true]
  unfold getAttrByItsOwn hookBefore
  refine wpAny_bind ?_
  rw [if_pos (show onTheHeap (Value.ref D) = true from rfl)]
  refine m2.at ?_
  refine wpAny_bind (wpAny_attempt (wpAny_holding ?_))
  unfold callGetattribute
  rw [z0, if_neg Bool.false_ne_true]
  unfold boundAndCalled
  rw [PySem.F.excAttr_ValueError.ga.bind (.ref x)]
  refine wpAny_bind (wpAny_pure ?_)
  show wpAny _ _ (call (.builtin "BaseException.__getattribute__") [.ref x, .str "__class__" t]) _ _ _
  refine wpAny_call (codeAny_call_builtin PySem.F.excAttr_ValueError.ga.plain PySem.F.entry_bexc_ga ?_)
  refine @check_slot (model prog w) _ _ ⟨hp, g, d, t + 1, os⟩ "BaseException.__getattribute__" "BaseException" "__getattribute__" (.ref x) [.str "__class__" t] [] _ (by decide +kernel) (by decide +kernel) sb (PySem.F.args_bexc_ga (.ref x) (.str "__class__" t)) ?_
  unfold Builtin.«object.__getattribute__»
  refine wpAny_bind (wpAny_of_eq (a := ((Value.ref x : Value), [Value.str "__class__" t])) (by first | rfl | (simp only [slotArgs]; rfl)) ?_)
  refine wpAny_bind (wpAny_pure (wpAny_bind (m0.at (wpAny_bind (m3.at ?_)))))
  show wpAny _ _ (holding [Value.builtin "object.__class__"] (call (.builtin "getset_descriptor.__get__") [.builtin "object.__class__", .ref x, .ref D]) >>= ret) _ _ _
  refine wpAny_bind (wpAny_holding (wpAny_call (class_get (s := ⟨hp, g, d, t + 1, os⟩) (ox := ox) (od := od) X I c.hm ?_)))
  refine wpAny_pure ?_
  show wpAny _ _ (handedOut (.ref D)) _ _ _
  rw [handedOut_of (v := .ref D) rfl]
  first
    | exact wpAny_pure (wpAny_pure h)
    | exact wpAny_pure h
    | exact wpAny_pure (wpAny_bind (wpAny_pure (wpAny_pure h)))
theorem np_kit (c : L2.ExcC K D) : KitX K (.ref x) (.ref D) (fun h => ∃ ox od, InstAt h x ox D od) where
  ty := fun _ _ _ ⟨_, _, I⟩ => I.type
  it := fun _ _ X _ => by
    obtain ⟨cdD, hcD, _⟩ := any_some c.hd
    unfold clsIn at hcD
    split at hcD
    · rename_i c' d' cd' sl' ho
      intro A' Q' E' s' k q
      unfold isType loadHead
      exact wpAny_bind (wpAny_loadPart (k _ _ (X _ _ ho)) (wpAny_pure q))
    · cases hcD
  ne := fun h tp dd its n sl X htp => by
    obtain ⟨cdD, hcD, _⟩ := any_some c.hd
    refine Bool.eq_false_iff.mpr fun q => ?_
    have e : D = tp := Value.ref.inj (beq_iff_eq.mp q)
    subst e
    unfold clsIn at hcD
    split at hcD
    · rename_i c' d' cd' sl' ho
      have z := (X _ _ ho).symm.trans htp
      cases z
    · cases hcD
  ca := fun X ⟨_, _, I⟩ k => np_class c X I k
end
end PySem.W

set_option Elab.async false
set_option linter.all false
set_option maxRecDepth 100000
set_option maxHeartbeats 4000000
namespace Np
open PySem PySem.Spec PyProof.Rows L2
/-- what the written part says of an own error class over a built-in class's row T -/
structure ExK (K : PySem.W.Frag) (C : Addr) (newId : String) (T : List Value) : Prop where
  cls : ∃ nm q N bs bm sn sub ab col dd k0 k1 k2 k3 k5, K.lookup C = some (excClassObj nm q C N bs bm true sn sub ab col dd k0 k1 k2 k3 k5 newId) ∧ tailB T bm = true
  sa : PySem.W.findIn K (.ref C) "__setattr__" = some (some (.builtin "object.__setattr__"))
  kC : PySem.W.keepIn K (.ref C) = true
  x : ExcC K C
def clsB (C : Addr) (newId : String) (T : List Value) : Option Obj → Bool
  | some ⟨.type c, _, .cls cd, ⟨[_, _, _, _, some (.builtin i), _]⟩⟩ => decide (c = "type") && (decide (i = newId) && ((match cd.mro with
    | .ref c1 :: bm => decide (c1 = C) && tailB T bm
    | _ => false) && (cd.hasDict && !cd.hasDel)))
  | _ => false
theorem clsB_ok {C : Addr} {newId : String} {T : List Value} {o : Option Obj} (h : clsB C newId T o = true) :
    ∃ nm q N bs bm sn sub ab col dd k0 k1 k2 k3 k5, o = some (excClassObj nm q C N bs bm true sn sub ab col dd k0 k1 k2 k3 k5 newId) ∧ tailB T bm = true := by
  unfold clsB at h
  split at h
  · rename_i c dd cd k0 k1 k2 k3 i k5
    obtain ⟨nm, bs, mro, N, q, hd, sn, sub, ab, col, del⟩ := cd
    simp only [Bool.and_eq_true, decide_eq_true_eq, Bool.not_eq_true'] at h
    obtain ⟨rfl, rfl, h3, rfl, rfl⟩ := h
    split at h3
    · rename_i c1 bm
      simp only [Bool.and_eq_true, decide_eq_true_eq] at h3
      obtain ⟨rfl, h4⟩ := h3
      exact ⟨nm, q, N, bs, bm, sn, sub, ab, col, dd, k0, k1, k2, k3, k5, rfl, h4⟩
    · cases h3
  · cases h
def excB (K : PySem.W.Frag) (D : Addr) : Bool := decide (PySem.W.findIn K (.ref D) "__getattribute__" = some (some (.builtin "BaseException.__getattribute__"))) && (decide (PySem.W.findIn K (.ref D) "__getattr__" = some none) &&
  (decide (PySem.W.subIn K (.ref D) (.type "BaseException") = some true) && (PySem.W.hasDictIn K D && (decide (PySem.W.findIn K (.ref D) "__class__" = some (some (.builtin "object.__class__"))) &&
  (decide (PySem.W.specialIn K (.builtin "object.__class__") "__get__" = some (some (.builtin "getset_descriptor.__get__"))) && (decide (PySem.W.takesIn K (.builtin "object.__class__") = some true) && decide (PySem.W.mroIn K D (.type "object") = some true)))))))
theorem excB_ok {K : PySem.W.Frag} {D : Addr} (h : excB K D = true) : ExcC K D := by
  unfold excB at h
  simp only [Bool.and_eq_true, decide_eq_true_eq] at h
  obtain ⟨h1, h2, h3, h4, h5, h6, h7, h8⟩ := h
  exact ⟨h1, h2, h3, h4, h5, h6, h7, h8⟩
def exkB (K : PySem.W.Frag) (C : Addr) (newId : String) (T : List Value) : Bool := clsB C newId T (K.lookup C) && (decide (PySem.W.findIn K (.ref C) "__setattr__" = some (some (.builtin "object.__setattr__"))) && (PySem.W.keepIn K (.ref C) && excB K C))
theorem exkB_ok {K : PySem.W.Frag} {C : Addr} {newId : String} {T : List Value} (h : exkB K C newId T = true) : ExK K C newId T := by
  unfold exkB at h
  simp only [Bool.and_eq_true, decide_eq_true_eq] at h
  obtain ⟨h1, h2, h3, h4⟩ := h
  exact ⟨clsB_ok h1, h2, h3, excB_ok h4⟩
theorem ExK.row {K : PySem.W.Frag} {C : Addr} {B newId initId : String} {bmB T : List Value} (e : ExK K C newId T) (R : RowOk B newId initId bmB T) {f : Str} (hf : PySem.W.findIn K (.ref C) f = some none) : ∃ cd, PySem.NpX.StoreRow K C cd f := by
  obtain ⟨nm, q, N, bs, bm, sn, sub, ab, col, dd, k0, k1, k2, k3, k5, hC, hb⟩ := e.cls
  have ht : tailB T (.ref C :: bm) = true := hb
  refine ⟨{ name := nm, bases := bs, mro := .ref C :: bm, ns := N, qualname := q, hasDict := true, slotNames := sn, subclasses := sub, abstract := ab, collection := col, hasDel := false }, ?_, fun self => tailB_pass (R.pass self) _ ht, (tailB_has _ _ ht).trans R.obj, rfl, hf⟩
  unfold PySem.W.clsIn
  rw [hC] <;> rfl
section
variable {X : Cx} {pins : List (Addr × Obj)} {σ : L2.St} {H : Hp} {s : Shared} {a C dx : Addr} {f : Str} {y : V} {u : Value} {fs : List (Str × V)} {Q : Unit → Shared → Prop} {E : Value → Shared → Prop} {A : Around} {B newId initId : String} {bmB T : List Value}
theorem fld_new (e : ExK X.K C newId T) (R : RowOk B newId initId bmB T) (I : Inv X pins σ H s) (ha : H a = some (exo a C none)) (hf : PySem.W.findIn X.K (.ref C) f = some none) (ry : RelV y u)
    (h : ∀ dx s', H dx = none → dx ≠ a → Inv X pins σ (upd (upd H dx (exd dx [(f, y)])) a (exo a C (some dx))) s' → Q () s') : wpAny (model X.prog X.w) A (setAttr (.ref a) f u) Q E s := by
  obtain ⟨cd, S⟩ := e.row R hf
  obtain ⟨t1, ho⟩ := exo_at I.hok ha
  obtain ⟨hp, g, d, t, os⟩ := s
  refine PySem.W.set_plain I.kIn (ox := { cls := .ref C, dict := none, data := .fields #[.ref t1, .none, .none, .none, .bool false, .none] }) (od := none) ⟨ho, rfl, rfl, trivial⟩ e.sa ?_
  refine PySem.NpX.storeNew I.kIn ho S (fun h' tk' dx k dn dne hx hn => ?_)
  have h0 : H dx = none := I.hok.fresh dn
  have far : ∀ {b : Addr} {o : Obj}, hp.get? b = some o → b ≠ dx := fun {b o} q => Nat.ne_of_lt (Nat.lt_of_lt_of_le (Heap.lt_size q) dn)
  have off : ∀ {b : Addr}, H b = none → b ≠ a := fun {b} n z => by
    rw [z, ha] at n
    cases n
  have un : Un X.fs [] H (upd (upd H dx (exd dx [(f, y)])) a (exo a C (some dx))) hp h' := {
    keep := fun b o q n _ _ => k b o (off n) q
    slot := fun b o q n _ _ => ⟨o.slots, k b o (off n) q⟩
    free := fun b o q n _ => by rw [upd_ne (off n), upd_ne (far q)]; exact n
    there := fun b o q _ => by
      by_cases hb : b = a
      · exact ⟨_, by rw [hb]; exact hx⟩
      · exact ⟨o, k b o hb q⟩
    tups := fun b xs q => by rw [upd_ne (at_ne ha q exo_tup), upd_ne (ne_of_none q h0)]; exact q
    frzs := fun b o v q => by rw [upd_ne (at_ne ha q exo_frz), upd_ne (ne_of_none q h0)]; exact q
    tbls := fun b ps q => ⟨#[], by rw [upd_ne (at_ne ha q exo_tbl), upd_ne (ne_of_none q h0), q]; simp⟩ }
  refine h dx _ h0 dne (I.un (t' := tk') un fun b o q => ?_)
  by_cases hb : b = a
  · subst hb
    rw [upd_same] at q
    cases q
    exact exo_ok hx
  · rw [upd_ne hb] at q
    by_cases hd : b = dx
    · subst hd
      rw [upd_same] at q
      cases q
      exact exd_ok hn (relO_put (fs := []) ry fun g => True.intro)
    · rw [upd_ne hd] at q
      exact (I.hok b o q).stay (fun c v hc z => k c v (by
          rcases hc with hc | hc
          · rw [hc]
            exact hb
          · exact at_ne ha hc exo_own) z)
        (fun c hc => by rw [upd_ne (at_ne ha hc exo_own), upd_ne (ne_of_none hc h0)]; exact hc) (fun c xs hc => by rw [upd_ne (at_ne ha hc exo_tup), upd_ne (ne_of_none hc h0)]; exact hc)
theorem fld_old (e : ExK X.K C newId T) (R : RowOk B newId initId bmB T) (I : Inv X pins σ H s) (ha : H a = some (exo a C (some dx))) (hd : H dx = some (exd dx fs)) (hl : fs.length ≤ 900) (hf : PySem.W.findIn X.K (.ref C) f = some none) (ry : RelV y u)
    (h : ∀ s', Inv X pins σ (upd H dx (exd dx ((f, y) :: fs))) s' → Q () s') : wpAny (model X.prog X.w) A (setAttr (.ref a) f u) Q E s := by
  obtain ⟨cd, S⟩ := e.row R hf
  obtain ⟨t1, ho⟩ := exo_at I.hok ha
  obtain ⟨mA, hns, rel⟩ := exd_at I.hok hd
  have hw := within_of rel
  obtain ⟨hp, g, d, t, os⟩ := s
  obtain ⟨oD, _, _, hoD, _, _⟩ := hns.count hw
  refine PySem.W.set_plain I.kIn (ox := { cls := .ref C, dict := some dx, data := .fields #[.ref t1, .none, .none, .none, .bool false, .none] }) (od := some oD) ⟨ho, rfl, rfl, hoD⟩ e.sa ?_
  refine PySem.NpX.storeOld I.kIn ho hns hw (by rw [List.length_map]; omega) S (fun h' tk' k hn => ?_)
  have hd' : ∃ o, h'.get? dx = some o := by
    obtain ⟨o, _, _, e', _⟩ := hn
    exact ⟨o, e'⟩
  exact h _ (I.write (t' := tk') (x := dx) (e := dx) (o := exd dx ((f, y) :: fs)) (by rw [hd]; exact True.intro) (.inl rfl) k hd' (exd_ok hn (relO_put ry rel)))
end
/-- an error class with its row, for a store to its field f -/
def ExS (K : PySem.W.Frag) (C : Addr) (f : Str) : Prop := ∃ B newId initId bmB T, ExK K C newId T ∧ RowOk B newId initId bmB T ∧ PySem.W.findIn K (.ref C) f = some none
/-- self.f = e, self an error that is being made -/
def tFE (K : PySem.W.Frag) (f : Str) (to te : TE) : TS := fun D σ H => te σ H fun y H1 => to σ H1 fun x H2 => ∃ a C : Addr, x = .ref a ∧ ExS K C f ∧
  ((H2 a = some (exo a C none) ∧ ∀ dx, H2 dx = none → dx ≠ a → D.nx σ (upd (upd H2 dx (exd dx [(f, y)])) a (exo a C (some dx)))) ∨
    ∃ (dx : Addr) (fs : List (Str × V)), H2 a = some (exo a C (some dx)) ∧ H2 dx = some (exd dx fs) ∧ fs.length ≤ 900 ∧ D.nx σ (upd H2 dx (exd dx ((f, y) :: fs))))
section
variable {X : Cx} {o e : Expr} {to te : TE} {f : Str} {p' pos : Pos}
theorem ps_fe (ho : PE X o to) (he : PE X e te) (hs : swapsWith e (some (.Attribute o f p')) pos.line X.env = pure false := by rfl) : PS X (.Assign [.Attribute o f p'] e pos) (tFE X.K f to te) := by
  refine ⟨fun pins s σ H D I h => ?_⟩
  refine plainObj_wpAny_Assign_Attribute (thn (he.run pins s σ H _ I h) fun v s1 ⟨y, H1, I1, r1, q1⟩ => thn (ho.run pins s1 σ H1 _ I1 q1) fun u s2 ⟨x, H2, I2, r2, a, C, ex, ⟨B, newId, initId, bmB, T, ek, R, hno⟩, q⟩ => ?_) hs
  subst ex
  obtain rfl : u = Value.ref a := r2
  rcases q with ⟨ea, q⟩ | ⟨dx, fs, ea, ed, hl, q⟩
  · exact fld_new ek R I2 ea hno r1 fun dx s' n ne J => ⟨σ, _, J, q dx n ne⟩
  · exact fld_old ek R I2 ea ed hl hno r1 fun s' J => ⟨σ, _, J, q⟩
end
end Np

set_option Elab.async false
set_option linter.all false
set_option maxRecDepth 100000
set_option maxHeartbeats 4000000
namespace Np
open PySem PySem.Spec PyProof.Rows L2
/-! ### what the head says: getters, calls of instances, values of a class -/
/-- the object of a property, its getter -/
def prA (K : PySem.W.Frag) (C : Addr) (f : Str) : Addr := match PySem.W.findIn K (.ref C) f with
  | some (some (.ref p)) => p
  | _ => 0
def prG (K : PySem.W.Frag) (C : Addr) (f : Str) : Addr := match PySem.W.recIn K (prA K C f) "property" with
  | some (.ref g :: _) => g
  | _ => 0
def propB (K : PySem.W.Frag) (C : Addr) (f : Str) : Bool := He.eqO (PySem.W.findIn K (.ref C) f) (some (some (.ref (prA K C f)))) && (He.eqO (PySem.W.specialIn K (.ref (prA K C f)) "__get__") (some (some (.builtin "property.__get__"))) &&
  (decide (PySem.W.takesIn K (.ref (prA K C f)) = some true) && match PySem.W.recIn K (prA K C f) "property" with
    | some (.ref _ :: _) => true
    | _ => false))
theorem propB_ok {K : PySem.W.Frag} {C : Addr} {f : Str} (h : propB K C f = true) : PropOf K C f (prA K C f) (prG K C f) := by
  unfold propB at h
  simp only [Bool.and_eq_true] at h
  obtain ⟨h1, h2, h3, h4⟩ := h
  refine ⟨He.eqO_ok h1, He.eqO_ok h2, of_decide_eq_true h3, ?_⟩
  unfold prG
  cases e : PySem.W.recIn K (prA K C f) "property" with
  | none => rw [e] at h4; cases h4
  | some l =>
    rw [e] at h4
    cases l with
    | nil => cases h4
    | cons v r =>
      cases v with
      | ref g => exact ⟨r, rfl⟩
      | _ => cases h4
def callB (K : PySem.W.Frag) (C : Addr) : Bool := He.eqO (PySem.W.findIn K (.ref C) "__call__") (some (some (.ref (He.ma K C "__call__")))) && (PySem.W.isFn K (.ref (He.ma K C "__call__")) && PySem.W.fnIn K (He.ma K C "__call__"))
theorem callB_ok {K : PySem.W.Frag} {C : Addr} (h : callB K C = true) : StX.CallO K C (He.ma K C "__call__") := by
  unfold callB at h
  simp only [Bool.and_eq_true] at h
  obtain ⟨h1, h2, h3⟩ := h
  exact ⟨He.eqO_ok h1, h2, h3⟩
def creadB (K : PySem.W.Frag) (C : Addr) : Bool := PySem.W.readsIn K C (.type "type") && He.eqO (PySem.W.specialIn K (.ref C) "__getattribute__") (some (some (.builtin "type.__getattribute__")))
theorem creadB_ok {K : PySem.W.Frag} {C : Addr} (h : creadB K C = true) : ClX.CRead K C (.type "type") := by
  unfold creadB at h
  simp only [Bool.and_eq_true] at h
  exact ⟨h.1, He.eqO_ok h.2⟩
def cvalB (K : PySem.W.Frag) (C : Addr) (f : Str) (v : V) : Bool := match PySem.W.findCls K (.ref C) (.type "type") f with
  | some (.val u) => He.relB v u
  | _ => false
theorem cvalB_ok {K : PySem.W.Frag} {C : Addr} {f : Str} {v : V} (h : cvalB K C f v = true) : ∃ u, ClX.CVal K C (.type "type") f v u := by
  unfold cvalB at h
  cases e : PySem.W.findCls K (.ref C) (.type "type") f with
  | none => rw [e] at h; cases h
  | some r =>
    rw [e] at h
    cases r with
    | val u => exact ⟨u, e, He.relB_ok h⟩
    | _ => cases h
/-! ### a def at an address -/
def fnAt (K : PySem.W.Frag) (a : Addr) : He.FnW := match K.lookup a with
  | some ⟨_, _, .func fd, _⟩ => some (fd.name, fd.qualname, fd.params, fd.body, fd.scope, fd.globals, fd.closure, fd.builtins)
  | _ => none
def codAt (K : PySem.W.Frag) (a : Addr) (q : Str) : Bool := PySem.W.keepIn K (.ref a) && match K.lookup a with
  | some ⟨_, _, .func fd, _⟩ => PySem.W.codeIn K fd.code q && He.dflB K fd.defaults []
  | _ => false
theorem fnAt_ok {K : PySem.W.Frag} {a : Addr} {d : He.DefD} (e : fnAt K a = d.val) (c : codAt K a d.qual = true) : ∃ fd, FunD K d.name d.qual d.params d.body d.scope [] [] a fd := by
  unfold codAt at c
  unfold fnAt at e
  rw [Bool.and_eq_true] at c
  obtain ⟨kp, c⟩ := c
  cases q : K.lookup a with
  | none => rw [q] at c; cases c
  | some o =>
    obtain ⟨oc, od, dt, osl⟩ := o
    rw [q] at c e
    cases dt with
    | func fd =>
      cases fd
      simp only [He.DefD.val, Option.some.injEq, Prod.mk.injEq] at e
      simp only [Bool.and_eq_true] at c
      obtain ⟨h1, h2, h3, h4, h5, h6, h7, h8⟩ := e
      subst h1 h2 h3 h4 h5 h6 h7 h8
      exact ⟨_, ⟨oc, od, _, _, _, _, _, _, _, osl, rfl, q, c.1, He.dflB_ok c.2, .inl rfl⟩, kp⟩
    | _ => cases c
/-! ### the hook -/
/-- the getters: class, property -/
abbrev GetD : Type := Str × Str × He.DefD
def getW (gs : List GetD) (K : PySem.W.Frag) : List He.FnW := gs.map fun g => fnAt K (prG K (He.ga K g.1) g.2.1)
def getB (gs : List GetD) (K : PySem.W.Frag) : Bool := gs.all fun g => propB K (He.ga K g.1) g.2.1 && codAt K (prG K (He.ga K g.1) g.2.1) g.2.2.qual
def getV (gs : List GetD) : List He.FnW := gs.map fun g => g.2.2.val
/-- what these name; what the module's names reach (a class's methods and getters, their code), and what a class is read by -/
def refsL (g : Addr → Option Obj) (as : List Addr) : List Addr := as.flatMap fun a => match g a with
  | some o => He.refsO o
  | none => []
def levels (g : Addr → Option Obj) : Nat → List Addr → List Addr
  | 0, as => as
  | n + 1, as => as ++ levels g n (refsL g as)
def asC (g : Addr → Option Obj) (n : Nat) : List Addr := mainGlobals :: cStatics :: levels g n (refsL g [mainGlobals])
def hookP (n : Nat) (fa : List He.Fa) (fn : List He.DefD) (gs : List GetD) (ex : PySem.W.Frag → Bool) : PySem.W.Hook where
  α := He.AlD × List He.FnW × Bool
  obs := fun s => (He.obsD fa fn (He.frG s.heap.get? (asC s.heap.get? n)), getW gs (He.frG s.heap.get? (asC s.heap.get? n)), ex (He.frG s.heap.get? (asC s.heap.get? n)) && getB gs (He.frG s.heap.get? (asC s.heap.get? n)))
  val := fun _ => (He.valD fn, getV gs, true)
  says := fun _ h => ∃ K : PySem.W.Frag, K.In h ∧ He.SaysD fa fn K ∧ getW gs K = getV gs ∧ (ex K && getB gs K) = true
  of := fun _ _ e => ⟨_, He.frG_in, congrArg Prod.fst e, congrArg (fun z => z.2.1) e, congrArg (fun z => z.2.2) e⟩
  keeps := fun _ _ _ ⟨K, hK, c⟩ k => ⟨K, PySem.W.Frag.In.keeps hK k, c⟩
def obsP (n : Nat) (fa : List He.Fa) (fn : List He.DefD) (gs : List GetD) (ex : PySem.W.Frag → Bool) (g : Addr → Option Obj) : He.AlD × List He.FnW × Bool := (He.obsD fa fn (He.frG g (asC g n)), getW gs (He.frG g (asC g n)), ex (He.frG g (asC g n)) && getB gs (He.frG g (asC g n)))
theorem obsP_eq {n : Nat} {fa : List He.Fa} {fn : List He.DefD} {gs : List GetD} {ex : PySem.W.Frag → Bool} {g : Addr → Option Obj} {s : Shared} (h : ∀ a, g a = s.heap.get? a) : obsP n fa fn gs ex g = (hookP n fa fn gs ex).obs s := by
  have e : g = s.heap.get? := funext h
  rw [e] <;> rfl
theorem get_ok {K : PySem.W.Frag} {gs : List GetD} (e : getW gs K = getV gs) (b : getB gs K = true) (i : Nat) {g : GetD} (h : gs[i]? = some g := by rfl) :
    ∃ fd, PropOf K (He.ga K g.1) g.2.1 (prA K (He.ga K g.1) g.2.1) (prG K (He.ga K g.1) g.2.1) ∧ FunD K g.2.2.name g.2.2.qual g.2.2.params g.2.2.body g.2.2.scope [] [] (prG K (He.ga K g.1) g.2.1) fd := by
  have b1 := List.all_eq_true.mp b g (List.mem_of_getElem? h)
  rw [Bool.and_eq_true] at b1
  have e2 : (getW gs K)[i]? = (getV gs)[i]? := by rw [e]
  unfold getW getV at e2
  rw [List.getElem?_map, List.getElem?_map, h] at e2
  obtain ⟨fd, F⟩ := fnAt_ok (Option.some.inj e2) b1.2
  exact ⟨fd, propB_ok b1.1, F⟩
def tdef (x : Str) (st : Stmt) : He.DefD := ⟨(x, none), x, x, defArgs st, defBody st, defScope st, [], []⟩
/-- a method m of the class C, its qualified name q -/
def mdef (C m q : Str) (st : Stmt) : He.DefD := ⟨(C, some m), m, q, defArgs st, defBody st, defScope st, [], []⟩
end Np

set_option Elab.async false
set_option linter.all false
set_option maxRecDepth 100000
set_option maxHeartbeats 4000000
namespace Np
open PySem PySem.Spec PyProof.Rows L2
/-! ### what keyword-only defaults are asked for -/
def emT (K : PySem.W.Frag) : Option (Option Value) → Bool
  | some (some (.ref t)) => match K.lookup t with
    | some ⟨.type "tuple", _, .seq its _, _⟩ => its.toList.isEmpty
    | _ => false
  | _ => false
def kwdB (K : PySem.W.Frag) (f : Addr) : Bool := match K.lookup f with
  | some ⟨_, _, .func fd, _⟩ => match fd.kwdefaults with
    | .ref D => emT K (PySem.W.nsIn K D "needs") && (emT K (PySem.W.nsIn K D "bars") && He.eqO (PySem.W.nsIn K D "costs") (some (some .none)))
    | _ => false
  | _ => false
/-! ### the hook, with the defaults of keywords -/
def refsK (o : Obj) : List Addr := He.refsO o ++ match o.data with
  | .func fd => He.refV fd.kwdefaults
  | _ => []
def refsLK (g : Addr → Option Obj) (as : List Addr) : List Addr := as.flatMap fun a => match g a with
  | some o => refsK o
  | none => []
def levelsK (g : Addr → Option Obj) : Nat → List Addr → List Addr
  | 0, as => as
  | n + 1, as => as ++ levelsK g n (refsLK g as)
def asCK (g : Addr → Option Obj) (n : Nat) : List Addr := mainGlobals :: cStatics :: levelsK g n (refsLK g [mainGlobals])
def hookK (n : Nat) (fa : List He.Fa) (fn : List He.DefD) (gs : List GetD) (ex : PySem.W.Frag → Bool) : PySem.W.Hook where
  α := He.AlD × List He.FnW × Bool
  obs := fun s => (He.obsD fa fn (He.frG s.heap.get? (asCK s.heap.get? n)), getW gs (He.frG s.heap.get? (asCK s.heap.get? n)), ex (He.frG s.heap.get? (asCK s.heap.get? n)) && getB gs (He.frG s.heap.get? (asCK s.heap.get? n)))
  val := fun _ => (He.valD fn, getV gs, true)
  says := fun _ h => ∃ K : PySem.W.Frag, K.In h ∧ He.SaysD fa fn K ∧ getW gs K = getV gs ∧ (ex K && getB gs K) = true
  of := fun _ _ e => ⟨_, He.frG_in, congrArg Prod.fst e, congrArg (fun z => z.2.1) e, congrArg (fun z => z.2.2) e⟩
  keeps := fun _ _ _ ⟨K, hK, c⟩ k => ⟨K, PySem.W.Frag.In.keeps hK k, c⟩
def obsK (n : Nat) (fa : List He.Fa) (fn : List He.DefD) (gs : List GetD) (ex : PySem.W.Frag → Bool) (g : Addr → Option Obj) : He.AlD × List He.FnW × Bool := (He.obsD fa fn (He.frG g (asCK g n)), getW gs (He.frG g (asCK g n)), ex (He.frG g (asCK g n)) && getB gs (He.frG g (asCK g n)))
theorem obsK_eq {n : Nat} {fa : List He.Fa} {fn : List He.DefD} {gs : List GetD} {ex : PySem.W.Frag → Bool} {g : Addr → Option Obj} {s : Shared} (h : ∀ a, g a = s.heap.get? a) : obsK n fa fn gs ex g = (hookK n fa fn gs ex).obs s := by
  have e : g = s.heap.get? := funext h
  rw [e] <;> rfl
end Np

set_option Elab.async false
set_option linter.all false
set_option maxRecDepth 100000
set_option maxHeartbeats 4000000
namespace Lw
open PySem PySem.Spec PyProof.Rows L2 Np
/-! ### the defs of the program and of the law -/
def topS (i : Nat) : Stmt := PySem.Challenge.pw_needpegs_k20_precedence.main.body.getD i (.Pass ⟨0, 0, 0, 0⟩)
def lettersS : Str := "abcdefghijklmnopqrstuvwxyz"
abbrev sWall : Stmt := topS 0
abbrev sPlacesIn : Stmt := topS 2
abbrev sFirstPlace : Stmt := topS 3
abbrev sMaskWith : Stmt := topS 4
abbrev sNamesIn : Stmt := topS 5
abbrev sJoined : Stmt := topS 6
abbrev sRightName : Stmt := topS 21
abbrev sRightTurn : Stmt := topS 22
abbrev sReadWord : Stmt := topS 28
abbrev sStep : Stmt := topS 29
abbrev sPrecedence : Stmt := topS 32
abbrev sComesBefore : Stmt := topS 33
abbrev sCheckForm : Stmt := topS 37
abbrev sIsRow : Stmt := topS 38
abbrev sIsRowOfPairs : Stmt := topS 39
abbrev sIsPair : Stmt := topS 40
abbrev sIsRowOfIntegers : Stmt := topS 41
abbrev sCheckPegs : Stmt := topS 42
abbrev sCheckCosts : Stmt := topS 43
abbrev sRightCost : Stmt := topS 44
abbrev sPairPlaces : Stmt := topS 45
abbrev sNeedPairs : Stmt := topS 47
abbrev sClashPairs : Stmt := topS 48
abbrev sBelowMasks : Stmt := topS 50
abbrev sAboveMasks : Stmt := topS 51
abbrev sClashMasks : Stmt := topS 52
abbrev sBarredMasks : Stmt := topS 53
abbrev sRowsThatMeet : Stmt := topS 54
abbrev sNeedsOrder : Stmt := topS 55
abbrev sStandMasks : Stmt := topS 56
abbrev sListingKey : Stmt := topS 57
abbrev sCheckNeeds : Stmt := topS 59
abbrev sCheckBars : Stmt := topS 60
abbrev sTextParts : Stmt := topS 65
abbrev sToldRows : Stmt := topS 66
abbrev sRightRow : Stmt := topS 67
abbrev sLastRank : Stmt := topS 68
abbrev sRightCostText : Stmt := topS 69
abbrev sRightFigure : Stmt := topS 70
abbrev sBox : Stmt := topS 74
abbrev sTake : Stmt := topS 75
abbrev sMixed : Stmt := topS 76
abbrev sNames : Stmt := topS 77
abbrev sRows : Stmt := topS 78
abbrev sIsBarred : Stmt := topS 79
abbrev sParts : Stmt := topS 80
abbrev sBoard : Stmt := topS 81
abbrev sIsStand : Stmt := topS 82
abbrev sSomeStand : Stmt := topS 83
abbrev sTwo : Stmt := topS 84
abbrev sBefore : Stmt := topS 85
abbrev sNearParts : Stmt := topS 86
abbrev sPairRight : Stmt := topS 87
abbrev sLaw : Stmt := topS 88
abbrev sNoBoardInit : Stmt := inClass (topS 9) 0
abbrev sNoTextInit : Stmt := inClass (topS 10) 0
abbrev sNoTurnInit : Stmt := inClass (topS 11) 0
abbrev sMissingInit : Stmt := inClass (topS 12) 0
abbrev sNeededInit : Stmt := inClass (topS 13) 0
abbrev sBarredInit : Stmt := inClass (topS 14) 0
abbrev sNoMatchInit : Stmt := inClass (topS 15) 0
abbrev sStuckInit : Stmt := inClass (topS 16) 0
abbrev sNoPegInit : Stmt := inClass (topS 17) 0
abbrev sTurnRead : Stmt := inClass (topS 24) 0
abbrev sPutInit : Stmt := inClass (topS 25) 0
abbrev sPutCall : Stmt := inClass (topS 25) 1
abbrev sPutNeg : Stmt := inClass (topS 25) 2
abbrev sPutEq : Stmt := inClass (topS 25) 3
abbrev sPutRepr : Stmt := inClass (topS 25) 4
abbrev sPutAfter : Stmt := inClass (topS 25) 5
abbrev sTakeInit : Stmt := inClass (topS 26) 0
abbrev sTakeCall : Stmt := inClass (topS 26) 1
abbrev sTakeNeg : Stmt := inClass (topS 26) 2
abbrev sTakeEq : Stmt := inClass (topS 26) 3
abbrev sTakeRepr : Stmt := inClass (topS 26) 4
abbrev sTakeAfter : Stmt := inClass (topS 26) 5
abbrev sWayInit : Stmt := inClass (topS 30) 0
abbrev sWayRead : Stmt := inClass (topS 30) 1
abbrev sWayBoard : Stmt := inClass (topS 30) 2
abbrev sWayTurns : Stmt := inClass (topS 30) 3
abbrev sWayLen : Stmt := inClass (topS 30) 4
abbrev sWayBool : Stmt := inClass (topS 30) 5
abbrev sWayAbs : Stmt := inClass (topS 30) 6
abbrev sWayNeg : Stmt := inClass (topS 30) 7
abbrev sWayAdd : Stmt := inClass (topS 30) 8
abbrev sWayEq : Stmt := inClass (topS 30) 9
abbrev sWayRepr : Stmt := inClass (topS 30) 10
abbrev sWayCall : Stmt := inClass (topS 30) 11
abbrev sWayAfter : Stmt := inClass (topS 30) 12
abbrev sWayStands : Stmt := inClass (topS 30) 13
abbrev sWayCheckBoard : Stmt := inClass (topS 30) 14
abbrev sStandInit : Stmt := inClass (topS 61) 0
abbrev sStandBoard : Stmt := inClass (topS 61) 1
abbrev sStandPegs : Stmt := inClass (topS 61) 2
abbrev sStandFree : Stmt := inClass (topS 61) 3
abbrev sStandLoose : Stmt := inClass (topS 61) 4
abbrev sStandLen : Stmt := inClass (topS 61) 5
abbrev sStandContains : Stmt := inClass (topS 61) 6
abbrev sStandBool : Stmt := inClass (topS 61) 7
abbrev sStandEq : Stmt := inClass (topS 61) 8
abbrev sStandRepr : Stmt := inClass (topS 61) 9
abbrev sStandAnd : Stmt := inClass (topS 61) 10
abbrev sStandOr : Stmt := inClass (topS 61) 11
abbrev sStandXor : Stmt := inClass (topS 61) 12
abbrev sStandSub : Stmt := inClass (topS 61) 13
abbrev sStandAdd : Stmt := inClass (topS 61) 14
abbrev sStandPut : Stmt := inClass (topS 61) 15
abbrev sStandTake : Stmt := inClass (topS 61) 16
abbrev sStandWithin : Stmt := inClass (topS 61) 17
abbrev sStandDistance : Stmt := inClass (topS 61) 18
abbrev sStandMiddle : Stmt := inClass (topS 61) 19
abbrev sStandIsBetween : Stmt := inClass (topS 61) 20
abbrev sStandCheckBoard : Stmt := inClass (topS 61) 21
abbrev sStandBeside : Stmt := inClass (topS 61) 22
abbrev sStandCanPut : Stmt := inClass (topS 61) 23
abbrev sStandCanTake : Stmt := inClass (topS 61) 24
abbrev sBoardInit : Stmt := inClass (topS 72) 1
abbrev sBoardIsName : Stmt := inClass (topS 72) 2
abbrev sBoardRead : Stmt := inClass (topS 72) 3
abbrev sBoardOfFamily : Stmt := inClass (topS 72) 4
abbrev sBoardPegs : Stmt := inClass (topS 72) 5
abbrev sBoardEmpty : Stmt := inClass (topS 72) 6
abbrev sBoardLen : Stmt := inClass (topS 72) 7
abbrev sBoardContains : Stmt := inClass (topS 72) 8
abbrev sBoardEq : Stmt := inClass (topS 72) 9
abbrev sBoardRepr : Stmt := inClass (topS 72) 10
abbrev sBoardAdd : Stmt := inClass (topS 72) 11
abbrev sBoardSub : Stmt := inClass (topS 72) 12
abbrev sBoardCall : Stmt := inClass (topS 72) 13
abbrev sBoardStand : Stmt := inClass (topS 72) 14
abbrev sBoardStands : Stmt := inClass (topS 72) 15
abbrev sBoardCountStands : Stmt := inClass (topS 72) 16
abbrev sBoardCostOf : Stmt := inClass (topS 72) 17
abbrev sBoardBelow : Stmt := inClass (topS 72) 18
abbrev sBoardAbove : Stmt := inClass (topS 72) 19
abbrev sBoardNeeds : Stmt := inClass (topS 72) 20
abbrev sBoardClash : Stmt := inClass (topS 72) 21
abbrev sBoardPlaceOf : Stmt := inClass (topS 72) 22
abbrev sBoardMaskOf : Stmt := inClass (topS 72) 23
abbrev sBoardPegsOf : Stmt := inClass (topS 72) 24
abbrev sBoardOnly : Stmt := inClass (topS 72) 25
abbrev sBoardMasksOver : Stmt := inClass (topS 72) 26
abbrev sBoardStandAt : Stmt := inClass (topS 72) 27
abbrev sBoardPegsByNeeds : Stmt := inClass (topS 72) 28
abbrev sBoardCostIn : Stmt := inClass (topS 72) 29
abbrev sBoardBelowMask : Stmt := inClass (topS 72) 30
abbrev sBoardAboveMask : Stmt := inClass (topS 72) 31
abbrev sBoardClashMask : Stmt := inClass (topS 72) 32
abbrev sBoardBelowAll : Stmt := inClass (topS 72) 33
abbrev sBoardAboveAll : Stmt := inClass (topS 72) 34
abbrev sBoardClashAll : Stmt := inClass (topS 72) 35
end Lw

set_option Elab.async false
set_option linter.all false
set_option maxRecDepth 100000
set_option maxHeartbeats 0
namespace Lw
open PySem PySem.Spec PyProof.Rows L2 Np
/-! ### the head: facts by names, the run -/
def isiV (K : PySem.W.Frag) (C : Addr) : Bool := He.eqO (PySem.W.findIn K (.ref C) "__class__") (some (some (.builtin "object.__class__"))) && (He.eqO (PySem.W.specialIn K (.builtin "object.__class__") "__get__") (some (some (.builtin "getset_descriptor.__get__"))) && (decide (PySem.W.takesIn K (.builtin "object.__class__") = some true) && decide (PySem.W.mroIn K C (.type "object") = some true)))
def neV (K : PySem.W.Frag) (C : Addr) : Bool := He.eqO (PySem.W.findIn K (.ref C) "__ne__") (some (some (.builtin "object.__ne__"))) && decide (PySem.W.mroIn K C (.type "object") = some true)
def fns : List He.DefD := [tdef "places_in" sPlacesIn, tdef "first_place" sFirstPlace, tdef "mask_with" sMaskWith, tdef "names_in" sNamesIn, tdef "joined" sJoined, tdef "right_name" sRightName, tdef "precedence" sPrecedence, tdef "comes_before" sComesBefore, tdef "check_form" sCheckForm, tdef "is_row" sIsRow, tdef "is_row_of_pairs" sIsRowOfPairs, tdef "is_pair" sIsPair, tdef "is_row_of_integers" sIsRowOfIntegers, tdef "check_pegs" sCheckPegs, tdef "check_costs" sCheckCosts, tdef "right_cost" sRightCost, tdef "pair_places" sPairPlaces, tdef "below_masks" sBelowMasks, tdef "above_masks" sAboveMasks, tdef "clash_masks" sClashMasks, tdef "barred_masks" sBarredMasks, tdef "rows_that_meet" sRowsThatMeet, tdef "needs_order" sNeedsOrder, tdef "check_needs" sCheckNeeds, tdef "check_bars" sCheckBars, tdef "_law_box" sBox, tdef "_law_take" sTake, tdef "_law_mixed" sMixed, tdef "_law_names" sNames, tdef "_law_rows" sRows, tdef "_law_is_barred" sIsBarred, tdef "_law_parts" sParts, tdef "_law_board" sBoard, tdef "_law_is_stand" sIsStand, tdef "_law_some_stand" sSomeStand, tdef "_law_two" sTwo, tdef "_law_before" sBefore, tdef "_law_near_parts" sNearParts, tdef "_law_pair_right" sPairRight, tdef "law" sLaw, mdef "Board" "__init__" "Board.__init__" sBoardInit, mdef "Board" "place_of" "Board.place_of" sBoardPlaceOf, mdef "Board" "mask_of" "Board.mask_of" sBoardMaskOf, mdef "Board" "pegs_of" "Board.pegs_of" sBoardPegsOf, mdef "Board" "below_mask" "Board.below_mask" sBoardBelowMask, mdef "Board" "clash_mask" "Board.clash_mask" sBoardClashMask, mdef "Board" "needs" "Board.needs" sBoardNeeds, mdef "Board" "clash" "Board.clash" sBoardClash, mdef "Board" "__call__" "Board.__call__" sBoardCall, mdef "Board" "__eq__" "Board.__eq__" sBoardEq, mdef "Stand" "__init__" "Stand.__init__" sStandInit, mdef "Stand" "__contains__" "Stand.__contains__" sStandContains, mdef "Stand" "__xor__" "Stand.__xor__" sStandXor, mdef "Stand" "check_board" "Stand.check_board" sStandCheckBoard, mdef "NoPeg" "__init__" "NoPeg.__init__" sNoPegInit, mdef "Missing" "__init__" "Missing.__init__" sMissingInit, mdef "Barred" "__init__" "Barred.__init__" sBarredInit]
def fas : List He.Fa := [.glo "places_in", .glo "first_place", .glo "mask_with", .glo "names_in", .glo "joined", .glo "right_name", .glo "precedence", .glo "comes_before", .glo "check_form", .glo "is_row", .glo "is_row_of_pairs", .glo "is_pair", .glo "is_row_of_integers", .glo "check_pegs", .glo "check_costs", .glo "right_cost", .glo "pair_places", .glo "below_masks", .glo "above_masks", .glo "clash_masks", .glo "barred_masks", .glo "rows_that_meet", .glo "needs_order", .glo "check_needs", .glo "check_bars", .glo "_law_box", .glo "_law_take", .glo "_law_mixed", .glo "_law_names", .glo "_law_rows", .glo "_law_is_barred", .glo "_law_parts", .glo "_law_board", .glo "_law_is_stand", .glo "_law_some_stand", .glo "_law_two", .glo "_law_before", .glo "_law_near_parts", .glo "_law_pair_right", .glo "law", .glo "Board", .glo "Stand", .glo "NoPeg", .glo "Missing", .glo "Barred", .free "len", .free "int", .free "range", .free "repr", .free "isinstance", .free "list", .free "enumerate", .free "ValueError", .free "KeyError", .free "IndexError", .free "all", .free "sum", .free "tuple", .free "dict", .free "max", .free "min", .free "str", .free "bool", .free "zip", .free "sorted", .free "abs", .free "any", .cls "Board", .cls "Stand", .mkr "Board", .mkr "Stand", .meth "Board" "place_of", .meth "Board" "mask_of", .meth "Board" "pegs_of", .meth "Board" "below_mask", .meth "Board" "clash_mask", .meth "Board" "needs", .meth "Board" "clash", .meth "Board" "__eq__", .meth "Stand" "__contains__", .meth "Stand" "__xor__", .meth "Stand" "check_board", .meth "NoPeg" "__init__", .meth "Missing" "__init__", .meth "Barred" "__init__", .str "LETTERS" lettersS, .int "LEAST_COST" 1, .int "MOST_COST" 1000]
def gets : List GetD := [("Board", "pegs", mdef "Board" "pegs" "Board.pegs" sBoardPegs), ("Stand", "pegs", mdef "Stand" "pegs" "Stand.pegs" sStandPegs), ("Stand", "board", mdef "Stand" "board" "Stand.board" sStandBoard)]
def exB (K : PySem.W.Frag) : Bool :=
  exkB K (He.ga K "NoPeg") "LookupError.__new__" rowK && (exkB K (He.ga K "Missing") "ValueError.__new__" rowV && (exkB K (He.ga K "Barred") "ValueError.__new__" rowV && ((["_pegs", "_places", "_costs", "_below", "_above", "_clash", "_order"] : List Str).all (fun f => He.eqO (PySem.W.findIn K (.ref (He.ga K "Board")) f) (some none)) && ((["_board", "_mask", "_pegs"] : List Str).all (fun f => He.eqO (PySem.W.findIn K (.ref (He.ga K "Stand")) f) (some none)) && (decide (He.ga K "Stand" ≠ He.ga K "Board") && (callB K (He.ga K "Board") && (creadB K (He.ga K "Board") && (cvalB K (He.ga K "Board") "MOST" (.int 12) && (decide (PySem.W.kitOne K (.ref (He.ga K "Board")) (.ref (He.ga K "Board")) = some true) && (isiV K (He.ga K "Board") && (neV K (He.ga K "Board") && (PySem.W.selfFirst K (He.ga K "Stand") && ((["peg"] : List Str).all (fun f => He.eqO (PySem.W.findIn K (.ref (He.ga K "NoPeg")) f) (some none)) && ((["peg", "needed"] : List Str).all (fun f => He.eqO (PySem.W.findIn K (.ref (He.ga K "Missing")) f) (some none)) && ((["peg", "other"] : List Str).all (fun f => He.eqO (PySem.W.findIn K (.ref (He.ga K "Barred")) f) (some none)))))))))))))))))
abbrev R : PySem.W.OpenRow := PySem.W.OpenLaw.row PySem.Challenge.rw_needpegs_k20_precedence
abbrev hk : PySem.W.Hook := hookK 4 fas fns gets exB
def ob (s : PySem.W.SharedT) : He.AlD × List He.FnW × Bool := obsK 4 fas fns gets exB (HandSHeadRun.getT s)
theorem ob_eq (s : PySem.W.SharedT) : ob s = hk.obs s.abs := obsK_eq (HandSHeadRun.getT_eq s)
def loose : List Str := (["_wall", "places_in", "first_place", "mask_with", "names_in", "joined", "PegError", "NoBoard", "NoText", "NoTurn", "Missing", "Needed", "Barred", "NoMatch", "Stuck", "NoPeg", "LETTERS", "SIGNS", "right_name", "right_turn"] : List Str) ++ (["Turn", "Put", "Take", "read_word", "step", "Way", "precedence", "comes_before", "LEAST_COST", "MOST_COST", "check_form", "is_row", "is_row_of_pairs", "is_pair", "is_row_of_integers", "check_pegs", "check_costs", "right_cost", "pair_places", "need_pairs"] : List Str) ++ (["clash_pairs", "below_masks", "above_masks", "clash_masks", "barred_masks", "rows_that_meet", "needs_order", "stand_masks", "listing_key", "check_needs", "check_bars", "Stand", "DIGITS", "RANKS", "text_parts", "told_rows", "right_row", "last_rank", "right_cost_text", "right_figure"] : List Str) ++ (["Board", "_law_box", "_law_take", "_law_mixed", "_law_names", "_law_rows", "_law_is_barred", "_law_parts", "_law_board", "_law_is_stand", "_law_some_stand", "_law_two", "_law_before", "_law_near_parts", "_law_pair_right"] : List Str)
/-- the run told apart: what is looked at in three parts -/
theorem comb3 {α β γ δ ε ζ : Type} {E : Option α} {a : α → β} {b : α → γ} {d : α → δ} {e : α → ε} {g : α → ζ} {x : β} {y : γ} {u : δ} {v : ε} {t : ζ} (h1 : E.map (fun s => (a s, b s)) = some (x, y)) (h2 : E.map d = some u) (h3 : E.map (fun s => (e s, g s)) = some (v, t)) : E.map (fun s => (a s, b s, (d s, e s, g s))) = some (x, y, (u, v, t)) := by
  cases E with
  | none => cases h1
  | some s =>
    have e1 : (a s, b s) = (x, y) := Option.some.inj h1
    have e2 : d s = u := Option.some.inj h2
    have e3 : (e s, g s) = (v, t) := Option.some.inj h3
    cases e1
    cases e2
    cases e3
    rfl
noncomputable abbrev endR (w : World) (os : OsState) : Option PySem.W.SharedT := HandSHeadRun.endF (HandSHeadRun.stepQ (HandSHeadRun.denQ HandSHeadRun.tabQ) R.prog w) 20000 R.prog w os
theorem runTA (w : World) : ∀ os : OsState, (endR (w.withFollow "special-get-raises" true) os).map (fun s => (HandSHeadRun.looksF R.prog (PySem.W.boot_heap (w.withFollow "special-get-raises" true).params) s.abs, HandSHeadRun.seenQ (PySem.W.view R.prog [88]) loose (importedModules R.prog.main.body) (fun s => PySem.W.xlAt (PySem.W.view R.prog [88]) [] s && PySem.W.recOk R.toRowW.records s) s.abs)) = some (true, PySem.W.openGood (PySem.W.view R.prog [88]) loose) := by
  intro os
  kernel_rfl
theorem runTB (w : World) : ∀ os : OsState, (endR (w.withFollow "special-get-raises" true) os).map (fun s => He.obsD fas fns (He.frG (HandSHeadRun.getT s) (asCK (HandSHeadRun.getT s) 4))) = some (He.valD fns) := by
  intro os
  kernel_rfl
theorem runTC (w : World) : ∀ os : OsState, (endR (w.withFollow "special-get-raises" true) os).map (fun s => (getW gets (He.frG (HandSHeadRun.getT s) (asCK (HandSHeadRun.getT s) 4)), exB (He.frG (HandSHeadRun.getT s) (asCK (HandSHeadRun.getT s) 4)) && getB gets (He.frG (HandSHeadRun.getT s) (asCK (HandSHeadRun.getT s) 4)))) = some (getV gets, true) := by
  intro os
  kernel_rfl
theorem runT (w : World) : HandSHeadRun.RunEq R (PySem.W.view R.prog [88]) hk ob 20000 loose (w.withFollow "special-get-raises" true) := by
  intro os
  exact comb3 (runTA w os) (runTB w os) (runTC w os)
theorem runFA (w : World) : ∀ os : OsState, (endR (w.withFollow "special-get-raises" false) os).map (fun s => (HandSHeadRun.looksF R.prog (PySem.W.boot_heap (w.withFollow "special-get-raises" false).params) s.abs, HandSHeadRun.seenQ (PySem.W.view R.prog [88]) loose (importedModules R.prog.main.body) (fun s => PySem.W.xlAt (PySem.W.view R.prog [88]) [] s && PySem.W.recOk R.toRowW.records s) s.abs)) = some (true, PySem.W.openGood (PySem.W.view R.prog [88]) loose) := by
  intro os
  kernel_rfl
theorem runFB (w : World) : ∀ os : OsState, (endR (w.withFollow "special-get-raises" false) os).map (fun s => He.obsD fas fns (He.frG (HandSHeadRun.getT s) (asCK (HandSHeadRun.getT s) 4))) = some (He.valD fns) := by
  intro os
  kernel_rfl
theorem runFC (w : World) : ∀ os : OsState, (endR (w.withFollow "special-get-raises" false) os).map (fun s => (getW gets (He.frG (HandSHeadRun.getT s) (asCK (HandSHeadRun.getT s) 4)), exB (He.frG (HandSHeadRun.getT s) (asCK (HandSHeadRun.getT s) 4)) && getB gets (He.frG (HandSHeadRun.getT s) (asCK (HandSHeadRun.getT s) 4)))) = some (getV gets, true) := by
  intro os
  kernel_rfl
theorem runF (w : World) : HandSHeadRun.RunEq R (PySem.W.view R.prog [88]) hk ob 20000 loose (w.withFollow "special-get-raises" false) := by
  intro os
  exact comb3 (runFA w os) (runFB w os) (runFC w os)
theorem runB (b : Bool) (w : World) : HandSHeadRun.RunEq R (PySem.W.view R.prog [88]) hk ob 20000 loose (w.withFollow "special-get-raises" b) := match b with
  | true => runT w
  | false => runF w
theorem run (w : World) : HandSHeadRun.RunEq R (PySem.W.view R.prog [88]) hk ob 20000 loose w := by
  have h := runB (w.params.followText "special-get-raises") w
  rwa [World.withFollow_self] at h
end Lw

set_option Elab.async false
set_option linter.all false
set_option maxRecDepth 100000
set_option maxHeartbeats 4000000
namespace Np
open PySem PySem.Spec PyProof.Rows L2
/-- what C(..) asks: the class, its own __init__ at fI -/
structure MkE (K : PySem.W.Frag) (C fI : Addr) : Prop where
  row : ∃ B newId initId bmB T, ExK K C newId T ∧ RowOk B newId initId bmB T
  init : PySem.W.findIn K (.ref C) "__init__" = some (some (.ref fI))
  fn : PySem.W.typeIn K (.ref fI) = some (.type "function")
/-- C(e, ..) of an own error class: the new error, then its own __init__ -/
def tME (C : Addr) (sp : Sp) (ta : TA) : TE := fun σ H Q => ta σ H fun vs H1 => vs.length ≤ 1000 ∧ ∀ a, H1 a = none → sp (.ref a :: vs) (upd H1 a (exo a C none)) (fun v H2 => v = .non ∧ Q (.ref a) H2) fun _ _ _ => False
/-- C(k = e, ..), g the keywords' values in the parameters' order -/
def tMEK (C : Addr) (sp : Sp) (n : Nat) (g : List V → List V) (ta : TA) : TE := fun σ H Q => ta σ H fun vs H1 => vs.length = n ∧ ∀ a, H1 a = none → sp (.ref a :: g vs) (upd H1 a (exo a C none)) (fun v H2 => v = .non ∧ Q (.ref a) H2) fun _ _ _ => False
section
variable {X : Cx} {CX : CXT} {k : Nat} {C fI : Addr} {fd : FuncData} {ps ks : List Str} {sp : Sp} {x : Str} {e : Expr} {es : List Expr} {kws : List Keyword} {ta : TA} {p pos : Pos}
theorem run_me {pins : List (Addr × Obj)} {σ : L2.St} {H : Hp} {s : Shared} {Q : VK} {us ws : List Value} {kw : List (Str × Value)} {vs : List V} (M : MkE X.K C fI) (F : FnOk X.prog X.w X.K X.mg X.base CX k fI fd ps sp) (hr : Room (k + 1) X.A)
    (hx : Passes CX X fun _ _ _ => False) (I : Inv X pins σ H s) (hb : ∀ (s : Shared) (a : Addr), X.K.In s.heap → ws.length + 1 = ps.length → BindsTo s fd ⟨.ref a :: us, kw⟩ (ps.zip (.ref a :: ws))) (r : Vals vs ws) (hz : us.length ≤ sizeLine)
    (h : ∀ a, H a = none → sp (.ref a :: vs) (upd H a (exo a C none)) (fun v H2 => v = .non ∧ Q (.ref a) H2) fun _ _ _ => False) : wpAny (model X.prog X.w) X.A (call (.ref C) us kw) (EP X pins σ Q) X.xe s := by
  obtain ⟨B, newId, initId, bmB, T, ek, R⟩ := M.row
  obtain ⟨nm, q, N, bs, bm, sn, sub, ab, col, dd, k0, k1, k2, k3, k5, hC, hbm⟩ := ek.cls
  obtain ⟨hp, g, dr, tk, os⟩ := s
  have up : hp.objs.size ≤ hp.objs.size + 1 := Nat.le_succ _
  have hn : H (hp.objs.size + 1) = none := I.hok.fresh up
  have hq := h (hp.objs.size + 1) hn
  have kk : ∀ b o, hp.get? b = some o → ((hp.push (PySem.W.kdv_tup us)).push (PySem.HandSPX.excO C hp.objs.size)).get? b = some o := fun b o e => Heap.get?_push_of_some _ (Heap.get?_push_of_some _ e)
  have hget : ((hp.push (PySem.W.kdv_tup us)).push (PySem.HandSPX.excO C hp.objs.size)).get? (hp.objs.size + 1) = some (PySem.HandSPX.excO C hp.objs.size) := by heap_get
  have I2 : Inv X pins σ (upd H (hp.objs.size + 1) (exo (hp.objs.size + 1) C none)) ⟨(hp.push (PySem.W.kdv_tup us)).push (PySem.HandSPX.excO C hp.objs.size), g, dr, tk, os⟩ :=
    I.laid (t' := tk) (a := hp.objs.size + 1) (o := exo (hp.objs.size + 1) C none) (h' := (hp.push (PySem.W.kdv_tup us)).push (PySem.HandSPX.excO C hp.objs.size)) kk up (exo_ok hget)
  have r2 : Vals (V.ref (hp.objs.size + 1) :: vs) (Value.ref (hp.objs.size + 1) :: ws) := .cons rfl r
  have hl : ws.length + 1 = ps.length := by
    have e := r2.length
    rw [F.len _ _ _ _ hq] at e
    exact e.symm
  refine wpAny_call (calledOwn R.base (R.mro hbm) (I.kIn _ _ hC) (PySem.W.looks_findIn I.kIn M.init) (fun self => PySem.W.bind_fn I.kIn self M.fn) hz
    (codeAny_mono (F.run _ X.stack _ _ ⟨Value.ref (hp.objs.size + 1) :: us, kw⟩ (Value.ref (hp.objs.size + 1) :: ws) _ _ (fun _ _ _ => False) (hr.make C us kw) (I2.env0.make C us kw) (hb _ _ I2.kIn hl) r2 hq) fun r s' hq' => ?_))
  cases r with
  | error er => exact hx pins σ _ _ er s' I2 hq'
  | ok fl =>
    cases fl with
    | ret u =>
      obtain ⟨v, H', I3, rv, ev, q3⟩ := I2.after hq'
      subst ev
      exact ⟨rv, ⟨V.ref (hp.objs.size + 1), H', I3, rfl, q3⟩⟩
    | next => exact False.elim hq'
    | brk => exact False.elim hq'
    | cont => exact False.elim hq'
theorem kC_of (M : MkE X.K C fI) : PySem.W.keepIn X.K (.ref C) = true := by
  obtain ⟨_, _, _, _, _, ek, _⟩ := M.row
  exact ek.kC
theorem len1000 {n : Nat} (h : n ≤ 1000) : n ≤ sizeLine := by
  rw [sizeLine_eq]
  omega
theorem pe_me (M : MkE X.K C fI) (F : FnOk X.prog X.w X.K X.mg X.base CX k fI fd ps sp) (hr : Room (k + 1) X.A) (hb : Binds X.K fd ps []) (hx : Passes CX X fun _ _ _ => False) (hg : Gl X x) (hm : X.mg x = some (.ref C)) (ha : PA X (e :: es) ta)
    (hdb : (x == ("__debug__" : Str)) = false := by decide) (he : starEach (e :: es) X.env = (false, eval e X.env) :: starEach es X.env := by rfl) (hpl : (backTo pos (starEach es X.env)).any (·.1) = false := by rfl) :
    PE X (.Call (.Name x p) (e :: es) [] pos) (tME C sp ta) := by
  refine ⟨fun pins s σ H Q I h => ?_⟩
  refine wpAny_Call_Name_kw (ld_glob I hg hm ?_ hdb)
  refine PySem.W.callWith_K (h₀ := X.base) I.ok.mod.kin (kC_of M) (thn (ha.run pos pins s σ H _ I h) fun us s1 ⟨vs, H1, I1, r, hz, q⟩ => ⟨I1.kIn, ?_⟩) he hpl
  refine run_me (us := us) (ws := us) (kw := []) M F hr hx I1 (fun s a X1 hl => ?_) r (by rw [← r.length]; exact len1000 hz) q
  have b := hb s (.ref a :: us) X1 (by rw [List.append_nil]; exact hl)
  rw [List.append_nil] at b
  exact b
theorem pe_mek {n : Nat} {g : List Value → List Value} {gV : List V → List V} (M : MkE X.K C fI) (F : FnOk X.prog X.w X.K X.mg X.base CX k fI fd ps sp) (hr : Room (k + 1) X.A)
    (hb : ∀ (s : Shared) (a : Addr) (ws : List Value), ws.length = n → BindsTo s fd ⟨[.ref a], ks.zip ws⟩ (ps.zip (.ref a :: g ws))) (hgv : ∀ {zs : List V} {ws : List Value}, Vals zs ws → Vals (gV zs) (g ws))
    (hx : Passes CX X fun _ _ _ => False) (hg : Gl X x) (hm : X.mg x = some (.ref C)) (hkw : PK X kws ta)
    (hall : (backToKw pos (keywordEach kws X.env)).all (·.1.isSome) = true := by rfl) (hks : (backToKw pos (keywordEach kws X.env)).filterMap (·.1) = ks := by rfl) (hdb : (x == ("__debug__" : Str)) = false := by decide)
    (hpl : ((backTo pos (starEach [] X.env)).any (·.1) || (backToKw pos (keywordEach kws X.env)).any (·.1.isNone)) = false := by rfl) :
    PE X (.Call (.Name x p) [] kws pos) (tMEK C sp n gV ta) := by
  refine ⟨fun pins s σ H Q I h => ?_⟩
  refine wpAny_Call_Name_kw (ld_glob I hg hm ?_ hdb)
  refine PySem.W.callWith_KW0 (h₀ := X.base) I.ok.mod.kin (kC_of M) hall ?_ hpl
  refine thn (hkw.run pos pins s σ H _ I h) fun ws s2 ⟨zs, H2, I2, rz, l2, q2⟩ => ⟨I2.kIn, ?_⟩
  rw [hks]
  exact run_me (us := []) (ws := g ws) (kw := ks.zip ws) M F hr hx I2 (fun s a _ _ => hb s a ws (rz.length.symm.trans l2)) (hgv rz) (Nat.zero_le _) q2
/-- err.f of a tracked error -/
def tAE (K : PySem.W.Frag) (f : Str) (te : TE) : TE := fun σ H Q => te σ H fun x H1 => ∃ (a C dx : Addr) (fs : List (Str × V)) (v : V), x = .ref a ∧ H1 a = some (exo a C (some dx)) ∧ H1 dx = some (exd dx fs) ∧ ExcC K C ∧ PySem.W.findIn K (.ref C) f = some none ∧ fs.lookup f = some v ∧ Q v H1
theorem exo_inst {pins : List (Addr × Obj)} {σ : L2.St} {H : Hp} {s : Shared} {a : Addr} {d : Option Addr} (I : Inv X pins σ H s) (ha : H a = some (exo a C d)) (hd : ∀ dx, d = some dx → ∃ fs, H dx = some (exd dx fs)) :
    ∃ ox od, PySem.W.InstAt s.heap a ox C od ∧ (∀ dx, d = some dx → ∃ o, od = some o ∧ s.heap.get? dx = some o) := by
  obtain ⟨t1, ho⟩ := exo_at I.hok ha
  cases d with
  | none => exact ⟨_, none, ⟨ho, rfl, rfl, trivial⟩, fun dx z => by cases z⟩
  | some dx =>
    obtain ⟨fs, hfs⟩ := hd dx rfl
    obtain ⟨mA, hns, _⟩ := exd_at I.hok hfs
    obtain ⟨o, es, ep, h1, h2⟩ := hns
    exact ⟨_, some o, ⟨ho, rfl, rfl, h1⟩, fun dy z => by cases z; exact ⟨o, rfl, h1⟩⟩
theorem pe_ae {te : TE} {f : Str} (he : PE X e te) (hb : attributeBase e f X.env (eval e X.env) = eval e X.env := by rfl) : PE X (.Attribute e f pos) (tAE X.K f te) := by
  refine ⟨fun pins s σ H Q I h => ?_⟩
  refine attr_of hb (thn (he.run pins s σ H _ I h) fun u s1 hh => ?_)
  obtain ⟨y, H1, I1, rx, a, C, dx, fs, v, ex, ea, ed, T, hno, l, q⟩ := hh
  subst ex
  obtain rfl : u = Value.ref a := rx
  obtain ⟨t1, ho⟩ := exo_at I1.hok ea
  obtain ⟨mA, hns, rel⟩ := exd_at I1.hok ed
  obtain ⟨od, hod, hl⟩ := lookIn_ns hns
  obtain ⟨u, hu, ru⟩ := RelO.some_of (v := v) (o := mA f) (by rw [← l]; exact rel f)
  have J : PySem.W.InstAt s1.heap a { cls := .ref C, dict := some dx, data := .fields #[.ref t1, .none, .none, .none, .bool false, .none] } C (some od) := ⟨ho, rfl, rfl, hod⟩
  exact HandSPX.exc_get I1.kIn J T.hg T.hk T.hs (PySem.W.findObj_own T.hd hno rfl (by rw [hl, hu])) (handed_of ru) ⟨v, H1, I1.tok _, ru, q⟩
/-- isinstance(err, c) of a tracked error -/
def rIE (K : PySem.W.Frag) : List V → Hp → VK → Prop := fun xs H Q => ∃ (a C : Addr) (d : Option Addr) (c : V) (cv : Value) (b : Bool), xs = [.ref a, c] ∧ H a = some (exo a C d) ∧ (∀ dx, d = some dx → ∃ fs, H dx = some (exd dx fs)) ∧ ExcC K C ∧ (∀ u, RelV c u → u = cv) ∧ PySem.W.kitOne K (.ref C) cv = some b ∧ Q (.bl b) H
theorem call_ie : CallR X (.builtin "isinstance") (rIE X.K) := by
  intro pins s σ H xs us Q I r h
  obtain ⟨a, C, d, c, cv, b, rfl, ha, hd, T, hcv, e, q⟩ := h
  cases r with
  | cons rx rr =>
    cases rr with
    | cons rt rr =>
      cases rr
      cases rx
      have ec := hcv _ rt
      subst ec
      obtain ⟨ox, od, J, _⟩ := exo_inst I ha hd
      exact PySem.W.kia_one (PySem.W.np_kit T) I.kIn ⟨ox, od, J⟩ e (fun z => nomatch z) fun tk => ⟨.bl b, H, I.kept (t' := tk) fun _ _ z => z, rfl, q⟩
end
end Np

set_option Elab.async false
set_option linter.all false
set_option maxRecDepth 100000
set_option maxHeartbeats 4000000
namespace Np
open PySem PySem.Spec PyProof.Rows L2
/-! ### defs that ask repr: called where no repr is under way -/
structure FnG (P : Program) (w : World) (K : PySem.W.Frag) (mg : Str → Option Value) (base : Heap) (CX : CXT) (k : Nat) (f : Addr) (fd : FuncData) (ps : List Str) (sp : Sp) : Prop where
  len : ∀ vs H Q E, sp vs H Q E → vs.length = ps.length
  run : ∀ (A : Around) (outer : List Env) (s : Shared) (H : Hp) (args : Args) (us : List Value) (vs : List V) (Q : VK) (E : XK), A.guards = some [] → Room k A → Env0 P w K mg base A outer s H → BindsTo s fd args (ps.zip us) → Vals vs us →
    sp vs H Q E → codeAny (model P w) A (.call (.ref f) args) (CR CX outer P w H s Q E) s
theorem FnG.of {P : Program} {w : World} {K : PySem.W.Frag} {mg : Str → Option Value} {base : Heap} {CX : CXT} {k : Nat} {f : Addr} {fd : FuncData} {ps : List Str} {sp : Sp} (F : FnOk P w K mg base CX k f fd ps sp) : FnG P w K mg base CX k f fd ps sp :=
  ⟨F.len, fun A outer s H args us vs Q E _ => F.run A outer s H args us vs Q E⟩
theorem fnG {P : Program} {w : World} {K : PySem.W.Frag} {mg : Str → Option Value} {base : Heap} {x qual : Str} {params : Arguments} {body : List Stmt} {scope : Scope} {dvs : List V} {kws : List (Str × V)} {f : Addr} {fd : FuncData} {CX : CXT} {N ps : List Str} {k : Nat} {sp : Sp}
    (F : FunD K x qual params body scope dvs kws f fd) (S : FnScope N ps scope) (len : ∀ vs H Q E, sp vs H Q E → vs.length = ps.length)
    (hbody : ∀ (cdv : Value) (A : Around) (outer : List Env) (s : Shared) (H : Hp) (vs : List V) (Q : VK) (E : XK), A.guards = some [] → Room k (A.deeper (envOfC qual scope s.heap.objs.size f cdv)) → sp vs H Q E →
      ∃ t, PSs (cxOf CX P w K mg base N qual scope f cdv A outer s H E) body t ∧ t { nx := fun _ H' => Q .non H', rt := Q } (start N vs) H) : FnG P w K mg base CX (k + 1) f fd ps sp := by
  obtain ⟨oc, od, dV, kV, doc, pm, an, cdv, ct, osl, rfl, lk, hcd, _, _⟩ := F.ex
  refine ⟨len, fun A outer s H args us vs Q E hg hr e0 hb r hsp => ?_⟩
  have hl := len _ _ _ _ hsp
  have KX : K.In s.heap := e0.mod.kin.keeps fun b o e => (e0.bs b o e).1
  have lim : s.heap.NoLimit := e0.mod.nolimit.keeps fun b o e => (e0.bs b o e).1
  have kinds : ∀ y ∈ ps.zip us, scope.names.lookup y.1 = some .local ∨ (scope.names.lookup y.1 = some .cell ∧ ((cellsFrom (s.heap.objs.size + 1) scope.names []).lookup y.1).isSome = true) := fun ⟨n, v⟩ hy => by
    rcases S.par n (List.of_mem_zip hy).1 with q | q
    · exact .inl q
    · exact .inr ⟨q, PySem.W.cellsFrom_some _ _ _ (.inl q)⟩
  refine codeAny_call_function hr.depth (KX _ _ lk) rfl S.co S.gen rfl (PySem.W.codeRec_of KX hcd) (hb _ _ _ _ ?_)
  refine wpAny_newFunctionEnv_cells S.kind kinds fun env he s1 x => ?_
  subst he
  refine ⟨lim.keeps x.toInCall.keep, codeAny_func ?_⟩
  obtain ⟨t, ht, hq⟩ := hbody cdv A outer s H vs Q E hg (hr.deeper _) hsp
  have I : Inv (cxOf CX P w K mg base N qual scope f cdv A outer s H E) [] (start N vs) H s1 := inv_start S hr.hd e0 hl r x
  refine wpAny_mono (ht.run [] s1 (start N vs) H _ I hq) (fun fl s' hs => ?_) fun e s' hs => hs
  have fin : ∀ {σ' : L2.St} {H' : Hp} {v : V} {u : Value}, Inv (cxOf CX P w K mg base N qual scope f cdv A outer s H E) [] σ' H' s' → RelV v u → Q v H' → CE outer P w H s Q u s' :=
    fun {σ' H' v u} J rv q => ⟨v, H', J.os, J.bare, J.base, J.hok, rv, q⟩
  cases fl with
  | ret u =>
    obtain ⟨v, σ', H', J, rv, q⟩ := hs
    exact fin J rv q
  | next =>
    obtain ⟨σ', H', J, q⟩ := hs
    exact fin (v := V.non) (u := Value.none) J rfl q
  | brk =>
    obtain ⟨_, _, _, q⟩ := hs
    exact False.elim q
  | cont =>
    obtain ⟨_, _, _, q⟩ := hs
    exact False.elim q
section
variable {X : Cx} {CX : CXT} {k : Nat} {f C : Addr} {fd : FuncData} {ps : List Str} {sp : Sp} {dvs : List V} {ds : List Value} {E : XK} {x m : Str} {p pos apos : Pos} {e o : Expr} {es : List Expr} {ta : TE} {t : TA}
theorem run_fnG {pins : List (Addr × Obj)} {σ : L2.St} {H : Hp} {s : Shared} {Q : VK} {us : List Value} {vs : List V} (F : FnG X.prog X.w X.K X.mg X.base CX k f fd ps sp) (hg : X.A.guards = some []) (hr : Room k X.A) (hb : Binds X.K fd ps ds) (hd : Vals dvs ds) (hx : Passes CX X E)
    (I : Inv X pins σ H s) (r : Vals vs us) (h : sp (vs ++ dvs) H Q E) : wpAny (model X.prog X.w) X.A (call (.ref f) us) (EP X pins σ Q) X.xe s := by
  have r2 : Vals (vs ++ dvs) (us ++ ds) := r.append hd
  have hl : (us ++ ds).length = ps.length := r2.length.symm.trans (F.len _ _ _ _ h)
  refine wpAny_call (codeAny_mono (F.run X.A X.stack s H ⟨us, []⟩ (us ++ ds) (vs ++ dvs) Q E hg hr I.env0 (hb s us I.kIn hl) r2 h) fun r s' hq => ?_)
  cases r with
  | error e => exact hx pins σ H s e s' I hq
  | ok fl =>
    cases fl with
    | ret u => exact I.after hq
    | next => exact False.elim hq
    | brk => exact False.elim hq
    | cont => exact False.elim hq
theorem pe_callG (F : FnG X.prog X.w X.K X.mg X.base CX k f fd ps sp) (hgd : X.A.guards = some []) (hr : Room k X.A) (hg : Gl X x) (hm : X.mg x = some (.ref f)) (hk : PySem.W.keepIn X.K (.ref f) = true) (hb : Binds X.K fd ps ds) (hd : Vals dvs ds) (hx : Passes CX X E)
    (ha : PA X (e :: es) t) (hdb : (x == ("__debug__" : Str)) = false := by decide) (he : starEach (e :: es) X.env = (false, eval e X.env) :: starEach es X.env := by rfl) (hpl : (backTo pos (starEach es X.env)).any (·.1) = false := by rfl) :
    PE X (.Call (.Name x p) (e :: es) [] pos) (tCall sp dvs E t) := by
  refine ⟨fun pins s σ H Q I h => ?_⟩
  refine wpAny_Call_Name_kw (ld_glob I hg hm ?_ hdb)
  refine PySem.W.callWith_K (h₀ := X.base) I.ok.mod.kin hk (thn (ha.run pos pins s σ H _ I h) fun us s1 ⟨vs, H1, I1, r, q⟩ => ⟨I1.kIn, ?_⟩) he hpl
  exact run_fnG F hgd hr hb hd hx I1 r q
/-- repr of data: None, bools, ints, texts, lists and tuples of these -/
def rRepr (K : PySem.W.Frag) : List V → Hp → VK → Prop := fun xs H Q => ∃ v d, xs = [v] ∧ Dp K H v d ∧ d.showable = true ∧ d.hasDict = false ∧ d.depth ≤ 30 ∧ d.shown.length ≤ sizeLine ∧ Q (.str d.shown) H
theorem call_repr (hgd : X.A.guards = some []) (hu : X.A.units + 64 < cLine) : CallR X (.builtin "repr") (rRepr X.K) := by
  intro pins s σ H xs us Q I r h
  obtain ⟨v, d, rfl, hd, hs, hn, hdp, hz, q⟩ := h
  cases r with
  | cons rx rr =>
    cases rr
    cases hd with
    | non =>
      cases rx
      exact PySem.P.repr_of_none ⟨.str _, H, I.tok _, ⟨_, rfl⟩, q⟩
    | bl b =>
      cases rx
      exact PySem.P.repr_of_bool ⟨.str _, H, I.tok _, ⟨_, rfl⟩, q⟩
    | int i =>
      obtain ⟨t, rfl⟩ := rx
      exact PySem.P.repr_of_int (of_decide_eq_true (by simpa [PyData.showable] using hs)) ⟨.str _, H, I.tok _, ⟨_, rfl⟩, by simpa [PyData.shown] using q⟩
    | str x =>
      obtain ⟨t, rfl⟩ := rx
      exact PySem.P.repr_of_str ⟨.str _, H, I.tok _, ⟨_, rfl⟩, by simpa [PyData.shown] using q⟩ (by simpa [PyData.shown] using hz)
    | lst hl ha =>
      cases rx
      obtain ⟨as, rd⟩ := Dp.reads I _ _ _ (Dp.lst hl ha) rfl
      exact repr_of_reads' rd hs (fun z => by rw [hn] at z; cases z) hgd (by omega) (fun _ _ e => e) (fun h' u tk hk => ⟨.str _, H, I.kept (t' := tk) hk, ⟨_, rfl⟩, q⟩) hz
    | tup hl ha =>
      cases rx
      obtain ⟨as, rd⟩ := Dp.reads I _ _ _ (Dp.tup hl ha) rfl
      exact repr_of_reads' rd hs (fun z => by rw [hn] at z; cases z) hgd (by omega) (fun _ _ e => e) (fun h' u tk hk => ⟨.str _, H, I.kept (t' := tk) hk, ⟨_, rfl⟩, q⟩) hz
end
end Np

set_option Elab.async false
set_option linter.all false
set_option maxRecDepth 100000
set_option maxHeartbeats 4000000
namespace Np
open PySem PySem.Spec PyProof.Rows L2
/-- the law's def runs at the heap behind the top and gives True -/
theorem lawRun {P : Program} {w : World} {K : PySem.W.Frag} {mg mb : Str → Option Value} {k : Nat} {fa a : Addr} {fd : FuncData} {x : Str} {sp : Sp} {s₁ : Shared} {vs : List Value} {ns : List Int}
    (KX : K.In s₁.heap) (hns : s₁.heap.Ns mainGlobals mg) (hb : s₁.heap.Ns builtinsNs mb) (hbb : ∀ x : Str, x ≠ "__name__" → mb x = bootBuiltins x) (hlim : s₁.heap.NoLimit) (hgen : s₁.gens = #[])
    (ha : s₁.heap.get? a = some { cls := .type "list", data := .seq vs.toArray }) (hi : IntsAre vs ns) (hl : ns.length ≤ sizeLine) (hr : Room k callerA)
    (F : ∀ base : Heap, K.In base → base.Ns mainGlobals mg → FnG P w K mg base CX0 k fa fd [x] sp) (hbind : ∀ (s : Shared) (u : Value), BindsTo s fd ⟨[u], []⟩ [(x, u)])
    (hsp : ∀ H : Hp, Only H → SqL K H a (ns.map V.int) → sp [.ref a] H (fun v _ => v = .bl true) fun _ _ _ => False) :
    codeAny (model P w) callerA (.call (.ref fa) ⟨[.ref a], []⟩) (fun r s' => r = .ok (.ret (.bool true)) ∧ OldK s₁.heap s'.heap ∧ s'.os = s₁.os ∧ AllBare s'.gens) s₁ := by
  have rv := vals_ints hi
  have lv := hi.length
  -- the run, from a heap in which the script alone may be told
  have go : ∀ H : Hp, Only H → SqL K H a (ns.map V.int) → HOk P w H s₁.heap → (∀ b, H b ≠ none → b = a) → (H a ≠ none → K.lookup a = none) →
      codeAny (model P w) callerA (.call (.ref fa) ⟨[.ref a], []⟩) (fun r s' => r = .ok (.ret (.bool true)) ∧ OldK s₁.heap s'.heap ∧ s'.os = s₁.os ∧ AllBare s'.gens) s₁ := by
    intro H hO hS ok only out
    have sees : ∀ {b : Addr} {o : Obj} {es : Array DictEntry} {ep : Nat}, s₁.heap.get? b = some o → o.data = .dict es ep → H b = none := by
      intro b o es ep e dd
      cases q : H b with
      | none => rfl
      | some u =>
        obtain rfl : b = a := only b (by rw [q]; exact fun z => nomatch z)
        rw [ha] at e
        cases e
        have z : Data.seq vs.toArray _ = Data.dict es ep := dd
        cases z
    have names : ∀ {b : Addr} {m : Str → Option Value}, s₁.heap.Ns b m → (hidT s₁.heap H).Ns b m := fun {b m} ⟨o, es, ep, e, dd, r⟩ => ⟨o, es, ep, hidT_get e (sees e dd), dd, r⟩
    have KB : K.In (hidT s₁.heap H) := by
      intro b o e
      refine hidT_get (KX b o e) ?_
      cases q : H b with
      | none => rfl
      | some u =>
        obtain rfl : b = a := only b (by rw [q]; exact fun z => nomatch z)
        rw [out (by rw [q]; exact fun z => nomatch z)] at e
        cases e
    have md : Mod K mg (hidT s₁.heap H) := by
      obtain ⟨mc, h1, h2⟩ := hlim
      exact ⟨KB, names hns, ⟨mb, names hb, hbb⟩, ⟨mc, names h1, h2⟩⟩
    have e0 : Env0 P w K mg (hidT s₁.heap H) callerA [] s₁ H :=
      { frames := rfl, mod := md, bs := fun b o e => of_hidT e, bsz := Nat.le_of_eq (hidT_size _ _), funs := trivial, frf := fun b hb => absurd (show b ∈ ([] : List Addr) from hb) (by simp), hok := ok, bare := .of_eq hgen }
    have run := (F _ KB (names hns)).run callerA [] s₁ H ⟨[.ref a], []⟩ [.ref a] [.ref a] _ _ rfl hr e0 (hbind s₁ (.ref a)) (.cons rfl .nil) (hsp H hO hS)
    refine codeAny_mono run fun r s' h => ?_
    match r, h with
    | .error e, h => exact False.elim h
    | .ok .next, h => exact False.elim h
    | .ok .brk, h => exact False.elim h
    | .ok .cont, h => exact False.elim h
    | .ok (.ret u), h =>
      obtain ⟨v, H', os, bare, un, ok', ru, q⟩ := h
      obtain rfl : v = .bl true := q
      obtain rfl : u = Value.bool true := ru
      refine ⟨rfl, OldK.of_keep fun b o e => ?_, os, bare⟩
      have nil : b ∉ ([] : List Addr) := by simp
      rcases hO b with z | ⟨ob, xs, z⟩
      · exact un.keep b o e z nil nil
      · have z2 := un.frzs b ob _ z
        have e1 := (ok b _ z).1
        have e2 := (ok' b _ z2).1
        rw [e] at e1
        cases e1
        exact e2
  cases hk : K.lookup a with
  | some o =>
    have e := KX a o hk
    rw [ha] at e
    cases e
    refine go (fun _ => none) (fun _ => .inl rfl) (.inr ⟨_, vs.toArray, _, hk, rfl, rfl, rfl, ?_, ?_⟩) ?_ (fun b z => absurd rfl z) fun z => absurd rfl z
    · rw [List.size_toArray, lv]; exact hl
    · simpa using rv
    · intro b u z
      cases (show (none : Option HO) = some u from z)
  | none =>
    let H : Hp := fun b => if b = a then some (.frz { cls := .type "list", data := .seq vs.toArray } (.lst (ns.map V.int))) else none
    have at_a : H a = some (.frz { cls := .type "list", data := .seq vs.toArray } (.lst (ns.map V.int))) := if_pos rfl
    have off_a : ∀ {b : Addr}, b ≠ a → H b = none := fun {b} h => if_neg h
    refine go H (fun b => ?_) (.inl (.inr ⟨_, at_a⟩)) (fun b u z => ?_) (fun b z => ?_) fun _ => hk
    · by_cases h : b = a
      · rw [h]; exact .inr ⟨_, _, at_a⟩
      · exact .inl (off_a h)
    · by_cases h : b = a
      · subst h
        rw [at_a] at z
        cases z
        exact ⟨ha, by rw [List.length_map]; exact hl, vs, _, rv, ha⟩
      · rw [off_a h] at z
        cases z
    · by_cases h : b = a
      · exact h
      · exact absurd (off_a h) z
/-- the end of a law's row over a head by facts: F gives the written part, the law's function object, its promise -/
theorem walkG {l : PySem.W.OpenLaw} {n k : Nat} {q : Program} {loose : List Str} {XP : (Str → Option Value) → Heap → Prop} {YP : World → Heap → Prop} {d : DefRec} {x : Str}
    (hn : l.most = some n) (hn2 : n ≤ sizeLine) (hdf : d.params.defaults = []) (hr : Room k callerA)
    (F : ∀ (w : World) (mg : Str → Option Value) (fa : Addr) (h : Heap), YP w h → h.Ns mainGlobals mg → mg d.name = some (.ref fa) →
      ∃ (K : PySem.W.Frag) (fd : FuncData) (sp : Sp), K.In h ∧ (∀ (s : Shared) (u : Value), BindsTo s fd ⟨[u], []⟩ [(x, u)]) ∧
        (∀ (H : Hp) (a : Addr) (ns : List Int), ns.length ≤ n → (∀ z ∈ ns, Builtin.Int.intBits z ≤ 1048576) → Only H → SqL K H a (ns.map V.int) → sp [.ref a] H (fun v _ => v = .bl true) fun _ _ _ => False) ∧
        ∀ base : Heap, K.In base → base.Ns mainGlobals mg → FnG l.prog w K mg base CX0 k fa fd [x] sp) :
    PySem.W.WalkO q loose XP YP l.row.toRowW d [] (fun f vs => PySem.call f vs) := by
  refine Att.attach_callB hn hdf fun w s₀ s₁ mg mb fa o pm cd doc a vs ns G Y ho hd hcd hmg hobj hints hlen hbits hg => ?_
  obtain ⟨K, fd, sp, KX, hb, hsp, hF⟩ := F w mg fa _ Y G.T.g hmg
  exact lawRun KX G.T.g G.T.b G.T.builtins G.T.nolimit hg hobj hints (Nat.le_trans hlen hn2) hr hF hb fun H hO hS => hsp H a ns hlen hbits hO hS
end Np

set_option Elab.async false
set_option linter.all false
set_option maxRecDepth 100000
set_option maxHeartbeats 4000000
namespace Np
open PySem PySem.Spec PyProof.Rows L2
/-- a def of the module, by its name: it keeps sp -/
def Callee (P : Program) (w : World) (K : PySem.W.Frag) (mg : Str → Option Value) (base : Heap) (k : Nat) (x : Str) (ps : List Str) (sp : Sp) : Prop :=
  ∃ (f : Addr) (fd : FuncData), mg x = some (.ref f) ∧ FnOk P w K mg base CX0 k f fd ps sp ∧ PySem.W.keepIn K (.ref f) = true ∧ Binds K fd ps []
def CalleeG (P : Program) (w : World) (K : PySem.W.Frag) (mg : Str → Option Value) (base : Heap) (k : Nat) (x : Str) (ps : List Str) (sp : Sp) : Prop :=
  ∃ (f : Addr) (fd : FuncData), mg x = some (.ref f) ∧ FnG P w K mg base CX0 k f fd ps sp ∧ PySem.W.keepIn K (.ref f) = true ∧ Binds K fd ps []
section
variable {X : Cx} {k : Nat} {x : Str} {ps : List Str} {sp : Sp} {p pos : Pos} {e : Expr} {es : List Expr} {t : TA}
theorem pe_callC (c : Callee X.prog X.w X.K X.mg X.base k x ps sp) (hr : Room k X.A) (ha : PA X (e :: es) t) (hg : Gl X x := by rfl) (hdb : (x == ("__debug__" : Str)) = false := by decide)
    (he : starEach (e :: es) X.env = (false, eval e X.env) :: starEach es X.env := by rfl) (hpl : (backTo pos (starEach es X.env)).any (·.1) = false := by rfl) : PE X (.Call (.Name x p) (e :: es) [] pos) (tCall sp [] E0 t) := by
  obtain ⟨f, fd, hm, F, hk, hb⟩ := c
  exact pe_call F hr hg hm hk hb .nil pass0 ha hdb he hpl
theorem pe_callCG (hgd : X.A.guards = some []) (c : CalleeG X.prog X.w X.K X.mg X.base k x ps sp) (hr : Room k X.A) (ha : PA X (e :: es) t) (hg : Gl X x := by rfl) (hdb : (x == ("__debug__" : Str)) = false := by decide)
    (he : starEach (e :: es) X.env = (false, eval e X.env) :: starEach es X.env := by rfl) (hpl : (backTo pos (starEach es X.env)).any (·.1) = false := by rfl) : PE X (.Call (.Name x p) (e :: es) [] pos) (tCall sp [] E0 t) := by
  obtain ⟨f, fd, hm, F, hk, hb⟩ := c
  exact pe_callG F hgd hr hg hm hk hb .nil pass0 ha hdb he hpl
end
/-- a def of the text without defaults, as it stands behind the top -/
abbrev FnT (K : PySem.W.Frag) (x : Str) (st : Stmt) (f : Addr) (fd : FuncData) : Prop := FunD K x x (defArgs st) (defBody st) (defScope st) [] [] f fd
theorem upd_none {H : Hp} {p q : Addr} {o : HO} (h : upd H p o q = none) : q ≠ p ∧ H q = none := by
  by_cases e : q = p
  · rw [e, upd_same] at h
    cases h
  · rw [upd_ne e] at h
    exact ⟨e, h⟩
/-- all but p is as it was -/
def But (p : Addr) (H H' : Hp) : Prop := ∀ b o, b ≠ p → H b = some o → H' b = some o
theorem But.upd {p : Addr} {H : Hp} {o : HO} : But p H (L2.upd H p o) := fun b u n h => by rw [upd_ne n]; exact h
theorem But.trans {p : Addr} {H H1 H2 : Hp} (a : But p H H1) (b : But p H1 H2) : But p H H2 := fun c o n h => b c o n (a c o n h)
theorem But.of {p : Addr} {H H' : Hp} (a : Same H H') : But p H H' := fun c o _ h => a c o h
theorem Same.new {H : Hp} {p : Addr} {o : HO} (h : H p = none) : Same H (L2.upd H p o) := fun b u q => by rw [upd_ne (ne_of_none q h)]; exact q
end Np

set_option Elab.async false
set_option linter.all false
set_option maxRecDepth 100000
set_option maxHeartbeats 4000000
namespace Np
open PySem PySem.Spec PyProof.Rows L2
/-- the error at e, of the class at C, with these fields -/
def ErrAt (H : Hp) (e C : Addr) (fs : List (Str × V)) : Prop := (fs = [] ∧ H e = some (exo e C none)) ∨ ∃ dx, H e = some (exo e C (some dx)) ∧ H dx = some (exd dx fs)
theorem ErrAt.mono {H H' : Hp} {e C : Addr} {fs : List (Str × V)} (s : Same H H') (h : ErrAt H e C fs) : ErrAt H' e C fs := by
  rcases h with ⟨h1, h2⟩ | ⟨dx, h1, h2⟩
  · exact .inl ⟨h1, s _ _ h2⟩
  · exact .inr ⟨dx, s _ _ h1, s _ _ h2⟩
theorem ErrAt.at {H : Hp} {e C : Addr} {fs : List (Str × V)} (h : ErrAt H e C fs) : ∃ d, H e = some (exo e C d) ∧ ∀ dx, d = some dx → ∃ fs, H dx = some (exd dx fs) := by
  rcases h with ⟨_, h2⟩ | ⟨dx, h1, h2⟩
  · exact ⟨none, h2, fun _ z => nomatch z⟩
  · exact ⟨some dx, h1, fun _ z => by cases z; exact ⟨fs, h2⟩⟩
theorem ErrAt.dict {H : Hp} {e C : Addr} {p : Str × V} {fs : List (Str × V)} (h : ErrAt H e C (p :: fs)) : ∃ dx, H e = some (exo e C (some dx)) ∧ H dx = some (exd dx (p :: fs)) := by
  rcases h with ⟨h1, _⟩ | h
  · cases h1
  · exact h
/-- __init__ of an error class: the fields fs, in this order -/
def spInit (C : Addr) (fs : List Str) : Sp := fun vs H Q _ => ∃ (a : Addr) (ws : List V), vs = .ref a :: ws ∧ ws.length = fs.length ∧ H a = some (exo a C none) ∧
  ∀ (dx : Addr) (H' : Hp), H dx = none → But a H H' → H' a = some (exo a C (some dx)) → H' dx = some (exd dx (fs.zip ws).reverse) → Q .non H'
theorem spInit_len {C : Addr} {fs : List Str} : ∀ vs H Q E, spInit C fs vs H Q E → vs.length = (("self" : Str) :: fs).length := by
  rintro vs H Q E ⟨a, ws, rfl, hl, _⟩
  exact congrArg Nat.succ hl
/-- an error class of the module, made by its own __init__ (its text: st) with the fields fs -/
def ErrC (P : Program) (w : World) (K : PySem.W.Frag) (mg : Str → Option Value) (base : Heap) (x q : Str) (st : Stmt) (fs : List Str) : Prop :=
  ∃ (fI : Addr) (fd : FuncData), mg x = some (.ref (He.ga K x)) ∧ MkE K (He.ga K x) fI ∧ FnOk P w K mg base CX0 1 fI fd (("self" : Str) :: fs) (spInit (He.ga K x) fs) ∧ FunD K "__init__" q (defArgs st) (defBody st) (defScope st) [] [] fI fd ∧ Binds K fd (("self" : Str) :: fs) []
theorem err_step {C : Addr} {fs : List Str} {ws : List V} {H : Hp} {Q : VK} (hl : ws.length = fs.length) (h : ∀ e H', H e = none → Same H H' → ErrAt H' e C (fs.zip ws).reverse → Q (.ref e) H') :
    ∀ a, H a = none → spInit C fs (.ref a :: ws) (upd H a (exo a C none)) (fun v H2 => v = .non ∧ Q (.ref a) H2) fun _ _ _ => False := fun a ha =>
  ⟨a, ws, rfl, hl, upd_same, fun dx H' n b h1 h2 => ⟨rfl, h a H' ha (fun c o q => b c o (ne_of_none q ha) (by rw [upd_ne (ne_of_none q ha)]; exact q)) (.inr ⟨dx, h1, h2⟩)⟩⟩
def tErr (x : Str) (fs : List Str) (K : PySem.W.Frag) (ta : TA) : TE := fun σ H Q => ta σ H fun ws H1 => ws.length = fs.length ∧ ∀ e H', H1 e = none → Same H1 H' → ErrAt H' e (He.ga K x) (fs.zip ws).reverse → Q (.ref e) H'
def tErrK (x : Str) (fs : List Str) (K : PySem.W.Frag) (g : List V → List V) (ta : TA) : TE := fun σ H Q => ta σ H fun ws H1 => ws.length = fs.length ∧ ∀ e H', H1 e = none → Same H1 H' → ErrAt H' e (He.ga K x) (fs.zip (g ws)).reverse → Q (.ref e) H'
theorem PE.imp {X : Cx} {e : Expr} {t u : TE} (h : PE X e t) (i : ∀ σ H Q, u σ H Q → t σ H Q) : PE X e u := ⟨fun pins s σ H Q I q => h.run pins s σ H Q I (i σ H Q q)⟩
/-- readings are monotone: what a PA's reading is used for -/
def MonoA (t : TA) : Prop := ∀ σ H Q Q', (∀ vs H', Q vs H' → Q' vs H') → t σ H Q → t σ H Q'
def MonoE (t : TE) : Prop := ∀ σ H Q Q', (∀ v H', Q v H' → Q' v H') → t σ H Q → t σ H Q'
theorem mono_nil : MonoA tNil := fun _ _ _ _ h q => h _ _ q
theorem mono_var {i : Nat} : MonoE (tVar i) := fun _ _ _ _ h ⟨v, e, q⟩ => ⟨v, e, h _ _ q⟩
theorem mono_cons {t : TE} {u : TA} (a : MonoE t) (b : MonoA u) : MonoA (tCons t u) := fun σ H Q Q' h q => a σ H _ _ (fun x H1 q1 => b σ H1 _ _ (fun xs H2 q2 => h _ _ q2) q1) q
section
variable {X : Cx} {x q : Str} {st : Stmt} {fs ks : List Str} {e : Expr} {es : List Expr} {kws : List Keyword} {ta : TA} {p pos : Pos}
theorem pe_err (c : ErrC X.prog X.w X.K X.mg X.base x q st fs) (hr : Room 2 X.A) (ha : PA X (e :: es) ta) (hm : MonoA ta) (hn : fs.length ≤ 1000 := by decide) (hg : Gl X x := by rfl) (hdb : (x == ("__debug__" : Str)) = false := by decide)
    (he : starEach (e :: es) X.env = (false, eval e X.env) :: starEach es X.env := by rfl) (hpl : (backTo pos (starEach es X.env)).any (·.1) = false := by rfl) : PE X (.Call (.Name x p) (e :: es) [] pos) (tErr x fs X.K ta) := by
  obtain ⟨fI, fd, hmg, M, F, _, hb⟩ := c
  refine PE.imp (pe_me M F hr hb pass0 hg hmg ha hdb he hpl) fun σ H Q q => hm σ H _ _ (fun vs H1 q1 => ?_) q
  exact ⟨by omega, err_step q1.1 q1.2⟩
theorem pe_errK {g : {α : Type} → List α → List α} (c : ErrC X.prog X.w X.K X.mg X.base x q st fs) (hr : Room 2 X.A) (ha : PK X kws ta) (hm : MonoA ta)
    (hb : ∀ (kV doc pm : Value) (an : Option Addr) (cdv ct : Value) (a : Addr) (ws : List Value), ws.length = fs.length → bindArgs (PySem.W.fnOf "__init__" q (defArgs st) (defBody st) (defScope st) .none kV doc pm an cdv ct) ⟨[.ref a], ks.zip ws⟩ = pure ((("self" : Str) :: fs).zip (.ref a :: g ws)))
    (hgv : ∀ {zs : List V} {ws : List Value}, Vals zs ws → Vals (g zs) (g ws)) (hl : ∀ zs : List V, zs.length = fs.length → (g zs).length = fs.length)
    (hall : (backToKw pos (keywordEach kws X.env)).all (·.1.isSome) = true := by rfl) (hks : (backToKw pos (keywordEach kws X.env)).filterMap (·.1) = ks := by rfl) (hg : Gl X x := by rfl) (hdb : (x == ("__debug__" : Str)) = false := by decide)
    (hpl : ((backTo pos (starEach [] X.env)).any (·.1) || (backToKw pos (keywordEach kws X.env)).any (·.1.isNone)) = false := by rfl) : PE X (.Call (.Name x p) [] kws pos) (tErrK x fs X.K g ta) := by
  obtain ⟨fI, fd, hmg, M, F, FD, _⟩ := c
  obtain ⟨oc, od, dV, kV, doc, pm, an, cdv, ct, osl, rfl, lk, hcd, hD, hK⟩ := FD.ex
  rcases hD with ⟨_, rfl⟩ | ⟨z, _⟩
  · refine PE.imp (pe_mek (n := fs.length) (g := g) (gV := g) M F hr (fun s a ws hw => .of_eq (hb kV doc pm an cdv ct a ws hw)) hgv pass0 hg hmg ha hall hks hdb hpl) fun σ H Q q => hm σ H _ _ (fun vs H1 q1 => ?_) q
    exact ⟨q1.1, err_step (hl _ q1.1) q1.2⟩
  · exact absurd rfl z
/-- an error class without an own __init__, called with nothing -/
structure ErrN (K : PySem.W.Frag) (mg : Str → Option Value) (x : Str) : Prop where
  mgx : mg x = some (.ref (He.ga K x))
  q : PySem.W.excIn K (He.ga K x) rowV "ValueError.__new__" = true
  kC : PySem.W.keepIn K (.ref (He.ga K x)) = true
def tErrN (x : Str) (K : PySem.W.Frag) : TE := fun _ H Q => ∀ e H', H e = none → Same H H' → ErrAt H' e (He.ga K x) [] → Q (.ref e) H'
theorem pe_errN (c : ErrN X.K X.mg x) (hg : Gl X x := by rfl) (hdb : (x == ("__debug__" : Str)) = false := by decide) : PE X (.Call (.Name x p) [] [] pos) (tErrN x X.K) := by
  refine ⟨fun pins s σ H Q I h => ?_⟩
  refine wpAny_Call_Name_kw (ld_glob I hg c.mgx ?_ hdb)
  refine PySem.W.callWith_K0 I.kIn c.kC ?_
  obtain ⟨bm, N, nm, qn, bs, hdct, sn, sub, ab, col, dd, k0, k1, k2, k3, k5, mN, hC, hN, hni, T⟩ := exc_obj I.kIn c.q
  obtain ⟨hp, g, dr, tk, os⟩ := s
  refine wpAny_call_exc_subT PySem.F.excBase_ValueError T hC hN hni (fun h' a hm => ?_) (Nat.zero_le _)
  have hn : H a = none := I.hok.gone hm.new
  obtain ⟨t, ht, _, _⟩ := hm.there
  exact ⟨.ref a, upd H a (exo a (He.ga X.K x) none), I.laidN hm.keeps hm.new hn (exo_ok ht), rfl, h a _ hn (Same.new hn) (.inl ⟨rfl, upd_same⟩)⟩
end
end Np

set_option Elab.async false
set_option linter.all false
set_option maxRecDepth 100000
set_option maxHeartbeats 4000000
namespace Np
open PySem PySem.Spec PyProof.Rows L2
/-- data that repr tells: at most dep deep, its text at most len long -/
structure Good (dep len : Nat) (d : PyData) : Prop where
  s : d.showable = true
  n : d.hasDict = false
  dp : d.depth ≤ dep
  l : d.shown.length ≤ len
theorem Good.mono {a b m n : Nat} {d : PyData} (h : Good a m d) (h1 : a ≤ b) (h2 : m ≤ n) : Good b n d := ⟨h.s, h.n, Nat.le_trans h.dp h1, Nat.le_trans h.l h2⟩
theorem all_good {k L : Nat} : ∀ {ds : List PyData}, (∀ d ∈ ds, Good k L d) → PyData.showableAll ds = true ∧ PyData.hasDictAll ds = false ∧ PyData.depthAll ds ≤ k ∧ (PyData.shownAll ds).length = ds.length ∧ ((PyData.shownAll ds).map (·.length)).sum ≤ L * ds.length
  | [], _ => ⟨rfl, rfl, Nat.zero_le _, rfl, Nat.zero_le _⟩
  | d :: ds, h => by
    obtain ⟨h1, h2, h3, h4, h5⟩ := all_good (ds := ds) fun e he => h e (List.mem_cons_of_mem _ he)
    have g := h d List.mem_cons_self
    refine ⟨?_, ?_, ?_, ?_, ?_⟩
    · simp only [PyData.showableAll, g.s, h1, Bool.and_self]
    · simp only [PyData.hasDictAll, g.n, h2, Bool.or_self]
    · simp only [PyData.depthAll]
      exact Nat.max_le.mpr ⟨g.dp, h3⟩
    · simp only [PyData.shownAll, List.length_cons, h4]
    · simp only [PyData.shownAll, List.map_cons, List.sum_cons, List.length_cons]
      have := g.l
      rw [Nat.mul_succ]
      omega
theorem good_list {k L : Nat} {ds : List PyData} (h : ∀ d ∈ ds, Good k L d) : Good (k + 1) ((L + 2) * ds.length + 3) (.list ds) := by
  obtain ⟨h1, h2, h3, h4, h5⟩ := all_good h
  refine ⟨by simpa only [PyData.showable] using h1, by simpa only [PyData.hasDict] using h2, by simp only [PyData.depth]; omega, ?_⟩
  simp only [PyData.shown]
  have e := listText_len_le (PyData.shownAll ds)
  rw [h4] at e
  rw [Nat.add_mul]
  omega
theorem good_tuple {k L : Nat} {ds : List PyData} (h : ∀ d ∈ ds, Good k L d) : Good (k + 1) ((L + 2) * ds.length + 3) (.tuple ds) := by
  obtain ⟨h1, h2, h3, h4, h5⟩ := all_good h
  refine ⟨by simpa only [PyData.showable] using h1, by simpa only [PyData.hasDict] using h2, by simp only [PyData.depth]; omega, ?_⟩
  simp only [PyData.shown]
  have e := tupleText_len_le (PyData.shownAll ds)
  rw [h4] at e
  rw [Nat.add_mul]
  omega
theorem good_int {i : Int} {n : Nat} (hn : 0 < n) (hm : n ≤ 1920) (h : i.natAbs.log2 < n) : Good 0 (n + 1) (.int i) := by
  refine ⟨by simp only [PyData.showable]; exact decide_eq_true (by omega), by simp only [PyData.hasDict], by simp only [PyData.depth]; omega, ?_⟩
  simp only [PyData.shown]
  have e := int_text_length_le hn h
  rw [PySem.ofString_length]
  exact e
theorem good_str {x : Str} {n : Nat} (hl : x.length ≤ n) (h : ∀ c ∈ x.cps.toList, c < 16 ^ 8) : Good 0 (10 * n + 2) (.str x) := by
  refine ⟨by simp only [PyData.showable], by simp only [PyData.hasDict], by simp only [PyData.depth]; omega, ?_⟩
  simp only [PyData.shown]
  have e := StrLaws.reprText_len x h
  omega
theorem good_non : Good 0 4 .none := ⟨by simp only [PyData.showable], by simp only [PyData.hasDict], by simp only [PyData.depth]; omega, by simp only [PyData.shown]; decide⟩
theorem good_bool (b : Bool) : Good 0 5 (.bool b) := ⟨by simp only [PyData.showable], by simp only [PyData.hasDict], by simp only [PyData.depth]; omega, by cases b <;> simp only [PyData.shown] <;> decide⟩
/-- a value that repr tells -/
def Tells (K : PySem.W.Frag) (H : Hp) (k L : Nat) (v : V) : Prop := ∃ d, Dp K H v d ∧ Good k L d
theorem tells_all {K : PySem.W.Frag} {H : Hp} {k L : Nat} : ∀ {vs : List V}, (∀ v ∈ vs, Tells K H k L v) → ∃ ds, DpAll K H vs ds ∧ ds.length = vs.length ∧ ∀ d ∈ ds, Good k L d
  | [], _ => ⟨[], .nil, rfl, fun _ h => nomatch h⟩
  | v :: vs, h => by
    obtain ⟨d, h1, h2⟩ := h v List.mem_cons_self
    obtain ⟨ds, h3, h4, h5⟩ := tells_all (vs := vs) fun u hu => h u (List.mem_cons_of_mem _ hu)
    refine ⟨d :: ds, .cons h1 h3, congrArg Nat.succ h4, fun e he => ?_⟩
    rcases List.mem_cons.mp he with rfl | he
    · exact h2
    · exact h5 e he
theorem Tells.mono {K : PySem.W.Frag} {H : Hp} {a b m n : Nat} {v : V} (h : Tells K H a m v) (h1 : a ≤ b) (h2 : m ≤ n) : Tells K H b n v := let ⟨d, p, g⟩ := h; ⟨d, p, g.mono h1 h2⟩
theorem tells_list {K : PySem.W.Frag} {H : Hp} {k L : Nat} {p : Addr} {vs : List V} (hp : SqL K H p vs) (h : ∀ v ∈ vs, Tells K H k L v) : Tells K H (k + 1) ((L + 2) * vs.length + 3) (.ref p) := by
  obtain ⟨ds, h1, h2, h3⟩ := tells_all h
  exact ⟨.list ds, .lst hp h1, h2 ▸ good_list h3⟩
theorem tells_tuple {K : PySem.W.Frag} {H : Hp} {k L : Nat} {p : Addr} {vs : List V} (hp : SqT K H p vs) (h : ∀ v ∈ vs, Tells K H k L v) : Tells K H (k + 1) ((L + 2) * vs.length + 3) (.ref p) := by
  obtain ⟨ds, h1, h2, h3⟩ := tells_all h
  exact ⟨.tuple ds, .tup hp h1, h2 ▸ good_tuple h3⟩
/-- what repr asks of a list of such values -/
theorem tells_vals {K : PySem.W.Frag} {H : Hp} {k L : Nat} {vs : List V} (h : ∀ v ∈ vs, Tells K H k L v) (hk : k ≤ 29) (hz : (L + 2) * vs.length + 3 ≤ sizeLine) :
    ∃ ds, DpAll K H vs ds ∧ (PyData.list ds).showable = true ∧ (PyData.list ds).hasDict = false ∧ (PyData.list ds).depth ≤ 30 ∧ (PyData.list ds).shown.length ≤ sizeLine := by
  obtain ⟨ds, h1, h2, h3⟩ := tells_all h
  have g := good_list h3
  rw [h2] at g
  exact ⟨ds, h1, g.s, g.n, Nat.le_trans g.dp (by omega), Nat.le_trans g.l hz⟩
end Np

set_option Elab.async false
set_option linter.all false
set_option maxRecDepth 100000
set_option maxHeartbeats 4000000
namespace Np
open PySem PySem.Spec PyProof.Rows L2
/-! ### a list held against an empty one: no item is asked -/
def rNeE (K : PySem.W.Frag) : R2 := fun x y H Q => ∃ a b xs, x = .ref a ∧ y = .ref b ∧ SqL K H a xs ∧ SqL K H b [] ∧ Q (.bl (!xs.isEmpty)) H
def rEqE (K : PySem.W.Frag) : R2 := fun x y H Q => ∃ a b xs, x = .ref a ∧ y = .ref b ∧ SqL K H a xs ∧ SqL K H b [] ∧ Q (.bl xs.isEmpty) H
section
variable {X : Cx}
theorem op_neE (hu : X.A.units + 64 < cLine) : OpR X (compareOp .NotEq) (rNeE X.K) := by
  intro pins s σ H x y v u Q I rx ry h
  obtain ⟨a, b, xs, rfl, rfl, ha, hb, q⟩ := h
  cases rx
  cases ry
  obtain ⟨its, rv, ⟨o, n, ho, hc, _, hd⟩, _⟩ := I.list ha
  obtain ⟨its2, rv2, ⟨o2, n2, ho2, hc2, _, hd2⟩, _⟩ := I.list hb
  cases rv2
  have e := rv.length
  have la : s.heap.IsList a its.toArray := ⟨o, ho, hc, n, hd⟩
  have lb : s.heap.IsList b ([] : List Value).toArray := ⟨o2, ho2, hc2, n2, hd2⟩
  cases xs with
  | nil =>
    cases rv
    exact SeqAt.RcNeAt.lists (e := fun _ => true) la lb rfl (by omega) (fun j h1 _ => absurd h1 (by simp)) _ _ _ _ ⟨.bl _, H, I, rfl, q⟩
  | cons z zs =>
    cases rv with
    | cons r1 r2 => exact SeqAt.RcNeAt.lists_lengths la lb (by simp) (by omega) _ _ _ _ ⟨.bl _, H, I, rfl, q⟩
theorem op_eqE (hu : X.A.units + 64 < cLine) : OpR X (compareOp .Eq) (rEqE X.K) := by
  intro pins s σ H x y v u Q I rx ry h
  obtain ⟨a, b, xs, rfl, rfl, ha, hb, q⟩ := h
  cases rx
  cases ry
  obtain ⟨its, rv, ⟨o, n, ho, hc, _, hd⟩, _⟩ := I.list ha
  obtain ⟨its2, rv2, ⟨o2, n2, ho2, hc2, _, hd2⟩, _⟩ := I.list hb
  cases rv2
  have e := rv.length
  have la : s.heap.IsList a its.toArray := ⟨o, ho, hc, n, hd⟩
  have lb : s.heap.IsList b ([] : List Value).toArray := ⟨o2, ho2, hc2, n2, hd2⟩
  cases xs with
  | nil =>
    cases rv
    exact SeqAt.eq_listAt (e := fun _ => true) la lb rfl (by omega) (fun j h1 _ => absurd h1 (by simp)) ⟨.bl _, H, I, rfl, q⟩
  | cons z zs =>
    cases rv with
    | cons r1 r2 => exact SeqAt.eq_list_lengthsAt la lb (by simp) (by omega) ⟨.bl _, H, I, rfl, q⟩
end
end Np

set_option Elab.async false
set_option linter.all false
set_option maxRecDepth 100000
set_option maxHeartbeats 4000000
namespace Np
open PySem PySem.Spec PyProof.Rows L2 TL
/-! ### names -/
structure RightName (t : Str) : Prop where
  pos : 1 ≤ t.length
  le : t.length ≤ 6
  low : ∀ c ∈ tl t, 97 ≤ c ∧ c < 123
def sgn (c : Nat) : Str := ⟨#[c]⟩
theorem tl_sgn (c : Nat) : tl (sgn c) = [c] := rfl
theorem cutV_take (xs : List V) (n : Nat) : cutV xs none (some (n : Int)) = xs.take n := by
  unfold cutV
  rw [HT.sIx_none, HT.sIx_nat]
  simp only [List.drop_zero, Nat.sub_zero]
  by_cases h : n ≤ xs.length
  · rw [Nat.min_eq_left h]
  · rw [Nat.min_eq_right (by omega), List.take_length, List.take_of_length_le (by omega)]
theorem cutV_drop (xs : List V) (n : Nat) : cutV xs (some (n : Int)) none = xs.drop n := by
  unfold cutV
  rw [HT.sIx_none, HT.sIx_nat]
  by_cases h : n ≤ xs.length
  · rw [Nat.min_eq_left h, List.take_of_length_le (by rw [List.length_drop]; omega)]
  · rw [Nat.min_eq_right (by omega), List.drop_length, List.take_nil, List.drop_eq_nil_of_le (by omega)]
theorem tl_len (t : Str) : (tl t).length = t.length := rfl
theorem str_app (a b : Str) : (a ++ b).length = a.length + b.length := by
  rw [← tl_len, tl_append, List.length_append]
  rfl
theorem tl_take (z : Str) (n : Nat) : tl (cutS z none (some (n : Int))) = (tl z).take n := by
  show ((z.cps.toList.drop (HT.sIx z.length 0 none)).take (HT.sIx z.length z.length (some (n : Int)) - HT.sIx z.length 0 none)).toArray.toList = _
  rw [HT.sIx_none, HT.sIx_nat]
  simp only [List.drop_zero, Nat.sub_zero, List.toList_toArray]
  have e : z.length = (tl z).length := rfl
  by_cases h : n ≤ z.length
  · rw [Nat.min_eq_left h]
  · rw [Nat.min_eq_right (by omega), e, List.take_length, List.take_of_length_le (by omega)]
theorem tl_drop (z : Str) (n : Nat) : tl (cutS z (some (n : Int)) none) = (tl z).drop n := by
  show ((z.cps.toList.drop (HT.sIx z.length 0 (some (n : Int)))).take (HT.sIx z.length z.length none - HT.sIx z.length 0 (some (n : Int)))).toArray.toList = _
  rw [HT.sIx_none, HT.sIx_nat]
  simp only [List.toList_toArray]
  have e : z.length = (tl z).length := rfl
  by_cases h : n ≤ z.length
  · rw [Nat.min_eq_left h, List.take_of_length_le (by rw [List.length_drop, ← e]; exact Nat.le_refl _)]
  · rw [Nat.min_eq_right (by omega), e, List.drop_length, List.take_nil, List.drop_eq_nil_of_le (by omega)]
/-- a name with a sign put in at a place -/
def nmB (S : Str) (sp c : Nat) : Str := cutS S none (some (sp : Int)) ++ sgn c ++ cutS S (some (sp : Int)) none
theorem tl_nmB (S : Str) (sp c : Nat) : tl (nmB S sp c) = (tl S).take sp ++ ([c] ++ (tl S).drop sp) := by
  unfold nmB
  rw [tl_append, tl_append, tl_take, tl_drop, tl_sgn, List.append_assoc]
theorem nmB_len (S : Str) (sp c : Nat) : (nmB S sp c).length = S.length + 1 := by
  rw [← tl_len, tl_nmB]
  have e := congrArg List.length (List.take_append_drop sp (tl S))
  simp only [List.length_append, List.length_singleton, tl_len] at e ⊢
  omega
theorem nmB_at {S : Str} {sp : Nat} (h : sp ≤ S.length) (c : Nat) : (tl (nmB S sp c))[sp]? = some c := by
  have e : ((tl S).take sp).length = sp := by rw [List.length_take, tl_len]; omega
  rw [tl_nmB, List.getElem?_append_right (by omega), e, Nat.sub_self]
  rfl
theorem nmB_low {S : Str} {sp c : Nat} (h : ∀ d ∈ tl S, 97 ≤ d ∧ d < 123) (hc : 97 ≤ c ∧ c < 123) : ∀ d ∈ tl (nmB S sp c), 97 ≤ d ∧ d < 123 := by
  intro d hd
  rw [tl_nmB] at hd
  rcases List.mem_append.mp hd with h1 | h1
  · exact h d (List.mem_of_mem_take h1)
  · rcases List.mem_append.mp h1 with h2 | h2
    · cases List.mem_singleton.mp h2
      exact hc
    · exact h d (List.mem_of_mem_drop h2)
/-- the sign of a turn -/
def sg (first k : Nat) : Nat := 97 + (first + 7 * k) % 26
theorem sg_low (first k : Nat) : 97 ≤ sg first k ∧ sg first k < 123 := by
  unfold sg
  omega
theorem sg_inj {first i j : Nat} (hi : i < 26) (hj : j < 26) (h : sg first i = sg first j) : i = j := by
  unfold sg at h
  omega
/-- the names of the drawn form -/
def nm (o : Bool) (S : Str) (sp first k : Nat) : Str := if o = true ∧ k % 2 = 1 then nmB S sp (sg first (k - 1)) ++ sgn (sg first k) else nmB S sp (sg first k)
theorem nm_right {o : Bool} {S : Str} {sp first k : Nat} (hl : S.length ≤ if o = true then 4 else 5) (h : ∀ d ∈ tl S, 97 ≤ d ∧ d < 123) : RightName (nm o S sp first k) := by
  unfold nm
  split
  · rename_i c
    rw [if_pos c.1] at hl
    have e : (nmB S sp (sg first (k - 1)) ++ sgn (sg first k)).length = S.length + 2 := by
      rw [← tl_len, tl_append, List.length_append, tl_len, nmB_len]
      rfl
    refine ⟨by omega, by omega, fun d hd => ?_⟩
    rw [tl_append] at hd
    rcases List.mem_append.mp hd with h1 | h1
    · exact nmB_low h (sg_low _ _) d h1
    · cases List.mem_singleton.mp h1
      exact sg_low _ _
  · have hl : S.length ≤ 5 := by
      split at hl <;> omega
    exact ⟨by rw [nmB_len]; omega, by rw [nmB_len]; omega, nmB_low h (sg_low _ _)⟩
theorem nm_inj {o : Bool} {S : Str} {sp first i j : Nat} (hs : sp ≤ S.length) (hi : i < 26) (hj : j < 26) (h : nm o S sp first i = nm o S sp first j) : i = j := by
  have at_app : ∀ (c d : Nat), (tl (nmB S sp c ++ sgn d))[sp]? = some c := fun c d => by
    rw [tl_append, List.getElem?_append_left (by rw [tl_len, nmB_len]; omega)]
    exact nmB_at hs c
  have len_app : ∀ (c d : Nat), (nmB S sp c ++ sgn d).length = S.length + 2 := fun c d => by
    rw [← tl_len, tl_append, List.length_append, tl_len, nmB_len]
    rfl
  unfold nm at h
  split at h
  · rename_i c1
    split at h
    · rename_i c2
      have e := congrArg (fun t => (tl t)[sp]?) h
      simp only [at_app] at e
      have e2 := sg_inj (by omega) (by omega) (Option.some.inj e)
      omega
    · have e := congrArg Str.length h
      rw [len_app, nmB_len] at e
      omega
  · split at h
    · have e := congrArg Str.length h
      rw [len_app, nmB_len] at e
      omega
    · have e := congrArg (fun t => (tl t)[sp]?) h
      simp only [nmB_at hs] at e
      exact sg_inj hi hj (Option.some.inj e)
def nms (o : Bool) (S : Str) (sp first n : Nat) : List Str := (List.range n).map (nm o S sp first)
theorem nms_succ (o : Bool) (S : Str) (sp first n : Nat) : nms o S sp first (n + 1) = nms o S sp first n ++ [nm o S sp first n] := by
  simp [nms, List.range_succ]
theorem nms_len (o : Bool) (S : Str) (sp first n : Nat) : (nms o S sp first n).length = n := by simp [nms]
theorem nms_nodup {o : Bool} {S : Str} {sp first n : Nat} (hs : sp ≤ S.length) (hn : n ≤ 26) : (nms o S sp first n).Nodup := by
  refine (List.nodup_iff_pairwise_ne.mp List.nodup_range).imp_of_mem ?_ |>.map _ (fun _ _ h => h)
  intro a b ha hb ne e
  exact ne (nm_inj hs (by have := List.mem_range.mp ha; omega) (by have := List.mem_range.mp hb; omega) e)
/-- an order of values that are strings -/
theorem perm_strs {zs : List V} {ns : List Str} (h : zs.Perm (ns.map V.str)) : ∃ ms : List Str, zs = ms.map V.str ∧ ms.Perm ns := by
  let un : V → Str := fun v => match v with | .str s => s | _ => ""
  refine ⟨zs.map un, ?_, ?_⟩
  · rw [List.map_map]
    refine (List.map_id zs).symm.trans (List.map_congr_left fun v hv => ?_)
    obtain ⟨s, _, rfl⟩ := List.mem_map.mp (h.subset hv)
    rfl
  · have e := h.map un
    rw [List.map_map] at e
    have e2 : ns.map (un ∘ V.str) = ns := List.map_id ns
    rw [e2] at e
    exact e
def wordsL : List Str := ["peg", "needs", "bars", "enter", "leave", "walk", "obey", "gather", "undo", "best", "show", "table"]
def rightB (t : Str) : Bool := decide (1 ≤ t.length) && decide (t.length ≤ 6) && (tl t).all fun c => decide (97 ≤ c) && decide (c < 123)
theorem right_of {t : Str} (h : rightB t = true) : RightName t := by
  unfold rightB at h
  simp only [Bool.and_eq_true, decide_eq_true_eq, List.all_eq_true] at h
  exact ⟨h.1.1, h.1.2, fun c hc => h.2 c hc⟩
theorem wordsL_right : ∀ t ∈ wordsL, RightName t := fun t ht => right_of ((List.all_eq_true.mp (show wordsL.all rightB = true by decide +kernel)) t ht)
theorem wordsL_nodup : wordsL.Nodup := by decide +kernel
end Np

set_option Elab.async false
set_option linter.all false
set_option maxRecDepth 100000
set_option maxHeartbeats 4000000
namespace Np
open PySem PySem.Spec PyProof.Rows L2 Builtin
/-! ### enumerate(tuple) -/
theorem meets_enumerate_newT {v : Value} {o : Obj} {H : Heap → Prop} (B : Begins v o H) :
    Meets (Builtin.«enumerate.__new__» ⟨[.type "enumerate", v], []⟩) (fun _ R s => H s.heap ∧
      R (.ok (.ret (.ref (s.heap.push o).objs.size))) { s with heap := (s.heap.push o).push { cls := .type "enumerate", data := .fields #[.none, .bool false, .ref s.heap.objs.size, rawInt 0, .none, .none] } }) :=
  .of_wp fun prog w A R s h => by
    obtain ⟨hp, g, d, tk, os⟩ := s; obtain ⟨h1, h⟩ := h
    have hsub := sub_enumerate
    have q1 : ∀ {A' : Around} {E : Value → Shared → Prop} {Q : Value → Shared → Prop}, Q (.ref hp.objs.size) ⟨hp.push o, g, d, tk, os⟩ → wpAny (model prog w) A' (pyIter v) Q E ⟨hp, g, d, tk, os⟩ :=
      fun q => B.iter prog w _ _ ⟨hp, g, d, tk, os⟩ _ h1 q
    wp_walk using q1
    refine wpAny_stack_any fun st => wpAny_pure ?_
    split
    · rename_i c _ _ _ _ _
      cases (c == Value.type "enumerate")
      · wp_walk using q1
        exact ⟨_, rfl, h⟩
      · wp_walk using q1
        exact ⟨_, rfl, h⟩
    · wp_walk using q1
      exact ⟨_, rfl, h⟩
theorem call_enumerate_tuple {prog : Program} {w : World} {A : Around} {E : Value → Shared → Prop} {s : Shared} {l : Addr} {items : Array Value} {Q : Value → Shared → Prop} (hL : s.heap.IsTuple l items)
    (h : ∀ h', IsEnum h' (s.heap.objs.size + 1) s.heap.objs.size 0 .none → h'.IsTupleIter s.heap.objs.size l 0 → h'.objs.size = s.heap.objs.size + 2 →
      (∀ b o, s.heap.get? b = some o → h'.get? b = some o) → Q (.ref (s.heap.objs.size + 1)) { s with heap := h' }) :
    wpAny (model prog w) A (call (.type "enumerate") [.ref l]) Q E s := by
  refine callType_new F.called_enumerate (by decide) (F.typeCall_enumerate_1 _) (F.newCall_enumerate_1 _) (fun obj => F.args_object_init_2 obj _) F.entry_enumerate_new
    (meets_enumerate_newT (begins_tuple l items)) ⟨hL, ?_⟩
  have hz : (s.heap.push { cls := .type "tuple_iterator", data := .fields #[.ref l, .int 0 0] }).objs.size = s.heap.objs.size + 1 := Heap.size_push ..
  show _ ∧ _
  rw [hz]
  have he : IsEnum ((s.heap.push { cls := .type "tuple_iterator", data := .fields #[.ref l, .int 0 0] }).push
      { cls := .type "enumerate", data := .fields #[.none, .bool false, .ref s.heap.objs.size, rawInt 0, .none, .none] }) (s.heap.objs.size + 1) s.heap.objs.size 0 .none := by
    have := Heap.get?_push_size (s.heap.push { cls := .type "tuple_iterator", data := .fields #[.ref l, .int 0 0] })
      (o := { cls := .type "enumerate", data := .fields #[.none, .bool false, .ref s.heap.objs.size, rawInt 0, .none, .none] }) rfl
    rw [hz] at this; exact this
  refine ⟨⟨_, he, rfl⟩, h _ he ⟨_, Heap.get?_push_of_some _ (Heap.get?_push_size _ rfl), rfl, rfl⟩ (by rw [Heap.size_push, hz]) fun b o x => Heap.get?_push_of_some _ (Heap.get?_push_of_some _ x)⟩
/-- the items of the tuple at a, each in a new pair -/
def IteT (K : PySem.W.Frag) (a : Addr) : It :=
  ⟨fun i H => ∃ (xs : List V) (x : V), SqT K H a xs ∧ xs[i]? = some x, fun i H v H' => ∃ T x, v = .ref T ∧ H T = none ∧ H' = upd H T (.tup [.int (i : Nat), x]) ∧ ∀ xs, SqT K H a xs → xs[i]? = some x, fun i H => ∃ xs : List V, SqT K H a xs ∧ xs.length = i⟩
theorem turn_enumT {P : Program} {w : World} {K : PySem.W.Frag} {elts : List Expr} {kk : Nat} {tpos : Pos} (a e it : Addr) :
    Turn P w K (.Tuple elts kk tpos) (IteT K a) [e, it] e (fun i h => (∃ old, IsEnum h e it ((i : Nat) : Int) old) ∧ h.IsTupleIter it a i ∧ e ≠ it) where
  mem := by simp
  obj := fun i h st b hb => by
    obtain ⟨⟨old, he⟩, ⟨o, ho, hc, hd⟩, _⟩ := st
    have e' : b = e ∨ b = it := by simpa using hb
    rcases e' with z | z
    · rw [z]; exact ⟨_, he, fun v q => nomatch q⟩
    · rw [z]; exact ⟨o, ho, fun v q => by rw [hd] at q; cases q⟩
  keep := fun i h h' st k => let ⟨⟨old, he⟩, hi, hne⟩ := st; ⟨⟨old, k e (by simp) _ he⟩, hi.at fun o q => k it (by simp) o q, hne⟩
  item := by
    intro X hP hw hK hc i pins s σ H E I hf st hg
    subst hP hw hK
    obtain ⟨⟨old, he⟩, hit, hne⟩ := st
    obtain ⟨xs, x, hq, hx⟩ := hg
    obtain ⟨its, rv, p, hz⟩ := I.tuple hq
    obtain ⟨u, hu, ru⟩ := rv.get hx
    have pt : s.heap.IsTuple a its.toArray := p
    have hel : e < s.heap.objs.size := Heap.lt_size he
    have hil : it < s.heap.objs.size := by obtain ⟨_, q, _⟩ := hit; exact Heap.lt_size q
    have hai : a ≠ it := by
      rintro rfl
      obtain ⟨o1, q1, c1, _⟩ := hit
      obtain ⟨o2, q2, c2, _⟩ := pt
      rw [q1] at q2
      cases q2
      rw [c1] at c2
      exact absurd (Value.type.inj c2) (by decide)
    have hae : e ≠ a := by
      rintro rfl
      obtain ⟨o2, q2, c2, _⟩ := pt
      rw [show s.heap.get? e = some _ from he] at q2
      cases q2
      exact absurd (Value.type.inj c2) (by decide)
    have D := Draws.tuple (prog := X.prog) (w := X.w) (A := X.A.in1) (show X.A.in1.handled = none from I.ok.hd hc) it a hai its.toArray
    have hlt : i < its.toArray.size := by
      rw [List.size_toArray]
      exact (List.getElem?_eq_some_iff.mp hu).1
    refine wpAny_pyNext_enum_itemD D he ⟨hit, pt⟩ hlt hne (by simp [hne, hae]) fun x' h' tk hP ho hit' hT hsz hk => ?_
    obtain rfl : x' = u := by
      have hP' : its.toArray[i]? = some x' := hP
      rw [← Array.getElem?_toList] at hP'
      have : its[i]? = some x' := hP'
      rw [hu] at this
      exact (Option.some.inj this).symm
    refine ⟨_, rfl, wpAny_letOwnedTupleGo_enum (s := { s with heap := h', toks := tk + 1 }) ho fun h'' he' sb => ?_⟩
    have hT2 : h''.get? s.heap.objs.size = some { cls := .type "tuple", data := .seq #[.int i tk, x'] } := (sb.2 _ (Nat.ne_of_gt hel)).trans hT
    have new : ObjOk X.prog X.w (upd H s.heap.objs.size (.tup [.int (i : Nat), x])) h'' s.heap.objs.size (.tup [.int (i : Nat), x]) :=
      ⟨by show 2 ≤ sizeLine; decide, [.int i tk, x'], .cons ⟨_, rfl⟩ (.cons ru .nil), ⟨_, hT2, rfl, _, rfl⟩⟩
    have I1 : Inv X pins σ (upd H s.heap.objs.size (.tup [.int (i : Nat), x])) { s with heap := h'', toks := tk + 1 } :=
      I.turnedNew (ch := [e, it]) (fun b ob hb q => (sb.2 b (fun z => hb (by simp [z]))).trans (hk b ob (fun z => hb (by simp [z])) (fun z => hb (by simp [z])) q)) hf (Nat.le_refl _) new
    refine ⟨.ref s.heap.objs.size, _, I1, rfl, ⟨_, x, rfl, I.hok.fresh (Nat.le_refl _), rfl, fun ys hy => by rw [I.tuple_inj hy hq]; exact hx⟩, ⟨⟨x', ?_⟩, hit'.1.at fun o q => (sb.2 it (Ne.symm hne)).trans q, hne⟩, fun b hb => ?_⟩
    · have e1 : ((i + 1 : Nat) : Int) = (i : Int) + 1 := by omega
      rw [e1]; exact he'
    · have hb' : b < s.heap.objs.size := by
        have e' : b = e ∨ b = it := by simpa using hb
        rcases e' with z | z
        · rw [z]; exact hel
        · rw [z]; exact hil
      rw [upd_ne (Nat.ne_of_lt hb')]
      exact (hf b hb).1
  done := by
    intro X hP hw hK hc i pins s σ H E I hf st hg
    subst hP hw hK
    obtain ⟨⟨old, he⟩, hit, hne⟩ := st
    obtain ⟨xs, hq, hx⟩ := hg
    obtain ⟨its, rv, p, hz⟩ := I.tuple hq
    have pt : s.heap.IsTuple a its.toArray := p
    obtain ⟨f0, f1, f2, f3, f4, f5⟩ := hf it (by simp)
    have hl := rv.length
    have hai : a ≠ it := by
      rintro rfl
      obtain ⟨o1, q1, c1, _⟩ := hit
      obtain ⟨o2, q2, c2, _⟩ := pt
      rw [q1] at q2
      cases q2
      rw [c1] at c2
      exact absurd (Value.type.inj c2) (by decide)
    have D := Draws.tuple (prog := X.prog) (w := X.w) (A := X.A.in1) (show X.A.in1.handled = none from I.ok.hd hc) it a hai its.toArray
    have hn : its.toArray.size = i := by rw [List.size_toArray]; omega
    exact wpAny_pyNext_enum_endD D he (by rw [hn]; exact ⟨hit, pt⟩) fun h' eb => ⟨rfl, I.turned (t' := s.toks) (fun b o hb q => eb b o hb q) f0 f1 f3 f4 f5⟩
  self := fun A i s Q E st h => let ⟨⟨_, he⟩, _⟩ := st; wpAny_pyIter_enum he h
/-! ### a list or a tuple, t tells which -/
def SqB (K : PySem.W.Frag) (t : Bool) (H : Hp) (a : Addr) (xs : List V) : Prop := match t with | true => SqL K H a xs | false => SqT K H a xs
def Itb (K : PySem.W.Frag) (t : Bool) (a : Addr) : It := match t with | true => Itl K a | false => Itt K a
def IteB (K : PySem.W.Frag) (t : Bool) (a : Addr) : It := match t with | true => Ite K a | false => IteT K a
theorem SqB.or {K : PySem.W.Frag} {t : Bool} {H : Hp} {a : Addr} {xs : List V} (h : SqB K t H a xs) : SqL K H a xs ∨ SqT K H a xs := by
  cases t
  · exact .inr h
  · exact .inl h
theorem SqB.same {K : PySem.W.Frag} {t : Bool} {H H' : Hp} {a : Addr} {xs : List V} (h : SqB K t H a xs) (s : Same H H') : SqB K t H' a xs := by
  cases t
  · rcases (show SqT K H a xs from h) with (h | ⟨o, h⟩) | ⟨o, its, n, h⟩
    · exact .inl (.inl (s _ _ h))
    · exact .inl (.inr ⟨o, s _ _ h⟩)
    · exact .inr ⟨o, its, n, h⟩
  · exact Same.seq s h
def iSq (K : PySem.W.Frag) (te : TE) : TI := fun σ H R => te σ H fun x H1 => ∃ t a xs, x = .ref a ∧ SqB K t H1 a xs ∧ R (Itb K t a) H1
def iEnumB (K : PySem.W.Frag) (ta : TA) : TI := fun σ H R => ta σ H fun vs H1 => ∃ t a xs, vs = [.ref a] ∧ SqB K t H1 a xs ∧ R (IteB K t a) H1
theorem pi_sq {X : Cx} {tg l : Expr} {tl : TE} (hl : PE X l tl) : PI X tg l (iSq X.K tl) := by
  refine ⟨fun pins s σ H R I h => ?_⟩
  refine thn (hl.run pins s σ H _ I h) fun v s1 ⟨x, H1, I1, r1, q1⟩ => ?_
  obtain ⟨t, a, xs, e, hq, q⟩ := q1
  subst e
  cases r1
  cases t with
  | true =>
    obtain ⟨its, rv, p, hz⟩ := I1.list hq
    refine wpAny_pyIter_list p.isList ?_
    refine ⟨s1.heap.objs.size, [s1.heap.objs.size], _, _, H1, rfl, I1.kept (t' := s1.toks) fun b o e => Heap.get?_push_of_some _ e, turn_list a _, ⟨_, Heap.get?_push_size _ rfl, rfl, rfl⟩, fun b hb => ?_, q⟩
    have e : b = s1.heap.objs.size := by simpa using hb
    subst e
    exact I1.fpOk (Nat.le_refl _) (I1.hok.fresh (Nat.le_refl _))
  | false =>
    obtain ⟨its, rv, p, hz⟩ := I1.tuple hq
    refine wpAny_pyIter_tuple (show s1.heap.IsTuple a its.toArray from p) ?_
    refine ⟨s1.heap.objs.size, [s1.heap.objs.size], _, _, H1, rfl, I1.kept (t' := s1.toks) fun b o e => Heap.get?_push_of_some _ e, turn_tuple a _, ⟨_, Heap.get?_push_size _ rfl, rfl, rfl⟩, fun b hb => ?_, q⟩
    have e : b = s1.heap.objs.size := by simpa using hb
    subst e
    exact I1.fpOk (Nat.le_refl _) (I1.hok.fresh (Nat.le_refl _))
theorem pi_enumB {X : Cx} {e : Expr} {ta : TA} {p pos tpos : Pos} {elts : List Expr} {kk : Nat} (hg : Gl X "enumerate") (hm : X.mg "enumerate" = none) (ha : PA X [e] ta) (hs : starEach [e] X.env = [(false, eval e X.env)] := by rfl) :
    PI X (.Tuple elts kk tpos) (.Call (.Name "enumerate" p) [e] [] pos) (iEnumB X.K ta) := by
  refine ⟨fun pins s σ H R I h => ?_⟩
  refine Call_ (ld_blt I hg hm boot_enumerate (PyProof.Rows.callWith_type1 (thn (ha.run pos pins s σ H _ I h) fun us s1 ⟨vs, H1, I1, r1, q1⟩ => ?_) hs rfl))
  obtain ⟨t, a, xs, ex, hq, q⟩ := q1
  subst ex
  cases r1 with
  | cons r rr =>
    cases rr
    cases r
    cases t with
    | true =>
      obtain ⟨its, rv, p', hz⟩ := I1.list hq
      refine call_enumerate_list p'.isList fun h' he hit hsz hk => wpAny_pyIter_enum he ?_
      have I2 : Inv X pins σ H1 { s1 with heap := h' } := I1.kept (t' := s1.toks) hk
      refine ⟨s1.heap.objs.size + 1, [s1.heap.objs.size + 1, s1.heap.objs.size], _, _, H1, rfl, I2, turn_enum a (s1.heap.objs.size + 1) s1.heap.objs.size, ⟨⟨.none, he⟩, hit, Nat.succ_ne_self _⟩, fun b hb => ?_, q⟩
      have e' : b = s1.heap.objs.size + 1 ∨ b = s1.heap.objs.size := by simpa using hb
      have hle : s1.heap.objs.size ≤ b := by
        rcases e' with z | z
        · rw [z]; exact Nat.le_add_right _ _
        · rw [z]; exact Nat.le_refl _
      exact I1.fpOk hle (I1.hok.fresh hle)
    | false =>
      obtain ⟨its, rv, p', hz⟩ := I1.tuple hq
      refine call_enumerate_tuple (show s1.heap.IsTuple a its.toArray from p') fun h' he hit hsz hk => wpAny_pyIter_enum he ?_
      have I2 : Inv X pins σ H1 { s1 with heap := h' } := I1.kept (t' := s1.toks) hk
      refine ⟨s1.heap.objs.size + 1, [s1.heap.objs.size + 1, s1.heap.objs.size], _, _, H1, rfl, I2, turn_enumT a (s1.heap.objs.size + 1) s1.heap.objs.size, ⟨⟨.none, he⟩, hit, Nat.succ_ne_self _⟩, fun b hb => ?_, q⟩
      have e' : b = s1.heap.objs.size + 1 ∨ b = s1.heap.objs.size := by simpa using hb
      have hle : s1.heap.objs.size ≤ b := by
        rcases e' with z | z
        · rw [z]; exact Nat.le_add_right _ _
        · rw [z]; exact Nat.le_refl _
      exact I1.fpOk hle (I1.hok.fresh hle)
theorem walk_sq {K : PySem.W.Frag} {t : Bool} {a : Addr} {xs : List V} : Walk (Itb K t a) xs.length (fun H => SqB K t H a xs) (YAt xs) := by
  cases t
  · exact walk_tup
  · exact walk_list
theorem walk_enumB {K : PySem.W.Frag} {t : Bool} {a : Addr} {xs : List V} : Walk (IteB K t a) xs.length (fun H => SqB K t H a xs) (YPair (fun i => some (.int (i : Nat))) (fun i => xs[i]?)) := by
  cases t
  · refine ⟨fun i _ hi q => ⟨xs, xs[i], q, by simp [hi]⟩, fun _ q => ⟨xs, q, rfl⟩, fun i H v H' _ q y => ?_⟩
    obtain ⟨T, x, h1, h2, h3, h4⟩ := y
    exact ⟨T, .int (i : Nat), x, h1, h2, h3, rfl, h4 xs q⟩
  · exact walk_enum
end Np
namespace Np
open PySem PySem.Spec PyProof.Rows L2 Builtin
/-! ### with the written part told: within a comprehension within a comprehension -/
theorem op_in_seqK {X : Cx} {K : PySem.W.Frag} (h : X.K = K) : OpR X (compareOp .In) (rIn K false) := by subst h; exact op_in_seq
theorem op_notIn_seqK {X : Cx} {K : PySem.W.Frag} (h : X.K = K) : OpR X (compareOp .NotIn) (rIn K true) := by subst h; exact op_notIn_seq
theorem pi_sqK {X : Cx} {K : PySem.W.Frag} (h : X.K = K) {tg l : Expr} {tl : TE} (hl : PE X l tl) : PI X tg l (iSq K tl) := by subst h; exact pi_sq hl
theorem pi_listK {X : Cx} {K : PySem.W.Frag} (h : X.K = K) {tg l : Expr} {tl : TE} (hl : PE X l tl) : PI X tg l (iList K tl) := by subst h; exact pi_list hl
def rTupleOf (K : PySem.W.Frag) : List V → Hp → VK → Prop := fun xs H Q => ∃ p ys, xs = [.ref p] ∧ ((SqL K H p ys ∧ ∀ l, H l = none → Q (.ref l) (upd H l (.tup ys))) ∨ (SqT K H p ys ∧ Q (.ref p) H))
theorem call_tuple_ofK {X : Cx} {K : PySem.W.Frag} (h : X.K = K) : CallR X (.type "tuple") (rTupleOf K) := by subst h; exact call_tuple_of
end Np
namespace Np
open PySem PySem.Spec PyProof.Rows L2 Builtin
theorem pg_tupK {X : Cx} {pos : Pos} {K : PySem.W.Frag} {es : List Expr} {k : Nat} {t : TGs} {n : Nat} (hK : X.K = K) (hc : X.calm = true) (h : PGs X es t)
    (hn : (assignEach es X.env).length = n := by rfl) (hst : (assignEach es X.env).findIdx? (·.1) = none := by rfl) : PG X (.Tuple es k pos) (gTup K n t) := by subst hK; exact pg_tup hc h hn hst
end Np

set_option Elab.async false
set_option linter.all false
set_option maxRecDepth 100000
set_option maxHeartbeats 4000000
namespace Np
open PySem PySem.Spec PyProof.Rows L2 TL
/-! ### pegs that need one another -/
inductive Reach (W : List (Str × Str)) : Str → Str → Prop
  | refl (p : Str) : Reach W p p
  | step {p r q : Str} : (p, r) ∈ W → Reach W r q → Reach W p q
theorem Reach.trans {W : List (Str × Str)} {p r q : Str} (h : Reach W p r) (k : Reach W r q) : Reach W p q := by
  induction h with
  | refl => exact k
  | step h _ ih => exact .step h (ih k)
theorem Reach.inside {W : List (Str × Str)} {pegs : List Str} (hW : ∀ w ∈ W, w.1 ∈ pegs ∧ w.2 ∈ pegs) {p q : Str} (h : Reach W p q) (hp : p ∈ pegs) : q ∈ pegs := by
  induction h with
  | refl => exact hp
  | step h _ ih => exact ih (hW _ h).2
/-- no circle: a rank below n falls along each pair -/
def Ranked (W : List (Str × Str)) (pegs : List Str) : Prop := ∃ rk : Str → Nat, (∀ w ∈ W, rk w.2 < rk w.1) ∧ ∀ p ∈ pegs, rk p < pegs.length
/-- one pair gone through -/
def stp (fd : Str → List Str) (w : Str × Str) : Str → List Str := fun x => if x = w.1 then fd w.1 ++ (fd w.2).filter (fun q => decide (q ∉ fd w.1)) else fd x
theorem mem_stp {fd : Str → List Str} {w : Str × Str} {x q : Str} : q ∈ stp fd w x ↔ q ∈ fd x ∨ (x = w.1 ∧ q ∈ fd w.2) := by
  unfold stp
  by_cases h : x = w.1
  · subst h
    rw [if_pos rfl, List.mem_append, List.mem_filter]
    constructor
    · rintro (h1 | ⟨h1, _⟩)
      · exact .inl h1
      · exact .inr ⟨rfl, h1⟩
    · rintro (h1 | ⟨_, h1⟩)
      · exact .inl h1
      · by_cases h2 : q ∈ fd w.1
        · exact .inl h2
        · exact .inr ⟨h1, decide_eq_true h2⟩
  · rw [if_neg h]
    constructor
    · exact .inl
    · rintro (h1 | ⟨h1, _⟩)
      · exact h1
      · exact absurd h1 h
/-- what is found so far: sound, each once -/
structure Fnd (W : List (Str × Str)) (pegs : List Str) (fd : Str → List Str) : Prop where
  self : ∀ x ∈ pegs, x ∈ fd x
  sound : ∀ x ∈ pegs, ∀ q ∈ fd x, Reach W x q
  nd : ∀ x ∈ pegs, (fd x).Nodup
theorem Fnd.stp {W : List (Str × Str)} {pegs : List Str} {fd : Str → List Str} {w : Str × Str} (hW : ∀ w ∈ W, w.1 ∈ pegs ∧ w.2 ∈ pegs) (hw : w ∈ W) (h : Fnd W pegs fd) : Fnd W pegs (stp fd w) := by
  obtain ⟨h1, h2⟩ := hW w hw
  refine ⟨fun x hx => mem_stp.mpr (.inl (h.self x hx)), fun x hx q hq => ?_, fun x hx => ?_⟩
  · rcases mem_stp.mp hq with k | ⟨k1, k2⟩
    · exact h.sound x hx q k
    · subst k1
      exact .step (show (w.1, w.2) ∈ W from hw) (h.sound _ h2 q k2)
  · unfold Np.stp
    split
    · refine List.nodup_append.mpr ⟨h.nd _ h1, (h.nd _ h2).filter _, fun a ha b hb e => ?_⟩
      subst e
      have := (List.mem_filter.mp hb).2
      simp at this
      exact this ha
    · exact h.nd x hx
theorem nodup_len_le {α : Type} [BEq α] [LawfulBEq α] : ∀ {l m : List α}, l.Nodup → (∀ a ∈ l, a ∈ m) → l.length ≤ m.length
  | [], _, _, _ => Nat.zero_le _
  | a :: l, m, hn, hs => by
    have ha : a ∈ m := hs a List.mem_cons_self
    have hn' := List.nodup_cons.mp hn
    have ih := nodup_len_le (l := l) (m := m.erase a) hn'.2 fun b hb => (List.mem_erase_of_ne (fun e => hn'.1 (by rw [← e]; exact hb))).mpr (hs b (List.mem_cons_of_mem _ hb))
    rw [List.length_erase_of_mem ha] at ih
    have : 0 < m.length := List.length_pos_of_mem ha
    rw [List.length_cons]
    omega
theorem Fnd.small {W : List (Str × Str)} {pegs : List Str} {fd : Str → List Str} (hW : ∀ w ∈ W, w.1 ∈ pegs ∧ w.2 ∈ pegs) (h : Fnd W pegs fd) {x : Str} (hx : x ∈ pegs) : (fd x).length ≤ pegs.length := by
  refine nodup_len_le (h.nd x hx) fun q hq => ?_
  exact (h.sound x hx q hq).inside hW hx
/-- complete for the pegs of a rank below t -/
def Full (W : List (Str × Str)) (pegs : List Str) (rk : Str → Nat) (t : Nat) (fd : Str → List Str) : Prop := ∀ x ∈ pegs, rk x < t → ∀ q, Reach W x q → q ∈ fd x
theorem full_round {W : List (Str × Str)} {pegs : List Str} {rk : Str → Nat} {t : Nat} {fd0 fd : Str → List Str} (hW : ∀ w ∈ W, w.1 ∈ pegs ∧ w.2 ∈ pegs) (hr : ∀ w ∈ W, rk w.2 < rk w.1) (hs : Fnd W pegs fd0) (hF : Full W pegs rk t fd0)
    (mono : ∀ x q, q ∈ fd0 x → q ∈ fd x) (done : ∀ w ∈ W, ∀ q, q ∈ fd0 w.2 → q ∈ fd w.1) : Full W pegs rk (t + 1) fd := by
  intro x hx hk q h
  cases h with
  | refl => exact mono _ _ (hs.self x hx)
  | @step _ r _ h1 h2 =>
    have l := hr _ h1
    exact done _ h1 q (hF r (hW _ h1).2 (by have : rk r < rk x := l; omega) q h2)
open Classical in
/-- the row of a peg: itself and all that it needs, in board order -/
noncomputable def rowOf (W : List (Str × Str)) (pegs : List Str) (p : Str) : List Str := pegs.filter fun q => decide (Reach W p q)
open Classical in
theorem mem_rowOf {W : List (Str × Str)} {pegs : List Str} {p q : Str} : q ∈ rowOf W pegs p ↔ q ∈ pegs ∧ Reach W p q := by
  unfold rowOf
  rw [List.mem_filter]
  simp only [decide_eq_true_eq]
theorem rowOf_eq {W : List (Str × Str)} {pegs : List Str} {fd : Str → List Str} {rk : Str → Nat} (hs : Fnd W pegs fd) (hF : Full W pegs rk pegs.length fd) (hk : ∀ p ∈ pegs, rk p < pegs.length) {p : Str} (hp : p ∈ pegs) :
    pegs.filter (fun q => decide (q ∈ fd p)) = rowOf W pegs p := by
  unfold rowOf
  refine List.filter_congr fun q hq => ?_
  exact decide_eq_decide.mpr ⟨fun h => hs.sound p hp q h, fun h => hF p hp (hk p hp) q h⟩
theorem rowOf_len (W : List (Str × Str)) (pegs : List Str) (p : Str) : (rowOf W pegs p).length ≤ pegs.length := List.length_filter_le _ _
/-! ### dicts by the pegs -/
def kS (p : Str) : Key := .inr p
def byPeg (pegs : List Str) (f : Str → V) : List (Key × V) := pegs.map fun p => (kS p, f p)
theorem kS_inj {p q : Str} : kS p = kS q ↔ p = q := ⟨fun h => Sum.inr.inj h, fun h => congrArg _ h⟩
theorem valV_byPeg {pegs : List Str} {f : Str → V} {p : Str} (h : p ∈ pegs) : valV (byPeg pegs f) (kS p) = some (f p) := by
  induction pegs with
  | nil => cases h
  | cons a as ih =>
    by_cases e : a = p
    · subst e
      exact valV_pos rfl
    · rw [byPeg, List.map_cons, valV_neg (fun z => e (kS_inj.mp z))]
      exact ih (by rcases List.mem_cons.mp h with h | h
                   · exact absurd h.symm e
                   · exact h)
theorem valV_byPeg_none {pegs : List Str} {f : Str → V} {p : Str} (h : p ∉ pegs) : valV (byPeg pegs f) (kS p) = none := by
  induction pegs with
  | nil => rfl
  | cons a as ih =>
    rw [byPeg, List.map_cons, valV_neg (fun z => h (by rw [kS_inj.mp z]; exact List.mem_cons_self))]
    exact ih fun z => h (List.mem_cons_of_mem _ z)
theorem putK_byPeg {pegs : List Str} {f : Str → V} {p : Str} {v : V} (h : p ∈ pegs) : putK (byPeg pegs f) (kS p) v = byPeg pegs fun x => if x = p then v else f x := by
  unfold putK
  rw [valV_any, valV_byPeg h]
  simp only [Option.isSome_some, if_true]
  unfold byPeg
  rw [List.map_map]
  refine List.map_congr_left fun x _ => ?_
  simp only [Function.comp]
  by_cases e : x = p
  · rw [if_pos (kS_inj.mpr e), if_pos e]
  · rw [if_neg (fun z => e (kS_inj.mp z)), if_neg e]
theorem byPeg_len (pegs : List Str) (f : Str → V) : (byPeg pegs f).length = pegs.length := List.length_map _
theorem byPeg_congr {pegs : List Str} {f g : Str → V} (h : ∀ p ∈ pegs, f p = g p) : byPeg pegs f = byPeg pegs g := List.map_congr_left fun p hp => by rw [h p hp]
theorem mergeK_byPeg_go {f : Str → V} : ∀ {more pegs : List Str}, (pegs ++ more).Nodup → mergeK (byPeg pegs f) (byPeg more f) = byPeg (pegs ++ more) f
  | [], pegs, _ => by rw [List.append_nil]; rfl
  | p :: more, pegs, h => by
    have np : p ∉ pegs := fun z => (List.nodup_append.mp h).2.2 p z p List.mem_cons_self rfl
    have e : pegs ++ p :: more = (pegs ++ [p]) ++ more := by simp
    rw [e] at h ⊢
    rw [← mergeK_byPeg_go h]
    show mergeK (putK (byPeg pegs f) (kS p) (f p)) (byPeg more f) = _
    rw [putK_new _ (valV_byPeg_none np)]
    congr 1
    simp [byPeg]
theorem mergeK_byPeg {pegs : List Str} {f : Str → V} (h : pegs.Nodup) : mergeK [] (byPeg pegs f) = byPeg pegs f := mergeK_byPeg_go (pegs := []) h
/-! ### membership of strings -/
theorem inV_strs (x : Str) (xs : List Str) : inV (.str x) (xs.map V.str) = decide (x ∈ xs) := by
  induction xs with
  | nil => simp [inV]
  | cons a as ih =>
    have e : inV (.str x) (V.str a :: as.map V.str) = (eqV (.str a) (.str x) || inV (.str x) (as.map V.str)) := rfl
    rw [List.map_cons, e, ih]
    have e2 : eqV (.str a) (.str x) = decide (x = a) := by
      unfold eqV
      rw [Bool.eq_iff_iff, decide_eq_true_eq, beq_iff_eq]
      exact ⟨Eq.symm, Eq.symm⟩
    rw [e2]
    simp
theorem flat_strs (xs : List Str) : (xs.map V.str).all flatV = true := by
  rw [List.all_eq_true]
  intro v hv
  obtain ⟨s, _, rfl⟩ := List.mem_map.mp hv
  rfl
end Np

set_option Elab.async false
set_option linter.all false
set_option maxRecDepth 100000
set_option maxHeartbeats 4000000
namespace Np
open PySem PySem.Spec PyProof.Rows L2
/-! ### all but one object -/
def hide (D : Addr) (H : Hp) : Hp := fun b => if b = D then none else H b
theorem hide_at (D : Addr) (H : Hp) : hide D H D = none := if_pos rfl
theorem hide_ne {D b : Addr} {H : Hp} (n : b ≠ D) : hide D H b = H b := if_neg n
theorem hide_same (D : Addr) (H : Hp) : Same (hide D H) H := fun b o h => by
  by_cases e : b = D
  · rw [e, hide_at] at h; cases h
  · rw [hide_ne e] at h; exact h
theorem hide_mono {D : Addr} {H H' : Hp} (h : But D H H') : Same (hide D H) (hide D H') := fun b o e => by
  by_cases n : b = D
  · rw [n, hide_at] at e; cases e
  · rw [hide_ne n] at e ⊢; exact h b o n e
theorem hide_start {D : Addr} {H : Hp} {o : HO} (n : H D = none) : Same H (hide D (upd H D o)) := fun b u e => by
  have nb : b ≠ D := ne_of_none e n
  rw [hide_ne nb, upd_ne nb]; exact e
theorem hide_of {D : Addr} {H H' : Hp} (n : H D = none) (s : Same H H') : Same H (hide D H') := fun b u e => by
  rw [hide_ne (ne_of_none e n)]; exact s b u e
theorem But.fresh {p L : Addr} {H H1 : Hp} {o : HO} (h : But p H H1) (n : H L = none) : But p H (L2.upd H1 L o) := fun b u nb hb => by rw [upd_ne (ne_of_none hb n)]; exact h b u nb hb
theorem But.free {b p : Addr} {H H' : Hp} {o : HO} (h : But b H H') (e : H' b = some o) (n : H' p = none) : H p = none := by
  cases q : H p with
  | none => rfl
  | some u =>
    have nb : p ≠ b := fun z => by rw [z, e] at n; cases n
    rw [h p u nb q] at n
    cases n
theorem Same.sqT {K : PySem.W.Frag} {H H' : Hp} {a : Addr} {xs : List V} (s : Same H H') (h : SqT K H a xs) : SqT K H' a xs := SqB.same (t := false) h s
/-- pairs of strings, each a tuple -/
def PairsAt (K : PySem.W.Frag) (H : Hp) (wa : List Addr) (W : List (Str × Str)) : Prop := Paired (fun T w => SqT K H T [.str w.1, .str w.2]) wa W
theorem PairsAt.same {K : PySem.W.Frag} {H H' : Hp} {wa : List Addr} {W : List (Str × Str)} (h : PairsAt K H wa W) (s : Same H H') : PairsAt K H' wa W := Paired.mapP h fun _ _ q => Same.sqT s q
theorem paired_len {α β : Type} {F : α → β → Prop} {l : List α} {m : List β} (h : Paired F l m) : l.length = m.length := by
  induction h with
  | nil => rfl
  | cons h _ ih => exact congrArg Nat.succ ih
theorem paired_at {α β : Type} {F : α → β → Prop} {l : List α} {m : List β} (h : Paired F l m) : ∀ {i : Nat} {a : α}, l[i]? = some a → ∃ b, m[i]? = some b ∧ F a b := by
  induction h with
  | nil => intro i a h; simp at h
  | cons h _ ih =>
    intro i a h1
    cases i with
    | zero => cases h1; exact ⟨_, rfl, h⟩
    | succ i => exact ih h1
theorem byPeg_snoc {pegs : List Str} {f g : Str → V} {p : Str} (h : ∀ x ∈ pegs, g x = f x) : byPeg (pegs ++ [p]) g = byPeg pegs f ++ [(kS p, g p)] := by
  have e : byPeg pegs f = byPeg pegs g := byPeg_congr fun x hx => (h x hx).symm
  rw [e]
  simp [byPeg]
theorem str_at {xs : List Str} {i : Nat} {x : V} (h : (xs.map V.str)[i]? = some x) : ∃ s, x = .str s ∧ xs[i]? = some s := by
  rw [List.getElem?_map] at h
  cases e : xs[i]? with
  | none => rw [e] at h; cases h
  | some s => rw [e] at h; cases h; exact ⟨s, rfl, rfl⟩
theorem ref_at {xs : List Addr} {i : Nat} {x : V} (h : (xs.map V.ref)[i]? = some x) : ∃ s, x = .ref s ∧ xs[i]? = some s := by
  rw [List.getElem?_map] at h
  cases e : xs[i]? with
  | none => rw [e] at h; cases h
  | some s => rw [e] at h; cases h; exact ⟨s, rfl, rfl⟩
theorem take_succ_of {α : Type} {xs : List α} {i : Nat} {x : α} (h : xs[i]? = some x) : xs.take (i + 1) = xs.take i ++ [x] := by
  rw [List.take_succ, h]
  rfl
theorem not_in_take {xs : List Str} (hn : xs.Nodup) {i : Nat} {x : Str} (h : xs[i]? = some x) : x ∉ xs.take i := by
  have e := take_succ_of h
  have n2 : (xs.take (i + 1)).Nodup := hn.sublist (List.take_sublist _ _)
  rw [e] at n2
  exact fun z => (List.nodup_append.mp n2).2.2 x z x (List.mem_singleton.mpr rfl) rfl
theorem mem_of_at {α : Type} {xs : List α} {i : Nat} {x : α} (h : xs[i]? = some x) : x ∈ xs := List.mem_of_getElem? h
end Np

set_option Elab.async false
set_option linter.all false
set_option maxRecDepth 100000
set_option maxHeartbeats 4000000
namespace Np
open PySem PySem.Spec PyProof.Rows L2
/-! ### comprehensions, as a whole -/
theorem same_hide {D : Addr} {H H1 H4 : Hp} (hD : H1 D = none) (h : Same H1 (hide D H)) (s : Same H H4) {o : HO} : Same H1 (hide D (upd H4 D o)) := fun b u e => by
  have nb : b ≠ D := ne_of_none e hD
  have h1 := h b u e
  rw [hide_ne nb] at h1 ⊢
  rw [upd_ne nb]
  exact s b u h1
theorem same_hide0 {D : Addr} {H H1 H4 : Hp} (hD : H1 D = none) (h : Same H1 (hide D H)) (s : Same H H4) : Same H1 (hide D H4) := fun b u e => by
  have nb : b ≠ D := ne_of_none e hD
  have h1 := h b u e
  rw [hide_ne nb] at h1 ⊢
  exact s b u h1
theorem hide_up {D : Addr} {H4 : Hp} {o : HO} : Same (hide D H4) (hide D (upd H4 D o)) := fun b u e => by
  have nb : b ≠ D := fun z => by rw [z, hide_at] at e; cases e
  rw [hide_ne nb] at e ⊢
  rw [upd_ne nb]; exact e
theorem hide_mono0 {D : Addr} {H H' : Hp} (h : Same H H') : Same (hide D H) (hide D H') := hide_mono (But.of h)
section
variable {J : It} {n : Nat} {G : Hp → Prop} {Y : Nat → Hp → V → Hp → Prop} {α : Type} {g : TG} {tt : TT} {te : TE} {vs : List Nat} {σ : L2.St} {H1 : Hp} {D : Addr} {Qd : Hp → Prop}
theorem lc_rel (w : Walk J n G Y) (hD : H1 D = none) (l : List α) (p : α → Bool) (R : Hp → V → α → Prop) (hR : ∀ {H H' : Hp} {v : V} {a : α}, Same H H' → R H v a → R H' v a) (hn : l.length = n) (hz : n ≤ 1000)
    (hG : ∀ H, Same H1 H → G H)
    (hs : ∀ i a x H H', l[i]? = some a → Same H1 H → H D ≠ none → Y i H x H' → ∀ (NT : V → Hp → Prop) (NF : Hp → Prop), (∀ y H4, Same H H4 → R (hide D H4) y a → p a = true → NT y H4) → (∀ H3, Same H H3 → p a = false → NF H3) →
      g x (wipe σ vs) H' fun σ2 H2 => wipe σ2 vs = wipe σ vs ∧ tt σ2 H2 fun b H3 => if b = true then te σ2 H3 NT else NF H3)
    (hd : ∀ H ys, Same H1 H → H D = some (.lst ys) → Paired (R H) ys (l.filter p) → Qd H) :
    ∃ W : Nat → Nat → Hp → Prop, (∃ m, W 0 m (upd H1 D (.lst []))) ∧ ∀ i m H, W i m H →
      (J.stop i H ∧ Qd H) ∨ (J.go i H ∧ ∃ Nx : Hp → Prop, (∀ H', Nx H' → ∃ m', m' < m ∧ W (i + 1) m' H') ∧ ∀ x H', J.yld i H x H' → g x (wipe σ vs) H' fun σ2 H2 => wipe σ2 vs = wipe σ vs ∧ tt σ2 H2 fun b H3 =>
        if b = true then te σ2 H3 fun y H4 => ∃ acc, H4 D = some (.lst acc) ∧ acc.length < sizeLine ∧ Nx (upd H4 D (.lst (acc ++ [y]))) else Nx H3) := by
  refine lc_it w (fun i H => ∃ ys, H D = some (.lst ys) ∧ Same H1 (hide D H) ∧ Paired (R (hide D H)) ys ((l.take i).filter p)) ?_ ?_ ?_ ?_
  · exact ⟨[], upd_same, hide_start hD, .nil⟩
  · rintro i H hi ⟨ys, h1, h2, h3⟩
    exact hG _ (h2.trans (hide_same D H))
  · rintro i x H H' hi ⟨ys, h1, h2, h3⟩ y
    have hl : i < l.length := by omega
    have ha : l[i]? = some l[i] := List.getElem?_eq_getElem hl
    have hlen : ys.length ≤ 1000 := by
      rw [paired_len h3]
      refine Nat.le_trans (List.length_filter_le _ _) ?_
      rw [List.length_take]
      omega
    refine hs i l[i] x H H' ha (h2.trans (hide_same D H)) (by rw [h1]; exact fun z => nomatch z) y _ _ ?_ ?_
    · intro v H4 s r hp
      have f : (l.take (i + 1)).filter p = (l.take i).filter p ++ [l[i]] := by
        rw [take_succ_of ha, List.filter_append]
        simp [hp]
      refine ⟨ys, s _ _ h1, small1000 hlen, ys ++ [v], upd_same, same_hide hD h2 s, ?_⟩
      rw [f]
      exact Paired.snoc (Paired.mapP h3 fun _ _ z => hR ((hide_mono0 s).trans hide_up) z) (hR hide_up r)
    · intro H3 s hp
      have f : (l.take (i + 1)).filter p = (l.take i).filter p := by
        rw [take_succ_of ha, List.filter_append]
        simp [hp]
      refine ⟨ys, s _ _ h1, same_hide0 hD h2 s, ?_⟩
      rw [f]
      exact Paired.mapP h3 fun _ _ z => hR (hide_mono0 s) z
  · rintro H ⟨ys, h1, h2, h3⟩
    have e : l.take n = l := by rw [← hn, List.take_length]
    rw [e] at h3
    exact hd H ys (h2.trans (hide_same D H)) h1 (Paired.mapP h3 fun _ _ z => hR (hide_same D H) z)
theorem paired_eq {β : Type} {f : α → β} : ∀ {ys : List β} {l : List α}, Paired (fun v a => v = f a) ys l → ys = l.map f
  | _, _, .nil => rfl
  | _, _, .cons h t => by rw [List.map_cons, ← paired_eq t, h]
/-- values without objects of their own -/
theorem lc_val (w : Walk J n G Y) (hD : H1 D = none) (l : List α) (p : α → Bool) (f : α → V) (hn : l.length = n) (hz : n ≤ 1000) (hG : ∀ H, Same H1 H → G H)
    (hs : ∀ i a x H H', l[i]? = some a → Same H1 H → H D ≠ none → Y i H x H' → ∀ (NT : V → Hp → Prop) (NF : Hp → Prop), (∀ H4, Same H H4 → p a = true → NT (f a) H4) → (∀ H3, Same H H3 → p a = false → NF H3) →
      g x (wipe σ vs) H' fun σ2 H2 => wipe σ2 vs = wipe σ vs ∧ tt σ2 H2 fun b H3 => if b = true then te σ2 H3 NT else NF H3)
    (hd : ∀ H, Same H1 H → H D = some (.lst ((l.filter p).map f)) → Qd H) :
    ∃ W : Nat → Nat → Hp → Prop, (∃ m, W 0 m (upd H1 D (.lst []))) ∧ ∀ i m H, W i m H →
      (J.stop i H ∧ Qd H) ∨ (J.go i H ∧ ∃ Nx : Hp → Prop, (∀ H', Nx H' → ∃ m', m' < m ∧ W (i + 1) m' H') ∧ ∀ x H', J.yld i H x H' → g x (wipe σ vs) H' fun σ2 H2 => wipe σ2 vs = wipe σ vs ∧ tt σ2 H2 fun b H3 =>
        if b = true then te σ2 H3 fun y H4 => ∃ acc, H4 D = some (.lst acc) ∧ acc.length < sizeLine ∧ Nx (upd H4 D (.lst (acc ++ [y]))) else Nx H3) :=
  lc_rel w hD l p (fun _ v a => v = f a) (fun _ h => h) hn hz hG (fun i a x H H' ha S nD y NT NF yes no => hs i a x H H' ha S nD y NT NF (fun H4 s hp => yes _ H4 s rfl hp) no)
    fun H ys s h r => hd H s (by rw [h, paired_eq r])
theorem filter_yes (l : List α) : l.filter (fun _ => true) = l := by induction l <;> simp_all
/-- without a test -/
theorem lc_map (w : Walk J n G Y) (hD : H1 D = none) (l : List α) (f : α → V) (hn : l.length = n) (hz : n ≤ 1000) (hG : ∀ H, Same H1 H → G H)
    (hs : ∀ i a x H H', l[i]? = some a → Same H1 H → H D ≠ none → Y i H x H' → ∀ (NT : V → Hp → Prop), (∀ H4, Same H H4 → NT (f a) H4) → g x (wipe σ vs) H' fun σ2 H2 => wipe σ2 vs = wipe σ vs ∧ te σ2 H2 NT)
    (hd : ∀ H, Same H1 H → H D = some (.lst (l.map f)) → Qd H) :
    ∃ W : Nat → Nat → Hp → Prop, (∃ m, W 0 m (upd H1 D (.lst []))) ∧ ∀ i m H, W i m H →
      (J.stop i H ∧ Qd H) ∨ (J.go i H ∧ ∃ Nx : Hp → Prop, (∀ H', Nx H' → ∃ m', m' < m ∧ W (i + 1) m' H') ∧ ∀ x H', J.yld i H x H' → g x (wipe σ vs) H' fun σ2 H2 => wipe σ2 vs = wipe σ vs ∧ tYes σ2 H2 fun b H3 =>
        if b = true then te σ2 H3 fun y H4 => ∃ acc, H4 D = some (.lst acc) ∧ acc.length < sizeLine ∧ Nx (upd H4 D (.lst (acc ++ [y]))) else Nx H3) := by
  refine lc_val w hD l (fun _ => true) f hn hz hG (fun i a x H H' ha S nD y NT NF yes no => ?_) fun H s h => hd H s (by rw [h, filter_yes])
  have q := hs i a x H H' ha S nD y NT fun H4 s => yes H4 s rfl
  exact q
end
end Np

set_option Elab.async false
set_option linter.all false
set_option maxRecDepth 100000
set_option maxHeartbeats 4000000
namespace Np
open PySem PySem.Spec PyProof.Rows L2
/-! ### sets of places as numbers -/
theorem add_or : ∀ (a b : Nat), a &&& b = 0 → a + b = a ||| b := by
  intro a
  induction a using Nat.strongRecOn with
  | _ a ih =>
    intro b h
    by_cases z : a = 0
    · subst z; simp
    have h2 : a / 2 &&& b / 2 = 0 := by rw [← Nat.and_div_two, h]
    have e := ih (a / 2) (by omega) (b / 2) h2
    have no : ¬ (a % 2 = 1 ∧ b % 2 = 1) := fun k => by
      have := Nat.and_mod_two_eq_one.mpr k
      rw [h] at this
      cases this
    have o1 := @Nat.or_mod_two_eq_one a b
    have o2 := @Nat.or_div_two a b
    rw [← e] at o2
    have l1 : (a ||| b) % 2 < 2 := Nat.mod_lt _ (by decide)
    have : (a ||| b) % 2 = (a + b) % 2 := by
      by_cases k : a % 2 = 1 ∨ b % 2 = 1
      · rw [o1.mpr k]; omega
      · have : ¬ (a ||| b) % 2 = 1 := fun z => k (o1.mp z)
        omega
    omega
def nd (a b : Nat) : Nat := Nat.bitwise (fun x y => x && !y) a b
theorem nd_bit (a b i : Nat) : (nd a b).testBit i = (a.testBit i && !b.testBit i) := Nat.testBit_bitwise rfl a b i
theorem sub_and (a b : Nat) : a - (a &&& b) = nd a b := by
  have h0 : (a &&& b) &&& nd a b = 0 := by
    refine Nat.eq_of_testBit_eq fun i => ?_
    rw [Nat.testBit_and, Nat.testBit_and, nd_bit, Nat.zero_testBit]
    cases a.testBit i <;> cases b.testBit i <;> rfl
  have h1 : (a &&& b) ||| nd a b = a := by
    refine Nat.eq_of_testBit_eq fun i => ?_
    rw [Nat.testBit_or, Nat.testBit_and, nd_bit]
    cases a.testBit i <;> cases b.testBit i <;> rfl
  have e := add_or _ _ h0
  rw [h1] at e
  omega
theorem band (a b : Nat) : Builtin.bitAnd (a : Int) (b : Int) = ((a &&& b : Nat) : Int) := PySem.W.os_band a b
theorem bor (a b : Nat) : Builtin.bitOr (a : Int) (b : Int) = ((a ||| b : Nat) : Int) := by
  rw [Bits.bitOr_pp (Int.natCast_nonneg a) (Int.natCast_nonneg b), Int.toNat_natCast, Int.toNat_natCast]
theorem bxor (a b : Nat) : Builtin.bitXor (a : Int) (b : Int) = ((a ^^^ b : Nat) : Int) := by
  rw [Bits.bitXor_pp (Int.natCast_nonneg a) (Int.natCast_nonneg b), Int.toNat_natCast, Int.toNat_natCast]
theorem bandnot (a b : Nat) : Builtin.bitAnd (a : Int) (Builtin.bitNot (b : Int)) = ((nd a b : Nat) : Int) := by
  have n0 : ¬ (0 : Int) ≤ Builtin.bitNot (b : Int) := by
    show ¬ (0 : Int) ≤ -(b : Int) - 1
    omega
  have e : Builtin.bitNot (Builtin.bitNot (b : Int)) = (b : Int) := by
    show -(-(b : Int) - 1) - 1 = (b : Int)
    omega
  unfold Builtin.bitAnd
  rw [decide_eq_true (Int.natCast_nonneg a), decide_eq_false n0]
  show (a : Int) - (((a : Int).toNat &&& (Builtin.bitNot (Builtin.bitNot (b : Int))).toNat : Nat) : Int) = _
  rw [e, Int.toNat_natCast, Int.toNat_natCast, ← sub_and]
  have : a &&& b ≤ a := Nat.and_le_left
  omega
theorem bit1 (m p : Nat) : Builtin.bitAnd ((m : Int) / 2 ^ p) 1 = if m.testBit p then 1 else 0 := by
  have e : (m : Int) / 2 ^ p = ((m / 2 ^ p : Nat) : Int) := by
    rw [Int.natCast_ediv]
    congr 1
  rw [e]
  have := band (m / 2 ^ p) 1
  have e1 : ((1 : Nat) : Int) = 1 := rfl
  rw [e1] at this
  rw [this, Nat.and_one_is_mod, Nat.testBit_eq_decide_div_mod_eq]
  have l : m / 2 ^ p % 2 < 2 := Nat.mod_lt _ (by decide)
  by_cases h : m / 2 ^ p % 2 = 1
  · rw [h]; rfl
  · have h0 : m / 2 ^ p % 2 = 0 := by omega
    rw [h0]; rfl
theorem bit1_ne (m p : Nat) : (Builtin.bitAnd ((m : Int) / 2 ^ p) 1 != 0) = m.testBit p := by
  rw [bit1]
  cases m.testBit p <;> rfl
theorem bit1_eq (m p : Nat) : (Builtin.bitAnd ((m : Int) / 2 ^ p) 1 == 1) = m.testBit p := by
  rw [bit1]
  cases m.testBit p <;> rfl
theorem nat_ne0 (m : Nat) : (((m : Nat) : Int) != 0) = decide (m ≠ 0) := by
  cases m with
  | zero => rfl
  | succ k => simp; omega
/-- the places in a mask -/
def bits (m : Nat) : Nat := Builtin.Int.intBits (m : Int)
theorem lt_bits {m i : Nat} (h : m.testBit i = true) : i < bits m := by
  have hm : m ≠ 0 := fun z => by rw [z, Nat.zero_testBit] at h; cases h
  have e : bits m = m.log2 + 1 := by
    unfold bits Builtin.Int.intBits
    have : ¬ ((m : Int) == 0) = true := by simpa using hm
    rw [if_neg this]
    rfl
  rw [e]
  apply Classical.byContradiction
  intro c
  have hb := Nat.testBit_lt_two_pow (x := m) (i := i) (Nat.lt_of_lt_of_le Nat.lt_log2_self (Nat.pow_le_pow_right (by decide) (by omega)))
  rw [hb] at h
  cases h
theorem bits_le {m n : Nat} (h : m < 2 ^ n) : bits m ≤ n := by
  unfold bits Builtin.Int.intBits
  split
  · exact Nat.zero_le _
  · rename_i z
    have hm : m ≠ 0 := by simpa using z
    show m.log2 + 1 ≤ n
    have := (Nat.log2_lt hm).mpr h
    omega
def plc (m : Nat) : List Nat := (List.range (bits m)).filter fun i => m.testBit i
theorem mem_plc {m i : Nat} : i ∈ plc m ↔ m.testBit i = true := by
  unfold plc
  rw [List.mem_filter, List.mem_range]
  exact ⟨fun h => h.2, fun h => ⟨lt_bits h, h⟩⟩
theorem plc_nodup (m : Nat) : (plc m).Nodup := List.nodup_range.filter _
theorem plc_sorted (m : Nat) : (plc m).Pairwise (· < ·) := List.pairwise_lt_range.filter _
theorem plc_len {m n : Nat} (h : m < 2 ^ n) : (plc m).length ≤ n := by
  refine Nat.le_trans (List.length_filter_le _ _) ?_
  rw [List.length_range]
  exact bits_le h
theorem plc_eq {m n : Nat} (h : m < 2 ^ n) : plc m = (List.range n).filter fun i => m.testBit i := by
  have e : n = bits m + (n - bits m) := by have := bits_le h; omega
  unfold plc
  rw [e, List.range_add, List.filter_append]
  have : ((List.range (n - bits m)).map (bits m + ·)).filter (fun i => m.testBit i) = [] := by
    rw [List.filter_eq_nil_iff]
    intro a ha hb
    obtain ⟨b, _, rfl⟩ := List.mem_map.mp ha
    have := lt_bits hb
    omega
  rw [this, List.append_nil]
/-- the mask of some places -/
def msk (ps : List Nat) : Nat := (ps.map (2 ^ ·)).sum
theorem msk_bit : ∀ {ps : List Nat}, ps.Nodup → ∀ i, (msk ps).testBit i = decide (i ∈ ps)
  | [], _, i => by simp [msk]
  | p :: ps, h, i => by
    have hp := (List.nodup_cons.mp h).1
    have ih := msk_bit (List.nodup_cons.mp h).2
    have e : msk (p :: ps) = 2 ^ p + msk ps := rfl
    have z : 2 ^ p &&& msk ps = 0 := by
      refine Nat.eq_of_testBit_eq fun j => ?_
      rw [Nat.testBit_and, Nat.testBit_two_pow, ih, Nat.zero_testBit]
      by_cases c : p = j
      · subst c; simp [hp]
      · simp [c]
    rw [e, add_or _ _ z, Nat.testBit_or, Nat.testBit_two_pow, ih]
    by_cases c : p = i
    · subst c; simp
    · have c2 : ¬ i = p := fun z => c z.symm
      simp [c, c2]
theorem msk_lt {ps : List Nat} (h : ps.Nodup) {n : Nat} (hn : ∀ p ∈ ps, p < n) : msk ps < 2 ^ n := by
  refine Nat.lt_pow_two_of_testBit _ fun i hi => ?_
  rw [msk_bit h]
  refine decide_eq_false fun z => ?_
  have := hn i z
  omega
theorem pow_cast (p : Nat) : (1 : Int) * 2 ^ p = ((2 ^ p : Nat) : Int) := by
  rw [Int.one_mul]
  exact (PySem.W.kbt_cast p).symm
theorem sum_cast (ps : List Nat) : (ps.map fun p => ((2 ^ p : Nat) : Int)).sum = ((msk ps : Nat) : Int) := by
  induction ps with
  | nil => rfl
  | cons p ps ih =>
    rw [List.map_cons, List.sum_cons, ih]
    show _ = ((2 ^ p + msk ps : Nat) : Int)
    rw [Int.natCast_add]
/-- all rows at the places of a mask together -/
def orl (rows : List Nat) (ps : List Nat) : Nat := ps.foldl (fun w p => w ||| rows.getD p 0) 0
theorem orl_bit (rows : List Nat) (ps : List Nat) (j : Nat) : (orl rows ps).testBit j = ps.any fun p => (rows.getD p 0).testBit j := by
  have gen : ∀ (ps : List Nat) (w : Nat), (ps.foldl (fun w p => w ||| rows.getD p 0) w).testBit j = (w.testBit j || ps.any fun p => (rows.getD p 0).testBit j) := by
    intro ps
    induction ps with
    | nil => intro w; simp
    | cons p ps ih =>
      intro w
      rw [List.foldl_cons, ih, Nat.testBit_or, List.any_cons, Bool.or_assoc]
  rw [orl, gen, Nat.zero_testBit, Bool.false_or]
end Np

set_option Elab.async false
set_option linter.all false
set_option maxRecDepth 100000
set_option maxHeartbeats 4000000
namespace Np
open PySem PySem.Spec PyProof.Rows L2
/-! ### below, above, clash as rows of numbers -/
inductive RN (W : List (Nat × Nat)) : Nat → Nat → Prop
  | refl (i : Nat) : RN W i i
  | step {i r j : Nat} : (i, r) ∈ W → RN W r j → RN W i j
theorem RN.trans {W : List (Nat × Nat)} {i r j : Nat} (h : RN W i r) (k : RN W r j) : RN W i j := by
  induction h with
  | refl => exact k
  | step h _ ih => exact .step h (ih k)
theorem RN.mono {W V : List (Nat × Nat)} (hs : ∀ w ∈ W, w ∈ V) {i j : Nat} (h : RN W i j) : RN V i j := by
  induction h with
  | refl => exact .refl _
  | step h _ ih => exact .step (hs _ h) ih
theorem RN.snoc {W : List (Nat × Nat)} {p q i j : Nat} : RN (W ++ [(p, q)]) i j ↔ RN W i j ∨ (RN W i p ∧ RN W q j) := by
  constructor
  · intro h
    induction h with
    | refl => exact .inl (.refl _)
    | @step i r j h _ ih =>
      rcases List.mem_append.mp h with h | h
      · rcases ih with ih | ⟨i1, i2⟩
        · exact .inl (.step h ih)
        · exact .inr ⟨.step h i1, i2⟩
      · cases List.mem_singleton.mp h
        rcases ih with ih | ⟨i1, i2⟩
        · exact .inr ⟨.refl _, ih⟩
        · exact .inr ⟨.refl _, i2⟩
  · intro h
    have m : ∀ w ∈ W, w ∈ W ++ [(p, q)] := fun w hw => List.mem_append_left _ hw
    rcases h with h | ⟨h1, h2⟩
    · exact h.mono m
    · exact (h1.mono m).trans (.step (List.mem_append_right _ (List.mem_singleton.mpr rfl)) (h2.mono m))
theorem RN.lt {W : List (Nat × Nat)} {n : Nat} (hW : ∀ w ∈ W, w.1 < n ∧ w.2 < n) {i j : Nat} (h : RN W i j) (hi : i < n) : j < n := by
  induction h with
  | refl => exact hi
  | step h _ ih => exact ih (hW _ h).2
/-- numbers with these bits, for the places below n -/
def Bits (n : Nat) (P : Nat → Nat → Prop) (rows : List Nat) : Prop := rows.length = n ∧ ∀ i, i < n → ∀ j, (rows.getD i 0).testBit j = true ↔ P i j
theorem Bits.congr {n : Nat} {P Q : Nat → Nat → Prop} {rows : List Nat} (h : Bits n P rows) (e : ∀ i, i < n → ∀ j, P i j ↔ Q i j) : Bits n Q rows := ⟨h.1, fun i hi j => (h.2 i hi j).trans (e i hi j)⟩
theorem Bits.inj {n : Nat} {P : Nat → Nat → Prop} {r1 r2 : List Nat} (h1 : Bits n P r1) (h2 : Bits n P r2) : r1 = r2 := by
  refine List.ext_getElem (h1.1.trans h2.1.symm) fun i k1 k2 => Nat.eq_of_testBit_eq fun j => ?_
  have hi : i < n := by rw [← h1.1]; exact k1
  have a := h1.2 i hi j
  have b := h2.2 i hi j
  have e1 : r1.getD i 0 = r1[i] := by rw [List.getD_eq_getElem?_getD, List.getElem?_eq_getElem k1]; rfl
  have e2 : r2.getD i 0 = r2[i] := by rw [List.getD_eq_getElem?_getD, List.getElem?_eq_getElem k2]; rfl
  rw [e1] at a
  rw [e2] at b
  rw [Bool.eq_iff_iff, a, b]
theorem Bits.lt {n : Nat} {P : Nat → Nat → Prop} {rows : List Nat} (h : Bits n P rows) (hP : ∀ i j, i < n → P i j → j < n) {i : Nat} (hi : i < n) : rows.getD i 0 < 2 ^ n := by
  refine Nat.lt_pow_two_of_testBit _ fun j hj => ?_
  cases e : (rows.getD i 0).testBit j with
  | false => rfl
  | true =>
    have := hP i j hi ((h.2 i hi j).mp e)
    omega
def stpRow (p q : Nat) (rows : List Nat) : List Nat := rows.map fun row => if row.testBit p then row ||| rows.getD q 0 else row
def idr (n : Nat) : List Nat := (List.range n).map (2 ^ ·)
theorem getD_map {f : Nat → Nat} {l : List Nat} {i : Nat} (h : i < l.length) : (l.map f).getD i 0 = f (l.getD i 0) := by
  rw [List.getD_eq_getElem?_getD, List.getElem?_map, List.getD_eq_getElem?_getD, List.getElem?_eq_getElem h]
  rfl
theorem getD_range {n i : Nat} (h : i < n) : (List.range n).getD i 0 = i := by
  rw [List.getD_eq_getElem?_getD, List.getElem?_range h]
  rfl
theorem idr_bits (n : Nat) : Bits n (RN []) (idr n) := by
  refine ⟨by simp [idr], fun i hi j => ?_⟩
  rw [idr, getD_map (by simpa using hi), getD_range hi, Nat.testBit_two_pow, decide_eq_true_eq]
  constructor
  · rintro rfl; exact .refl _
  · intro h
    cases h with
    | refl => rfl
    | step h _ => cases h
theorem stp_bits {n p q : Nat} {W : List (Nat × Nat)} {rows : List Nat} (h : Bits n (RN W) rows) (hq : q < n) : Bits n (RN (W ++ [(p, q)])) (stpRow p q rows) := by
  refine ⟨by simp [stpRow, h.1], fun i hi j => ?_⟩
  rw [stpRow, getD_map (by rw [h.1]; exact hi), RN.snoc]
  have a := h.2 i hi p
  have b := h.2 i hi j
  have c := h.2 q hq j
  split
  · rename_i k
    rw [Nat.testBit_or, Bool.or_eq_true, b, c]
    exact ⟨fun z => z.elim .inl fun z => .inr ⟨a.mp k, z⟩, fun z => z.elim .inl fun z => .inr z.2⟩
  · rename_i k
    rw [b]
    exact ⟨.inl, fun z => z.elim id fun z => absurd (a.mpr z.1) k⟩
def rowsAfter (n : Nat) (W : List (Nat × Nat)) : List Nat := W.foldl (fun rows w => stpRow w.1 w.2 rows) (idr n)
theorem rowsAfter_snoc (n : Nat) (W : List (Nat × Nat)) (w : Nat × Nat) : rowsAfter n (W ++ [w]) = stpRow w.1 w.2 (rowsAfter n W) := by
  unfold rowsAfter
  rw [List.foldl_append]
  rfl
theorem rowsAfter_bits {n : Nat} : ∀ {W : List (Nat × Nat)}, (∀ w ∈ W, w.1 < n ∧ w.2 < n) → Bits n (RN W) (rowsAfter n W) := by
  intro W
  have gen : ∀ (k : Nat) (W : List (Nat × Nat)), W.length = k → (∀ w ∈ W, w.1 < n ∧ w.2 < n) → Bits n (RN W) (rowsAfter n W) := by
    intro k
    induction k with
    | zero =>
      intro W hl _
      rw [List.length_eq_zero_iff.mp hl]
      exact idr_bits n
    | succ k ih =>
      intro W hl hW
      have ne : W ≠ [] := fun z => by rw [z] at hl; cases hl
      have e := List.dropLast_concat_getLast ne
      rw [← e] at hW ⊢
      have i1 := ih W.dropLast (by rw [List.length_dropLast, hl]; rfl) fun w hw => hW w (List.mem_append_left _ hw)
      rw [rowsAfter_snoc]
      exact stp_bits i1 (hW _ (List.mem_append_right _ (List.mem_singleton.mpr rfl))).2
  exact fun h => gen _ W rfl h
/-- no circle -/
def RankedN (W : List (Nat × Nat)) : Prop := ∃ rk : Nat → Nat, ∀ w ∈ W, rk w.2 < rk w.1
theorem RankedN.no_circle {W : List (Nat × Nat)} (h : RankedN W) {w : Nat × Nat} (hw : w ∈ W) : ¬ RN W w.2 w.1 := by
  obtain ⟨rk, hr⟩ := h
  intro k
  have : ∀ {i j : Nat}, RN W i j → rk j ≤ rk i := by
    intro i j h
    induction h with
    | refl => exact Nat.le_refl _
    | step h _ ih => have := hr _ h; simp only at this; omega
  have a := this k
  have b := hr w hw
  omega
/-! above: the rows that meet a mask -/
def meet (rows : List Nat) (m : Nat) : Nat := msk ((List.range rows.length).filter fun i => decide (rows.getD i 0 &&& m ≠ 0))
theorem meet_bit (rows : List Nat) (m i : Nat) : (meet rows m).testBit i = true ↔ i < rows.length ∧ ∃ j, (rows.getD i 0).testBit j = true ∧ m.testBit j = true := by
  unfold meet
  rw [msk_bit (List.nodup_range.filter _), decide_eq_true_eq, List.mem_filter, List.mem_range, decide_eq_true_eq]
  refine and_congr_right fun _ => ?_
  constructor
  · intro h
    obtain ⟨j, hj⟩ := Nat.exists_testBit_of_ne_zero h
    rw [Nat.testBit_and, Bool.and_eq_true] at hj
    exact ⟨j, hj⟩
  · rintro ⟨j, h1, h2⟩ z
    have : (rows.getD i 0 &&& m).testBit j = true := by rw [Nat.testBit_and, h1, h2]; rfl
    rw [z, Nat.zero_testBit] at this
    cases this
def aboveR (rows : List Nat) : List Nat := (List.range rows.length).map fun i => meet rows (2 ^ i)
theorem above_bits {n : Nat} {P : Nat → Nat → Prop} {rows : List Nat} (h : Bits n P rows) : Bits n (fun i j => j < n ∧ P j i) (aboveR rows) := by
  refine ⟨by simp [aboveR, h.1], fun i hi j => ?_⟩
  rw [aboveR, getD_map (by rw [List.length_range, h.1]; exact hi), getD_range (by rw [h.1]; exact hi), meet_bit, h.1]
  refine and_congr_right fun hj => ?_
  constructor
  · rintro ⟨k, h1, h2⟩
    rw [Nat.testBit_two_pow, decide_eq_true_eq] at h2
    subst h2
    exact (h.2 j hj _).mp h1
  · intro z
    exact ⟨i, (h.2 j hj i).mpr z, Nat.testBit_two_pow_self⟩
/-! bars -/
def barStep (rows : List Nat) (w : Nat × Nat) : List Nat := (rows.set w.1 (rows.getD w.1 0 ||| 2 ^ w.2)).set w.2 ((rows.set w.1 (rows.getD w.1 0 ||| 2 ^ w.2)).getD w.2 0 ||| 2 ^ w.1)
def barR (n : Nat) (B : List (Nat × Nat)) : List Nat := B.foldl barStep (List.replicate n 0)
def BarN (B : List (Nat × Nat)) (i j : Nat) : Prop := (i, j) ∈ B ∨ (j, i) ∈ B
theorem getD_set {l : List Nat} {i k v : Nat} (h : k < l.length) : (l.set k v).getD i 0 = if i = k then v else l.getD i 0 := by
  rw [List.getD_eq_getElem?_getD, List.getElem?_set, List.getD_eq_getElem?_getD]
  by_cases e : k = i
  · subst e
    rw [if_pos rfl, if_pos h, if_pos rfl]
    rfl
  · rw [if_neg e, if_neg (fun z => e z.symm)]
theorem barR_bits {n : Nat} {B : List (Nat × Nat)} (hB : ∀ w ∈ B, w.1 < n ∧ w.2 < n) : Bits n (BarN B) (barR n B) := by
  have gen : ∀ (B C : List (Nat × Nat)) (rows : List Nat), (∀ w ∈ B, w.1 < n ∧ w.2 < n) → Bits n (BarN C) rows → Bits n (BarN (C ++ B)) (B.foldl barStep rows) := by
    intro B
    induction B with
    | nil => intro C rows _ h; rw [List.append_nil]; exact h
    | cons w B ih =>
      intro C rows hB h
      obtain ⟨h1, h2⟩ := hB w List.mem_cons_self
      have e : C ++ w :: B = (C ++ [w]) ++ B := by simp
      rw [e, List.foldl_cons]
      refine ih _ _ (fun v hv => hB v (List.mem_cons_of_mem _ hv)) ⟨by simp [barStep, h.1], fun i hi j => ?_⟩
      have q := h.2 i hi j
      have l1 : w.1 < rows.length := by rw [h.1]; exact h1
      have l2 : w.2 < (rows.set w.1 (rows.getD w.1 0 ||| 2 ^ w.2)).length := by rw [List.length_set, h.1]; exact h2
      have m : BarN (C ++ [w]) i j ↔ BarN C i j ∨ (i, j) = w ∨ (j, i) = w := by
        simp only [BarN, List.mem_append, List.mem_singleton]
        constructor
        · rintro ((a | a) | (a | a))
          · exact .inl (.inl a)
          · exact .inr (.inl a)
          · exact .inl (.inr a)
          · exact .inr (.inr a)
        · rintro ((a | a) | a | a)
          · exact .inl (.inl a)
          · exact .inr (.inl a)
          · exact .inl (.inr a)
          · exact .inr (.inr a)
      rw [m, barStep, getD_set l2, getD_set l1, getD_set l1]
      obtain ⟨u, v⟩ := w
      simp only [Prod.mk.injEq]
      have tt : ∀ a b : Nat, (2 ^ a).testBit b = true ↔ a = b := fun a b => by rw [Nat.testBit_two_pow, decide_eq_true_eq]
      by_cases c1 : i = v
      · subst c1
        rw [if_pos rfl]
        by_cases c2 : i = u
        · subst c2
          rw [if_pos rfl, Nat.testBit_or, Nat.testBit_or, Bool.or_eq_true, Bool.or_eq_true, q, tt]
          constructor
          · rintro ((a | a) | a)
            · exact .inl a
            · exact .inr (.inl ⟨rfl, a.symm⟩)
            · exact .inr (.inl ⟨rfl, a.symm⟩)
          · rintro (a | ⟨_, a⟩ | ⟨a, _⟩)
            · exact .inl (.inl a)
            · exact .inr a.symm
            · exact .inr a.symm
        · rw [if_neg c2, Nat.testBit_or, Bool.or_eq_true, q, tt]
          constructor
          · rintro (a | a)
            · exact .inl a
            · exact .inr (.inr ⟨a.symm, rfl⟩)
          · rintro (a | ⟨a, _⟩ | ⟨a, _⟩)
            · exact .inl a
            · exact absurd a c2
            · exact .inr a.symm
      · rw [if_neg c1]
        by_cases c2 : i = u
        · subst c2
          rw [if_pos rfl, Nat.testBit_or, Bool.or_eq_true, q, tt]
          constructor
          · rintro (a | a)
            · exact .inl a
            · exact .inr (.inl ⟨rfl, a.symm⟩)
          · rintro (a | ⟨_, a⟩ | ⟨_, a⟩)
            · exact .inl a
            · exact .inr a.symm
            · exact absurd a c1
        · rw [if_neg c2, q]
          constructor
          · exact .inl
          · rintro (a | ⟨a, _⟩ | ⟨_, a⟩)
            · exact a
            · exact absurd a c2
            · exact absurd a c1
  have z : Bits n (BarN []) (List.replicate n 0) := by
    refine ⟨List.length_replicate, fun i hi j => ?_⟩
    rw [List.getD_eq_getElem?_getD, List.getElem?_replicate, if_pos hi]
    show Nat.testBit 0 j = true ↔ _
    rw [Nat.zero_testBit]
    exact ⟨fun z => Bool.noConfusion z, fun z => z.elim (fun z => by cases z) fun z => by cases z⟩
  have := gen B [] _ hB z
  rwa [List.nil_append] at this
/-! clashes -/
def reachR (bars below : List Nat) : List Nat := below.map fun row => orl bars (plc row)
def ReachB (P Q : Nat → Nat → Prop) (i j : Nat) : Prop := ∃ k, P i k ∧ Q k j
theorem reach_bits {n : Nat} {P Q : Nat → Nat → Prop} {bars below : List Nat} (hb : Bits n Q bars) (hp : Bits n P below) (hP : ∀ i j, i < n → P i j → j < n) : Bits n (ReachB P Q) (reachR bars below) := by
  refine ⟨by simp [reachR, hp.1], fun i hi j => ?_⟩
  rw [reachR, getD_map (by rw [hp.1]; exact hi), orl_bit, List.any_eq_true]
  constructor
  · rintro ⟨k, h1, h2⟩
    have p := (hp.2 i hi k).mp (mem_plc.mp h1)
    exact ⟨k, p, (hb.2 k (hP i k hi p) j).mp h2⟩
  · rintro ⟨k, h1, h2⟩
    exact ⟨k, mem_plc.mpr ((hp.2 i hi k).mpr h1), (hb.2 k (hP i k hi h1) j).mpr h2⟩
def clashR (reach below : List Nat) : List Nat := reach.map fun m => meet below m
def ClashN (P Q : Nat → Nat → Prop) (n : Nat) (i j : Nat) : Prop := j < n ∧ ∃ l, P j l ∧ ReachB P Q i l
theorem clash_bits {n : Nat} {P Q : Nat → Nat → Prop} {reach below : List Nat} (hr : Bits n (ReachB P Q) reach) (hp : Bits n P below) : Bits n (ClashN P Q n) (clashR reach below) := by
  refine ⟨by simp [clashR, hr.1], fun i hi j => ?_⟩
  rw [clashR, getD_map (by rw [hr.1]; exact hi), meet_bit, hp.1]
  refine and_congr_right fun hj => ?_
  constructor
  · rintro ⟨l, h1, h2⟩
    exact ⟨l, (hp.2 j hj l).mp h1, (hr.2 i hi l).mp h2⟩
  · rintro ⟨l, h1, h2⟩
    exact ⟨l, (hp.2 j hj l).mpr h1, (hr.2 i hi l).mpr h2⟩
end Np

set_option Elab.async false
set_option linter.all false
set_option maxRecDepth 100000
set_option maxHeartbeats 4000000
namespace Np
open PySem PySem.Spec PyProof.Rows L2
/-! ### operators on sets of places -/
abbrev vN (m : Nat) : V := .int (m : Int)
def rNN (C : Nat → Nat → Prop) (g : Nat → Nat → Nat) : R2 := fun x y H Q => ∃ a b : Nat, x = vN a ∧ y = vN b ∧ C a b ∧ Q (vN (g a b)) H
def rNN0 (g : Nat → Nat → Nat) : R2 := fun x y H Q => ∃ a b : Nat, x = vN a ∧ y = vN b ∧ Q (vN (g a b)) H
section
variable {X : Cx}
theorem op_bshrM : OpR X (binaryOp .RShift) (rNN0 fun m p => m / 2 ^ p) := by
  intro pins s σ H x y v u Q I rx ry h
  obtain ⟨a, b, rfl, rfl, q⟩ := h
  refine op_shrN pins s σ H _ _ v u Q I rx ry ⟨_, b, rfl, rfl, ?_⟩
  have e : (a : Int) / 2 ^ b = ((a / 2 ^ b : Nat) : Int) := by
    rw [Int.natCast_ediv]
    congr 1
  rw [e]
  exact q
theorem op_bandM : OpR X (binaryOp .BitAnd) (rNN0 fun a b => a &&& b) := by
  intro pins s σ H x y v u Q I rx ry h
  obtain ⟨a, b, rfl, rfl, q⟩ := h
  exact op_and pins s σ H _ _ v u Q I rx ry ⟨_, _, rfl, rfl, by show Q (.int (Builtin.bitAnd (a : Int) (b : Int))) H; rw [band]; exact q⟩
theorem op_borM : OpR X (binaryOp .BitOr) (rNN0 fun a b => a ||| b) := by
  intro pins s σ H x y v u Q I rx ry h
  obtain ⟨a, b, rfl, rfl, q⟩ := h
  exact op_or pins s σ H _ _ v u Q I rx ry ⟨_, _, rfl, rfl, by show Q (.int (Builtin.bitOr (a : Int) (b : Int))) H; rw [bor]; exact q⟩
theorem op_bxorM : OpR X (binaryOp .BitXor) (rNN0 fun a b => a ^^^ b) := by
  intro pins s σ H x y v u Q I rx ry h
  obtain ⟨a, b, rfl, rfl, q⟩ := h
  exact op_xor pins s σ H _ _ v u Q I rx ry ⟨_, _, rfl, rfl, by show Q (.int (Builtin.bitXor (a : Int) (b : Int))) H; rw [bxor]; exact q⟩
/-- a & ~b -/
def rAndNot : R2 := fun x y H Q => ∃ a b : Nat, x = vN a ∧ y = .int (Builtin.bitNot (b : Int)) ∧ Q (vN (nd a b)) H
theorem op_bandN : OpR X (binaryOp .BitAnd) rAndNot := by
  intro pins s σ H x y v u Q I rx ry h
  obtain ⟨a, b, rfl, rfl, q⟩ := h
  exact op_and pins s σ H _ _ v u Q I rx ry ⟨_, _, rfl, rfl, by show Q (.int (Builtin.bitAnd (a : Int) (Builtin.bitNot (b : Int)))) H; rw [bandnot]; exact q⟩
/-- 1 << k -/
def rShl1 : R2 := fun x y H Q => ∃ k : Nat, x = .int 1 ∧ y = vN k ∧ k ≤ 1000 ∧ Q (vN (2 ^ k)) H
theorem op_bshlM : OpR X (binaryOp .LShift) rShl1 := by
  intro pins s σ H x y v u Q I rx ry h
  obtain ⟨k, rfl, rfl, hk, q⟩ := h
  refine op_oneShl pins s σ H _ _ v u Q I rx ry ⟨k, rfl, rfl, by omega, ?_⟩
  have e : (2 : Int) ^ k = ((2 ^ k : Nat) : Int) := (PySem.W.kbt_cast k).symm
  rw [e]
  exact q
def rInv : V → Hp → VK → Prop := fun x H Q => ∃ b : Nat, x = vN b ∧ Q (.int (Builtin.bitNot (b : Int))) H
theorem un_invM : UnR X (unaryOp .Invert) rInv := by
  intro pins s σ H x v Q I rx h
  obtain ⟨b, rfl, q⟩ := h
  exact un_inv pins s σ H _ v Q I rx ⟨_, rfl, q⟩
end
/-- a number as a test -/
def tTruI (ta : TE) : TT := fun σ H Q => ta σ H fun x H' => ∃ i, x = .int i ∧ Q (i != 0) H'
theorem pt_truthI {X : Cx} {a : Expr} {ta : TE} (ha : PE X a ta) (he : ∀ whole, isTrue a X.env whole = (do let v ← whole; standAt a.pos; holding [v] (truthy v))) : PT X a (tTruI ta) := by
  refine ⟨fun pins s σ H Q I h => ?_⟩
  refine isTrue_plain (thn (ha.run pins s σ H _ I h) fun v s1 ⟨x, H1, I1, r1, i, e, q1⟩ => ?_) (he _)
  exact tru_ok pins s1 σ H1 x v Q I1 r1 ⟨i != 0, by rw [e]; rfl, q1⟩
theorem bitM (m p : Nat) : ((((m / 2 ^ p &&& 1 : Nat) : Int)) != 0) = m.testBit p := by
  have := bit1_ne m p
  have e : (m : Int) / 2 ^ p = ((m / 2 ^ p : Nat) : Int) := by
    rw [Int.natCast_ediv]
    congr 1
  rw [e] at this
  have e1 : (1 : Int) = ((1 : Nat) : Int) := rfl
  rw [e1, band] at this
  exact this
theorem bitM1 (m p : Nat) : decide ((((m / 2 ^ p &&& 1 : Nat) : Int)) = 1) = m.testBit p := by
  have := bitM m p
  have l : (m / 2 ^ p &&& 1) ≤ 1 := Nat.and_le_right
  rw [← this]
  have c : (m / 2 ^ p &&& 1) = 0 ∨ (m / 2 ^ p &&& 1) = 1 := by omega
  rcases c with c | c <;> rw [c] <;> rfl
theorem truM {K : PySem.W.Frag} {H : Hp} (m p : Nat) : TruV K (vN (m / 2 ^ p &&& 1)) H (m.testBit p) := by
  show m.testBit p = _
  exact (bitM m p).symm
theorem dec_vN (a b : Nat) : decide (vN a = vN b) = decide (a = b) := by
  refine decide_eq_decide.mpr ⟨fun h => ?_, fun h => by rw [h]⟩
  have : (a : Int) = (b : Int) := V.int.inj h
  exact Int.ofNat.inj this
def rEqM : R2 := fun x y H Q => ∃ a b : Nat, x = vN a ∧ y = vN b ∧ Q (.bl (decide (a = b))) H
def rNeM : R2 := fun x y H Q => ∃ a b : Nat, x = vN a ∧ y = vN b ∧ Q (.bl (decide (a ≠ b))) H
theorem op_eqM {X : Cx} : OpR X (compareOp .Eq) rEqM := by
  intro pins s σ H x y v u Q I rx ry h
  obtain ⟨a, b, rfl, rfl, q⟩ := h
  exact op_eq pins s σ H _ _ v u Q I rx ry ⟨rfl, by rw [dec_vN]; exact q⟩
theorem op_neM {X : Cx} : OpR X (compareOp .NotEq) rNeM := by
  intro pins s σ H x y v u Q I rx ry h
  obtain ⟨a, b, rfl, rfl, q⟩ := h
  refine op_ne pins s σ H _ _ v u Q I rx ry ⟨rfl, ?_⟩
  rw [dec_vN, ← decide_not]
  exact q
theorem ix_listK {X : Cx} {K : PySem.W.Frag} (h : X.K = K) : IxR X (rIxL K) := by subst h; exact ix_list
theorem ix_tupK {X : Cx} {K : PySem.W.Frag} (h : X.K = K) : IxR X (rIxT K) := by subst h; exact ix_tup
theorem v0 (i : Nat) : V.int (0 + (i : Int)) = vN i := by rw [Int.zero_add]
theorem natInt_at {ns : List Nat} {i : Nat} {x : V} (h : (ns.map vN)[i]? = some x) : ∃ a, x = vN a ∧ ns[i]? = some a := by
  rw [List.getElem?_map] at h
  cases e : ns[i]? with
  | none => rw [e] at h; cases h
  | some a => rw [e] at h; cases h; exact ⟨a, rfl, rfl⟩
theorem getD_at {ns : List Nat} {i a : Nat} (h : ns[i]? = some a) : ns.getD i 0 = a := by
  rw [List.getD_eq_getElem?_getD, h]
  rfl
theorem at_getD {ns : List Nat} {i : Nat} (h : i < ns.length) : ns[i]? = some (ns.getD i 0) := by
  rw [List.getD_eq_getElem?_getD, List.getElem?_eq_getElem h]
  rfl
theorem atI_vN {ns : List Nat} {i : Nat} (h : i < ns.length) : atI (ns.map vN) (i : Int) = some (vN (ns.getD i 0)) := atI_nat (by rw [List.getElem?_map, at_getD h]; rfl)
theorem vN_int (ns : List Nat) : ns.map vN = (ns.map fun (n : Nat) => (n : Int)).map V.int := by rw [List.map_map]; rfl
end Np

set_option Elab.async false
set_option linter.all false
set_option maxRecDepth 100000
set_option maxHeartbeats 4000000
namespace Np
open PySem PySem.Spec PyProof.Rows L2
/-! ### isinstance of built-in types -/
def kB (m n : String) : Option Bool := kitB m n
theorem tyx_sqT {K : PySem.W.Frag} {H : Hp} {a : Addr} {xs : List V} (h : SqT K H a xs) : TyX K H (.ref a) (.type "tuple") := by
  rcases h with (h | ⟨o, h⟩) | ⟨o, its, n, h, c, _⟩
  · exact .base (.tup h)
  · exact .fTuple h
  · exact .kTuple h c
theorem tyx_sqL {K : PySem.W.Frag} {H : Hp} {a : Addr} {xs : List V} (h : SqL K H a xs) : TyX K H (.ref a) (.type "list") := by
  rcases h with (h | ⟨o, h⟩) | ⟨o, its, n, h, c, _⟩
  · exact .base (.lst h)
  · exact .base (.frz h)
  · exact .kList h c
def sqName (t : Bool) : String := if t then "list" else "tuple"
theorem tyx_sq {K : PySem.W.Frag} {t : Bool} {H : Hp} {a : Addr} {xs : List V} (h : SqB K t H a xs) : TyX K H (.ref a) (.type (sqName t)) := by
  cases t
  · exact tyx_sqT h
  · exact tyx_sqL h
def rIsB (K : PySem.W.Frag) : List V → Hp → VK → Prop := fun xs H Q => ∃ (x : V) (m n : String) (b : Bool), xs = [x, .ty n] ∧ TyX K H x (.type m) ∧ kB m n = some b ∧ Q (.bl b) H
theorem call_isB {X : Cx} {K : PySem.W.Frag} (hK : X.K = K) : CallR X (.builtin "isinstance") (rIsB K) := by
  subst hK
  intro pins s σ H xs us Q I r h
  obtain ⟨x, m, n, b, e, ty, k, q⟩ := h
  exact call_isi pins s σ H xs us Q I r ⟨x, _, _, _, b, e, .ty n, ty, kit_ty k, q⟩
def kAny (m : String) : List String → Option Bool
  | [] => some false
  | n :: r => match kB m n with | some true => some true | some false => kAny m r | none => none
theorem kitAny_of {K : PySem.W.Frag} {m : String} : ∀ {ns : List String} {b : Bool}, kAny m ns = some b → PySem.W.kitAny K (.type m) (ns.map Value.type) = some b
  | [], b, h => h
  | n :: r, b, h => by
    unfold kAny at h
    have e : PySem.W.kitAny K (.type m) ((n :: r).map Value.type) = (match PySem.W.kitOne K (.type m) (.type n) with | some true => some true | some false => PySem.W.kitAny K (.type m) (r.map Value.type) | none => none) := rfl
    rw [e]
    cases c : kB m n with
    | none => rw [c] at h; cases h
    | some k =>
      rw [c] at h
      rw [kit_ty (K := K) c]
      cases k with
      | true => exact h
      | false => exact kitAny_of (ns := r) h
def rIsBT (K : PySem.W.Frag) : List V → Hp → VK → Prop := fun xs H Q => ∃ (x : V) (m : String) (tp : Addr) (ns : List String) (b : Bool), xs = [x, .ref tp] ∧ H tp = some (.tup (ns.map V.ty)) ∧ TyX K H x (.type m) ∧ kAny m ns = some b ∧ Q (.bl b) H
theorem cls_all : ∀ ns : List String, Paired ClsV (ns.map V.ty) (ns.map Value.type)
  | [] => .nil
  | n :: r => .cons (.ty n) (cls_all r)
theorem call_isBT {X : Cx} {K : PySem.W.Frag} (hK : X.K = K) : CallR X (.builtin "isinstance") (rIsBT K) := by
  subst hK
  intro pins s σ H xs us Q I r h
  obtain ⟨x, m, tp, ns, b, e, hT, ty, k, q⟩ := h
  exact call_isiT pins s σ H xs us Q I r ⟨x, tp, _, _, _, b, e, hT, cls_all ns, ty, kitAny_of k, q⟩
/-! ### slices and sums, of whatever part -/
def rSlQ (K : PySem.W.Frag) : V → Option Int → Option Int → Hp → VK → Prop := fun x lo hi H Q => ∃ t a xs, x = .ref a ∧ SqB K t H a xs ∧ ∀ q H', Same H H' → SqB K t H' q (cutV xs lo hi) → Q (.ref q) H'
theorem cut_whole {xs : List V} {lo hi : Option Int} (h : HT.sIx xs.length 0 lo = 0 ∧ HT.sIx xs.length xs.length hi = xs.length) : cutV xs lo hi = xs := by
  unfold cutV
  rw [h.1, h.2, List.drop_zero, Nat.sub_zero, List.take_length]
theorem sl_sqK {X : Cx} {K : PySem.W.Frag} (hK : X.K = K) : SlR X (rSlQ K) := by
  subst hK
  intro pins s σ H x v vl vu lo hi sl Q I rx hs pl pu h
  obtain ⟨t, a, xs, rfl, hx, q⟩ := h
  cases t with
  | true => exact sl_list pins s σ H _ v vl vu lo hi sl Q I rx hs pl pu ⟨a, xs, rfl, hx, fun p hp => q p _ (Same.new hp) (SqL.of upd_same)⟩
  | false => exact sl_tupA pins s σ H _ v vl vu lo hi sl Q I rx hs pl pu ⟨a, xs, rfl, hx, fun hw => q a H (Same.refl _) (by rw [cut_whole hw]; exact hx), fun _ p hp => q p _ (Same.new hp) (SqT.of upd_same)⟩
theorem sl_sq {X : Cx} : SlR X (rSlQ X.K) := sl_sqK rfl
def rSlTQ (K : PySem.W.Frag) : V → Option Int → Option Int → Hp → VK → Prop := fun x lo hi H Q => ∃ a xs, x = .ref a ∧ SqT K H a xs ∧ ∀ q H', Same H H' → SqT K H' q (cutV xs lo hi) → Q (.ref q) H'
theorem sl_tqK {X : Cx} {K : PySem.W.Frag} (hK : X.K = K) : SlR X (rSlTQ K) := by
  subst hK
  intro pins s σ H x v vl vu lo hi sl Q I rx hs pl pu h
  obtain ⟨a, xs, rfl, hx, q⟩ := h
  exact sl_tupA pins s σ H _ v vl vu lo hi sl Q I rx hs pl pu ⟨a, xs, rfl, hx, fun hw => q a H (Same.refl _) (by rw [cut_whole hw]; exact hx), fun _ p hp => q p _ (Same.new hp) (SqT.of upd_same)⟩
theorem sl_tq {X : Cx} : SlR X (rSlTQ X.K) := sl_tqK rfl
def rCatQ (K : PySem.W.Frag) : R2 := fun x y H Q => ∃ a b xs ys, x = .ref a ∧ y = .ref b ∧ SqT K H a xs ∧ SqT K H b ys ∧ xs.length + ys.length ≤ sizeLine ∧ ∀ q H', Same H H' → SqT K H' q (xs ++ ys) → Q (.ref q) H'
theorem op_catQ {X : Cx} {K : PySem.W.Frag} (hK : X.K = K) : OpR X (binaryOp .Add) (rCatQ K) := by
  subst hK
  intro pins s σ H x y v u Q I rx ry h
  obtain ⟨a, b, xs, ys, rfl, rfl, ha, hb, hz, q⟩ := h
  refine op_catA pins s σ H _ _ v u Q I rx ry ⟨a, b, xs, ys, rfl, rfl, ha, hb, hz, fun z => ?_, fun _ z => ?_, fun _ _ p hp => q p _ (Same.new hp) (SqT.of upd_same)⟩
  · subst z; exact q b H (Same.refl _) hb
  · subst z; exact q a H (Same.refl _) (by rw [List.append_nil]; exact ha)
theorem TyX.same {K : PySem.W.Frag} {H H' : Hp} {x : V} {t : Value} (h : TyX K H x t) (s : Same H H') : TyX K H' x t := by
  cases h with
  | base b =>
    cases b with
    | non => exact .base .non
    | bl y => exact .base (.bl y)
    | int i => exact .base (.int i)
    | str y => exact .base (.str y)
    | flt y => exact .base (.flt y)
    | lst e => exact .base (.lst (s _ _ e))
    | frz e => exact .base (.frz (s _ _ e))
    | tup e => exact .base (.tup (s _ _ e))
    | dK e => exact .base (.dK (s _ _ e))
    | dT e => exact .base (.dT (s _ _ e))
    | ins e cl ha hn htk hm => exact .base (.ins (s _ _ e) cl ha hn htk hm)
  | byt y => exact .byt y
  | set e => exact .set (s _ _ e)
  | kList e c => exact .kList e c
  | kTuple e c => exact .kTuple e c
  | kDict e c => exact .kDict e c
  | fTuple e => exact .fTuple (s _ _ e)
  | fDict e => exact .fDict (s _ _ e)
end Np

set_option Elab.async false
set_option linter.all false
set_option maxRecDepth 100000
set_option maxHeartbeats 4000000
namespace Np
open PySem PySem.Spec PyProof.Rows L2
/-! ### raising an own error with fields -/
theorem ExK.ty {K : PySem.W.Frag} {C : Addr} {newId : String} {T : List Value} (e : ExK K C newId T) : PySem.W.typeIn K (.ref C) = some (.type "type") := by
  obtain ⟨nm, q, N, bs, bm, sn, sub, ab, col, dd, k0, k1, k2, k3, k5, hC, hb⟩ := e.cls
  show (List.lookup C K).map (·.cls) = _
  rw [hC]
  rfl
/-- the reading of raise C(..): the error's own dict at d, new -/
def tRz (x : Str) (fs : List Str) (K : PySem.W.Frag) (ta : TA) : L2.St → Hp → XK → Prop := fun σ H Q => ta σ H fun ws H1 => ws.length = fs.length ∧ ∀ d H', H1 d = none → Same H1 H' → H' d = some (.xd (fs.zip ws).reverse) → Q (.ref (He.ga K x)) (some d) H'
section
variable {X : Cx} {x q : Str} {st : Stmt} {fs : List Str} {e : Expr} {es : List Expr} {ta : TA} {p pos : Pos}
theorem pmk_err (c : ErrC X.prog X.w X.K X.mg X.base x q st fs) (hr : Room 2 X.A) (ha : PA X (e :: es) ta) (hn : fs.length ≤ 1000 := by decide) (hg : Gl X x := by rfl) (hdb : (x == ("__debug__" : Str)) = false := by decide)
    (he : starEach (e :: es) X.env = (false, eval e X.env) :: starEach es X.env := by rfl) (hpl : (backTo pos (starEach es X.env)).any (·.1) = false := by rfl) : PMk X (.Call (.Name x p) (e :: es) [] pos) (tRz x fs X.K ta) := by
  obtain ⟨fI, fd, hmg, M, F, _, hb⟩ := c
  intro pins s σ H Q I h
  obtain ⟨B, newId, initId, bmB, T, ek, R⟩ := id M.row
  obtain ⟨nm, q', N, bs, bm, sn, sub, ab, col, dd, k0, k1, k2, k3, k5, hC, hbm⟩ := ek.cls
  refine wpAny_Call_Name_kw (ld_glob I hg hmg ?_ hdb)
  refine PySem.W.callWith_K (h₀ := X.base) I.ok.mod.kin (kC_of M) (thn (ha.run pos pins s σ H _ I h) fun us s1 ⟨vs, H1, I1, r1, hl1, q1⟩ => ⟨I1.kIn, ?_⟩) he hpl
  show wpAny _ _ (call (.ref (He.ga X.K x)) us) _ _ _
  obtain ⟨hp, g, dr, tk, os⟩ := s1
  have hsz : hp.objs.size ≤ hp.objs.size + 1 := Nat.le_succ _
  have hn1 : H1 (hp.objs.size + 1) = none := I1.hok.fresh hsz
  have kk : ∀ b o, hp.get? b = some o → ((hp.push (PySem.W.kdv_tup us)).push (PySem.HandSPX.excO (He.ga X.K x) hp.objs.size)).get? b = some o := fun b o e => Heap.get?_push_of_some _ (Heap.get?_push_of_some _ e)
  have hget : ((hp.push (PySem.W.kdv_tup us)).push (PySem.HandSPX.excO (He.ga X.K x) hp.objs.size)).get? (hp.objs.size + 1) = some (PySem.HandSPX.excO (He.ga X.K x) hp.objs.size) := by heap_get
  have I2 : Inv X pins σ (upd H1 (hp.objs.size + 1) (exo (hp.objs.size + 1) (He.ga X.K x) none)) ⟨(hp.push (PySem.W.kdv_tup us)).push (PySem.HandSPX.excO (He.ga X.K x) hp.objs.size), g, dr, tk, os⟩ :=
    I1.laid (t' := tk) (a := hp.objs.size + 1) (o := exo (hp.objs.size + 1) (He.ga X.K x) none) (h' := (hp.push (PySem.W.kdv_tup us)).push (PySem.HandSPX.excO (He.ga X.K x) hp.objs.size)) kk hsz (exo_ok hget)
  have hq : spInit (He.ga X.K x) fs (.ref (hp.objs.size + 1) :: vs) (upd H1 (hp.objs.size + 1) (exo (hp.objs.size + 1) (He.ga X.K x) none))
      (fun v H2 => v = .non ∧ ∃ (d : Addr), H2 (hp.objs.size + 1) = some (exo (hp.objs.size + 1) (He.ga X.K x) (some d)) ∧ H2 d = some (exd d (fs.zip vs).reverse) ∧ H1 d = none ∧ Q (.ref (He.ga X.K x)) (some d) (upd (del H2 (hp.objs.size + 1)) d (.xd (fs.zip vs).reverse))) (fun _ _ _ => False) := by
    refine ⟨_, vs, rfl, hl1, upd_same, fun dx H' ndx bu h1 h2 => ⟨rfl, dx, h1, h2, ?_, q1 dx _ ?_ ?_ upd_same⟩⟩
    · exact (upd_none ndx).2
    · exact (upd_none ndx).2
    · intro b o hb'
      have nba : b ≠ hp.objs.size + 1 := ne_of_none hb' hn1
      have nbd : b ≠ dx := ne_of_none hb' (upd_none ndx).2
      rw [upd_ne nbd, del_ne nba]
      exact bu b o nba (by rw [upd_ne nba]; exact hb')
  have r2 : Vals (V.ref (hp.objs.size + 1) :: vs) (Value.ref (hp.objs.size + 1) :: us) := .cons rfl r1
  have hl : (Value.ref (hp.objs.size + 1) :: us).length = (("self" : Str) :: fs).length := by
    have e := r2.length
    rw [F.len _ _ _ _ hq] at e
    exact e.symm
  have hus : us.length ≤ sizeLine := by
    rw [← Paired.length r1, sizeLine_eq]
    omega
  have bnd := hb ⟨(hp.push (PySem.W.kdv_tup us)).push (PySem.HandSPX.excO (He.ga X.K x) hp.objs.size), g, dr, tk, os⟩ (Value.ref (hp.objs.size + 1) :: us) I2.kIn (by rw [List.append_nil]; exact hl)
  rw [List.append_nil] at bnd
  refine wpAny_call (calledOwn R.base (R.mro hbm) (I1.kIn _ _ hC) (PySem.W.looks_findIn I1.kIn M.init) (fun self => PySem.W.bind_fn I1.kIn self M.fn) hus
    (codeAny_mono (F.run _ X.stack _ _ ⟨Value.ref (hp.objs.size + 1) :: us, []⟩ (Value.ref (hp.objs.size + 1) :: us) _ _ (fun _ _ _ => False) (hr.make _ us []) (I2.env0.make _ us []) bnd r2 hq) fun r s' hq' => ?_))
  cases r with
  | error er => exact hq'.elim
  | ok fl =>
    cases fl with
    | ret u =>
      obtain ⟨v, H2, os2, bare2, un2, hok2, rv, ev, d, ea, ed, hd1, q2⟩ := hq'
      subst ev
      obtain ⟨h2, g2, d2, t2, os'⟩ := s'
      exact ⟨rv, mk_end (raises_own ek.x.hs ek.ty) I1 hsz kk un2 hok2 os2 bare2 ea ed hd1 q2⟩
    | next => exact False.elim hq'
    | brk => exact False.elim hq'
    | cont => exact False.elim hq'
end
/-! ### several except clauses, each with a name -/
def wManyAs (K : PySem.W.Frag) (Wout : WX) (D : Ends) : List (Value × Nat × (Addr → Value → Option Addr → TS)) → WX
  | [] => Wout
  | (c, i, ts) :: r => fun cls d σ H => ∃ b, PySem.W.exmOne K cls c = some b ∧ (b = true → ∀ a, H a = none → ts a cls d { D with nx := fun σ H => D.nx (σ.set i none) H, bk := fun σ H => D.bk (σ.set i none) H, ct := fun σ H => D.ct (σ.set i none) H } (σ.set i (some (.ref a))) H) ∧
    (b = false → wManyAs K Wout D r cls d σ H)
inductive HdsAs (X : Cx) : List ExceptHandler → List (Value × Nat × (Addr → Value → Option Addr → TS)) → Prop
  | nil : HdsAs X [] []
  | cons {x n : Str} {i : Nat} {c : Value} {ts : Addr → Value → Option Addr → TS} {b₀ : Stmt} {suite : List Stmt} {np pos' : Pos} {hds : List ExceptHandler} {l : List (Value × Nat × (Addr → Value → Option Addr → TS))} (hi : X.N[i]? = some n) (hln : X.env.kindOf n = some .local) (hc : Names X x c)
      (hsu : ∀ (a : Addr) (oe : Obj) (cls : Value) (d : Option Addr) (pn : List (Addr × Obj)), Zc cls d oe → (∃ vs, oe.data = .fields vs) → PSs (X.suite a ((a, oe) :: pn)) (b₀ :: suite) (ts a cls d)) (r : HdsAs X hds l) :
      HdsAs X (.ExceptHandler (some (.Name x np)) (some n) (b₀ :: suite) pos' :: hds) ((c, i, ts) :: l)
section
variable {X : Cx} {body : List Stmt} {h₀ : ExceptHandler} {hds : List ExceptHandler} {l : List (Value × Nat × (Addr → Value → Option Addr → TS))} {pos : Pos} {tb : WX → TS} {Wout : WX}
theorem ps_try_manyAs (hs : X.stack = X.env :: X.outer) (hf : X.env.frame = some X.env.locals) (hN : X.N.Nodup) (tk : Takes X Wout)
    (hb : ∀ (W : WX) (pn : List (Addr × Obj)) (xe : Value → Shared → Prop), Takes (X.tr pn xe) W → PassesOwn (model X.prog X.w) X.A X.env xe → PSs (X.tr pn xe) body (tb W))
    (hh : HdsAs X (h₀ :: hds) l) : PS X (.Try body (h₀ :: hds) [] [] pos) (fun D σ H => tb (wManyAs X.K Wout D l) D σ H) := by
  refine ⟨fun pins s σ H D I h => ?_⟩
  have ok := I.ok
  have hfr : X.A.frames = some (X.env :: X.outer) := by rw [ok.frames, hs]
  refine wpAny_Try_except ?_
  refine wpAny_mono ((hb (wManyAs X.K Wout D l) (X.pn ++ pins) (fun e s₁ => wpAny (model X.prog X.w) X.A (noteFrame e X.env) (fun _ s₂ => wpAny (model X.prog X.w) X.A (setFlight e none) (fun _ s₃ =>
    wpAny (model X.prog X.w) X.A (handleBy e X.env (h₀ :: hds)) (SP X pins D) X.xe s₃) X.xe s₂) X.xe s₁) (fun u s' xx => ?_) PassesOwn.looking).run [] s σ H D (I.toTry _) h) (fun f s1 hsp => ?_) (fun e s1 he => he)
  · obtain ⟨a, B, sI, pins', σ', H', cls, d, rfl, J', nb, up, sky, na, os, ag, w⟩ := xx
    have J : Inv X pins σ' H' sI := J'.ofTry ok
    have sky' : Sky B (X.env :: X.outer) a (Zc cls d) X.env.locals s'.heap := by rw [← hs]; exact sky
    show wpAny (model X.prog X.w) X.A (noteFrame (.ref a) X.env) _ _ _
    refine Sky.land Zc.steady hfr hf sky' fun h3 fl3 up3 => ?_
    have J3 : Inv X pins σ' H' { s' with heap := h3 } := J.landed nb fl3.1 (up.trans up3) os ag
    obtain ⟨oe3, vs3, he3, hz3, hd3⟩ := fl3.there
    have notFr : ∀ {h : Heap} {o : Obj} {vs : Array Value}, h.FunFrames B (X.env :: X.outer) → h.get? a = some o → o.data = .fields vs → a ∉ frs (X.env :: X.outer) := fun {h o vs} ff e dd hm => by
      obtain ⟨_, o', e', hnf⟩ := ff.mem hm
      rw [e] at e'; cases e'
      exact hnf _ dd
    have nfr := notFr fl3.2.2.1 he3 hd3
    have nL : a ≠ X.env.locals := fun z => nfr (List.mem_filterMap.mpr ⟨X.env, List.mem_cons_self, by rw [hf, z]⟩)
    have nF : a ∉ X.fs := fun hm => by
      obtain ⟨e, he, q⟩ := List.mem_filterMap.mp hm
      exact nfr (List.mem_filterMap.mpr ⟨e, List.mem_cons_of_mem _ he, q⟩)
    have S3 := J3.suite he3 hd3 na nL nF
    have go : ∀ {hds' : List ExceptHandler} {l' : List (Value × Nat × (Addr → Value → Option Addr → TS))}, HdsAs X hds' l' → wManyAs X.K Wout D l' cls d σ' H' →
        wpAny (model X.prog X.w) X.A (handleBy (.ref a) X.env hds') (SP X pins D) X.xe { s' with heap := h3 } := by
      intro hds' l' hk
      induction hk with
      | nil =>
        intro w
        refine wpAny_handleBy_nil ?_
        obtain ⟨k1, k2, k3, oe, vs, T, oT, ts', he, hz, hd, h1, hr⟩ := id fl3
        unfold PySem.passOn
        refine wpAny_bind (wpAny_field he hd h1 ?_)
        rw [if_neg (show ¬ ((Value.ref T == Value.none) = true) from by simp)]
        have fin : wpAny (model X.prog X.w) X.A (setFlight (.ref a) X.env.frame) (fun _ s4 => wpAny (model X.prog X.w) X.A (throw (.ref a) : Sem Flow) (SP X pins D) X.xe s4) X.xe { s' with heap := h3 } := by
          rw [hf]
          refine HandSPX.setFlight_upZ fl3 fun h4 hh4 up4 => wpAny_throw (tk _ _ ?_)
          exact ⟨a, B, sI, pins, σ', H', cls, d, rfl, J, nb, (up.trans up3).trans up4, .inr (.inr (by rw [hs]; exact hh4)), na, os, ag, w⟩
        first
          | exact wpAny_bind (wpAny_pure (wpAny_bind fin))
          | exact wpAny_bind fin
      | @cons x n i c ts b₀ suite np pos' hds2 l2 hi hln hc hsu r ih =>
        intro w
        obtain ⟨b, hb1, hyes, hno⟩ := w
        have hloc : Loc X.env.scope n := .inl hln
        refine wpAny_handleBy_cons (codeAny_handlers_test ?_) (by intro q; cases q)
        have LT : PySem.W.Looks (model X.prog X.w) h3 (typeOf (.ref a)) cls := fun A Q E s k q => wpAny_typeOf_ref (k _ _ he3) (by rw [hz3.1]; exact q)
        have LM := PySem.W.exm_one (M := model X.prog X.w) (J3.kIn) LT hb1
        have test : ∀ {Q : Value → Shared → Prop} {E : Value → Shared → Prop}, Q c { s' with heap := h3 } → wpAny (model X.prog X.w) (X.A.mark (some (.ref a))) (eval (.Name x np) X.env) Q E { s' with heap := h3 } := fun {Q E} q => by
          obtain ⟨hg, hdbg, hm | ⟨hm, hv, hnn⟩⟩ := hc
          · exact ld_glob (X := X.suite a ((a, oe3) :: (X.pn ++ pins))) S3 hg hm q hdbg
          · exact ld_blt (X := X.suite a ((a, oe3) :: (X.pn ++ pins))) S3 hg hm hv q hnn hdbg
        refine test (LM.here ?_)
        cases b with
        | true =>
          refine codeAny_handlers_suite_as ?_
          refine HandSPX.lands_againZ fl3 fun h4 fl4 up4 => ?_
          have J4 : Inv X pins σ' H' { s' with heap := h4 } := J.landed nb fl4.1 ((up.trans up3).trans up4) os ag
          obtain ⟨oe4, vs4, he4, hz4, hd4⟩ := fl4.there
          have S4 := J4.suite he4 hd4 na nL nF
          refine store_ok (X := X.suite a ((a, oe4) :: (X.pn ++ pins))) (v := .ref a) S4 hN hi hloc rfl (fun s5 S5 => ?_) (.inr hln)
          refine wpAny_mono ((hsu a oe4 cls d (X.pn ++ pins) hz4 ⟨_, hd4⟩).run [] s5 _ H' _ S5 (hyes rfl a na)) (fun f s6 hsp => ?_) (fun _ _ z => False.elim z)
          have end_ : ∀ {σ6 : L2.St} {H6 : Hp} {Q : Shared → Prop}, Inv (X.suite a ((a, oe4) :: (X.pn ++ pins))) [] σ6 H6 s6 → (∀ s7, Inv X pins (σ6.set i none) H6 s7 → Q s7) →
              wpAny (model X.prog X.w) X.A (do bindName X.env n .none; unbindBehindTheSuite X.env n pos') (fun _ s7 => Q s7) X.xe s6 := fun {σ6 H6 Q} S6 hq => gone_ok (S6.unsuite ok) hN hi hln hq
          cases f with
          | next =>
            obtain ⟨σ6, H6, S6, q6⟩ := hsp
            exact end_ S6 fun s7 J7 => ⟨_, _, J7, q6⟩
          | brk =>
            obtain ⟨σ6, H6, S6, q6⟩ := hsp
            exact end_ S6 fun s7 J7 => ⟨_, _, J7, q6⟩
          | cont =>
            obtain ⟨σ6, H6, S6, q6⟩ := hsp
            exact end_ S6 fun s7 J7 => ⟨_, _, J7, q6⟩
          | ret u =>
            obtain ⟨v6, σ6, H6, S6, r6, q6⟩ := hsp
            exact end_ S6 fun s7 J7 => ⟨_, _, _, J7, r6, q6⟩
        | false =>
          show wpAny _ X.A (handleBy (.ref a) X.env hds2) _ _ _
          exact ih (hno rfl)
    exact go hh w
  · cases f with
    | next =>
      obtain ⟨σ', H', J', q⟩ := hsp
      exact wpAny_execs_nil ⟨σ', H', J'.ofTry ok, q⟩
    | brk =>
      obtain ⟨σ', H', J', q⟩ := hsp
      exact ⟨σ', H', J'.ofTry ok, q⟩
    | cont =>
      obtain ⟨σ', H', J', q⟩ := hsp
      exact ⟨σ', H', J'.ofTry ok, q⟩
    | ret u =>
      obtain ⟨v, σ', H', J', r, q⟩ := hsp
      exact ⟨v, σ', H', J'.ofTry ok, r, q⟩
end
/-- err.f in an except suite, from the class's facts -/
theorem xfc_of {K : PySem.W.Frag} {C : Addr} (e : ExcC K C) : XfC K C := ⟨e.hg, e.hk, e.hs, e.hd⟩
end Np

set_option Elab.async false
set_option linter.all false
set_option maxRecDepth 100000
set_option maxHeartbeats 4000000
namespace Np
open PySem PySem.Spec PyProof.Rows L2
/-! ### calls of whatever kind, by what the callee promises; W: what is wished of an error -/
section
variable (P : Program) (w : World) (K : PySem.W.Frag) (mg : Str → Option Value) (base : Heap) (CX : CXT) (k : Nat)
/-- a def of the module -/
def CalF (x : Str) (sp : Sp) : Prop := ∃ f : Addr, mg x = some (.ref f) ∧ FnR P w K mg base CX k f sp ∧ PySem.W.keepIn K (.ref f) = true
/-- a method of the class at C -/
def CalM (C : Addr) (m : Str) (sp : Sp) : Prop := ∃ f : Addr, Meth K C m f ∧ FnR P w K mg base CX k f sp
/-- a property -/
def CalP (C : Addr) (m : Str) (sp : Sp) : Prop := ∃ p g : Addr, PropOf K C m p g ∧ FnR P w K mg base CX k g sp
/-- an instance of the class is called -/
def CalO (C : Addr) (sp : Sp) : Prop := ∃ g : Addr, StX.CallO K C g ∧ FnR P w K mg base CX k g sp
/-- the class x is called: sp is what its __init__ promises -/
def CalI (x : Str) (C : Addr) (sp : Sp) : Prop := ∃ f : Addr, mg x = some (.ref C) ∧ Mk K C f ∧ FnR P w K mg base CX k f sp
end
section
variable {P : Program} {w : World} {K : PySem.W.Frag} {mg : Str → Option Value} {base : Heap} {CX : CXT} {k : Nat} {f : Addr} {sp sp' : Sp}
theorem FnR.calm (F : FnR P w K mg base (L2.CX P w) k f sp) (h : ∀ vs H Q E, sp' vs H Q E → sp vs H Q fun _ _ _ => False) : FnR P w K mg base CX0 k f sp' := fun A outer s H us vs Q E hr e0 r hs =>
  codeAny_mono (F A outer s H us vs Q (fun _ _ _ => False) hr e0 r (h _ _ _ _ hs)) fun r s' hq => by
    cases r with
    | error e =>
      obtain ⟨_, _, _, _, _, _, _, _, _, _, _, _, z⟩ := hq
      exact z.elim
    | ok fl => cases fl <;> exact hq
theorem CalF.imp {x : Str} (c : CalF P w K mg base CX k x sp) (h : ∀ vs H Q E, sp' vs H Q E → sp vs H Q E) : CalF P w K mg base CX k x sp' := let ⟨f, a, b, d⟩ := c; ⟨f, a, b.imp h, d⟩
theorem CalM.imp {C : Addr} {m : Str} (c : CalM P w K mg base CX k C m sp) (h : ∀ vs H Q E, sp' vs H Q E → sp vs H Q E) : CalM P w K mg base CX k C m sp' := let ⟨f, a, b⟩ := c; ⟨f, a, b.imp h⟩
theorem CalM.calm {C : Addr} {m : Str} (c : CalM P w K mg base (L2.CX P w) k C m sp) (h : ∀ vs H Q E, sp' vs H Q E → sp vs H Q fun _ _ _ => False) : CalM P w K mg base CX0 k C m sp' := let ⟨f, a, b⟩ := c; ⟨f, a, FnR.calm b h⟩
theorem CalO.calm {C : Addr} (c : CalO P w K mg base (L2.CX P w) k C sp) (h : ∀ vs H Q E, sp' vs H Q E → sp vs H Q fun _ _ _ => False) : CalO P w K mg base CX0 k C sp' := let ⟨f, a, b⟩ := c; ⟨f, a, FnR.calm b h⟩
theorem CalI.calm {x : Str} {C : Addr} (c : CalI P w K mg base (L2.CX P w) k x C sp) (h : ∀ vs H Q E, sp' vs H Q E → sp vs H Q fun _ _ _ => False) : CalI P w K mg base CX0 k x C sp' := let ⟨f, a, b, d⟩ := c; ⟨f, a, b, FnR.calm d h⟩
theorem CalF.calm {x : Str} (c : CalF P w K mg base (L2.CX P w) k x sp) (h : ∀ vs H Q E, sp' vs H Q E → sp vs H Q fun _ _ _ => False) : CalF P w K mg base CX0 k x sp' := let ⟨f, a, b, d⟩ := c; ⟨f, a, FnR.calm b h, d⟩
end
section
variable {X : Cx} {CX : CXT} {k : Nat} {C : Addr} {sp : Sp} {E : L2.St → XK} {x m : Str} {p pos apos : Pos} {e o fe : Expr} {es : List Expr} {ta tf : TE} {t : TA}
theorem run_fnRA {pins : List (Addr × Obj)} {σ : L2.St} {H : Hp} {s : Shared} {f : Addr} {E : XK} {Q : VK} {us : List Value} {vs : List V} (F : FnR X.prog X.w X.K X.mg X.base CX k f sp) (hr : Room k X.A) (hx : PassesAt CX X σ E) (I : Inv X pins σ H s) (r : Vals vs us) (h : sp vs H Q E) :
    codeAny (model X.prog X.w) X.A (.call (.ref f) ⟨us, []⟩) (fun r s' => match r with | .ok (.ret v) => EP X pins σ Q v s' | .ok _ => False | .error e => X.xe e s') s := by
  refine codeAny_mono (F X.A X.stack s H us vs Q E hr I.env0 r h) fun r s' hq => ?_
  cases r with
  | error e => exact hx pins H s e s' I hq
  | ok fl =>
    cases fl with
    | ret u => exact I.after hq
    | next => exact False.elim hq
    | brk => exact False.elim hq
    | cont => exact False.elim hq
def tCalF (sp : Sp) (E : L2.St → XK) (t : TA) : TE := fun σ H Q => t σ H fun vs H1 => sp vs H1 Q (E σ)
theorem pe_F (c : CalF X.prog X.w X.K X.mg X.base CX k x sp) (hr : Room k X.A) (hx : ∀ σ, PassesAt CX X σ (E σ)) (ha : PA X (e :: es) t) (hg : Gl X x := by rfl) (hdb : (x == ("__debug__" : Str)) = false := by decide)
    (he : starEach (e :: es) X.env = (false, eval e X.env) :: starEach es X.env := by rfl) (hpl : (backTo pos (starEach es X.env)).any (·.1) = false := by rfl) : PE X (.Call (.Name x p) (e :: es) [] pos) (tCalF sp E t) := by
  obtain ⟨f, hm, F, hk⟩ := c
  refine ⟨fun pins s σ H Q I h => ?_⟩
  refine wpAny_Call_Name_kw (ld_glob I hg hm ?_ hdb)
  refine PySem.W.callWith_K (h₀ := X.base) I.ok.mod.kin hk (thn (ha.run pos pins s σ H _ I h) fun us s1 ⟨vs, H1, I1, r, q⟩ => ⟨I1.kIn, ?_⟩) he hpl
  exact wpAny_call (run_fnRA F hr (hx σ) I1 r q)
def tCalM (C : Addr) (m : Str) (sp : Sp) (E : L2.St → XK) (ta : TE) (t : TA) : TE := fun σ H Q => ta σ H fun x H1 => ∃ a dx fs, x = .ref a ∧ H1 a = some (.ins C dx fs) ∧ fs.lookup m = none ∧ t σ H1 fun vs H2 => sp (x :: vs) H2 Q (E σ)
theorem pe_M {pl : Sem Bool} (he : PE X o ta) (c : Cls X.K C) (cm : CalM X.prog X.w X.K X.mg X.base CX k C m sp) (hr : Room k X.A) (hx : ∀ σ, PassesAt CX X σ (E σ)) (ha : PA X (e :: es) t)
    (hst : starEach (e :: es) X.env = (false, eval e X.env) :: starEach es X.env := by rfl) (hpl : (backTo pos (starEach es X.env)).any (·.1) = false := by rfl)
    (ht : eval (.Call (.Attribute o m apos) (e :: es) [] pos) X.env = (do
      let ov ← eval o X.env
      standAt apos.atName
      let (f, first) ← holding [ov] (getMethod ov m pl)
      callWith pos f first (backTo pos (starEach (e :: es) X.env)) (backToKw pos (keywordEach [] X.env))) := by rfl) :
    PE X (.Call (.Attribute o m apos) (e :: es) [] pos) (tCalM C m sp E ta t) := by
  obtain ⟨f, hm, F⟩ := cm
  refine ⟨fun pins s σ H Q I h => ?_⟩
  refine PySem.W.methodCall_KW (pl := pl) (thn (he.run pins s σ H _ I h) fun u s1 ⟨x, H1, I1, rx, a, dx, fs, ex, ea, l, q⟩ => ?_) ht
  subst ex
  obtain rfl : u = Value.ref a := rx
  refine getmeth_ok I1 ea c hm l ?_
  refine PySem.W.callWith_K (first := [.ref a]) (h₀ := X.base) I.ok.mod.kin hm.kp (thn (ha.run pos pins s1 σ H1 _ I1 q) fun us s2 ⟨vs, H2, I2, r, q2⟩ => ⟨I2.kIn, ?_⟩) hst hpl
  exact wpAny_call (run_fnRA (us := .ref a :: us) (vs := .ref a :: vs) F hr (hx σ) I2 (.cons rfl r) q2)
theorem pe_M0 {pl : Sem Bool} (he : PE X o ta) (c : Cls X.K C) (cm : CalM X.prog X.w X.K X.mg X.base CX k C m sp) (hr : Room k X.A) (hx : ∀ σ, PassesAt CX X σ (E σ))
    (ht : eval (.Call (.Attribute o m apos) [] [] pos) X.env = (do
      let ov ← eval o X.env
      standAt apos.atName
      let (f, first) ← holding [ov] (getMethod ov m pl)
      callWith pos f first (backTo pos (starEach [] X.env)) (backToKw pos (keywordEach [] X.env))) := by rfl) :
    PE X (.Call (.Attribute o m apos) [] [] pos) (tCalM C m sp E ta tNil) := by
  obtain ⟨f, hm, F⟩ := cm
  refine ⟨fun pins s σ H Q I h => ?_⟩
  refine PySem.W.methodCall_KW (pl := pl) (thn (he.run pins s σ H _ I h) fun u s1 ⟨x, H1, I1, rx, a, dx, fs, ex, ea, l, q⟩ => ?_) ht
  subst ex
  obtain rfl : u = Value.ref a := rx
  refine getmeth_ok I1 ea c hm l ?_
  exact PySem.W.callWith_K0 (first := [.ref a]) I1.kIn hm.kp (wpAny_call (run_fnRA (us := [.ref a]) (vs := [.ref a]) F hr (hx σ) I1 (.cons rfl .nil) q))
/-- o.f, a property that raises nothing -/
def tCalP (C : Addr) (sp : Sp) (ta : TE) : TE := fun σ H Q => ta σ H fun x H1 => ∃ a dx fs, x = .ref a ∧ H1 a = some (.ins C dx fs) ∧ sp [.ref a] H1 Q E0
theorem pe_P (he : PE X o ta) (c : Cls X.K C) (cp : CalP X.prog X.w X.K X.mg X.base CX0 k C m sp) (hr : Room (k + 1) X.A) (hab : attributeBase o m X.env (eval o X.env) = eval o X.env := by rfl) : PE X (.Attribute o m pos) (tCalP C sp ta) := by
  obtain ⟨pp, g, hp, F⟩ := cp
  refine ⟨fun pins s σ H Q I h => ?_⟩
  refine attr_of hab (thn (he.run pins s σ H _ I h) fun u s1 ⟨x, H1, I1, rx, a, dx, fs, ex, ea, q⟩ => ?_)
  subst ex
  obtain rfl : u = Value.ref a := rx
  obtain ⟨mA, O, _, _, _, _⟩ := ins_get I1.hok ea
  obtain ⟨od, J, _⟩ := O.look
  obtain ⟨rest, hrec⟩ := hp.rec_
  have I2 := I1.tok (s1.toks + 1)
  have hc : (PySem.W.clsIn X.K C).isSome = true := by
    obtain ⟨cd, hc, _⟩ := PySem.W.any_some c.hd
    rw [hc]
    rfl
  refine PySem.W.get_bind I1.kIn J (PySem.W.plainGet_of (c.get m)).1 (PySem.W.findObj_data hc hp.at_ hp.get hp.tak) (PySem.W.plainGet_of (c.get m)).2 (wpAny_call (PySem.W.prop_get (s := { s1 with toks := s1.toks + 1 }) I1.kIn hrec ?_))
  refine codeAny_mono (F X.A.in1 X.stack { s1 with toks := s1.toks + 1 } H1 [.ref a] [.ref a] Q E0 hr.in1 I2.env0.in1 (.cons rfl .nil) q) fun r s' hq => ?_
  cases r with
  | error er => exact hq.elim
  | ok fl =>
    cases fl with
    | ret u =>
      obtain ⟨v, H', I3, rv, q3⟩ := I2.after hq
      show wpAny _ _ (handedOut u) _ _ _
      rw [PySem.W.handedOut_of (handed_of rv)]
      exact wpAny_pure ⟨v, H', I3, rv, q3⟩
    | next => exact False.elim hq
    | brk => exact False.elim hq
    | cont => exact False.elim hq
/-- o(e, ..), o an instance of the class at C -/
def tCalO (C : Addr) (sp : Sp) (E : L2.St → XK) (tf : TE) (t : TA) : TE := fun σ H Q => tf σ H fun y H1 => ∃ a, y = V.ref a ∧ t σ H1 fun vs H2 => (∃ dx fs, H2 a = some (.ins C dx fs)) ∧ sp (V.ref a :: vs) H2 Q (E σ)
theorem pe_O (hf : PE X fe tf) (c : CalO X.prog X.w X.K X.mg X.base CX k C sp) (hr : Room k X.A) (hx : ∀ σ, PassesAt CX X σ (E σ)) (ha : PA X (e :: es) t)
    (ht : eval (.Call fe (e :: es) [] pos) X.env = (do callWith pos (← eval fe X.env) [] (backTo pos (starEach (e :: es) X.env)) (backToKw pos (keywordEach [] X.env))) := by rfl)
    (he : starEach (e :: es) X.env = (false, eval e X.env) :: starEach es X.env := by rfl) (hpl : (backTo pos (starEach es X.env)).any (·.1) = false := by rfl) : PE X (.Call fe (e :: es) [] pos) (tCalO C sp E tf t) := by
  obtain ⟨g, c, F⟩ := c
  refine ⟨fun pins s σ H Q I h => ?_⟩
  refine Call_ (thn (hf.run pins s σ H _ I h) fun u s1 ⟨y, H1, I1, ry, a, ey, q⟩ => ?_) ht
  subst ey
  obtain rfl : u = Value.ref a := ry
  refine StX.callO_with (thn (ha.run pos pins s1 σ H1 _ I1 q) fun us s2 ⟨vs, H2, I2, r, ⟨dx, fs, hi⟩, q2⟩ => ?_) he hpl
  obtain ⟨ox, od, J, hd⟩ := StX.insC_at (X := X) I2 (.inr ⟨dx, fs, hi⟩)
  exact ⟨⟨C, ox, od, J, hd⟩, wpAny_call (PySem.W.kco_code I2.kIn J hd c.at_ c.fn c.fi (run_fnRA (us := .ref a :: us) (vs := .ref a :: vs) F hr (hx σ) I2 (.cons rfl r) q2))⟩
/-- C(e, ..): a new instance -/
def tCalI (C : Addr) (sp : Sp) (E : L2.St → XK) (t : TA) : TE := fun σ H Q => t σ H fun vs H1 => ∀ x dx, H1 x = Option.none → H1 dx = Option.none → dx ≠ x →
  sp (V.ref x :: vs) (upd (upd H1 dx (.own x)) x (.ins C dx [])) (fun v H2 => v = .non ∧ Q (.ref x) H2) (E σ)
theorem run_I {pins : List (Addr × Obj)} {σ : L2.St} {H : Hp} {s : Shared} {f : Addr} {E : XK} {Q : VK} {us : List Value} {vs : List V} (M : Mk X.K C f) (F : FnR X.prog X.w X.K X.mg X.base CX k f sp) (hr : Room (k + 1) X.A) (hx : PassesAt CX X σ E) (I : Inv X pins σ H s) (r : Vals vs us)
    (h : ∀ x dx, H x = Option.none → H dx = Option.none → dx ≠ x → sp (V.ref x :: vs) (upd (upd H dx (.own x)) x (.ins C dx [])) (fun v H2 => v = .non ∧ Q (.ref x) H2) E) :
    wpAny (model X.prog X.w) X.A (call (.ref C) us) (EP X pins σ Q) X.xe s := by
  have hq := h (s.heap.objs.size + 1) s.heap.objs.size (I.hok.fresh (Nat.le_succ _)) (I.hok.fresh (Nat.le_refl _)) (Nat.ne_of_lt (Nat.lt_succ_self _))
  have I2 := Inv.made (C := C) I
  have r2 : Vals (V.ref (s.heap.objs.size + 1) :: vs) (Value.ref (s.heap.objs.size + 1) :: us) := .cons rfl r
  refine wpAny_call (make_map (f := f) I.kIn M.makes M.init (beq_iff_eq.mp M.fn) (codeAny_mono (F _ X.stack _ _ (Value.ref (s.heap.objs.size + 1) :: us) _ _ E (hr.make C us []) (I2.env0.make C us []) r2 hq) fun r s' hq' => ?_))
  cases r with
  | error e => exact hx pins _ _ e s' I2 hq'
  | ok fl =>
    cases fl with
    | ret u =>
      obtain ⟨v, H', I3, rv, ev, q3⟩ := I2.after hq'
      subst ev
      exact ⟨rv, ⟨V.ref (s.heap.objs.size + 1), H', I3, rfl, q3⟩⟩
    | next => exact False.elim hq'
    | brk => exact False.elim hq'
    | cont => exact False.elim hq'
theorem pe_I (c : CalI X.prog X.w X.K X.mg X.base CX k x C sp) (hr : Room (k + 1) X.A) (hx : ∀ σ, PassesAt CX X σ (E σ)) (ha : PA X (e :: es) t) (hg : Gl X x := by rfl) (hdb : (x == ("__debug__" : Str)) = false := by decide)
    (he : starEach (e :: es) X.env = (false, eval e X.env) :: starEach es X.env := by rfl) (hpl : (backTo pos (starEach es X.env)).any (·.1) = false := by rfl) : PE X (.Call (.Name x p) (e :: es) [] pos) (tCalI C sp E t) := by
  obtain ⟨f, hm, M, F⟩ := c
  refine ⟨fun pins s σ H Q I h => ?_⟩
  refine wpAny_Call_Name_kw (ld_glob I hg hm ?_ hdb)
  refine PySem.W.callWith_K (h₀ := X.base) I.ok.mod.kin M.kp (thn (ha.run pos pins s σ H _ I h) fun us s1 ⟨vs, H1, I1, r, q⟩ => ⟨I1.kIn, ?_⟩) he hpl
  exact run_I M F hr (hx σ) I1 r q
end
/-- nothing is raised -/
theorem no0 {X : Cx} : ∀ σ : L2.St, PassesAt CX0 X σ ((fun _ => E0) σ) := fun _ _ _ _ _ _ _ h => h.elim
/-- raised on, as X's own wish says -/
theorem thru {X : Cx} {W : WX} (tk : Takes X W) : ∀ σ : L2.St, PassesAt (L2.CX X.prog X.w) X σ (WE W σ) := fun σ => passAt tk σ
end Np

set_option Elab.async false
set_option linter.all false
set_option maxRecDepth 100000
set_option maxHeartbeats 4000000
namespace Np
open PySem PySem.Spec PyProof.Rows L2
/-! ### dict comprehensions over any walk -/
section
variable {J : It} {n : Nat} {G : Hp → Prop} {Y : Nat → Hp → V → Hp → Prop} {g : TG} {tt : TT} {tk tv : TE} {vs : List Nat} {σ : L2.St} {H1 : Hp} {D : Addr} {Qd : Hp → Prop}
theorem dc_it (w : Walk J n G Y) (Pv : Nat → Hp → Prop) (h0 : Pv 0 (upd H1 D (.dK []))) (hG : ∀ i H, i ≤ n → Pv i H → G H)
    (hs : ∀ i x H H', i < n → Pv i H → Y i H x H' → g x (wipe σ vs) H' fun σ2 H2 => wipe σ2 vs = wipe σ vs ∧ tt σ2 H2 fun b H3 =>
      if b = true then tk σ2 H3 fun y H4 => tv σ2 H4 fun z H5 => ∃ kvs k, y = kV k ∧ H5 D = some (.dK kvs) ∧ kvs.length < sizeLine ∧ Pv (i + 1) (upd H5 D (.dK (putK kvs k z))) else Pv (i + 1) H3) (hd : ∀ H, Pv n H → Qd H) :
    ∃ W : Nat → Nat → Hp → Prop, (∃ m, W 0 m (upd H1 D (.dK []))) ∧ ∀ i m H, W i m H →
      (J.stop i H ∧ Qd H) ∨ (J.go i H ∧ ∃ Nx : Hp → Prop, (∀ H', Nx H' → ∃ m', m' < m ∧ W (i + 1) m' H') ∧ ∀ x H', J.yld i H x H' → g x (wipe σ vs) H' fun σ2 H2 => wipe σ2 vs = wipe σ vs ∧ tt σ2 H2 fun b H3 =>
        if b = true then tk σ2 H3 fun y H4 => tv σ2 H4 fun z H5 => ∃ kvs k, y = kV k ∧ H5 D = some (.dK kvs) ∧ kvs.length < sizeLine ∧ Nx (upd H5 D (.dK (putK kvs k z))) else Nx H3) := by
  refine ⟨fun i m H => m = n - i ∧ i ≤ n ∧ Pv i H, ⟨n, by simp, Nat.zero_le _, h0⟩, ?_⟩
  rintro i m H ⟨rfl, hi, p⟩
  have q := hG i H hi p
  by_cases hlt : i < n
  · refine .inr ⟨w.goes i H hlt q, Pv (i + 1), fun H' p' => ⟨n - (i + 1), by omega, rfl, hlt, p'⟩, fun x H' y => hs i x H H' hlt p (w.yields i H x H' hlt q y)⟩
  · have e : i = n := by omega
    subst e
    exact .inl ⟨w.stops H q, hd H p⟩
end
section
variable {X : Cx}
theorem sw_trueD {kx vx : Expr} {gs : List Comprehension} {scope : Scope} {pos py : Pos} {y : Str} {l : Nat} {env : Env} (hk : env.scope.kind = .function) (hy : env.scope.names.lookup y = some .local) (hl : (py.line == pos.line) = true)
    (ha : (scope.names.any fun (n, k) => n == y && (k == .local || k == .cell)) = false) : swapsWith (.DictComp kx vx gs scope pos) (some (.Name y py)) l env = pure true := by
  have ky : env.kindOf y = some .local := hy
  have hb : env.blockKind = .function := by unfold Env.blockKind; rw [hk]; rfl
  unfold swapsWith
  simp only [hb, ky, ha, Expr.pos, hl]
  rfl
theorem ps_setDc {i : Nat} {y : Str} {py : Pos} {kx vx tg iter : Expr} {ifs : List Expr} {scope : Scope} {own : List (Str × Nat)} {pos spos : Pos} {wi : TI} {g : TG} {tt : TT} {tk tv : TE} (hc : X.calm = true) (hN : X.N.Nodup) (hy : X.N[i]? = some y) (hyl : X.env.scope.names.lookup y = some .local)
    (hsw : swapsWith (.DictComp kx vx [⟨tg, iter, ifs, 0⟩] scope pos) (some (.Name y py)) spos.line X.env = pure true) (hi : PI X tg iter wi) (ok : BlkOk X.N X.env.scope scope own)
    (hg : ∀ (s : Shared) (H : Hp) (C : Addr) (cl : List (Str × Addr)) (fp : List Addr), PG (X.blk s H scope (compEnvC scope cl C X.env) fp) tg g) (ht : ∀ (s : Shared) (H : Hp) (C : Addr) (cl : List (Str × Addr)) (fp : List Addr), PTs (X.blk s H scope (compEnvC scope cl C X.env) fp) ifs tt)
    (hk : ∀ (s : Shared) (H : Hp) (C : Addr) (cl : List (Str × Addr)) (fp : List Addr), PE (X.blk s H scope (compEnvC scope cl C X.env) fp) kx tk)
    (he : ∀ (s : Shared) (H : Hp) (C : Addr) (cl : List (Str × Addr)) (fp : List Addr), PE (X.blk s H scope (compEnvC scope cl C X.env) fp) vx tv) (hs : ∀ x, foldedSetIterable iter X.env x = pure x := by intro _; rfl) :
    PS X (.Assign [.Name y py] (.DictComp kx vx [⟨tg, iter, ifs, 0⟩] scope pos) spos) (tAsg (tDc wi g tt tk tv (own.map (·.2))) (gName i)) := by
  refine ⟨fun pins s σ H D I h => ?_⟩
  rw [exec_Assign_Name_used _ _ _ _ hsw]
  refine wpAny_bind (wpAny_standAt (wpAny_bind ?_))
  show wpAny _ X.A (do let _ ← comprehension (.DictComp kx vx [⟨tg, iter, ifs, 0⟩] scope pos) scope X.env (firstIterPos [⟨tg, iter, ifs, 0⟩] pos) newDict false (eval iter X.env) (some (assign (.Name y py) X.env))) _ _ s
  have h : tDc wi g tt tk tv (own.map (·.2)) σ H (fun x H1 => gName i x σ H1 D.nx) := h
  refine wpAny_bind (thn (dc_core (Qf := fun _ s' => SP X pins D .next s') hc hN I hi ok hg ht hk he hs h fun L C s' m H' I' q hn f => ?_) fun _ s' hq => wpAny_pure (wpAny_pure hq))
  show wpAny _ _ (assign (.Name y py) X.env (.ref L)) _ _ _
  refine wpAny_assign_Name (store_ok2 (v := V.ref L) I' hN hy (.inl hyl) rfl (fun s2 I2 ⟨a, sb, ha⟩ => ?_) (.inr hyl))
  obtain ⟨f0, f1, f2, f3, f4, f5⟩ := f
  have haC : C ≠ a := by
    rcases ha with z | z
    · rw [z]; exact f1
    · exact fun e => f4 y a z e.symm
  refine ⟨m, hn.sameBut sb haC, fun h3 sb3 => ?_⟩
  exact ⟨_, H', I2.turned (t' := s2.toks) (fun b o hb e => (sb3.2 b hb).trans e) f0 f1 f3 f4 f5, q⟩
end
/-- tuple(l) of a list or a tuple, l told or not -/
def rTupQ (K : PySem.W.Frag) : List V → Hp → VK → Prop := fun xs H Q => ∃ t p ys, xs = [.ref p] ∧ SqB K t H p ys ∧ ∀ q H', Same H H' → SqT K H' q ys → Q (.ref q) H'
theorem call_tupQ {X : Cx} {K : PySem.W.Frag} (hK : X.K = K) : CallR X (.type "tuple") (rTupQ K) := by
  subst hK
  intro pins s σ H xs us Q I r h
  obtain ⟨t, p, ys, rfl, hp, q⟩ := h
  cases t with
  | true => exact call_tuple_of pins s σ H _ us Q I r ⟨p, ys, rfl, .inl ⟨hp, fun l hl => q l _ (Same.new hl) (SqT.of upd_same)⟩⟩
  | false => exact call_tuple_of pins s σ H _ us Q I r ⟨p, ys, rfl, .inr ⟨hp, q p H (Same.refl _) hp⟩⟩
/-! ### fields of instances of a class that is named -/
def tFldC (C : Addr) (f : Str) (ta : TE) : TE := fun σ H Q => ta σ H fun x H1 => ∃ a dx fs v, x = .ref a ∧ H1 a = some (.ins C dx fs) ∧ fs.lookup f = some v ∧ Q v H1
theorem pe_A {X : Cx} {C : Addr} {f : Str} {e : Expr} {ta : TE} {pos : Pos} (he : PE X e ta) (c : Cls X.K C) (n : NoAttr X.K C f) (hb : attributeBase e f X.env (eval e X.env) = eval e X.env := by rfl) : PE X (.Attribute e f pos) (tFldC C f ta) := by
  refine ⟨fun pins s σ H Q I h => ?_⟩
  refine attr_of hb (thn (he.run pins s σ H _ I h) fun u s1 ⟨x, H1, I1, rx, a, dx, fs, v, ex, ea, l, q⟩ => ?_)
  subst ex
  obtain rfl : u = Value.ref a := rx
  exact getattr_ok I1 ea c n l fun u' s2 I2 ru => ⟨v, H1, I2, ru, q⟩
def sFldC (C : Addr) (f : Str) (ta tv : TE) : TS := fun D σ H => tv σ H fun y H1 => ta σ H1 fun x H2 => ∃ a dx fs, x = .ref a ∧ H2 a = some (.ins C dx fs) ∧ fs.length < 1000 ∧ D.nx σ (upd H2 a (.ins C dx (putF f y fs)))
theorem ps_A {X : Cx} {C : Addr} {f : Str} {o value : Expr} {ta tv : TE} {pos pos' : Pos} (ha : PE X o ta) (hv : PE X value tv) (c : Cls X.K C) (n : NoAttr X.K C f) (hs : swapsWith value (some (.Attribute o f pos')) pos.line X.env = pure false := by rfl) :
    PS X (.Assign [.Attribute o f pos'] value pos) (sFldC C f ta tv) := by
  refine ⟨fun pins s σ H D I h => ?_⟩
  refine plainObj_wpAny_Assign_Attribute (thn (hv.run pins s σ H _ I h) fun u s1 ⟨y, H1, I1, ry, q⟩ => thn (ha.run pins s1 σ H1 _ I1 q) fun ov s2 ⟨x, H2, I2, rx, a, dx, fs, ex, ea, l, q2⟩ => ?_) hs
  subst ex
  obtain rfl : ov = Value.ref a := rx
  exact setattr_ok I2 ea c n l ry fun s3 I3 => ⟨σ, _, I3, q2⟩
/-- a constant of the class, read off the class -/
def tConC (v : V) : TE := fun _ H Q => Q v H
end Np

set_option Elab.async false
set_option linter.all false
set_option maxRecDepth 100000
set_option maxHeartbeats 4000000
namespace Np
open PySem PySem.Spec PyProof.Rows L2
/-! ### a board's rows, from the names -/
def idxQ (pegs : List Str) (w : Str × Str) : Nat × Nat := (pegs.idxOf w.1, pegs.idxOf w.2)
theorem idx_inj {pegs : List Str} {a b : Str} (ha : a ∈ pegs) (hb : b ∈ pegs) (h : pegs.idxOf a = pegs.idxOf b) : a = b := by
  have e1 := List.getElem_idxOf (List.idxOf_lt_length_of_mem ha)
  have e2 := List.getElem_idxOf (List.idxOf_lt_length_of_mem hb)
  rw [← e1, ← e2]
  simp only [h]
theorem reach_RN {pegs : List Str} {W : List (Str × Str)} {a b : Str} (h : Reach W a b) : RN (W.map (idxQ pegs)) (pegs.idxOf a) (pegs.idxOf b) := by
  induction h with
  | refl => exact .refl _
  | @step p r q h _ ih => exact .step (List.mem_map.mpr ⟨(p, r), h, rfl⟩) ih
theorem RN_reach {pegs : List Str} {W : List (Str × Str)} (hW : ∀ w ∈ W, w.1 ∈ pegs ∧ w.2 ∈ pegs) {i j : Nat} (h : RN (W.map (idxQ pegs)) i j) : ∀ a ∈ pegs, pegs.idxOf a = i → ∃ b ∈ pegs, pegs.idxOf b = j ∧ Reach W a b := by
  induction h with
  | refl i => exact fun a ha e => ⟨a, ha, e, .refl _⟩
  | @step i r j h _ ih =>
    intro a ha e
    obtain ⟨w, hw, e2⟩ := List.mem_map.mp h
    obtain ⟨rfl, rfl⟩ := Prod.mk.inj e2
    obtain ⟨h1, h2⟩ := hW w hw
    have ea := idx_inj ha h1 e
    subst ea
    obtain ⟨b, hb, e3, r3⟩ := ih w.2 h2 rfl
    exact ⟨b, hb, e3, .step hw r3⟩
theorem RN_iff {pegs : List Str} {W : List (Str × Str)} (hW : ∀ w ∈ W, w.1 ∈ pegs ∧ w.2 ∈ pegs) {a b : Str} (ha : a ∈ pegs) (hb : b ∈ pegs) : RN (W.map (idxQ pegs)) (pegs.idxOf a) (pegs.idxOf b) ↔ Reach W a b := by
  constructor
  · intro h
    obtain ⟨c, hc, e, r⟩ := RN_reach hW h a ha rfl
    rw [← idx_inj hc hb e]
    exact r
  · exact reach_RN
theorem barN_iff {pegs : List Str} {B : List (Str × Str)} (hB : ∀ w ∈ B, w.1 ∈ pegs ∧ w.2 ∈ pegs) {a b : Str} (ha : a ∈ pegs) (hb : b ∈ pegs) : BarN (B.map (idxQ pegs)) (pegs.idxOf a) (pegs.idxOf b) ↔ (a, b) ∈ B ∨ (b, a) ∈ B := by
  have one : ∀ {a b : Str}, a ∈ pegs → b ∈ pegs → ((pegs.idxOf a, pegs.idxOf b) ∈ B.map (idxQ pegs) ↔ (a, b) ∈ B) := by
    intro a b ha hb
    constructor
    · intro h
      obtain ⟨⟨c, d⟩, hw, e⟩ := List.mem_map.mp h
      obtain ⟨e1, e2⟩ := Prod.mk.inj e
      obtain ⟨h1, h2⟩ := hB _ hw
      rw [idx_inj ha h1 e1.symm, idx_inj hb h2 e2.symm]
      exact hw
    · intro h
      exact List.mem_map.mpr ⟨(a, b), h, rfl⟩
  unfold BarN
  rw [one ha hb, one hb ha]
theorem rankedN_of {W : List (Str × Str)} {pegs : List Str} (hW : ∀ w ∈ W, w.1 ∈ pegs ∧ w.2 ∈ pegs) (h : Ranked W pegs) : RankedN (W.map (idxQ pegs)) := by
  obtain ⟨rk, h1, _⟩ := h
  refine ⟨fun i => rk (pegs.getD i ""), fun v hv => ?_⟩
  obtain ⟨w, hw, rfl⟩ := List.mem_map.mp hv
  obtain ⟨m1, m2⟩ := hW w hw
  have g : ∀ {p : Str}, p ∈ pegs → pegs.getD (pegs.idxOf p) "" = p := fun {p} hp => by
    have hl := List.idxOf_lt_length_of_mem hp
    rw [List.getD_eq_getElem?_getD, List.getElem?_eq_getElem hl]
    exact List.getElem_idxOf hl
  show rk (pegs.getD (pegs.idxOf w.2) "") < rk (pegs.getD (pegs.idxOf w.1) "")
  rw [g m1, g m2]
  exact h1 w hw
/-- what makes a board: the arguments are right -/
structure Parts (pegs : List Str) (W B : List (Str × Str)) (cs : List Int) : Prop where
  nd : pegs.Nodup
  le : pegs.length ≤ 12
  nm : ∀ s ∈ pegs, RightName s
  wi : ∀ w ∈ W, w.1 ∈ pegs ∧ w.2 ∈ pegs ∧ w.1 ≠ w.2
  wl : W.length ≤ 900
  rk : Ranked W pegs
  bi : ∀ w ∈ B, w.1 ∈ pegs ∧ w.2 ∈ pegs ∧ w.1 ≠ w.2
  bl : B.length ≤ 900
  alive : ∀ p a b, Reach W p a → Reach W p b → (a, b) ∈ B → False
  cl : cs.length = pegs.length
  cr : ∀ c ∈ cs, 1 ≤ c ∧ c ≤ 1000
section
variable {pegs : List Str} {W B : List (Str × Str)} {cs : List Int}
theorem Parts.w2 (h : Parts pegs W B cs) : ∀ w ∈ W, w.1 ∈ pegs ∧ w.2 ∈ pegs := fun w hw => ⟨(h.wi w hw).1, (h.wi w hw).2.1⟩
theorem Parts.b2 (h : Parts pegs W B cs) : ∀ w ∈ B, w.1 ∈ pegs ∧ w.2 ∈ pegs := fun w hw => ⟨(h.bi w hw).1, (h.bi w hw).2.1⟩
theorem map_lt {W : List (Str × Str)} (hW : ∀ w ∈ W, w.1 ∈ pegs ∧ w.2 ∈ pegs) : ∀ v ∈ W.map (idxQ pegs), v.1 < pegs.length ∧ v.2 < pegs.length := by
  intro v hv
  obtain ⟨w, hw, rfl⟩ := List.mem_map.mp hv
  exact ⟨List.idxOf_lt_length_of_mem (hW w hw).1, List.idxOf_lt_length_of_mem (hW w hw).2⟩
/-- the rows of below -/
def belowOf (pegs : List Str) (W : List (Str × Str)) : List Nat := rowsAfter pegs.length (W.map (idxQ pegs))
def barsOf (pegs : List Str) (B : List (Str × Str)) : List Nat := barR pegs.length (B.map (idxQ pegs))
def clashOf (pegs : List Str) (W B : List (Str × Str)) : List Nat := clashR (reachR (barsOf pegs B) (belowOf pegs W)) (belowOf pegs W)
theorem below_ok (h : Parts pegs W B cs) : Bits pegs.length (RN (W.map (idxQ pegs))) (belowOf pegs W) := rowsAfter_bits (map_lt h.w2)
theorem RN_lt (h : Parts pegs W B cs) : ∀ i j, i < pegs.length → RN (W.map (idxQ pegs)) i j → j < pegs.length := fun _ _ hi r => r.lt (map_lt h.w2) hi
theorem bars_ok (h : Parts pegs W B cs) : Bits pegs.length (BarN (B.map (idxQ pegs))) (barsOf pegs B) := barR_bits (map_lt h.b2)
theorem reach_ok (h : Parts pegs W B cs) : Bits pegs.length (ReachB (RN (W.map (idxQ pegs))) (BarN (B.map (idxQ pegs)))) (reachR (barsOf pegs B) (belowOf pegs W)) := reach_bits (bars_ok h) (below_ok h) (RN_lt h)
theorem clash_ok (h : Parts pegs W B cs) : Bits pegs.length (ClashN (RN (W.map (idxQ pegs))) (BarN (B.map (idxQ pegs))) pegs.length) (clashOf pegs W B) := clash_bits (reach_ok h) (below_ok h)
theorem mem_getD {i : Nat} (hi : i < pegs.length) : pegs.getD i "" ∈ pegs := by
  rw [List.getD_eq_getElem?_getD, List.getElem?_eq_getElem hi]
  exact List.getElem_mem hi
theorem idx_of_getD (hn : pegs.Nodup) {i : Nat} (hi : i < pegs.length) : pegs.idxOf (pegs.getD i "") = i := by
  have e : pegs.getD i "" = pegs[i] := by rw [List.getD_eq_getElem?_getD, List.getElem?_eq_getElem hi]; rfl
  rw [e]
  exact hn.idxOf_getElem i hi
theorem no_dead (h : Parts pegs W B cs) : ∀ i, i < pegs.length → (reachR (barsOf pegs B) (belowOf pegs W)).getD i 0 &&& (belowOf pegs W).getD i 0 = 0 := by
  intro i hi
  refine Nat.eq_of_testBit_eq fun j => ?_
  rw [Nat.testBit_and, Nat.zero_testBit, Bool.and_eq_false_iff]
  apply Classical.byContradiction
  intro c
  simp only [not_or, Bool.not_eq_false] at c
  obtain ⟨⟨k, r1, r2⟩, r3⟩ := And.intro (((reach_ok h).2 i hi j).mp c.1) (((below_ok h).2 i hi j).mp c.2)
  have hp := mem_getD hi
  have ei := idx_of_getD h.nd hi
  obtain ⟨a, ha, ea, ra⟩ := RN_reach h.w2 r1 _ hp ei
  obtain ⟨b, hb, eb, rb⟩ := RN_reach h.w2 r3 _ hp ei
  rw [← ea, ← eb, barN_iff h.b2 ha hb] at r2
  rcases r2 with r2 | r2
  · exact h.alive _ _ _ ra rb r2
  · exact h.alive _ _ _ rb ra r2
/-- two pegs clash -/
def Clash (W B : List (Str × Str)) (x y : Str) : Prop := ∃ a b, Reach W x a ∧ Reach W y b ∧ ((a, b) ∈ B ∨ (b, a) ∈ B)
theorem below_bit (h : Parts pegs W B cs) {x y : Str} (hx : x ∈ pegs) (hy : y ∈ pegs) : ((belowOf pegs W).getD (pegs.idxOf x) 0).testBit (pegs.idxOf y) = true ↔ Reach W x y :=
  ((below_ok h).2 _ (List.idxOf_lt_length_of_mem hx) _).trans (RN_iff h.w2 hx hy)
theorem clash_bit (h : Parts pegs W B cs) {x y : Str} (hx : x ∈ pegs) (hy : y ∈ pegs) : ((clashOf pegs W B).getD (pegs.idxOf x) 0).testBit (pegs.idxOf y) = true ↔ Clash W B x y := by
  rw [(clash_ok h).2 _ (List.idxOf_lt_length_of_mem hx)]
  unfold ClashN ReachB Clash
  constructor
  · rintro ⟨_, l, h1, k, h2, h3⟩
    obtain ⟨b, hb, eb, rb⟩ := RN_reach h.w2 h1 y hy rfl
    obtain ⟨a, ha, ea, ra⟩ := RN_reach h.w2 h2 x hx rfl
    rw [← ea, ← eb, barN_iff h.b2 ha hb] at h3
    exact ⟨a, b, ra, rb, h3⟩
  · rintro ⟨a, b, ra, rb, h3⟩
    have ha := ra.inside h.w2 hx
    have hb := rb.inside h.w2 hy
    exact ⟨List.idxOf_lt_length_of_mem hy, _, reach_RN rb, _, reach_RN ra, (barN_iff h.b2 ha hb).mpr h3⟩
end
end Np

set_option Elab.async false
set_option linter.all false
set_option maxRecDepth 100000
set_option maxHeartbeats 4000000
namespace Np
open PySem PySem.Spec PyProof.Rows L2
/-! ### all that is no list stays -/
def Fr (H H' : Hp) : Prop := ∀ a o, H a = some o → (∀ xs, o ≠ .lst xs) → H' a = some o
theorem Fr.refl (H : Hp) : Fr H H := fun _ _ h _ => h
theorem Fr.trans {H H1 H2 : Hp} (a : Fr H H1) (b : Fr H1 H2) : Fr H H2 := fun c o h n => b c o (a c o h n) n
theorem Fr.of {H H' : Hp} (s : Same H H') : Fr H H' := fun a o h _ => s a o h
theorem Fr.lst {H : Hp} {a : Addr} {xs : List V} {o : HO} (h : H a = some (.lst xs)) : Fr H (upd H a o) := fun b u hb n => by
  rw [upd_ne (ne_of hb h (n xs))]; exact hb
theorem Fr.new {H : Hp} {a : Addr} {o : HO} (h : H a = none) : Fr H (upd H a o) := Fr.of (Same.new h)
theorem Fr.but {b : Addr} {H H' : Hp} {xs : List V} (s : But b H H') (h : H b = some (.lst xs)) : Fr H H' := fun a o ha n => s a o (ne_of ha h (n xs)) ha
theorem Fr.sqT {K : PySem.W.Frag} {H H' : Hp} {a : Addr} {xs : List V} (s : Fr H H') (h : SqT K H a xs) : SqT K H' a xs := by
  rcases h with (h | ⟨o, h⟩) | h
  · exact .inl (.inl (s _ _ h fun _ z => nomatch z))
  · exact .inl (.inr ⟨o, s _ _ h fun _ z => nomatch z⟩)
  · exact .inr h
theorem Fr.pairs {K : PySem.W.Frag} {H H' : Hp} {wa : List Addr} {W : List (Str × Str)} (s : Fr H H') (h : PairsAt K H wa W) : PairsAt K H' wa W := Paired.mapP h fun _ _ q => s.sqT q
/-! ### a drawn order and what it says of pairs -/
theorem ranked_of_order {pegs order : List Str} {W : List (Str × Str)} (hp : order.Perm pegs) (hn : pegs.Nodup) (h : ∀ w ∈ W, ∃ i j : Nat, order[i]? = some w.1 ∧ order[j]? = some w.2 ∧ j < i) : Ranked W pegs := by
  have ho : order.Nodup := hp.nodup_iff.mpr hn
  have idx : ∀ {i : Nat} {s : Str}, order[i]? = some s → order.idxOf s = i := fun {i s} h => by
    obtain ⟨h1, h2⟩ := List.getElem?_eq_some_iff.mp h
    rw [← h2]
    exact ho.idxOf_getElem i h1
  refine ⟨fun s => order.idxOf s, fun w hw => ?_, fun p hp' => ?_⟩
  · obtain ⟨i, j, h1, h2, h3⟩ := h w hw
    simp only [idx h1, idx h2]
    exact h3
  · have := List.idxOf_lt_length_of_mem (hp.symm.subset hp')
    rw [hp.length_eq] at this
    exact this
theorem paired_mapR {α β γ : Type} {F : α → β → Prop} {G : α → γ → Prop} {f : β → γ} (hf : ∀ a b, F a b → G a (f b)) : ∀ {l : List α} {m : List β}, Paired F l m → Paired G l (m.map f)
  | _, _, .nil => .nil
  | _, _, .cons h t => .cons (hf _ _ h) (paired_mapR hf t)
theorem paired_app {α β : Type} {F : α → β → Prop} : ∀ {l l' : List α} {m m' : List β}, Paired F l m → Paired F l' m' → Paired F (l ++ l') (m ++ m')
  | _, _, _, _, .nil, h => h
  | _, _, _, _, .cons h t, h' => .cons h (paired_app t h')
theorem paired_refs {β : Type} {F : Addr → β → Prop} : ∀ {ys : List V} {l : List β}, Paired (fun v w => ∃ T : Addr, v = .ref T ∧ F T w) ys l → ∃ ts : List Addr, ys = ts.map V.ref ∧ Paired F ts l
  | _, _, .nil => ⟨[], rfl, .nil⟩
  | _, _, .cons h t => by
    obtain ⟨T, rfl, hT⟩ := h
    obtain ⟨ts, rfl, hts⟩ := paired_refs t
    exact ⟨T :: ts, rfl, .cons hT hts⟩
/-- the arguments of a board, drawn: a tuple of four tuples -/
def PartsAt (K : PySem.W.Frag) (H : Hp) (q : Addr) (pegs : List Str) (W B : List (Str × Str)) (cs : List Int) : Prop := ∃ (p n bl c : Addr) (ns bs : List Addr), SqT K H q [.ref p, .ref n, .ref bl, .ref c] ∧
  SqT K H p (pegs.map V.str) ∧ SqT K H n (ns.map V.ref) ∧ PairsAt K H ns W ∧ SqT K H bl (bs.map V.ref) ∧ PairsAt K H bs B ∧ SqT K H c (cs.map V.int)
theorem PartsAt.fr {K : PySem.W.Frag} {H H' : Hp} {q : Addr} {pegs : List Str} {W B : List (Str × Str)} {cs : List Int} (h : PartsAt K H q pegs W B cs) (s : Fr H H') : PartsAt K H' q pegs W B cs := by
  obtain ⟨p, n, bl, c, ns, bs, h1, h2, h3, h4, h5, h6, h7⟩ := h
  exact ⟨p, n, bl, c, ns, bs, s.sqT h1, s.sqT h2, s.sqT h3, s.pairs h4, s.sqT h5, s.pairs h6, s.sqT h7⟩
end Np

set_option Elab.async false
set_option linter.all false
set_option maxRecDepth 100000
set_option maxHeartbeats 4000000
namespace Np
open PySem PySem.Spec PyProof.Rows L2
/-! ### C(e, .., k = v, ..), all keywords given -/
/-- n: the positional arguments; sp: of the new instance and these, of the keywords' values -/
def CalK (P : Program) (w : World) (K : PySem.W.Frag) (mg : Str → Option Value) (base : Heap) (k : Nat) (x : Str) (C : Addr) (n : Nat) (ks : List Str) (sp : List V → List V → Hp → VK → Prop) : Prop :=
  ∃ (f : Addr) (fd : FuncData) (ps : List Str) (sp0 : Sp) (g : List Value → List Value → List Value) (gV : List V → List V → List V), mg x = some (.ref C) ∧ Mk K C f ∧ FnOk P w K mg base CX0 k f fd ps sp0 ∧ KBn K fd ps (n + 1) ks g gV ∧
    ∀ vs zs H Q, vs.length = n + 1 → zs.length = ks.length → sp vs zs H Q → sp0 (gV vs zs) H Q E0
def tCalK (C : Addr) (n m : Nat) (sp : List V → List V → Hp → VK → Prop) (t tk : TA) : TE := fun σ H Q => t σ H fun vs H1 => tk σ H1 fun zs H2 => vs.length = n ∧ zs.length = m ∧ ∀ x dx, H2 x = none → H2 dx = none → dx ≠ x →
  sp (.ref x :: vs) zs (upd (upd H2 dx (.own x)) x (.ins C dx [])) (fun v H3 => v = .non ∧ Q (.ref x) H3)
theorem pe_KI {X : Cx} {k n : Nat} {x : Str} {C : Addr} {ks : List Str} {sp : List V → List V → Hp → VK → Prop} {e : Expr} {es : List Expr} {kws : List Keyword} {t tk : TA} {p pos : Pos} (c : CalK X.prog X.w X.K X.mg X.base k x C n ks sp) (hr : Room (k + 1) X.A) (_hx : ∀ σ : L2.St, PassesAt CX0 X σ ((fun _ => E0) σ))
    (ha : PA X (e :: es) t) (hkw : PK X kws tk) (hg : Gl X x := by rfl)
    (hall : (backToKw pos (keywordEach kws X.env)).all (·.1.isSome) = true := by rfl) (hks : (backToKw pos (keywordEach kws X.env)).filterMap (·.1) = ks := by rfl) (hdb : (x == ("__debug__" : Str)) = false := by decide)
    (he : starEach (e :: es) X.env = (false, eval e X.env) :: starEach es X.env := by rfl) (hpl : ((backTo pos (starEach (e :: es) X.env)).any (·.1) || (backToKw pos (keywordEach kws X.env)).any (·.1.isNone)) = false := by rfl) :
    PE X (.Call (.Name x p) (e :: es) kws pos) (tCalK C n ks.length sp t tk) := by
  obtain ⟨f, fd, ps, sp0, g, gV, hm, M, F, hb, im⟩ := c
  refine ⟨fun pins s σ H Q I h => ?_⟩
  refine wpAny_Call_Name_kw (ld_glob I hg hm ?_ hdb)
  refine PySem.W.callWith_KW (h₀ := X.base) I.ok.mod.kin M.kp hall (thn (ha.run pos pins s σ H _ I h) fun us s1 ⟨vs, H1, I1, r, q⟩ => ?_) hpl he
  refine thn (hkw.run pos pins s1 σ H1 _ I1 q) fun ws s2 ⟨zs, H2, I2, rz, l1, l2, q2⟩ => ⟨I2.kIn, ?_⟩
  rw [hks]
  exact run_makeK (E := E0) M F hr hb pass0 I2 r rz l1 l2 fun x dx nx ndx ne => im _ _ _ _ (by rw [List.length_cons, l1]) l2 (q2 x dx nx ndx ne)
def rLenQ (K : PySem.W.Frag) : List V → Hp → VK → Prop := fun xs H Q => ∃ p ys, xs = [V.ref p] ∧ (SqL K H p ys ∨ SqT K H p ys) ∧ Q (.int ys.length) H
theorem call_len_seqK {X : Cx} {K : PySem.W.Frag} (h : X.K = K) : CallR X (.builtin "len") (rLenQ K) := by subst h; exact call_len_seq
/-- xs[i] of a list or a tuple -/
def rIxQ (K : PySem.W.Frag) : R2 := fun x y H Q => ∃ (t : Bool) (p : Addr) (xs : List V) (i : Int) (v : V), x = .ref p ∧ y = .int i ∧ SqB K t H p xs ∧ atI xs i = some v ∧ Q v H
theorem ix_sqK {X : Cx} {K : PySem.W.Frag} (h : X.K = K) : IxR X (rIxQ K) := by
  subst h
  intro value slice pins s σ H x y v u Q I rx ry h hs
  obtain ⟨t, p, xs, i, w, e1, e2, hq, ha, q⟩ := h
  cases t with
  | true => exact ix_list value slice pins s σ H x y v u Q I rx ry ⟨p, xs, i, w, e1, e2, hq, ha, q⟩ hs
  | false => exact ix_tup value slice pins s σ H x y v u Q I rx ry ⟨p, xs, i, w, e1, e2, hq, ha, q⟩ hs
theorem ix_sq {X : Cx} : IxR X (rIxQ X.K) := ix_sqK rfl
end Np

set_option Elab.async false
set_option linter.all false
set_option maxRecDepth 100000
set_option maxHeartbeats 4000000
namespace Np
open PySem PySem.Spec PyProof.Rows L2
section
variable {P : Program} {w : World} {K : PySem.W.Frag} {mg : Str → Option Value} {base : Heap} {CX : CXT} {k : Nat} {f : Addr} {fd : FuncData} {ps : List Str} {sp : Sp} {x m : Str} {C p : Addr}
theorem FnOk.raw0 (F : FnOk P w K mg base CX k f fd ps sp) (hb : Binds K fd ps []) : FnR P w K mg base CX k f sp := (F.raw hb .nil).imp fun vs H Q E h => by rw [List.append_nil]; exact h
theorem CalF.of (g : mg x = some (.ref f)) (F : FnOk P w K mg base CX k f fd ps sp) (hb : Binds K fd ps []) (kp : PySem.W.keepIn K (.ref f) = true) : CalF P w K mg base CX k x sp := ⟨f, g, FnOk.raw0 F hb, kp⟩
theorem CalM.of (M : Meth K C m f) (F : FnOk P w K mg base CX k f fd ps sp) (hb : Binds K fd ps []) : CalM P w K mg base CX k C m sp := ⟨f, M, FnOk.raw0 F hb⟩
theorem CalP.of (M : PropOf K C m p f) (F : FnOk P w K mg base CX k f fd ps sp) (hb : Binds K fd ps []) : CalP P w K mg base CX k C m sp := ⟨p, f, M, FnOk.raw0 F hb⟩
theorem CalO.of (M : StX.CallO K C f) (F : FnOk P w K mg base CX k f fd ps sp) (hb : Binds K fd ps []) : CalO P w K mg base CX k C sp := ⟨f, M, FnOk.raw0 F hb⟩
theorem CalI.of (g : mg x = some (.ref C)) (M : Mk K C f) (F : FnOk P w K mg base CX k f fd ps sp) (hb : Binds K fd ps []) : CalI P w K mg base CX k x C sp := ⟨f, g, M, FnOk.raw0 F hb⟩
end
end Np

set_option Elab.async false
set_option linter.all false
set_option maxRecDepth 100000
set_option maxHeartbeats 4000000
namespace Np
open PySem PySem.Spec PyProof.Rows L2
/-! ### what an instance does by its own special methods (the method raises nothing) -/
section
variable {X : Cx} {k : Nat} {C : Addr} {sp : Sp} {pins : List (Addr × Obj)} {σ : L2.St} {H : Hp} {s : Shared} {a dx : Addr} {fs : List (Str × V)}
theorem own_at (I : Inv X pins σ H s) (h : H a = some (.ins C dx fs)) : ∃ ox od, PySem.W.InstAt s.heap a ox C od := by
  obtain ⟨ox, od, J, _⟩ := StX.insC_at (X := X) I (.inr ⟨dx, fs, h⟩)
  exact ⟨ox, od, J⟩
/-- the method's call, here -/
theorem own_call {f : Addr} {Q : VK} {us : List Value} {vs : List V} (F : FnR X.prog X.w X.K X.mg X.base CX0 k f sp) (hr : Room k X.A) (I : Inv X pins σ H s) (r : Vals vs us) (h : sp vs H Q E0) :
    wpAny (model X.prog X.w) X.A (call (.ref f) us) (EP X pins σ Q) X.xe s := wpAny_call (run_fnRA F hr (no0 σ) I r h)
/-- .. one step deeper -/
theorem own_call1 {f : Addr} {Q : VK} {us : List Value} {vs : List V} (F : FnR X.prog X.w X.K X.mg X.base CX0 k f sp) (hr : Room (k + 1) X.A) (I : Inv X pins σ H s) (r : Vals vs us) (h : sp vs H Q E0) :
    wpAny (model X.prog X.w) X.A.in1 (call (.ref f) us) (EP X pins σ Q) X.xe s := by
  refine wpAny_call (codeAny_mono (F X.A.in1 X.stack s H us vs Q E0 hr.in1 I.env0.in1 r h) fun r s' hq => ?_)
  cases r with
  | error er => exact hq.elim
  | ok fl =>
    cases fl with
    | ret u => exact I.after hq
    | next => exact hq.elim
    | brk => exact hq.elim
    | cont => exact hq.elim
/-- an instance of C at a, and what its method's promise says -/
def rOwn (C : Addr) (sp : Sp) (ws : List V) (o : V) (H : Hp) (Q : VK) : Prop := ∃ a dx fs, o = .ref a ∧ H a = some (.ins C dx fs) ∧ sp (.ref a :: ws) H Q E0
def rInO (C : Addr) (sp : Sp) (g : Bool → Bool) : R2 := fun y o H Q => rOwn C sp [y] o H fun v H' => ∃ t, v = .bl t ∧ Q (.bl (g t)) H'
theorem op_inO (c : CalM X.prog X.w X.K X.mg X.base CX0 k C "__contains__" sp) (hr : Room k X.A) : OpR X (compareOp .In) (rInO C sp id) := by
  rintro pins s σ H y o v u Q I ry ro ⟨a, dx, fs, rfl, h, hq⟩
  obtain rfl : u = Value.ref a := ro
  obtain ⟨f, M, F⟩ := c
  obtain ⟨ox, od, J⟩ := own_at I h
  obtain ⟨m, R⟩ := I.fr
  refine PySem.W.in_K R I.mod.kin J M.at_ M.fn (wpAny_mono (own_call F hr I (.cons (a := V.ref a) rfl (.cons ry .nil)) hq) (fun r s' e => ?_) fun _ _ z => z)
  obtain ⟨z, H', I', rz, t, rfl, e⟩ := e
  cases rz
  exact wpAny_truthy_bool ⟨.bl t, H', I', rfl, e⟩
theorem op_ninO (c : CalM X.prog X.w X.K X.mg X.base CX0 k C "__contains__" sp) (hr : Room k X.A) : OpR X (compareOp .NotIn) (rInO C sp not) := by
  rintro pins s σ H y o v u Q I ry ro ⟨a, dx, fs, rfl, h, hq⟩
  obtain rfl : u = Value.ref a := ro
  obtain ⟨f, M, F⟩ := c
  obtain ⟨ox, od, J⟩ := own_at I h
  obtain ⟨m, R⟩ := I.fr
  refine PySem.W.notIn_K R I.mod.kin J M.at_ M.fn (wpAny_mono (own_call F hr I (.cons (a := V.ref a) rfl (.cons ry .nil)) hq) (fun r s' e => ?_) fun _ _ z => z)
  obtain ⟨z, H', I', rz, t, rfl, e⟩ := e
  cases rz
  exact wpAny_truthy_bool ⟨.bl (!t), H', I', rfl, e⟩
def rOne (C : Addr) (sp : Sp) (P : V → Prop) : List V → Hp → VK → Prop := fun xs H Q => ∃ o, xs = [o] ∧ rOwn C sp [] o H fun v H' => P v ∧ Q v H'
def IsLen (v : V) : Prop := ∃ n : Int, v = .int n ∧ 0 ≤ n ∧ n < 2 ^ 63
theorem call_lenO (c : CalM X.prog X.w X.K X.mg X.base CX0 k C "__len__" sp) (hr : Room (k + 1) X.A) : CallR X (.builtin "len") (rOne C sp IsLen) := by
  rintro pins s σ H xs us Q I r ⟨o, rfl, a, dx, fs, rfl, h, hq⟩
  obtain ⟨u, rfl, ru⟩ := vals1 r
  obtain rfl : u = Value.ref a := ru
  obtain ⟨f, M, F⟩ := c
  obtain ⟨ox, od, J⟩ := own_at I h
  obtain ⟨m, R⟩ := I.fr
  refine PySem.W.len_K R I.mod.kin J M.at_ M.fn (wpAny_mono (own_call1 F hr I (.cons (a := V.ref a) rfl .nil) hq) (fun r s' e => ?_) fun _ _ z => z)
  obtain ⟨z, H', I', rz, ⟨n, rfl, h0, h1⟩, e⟩ := e
  obtain ⟨t, rfl⟩ := rz
  exact ⟨⟨h0, h1⟩, .int n, H', I'.tok _, ⟨_, rfl⟩, e⟩
theorem call_reprO (c : CalM X.prog X.w X.K X.mg X.base CX0 k C "__repr__" sp) (hr : Room (k + 1) X.A) : CallR X (.builtin "repr") (rOne C sp fun v => ∃ t, v = .str t) := by
  rintro pins s σ H xs us Q I r ⟨o, rfl, a, dx, fs, rfl, h, hq⟩
  obtain ⟨u, rfl, ru⟩ := vals1 r
  obtain rfl : u = Value.ref a := ru
  obtain ⟨f, M, F⟩ := c
  obtain ⟨ox, od, J⟩ := own_at I h
  obtain ⟨m, R⟩ := I.fr
  refine PySem.W.repr_K hr.in1.units0 R I.mod.kin J M.at_ M.fn (wpAny_mono (own_call1 F hr I (.cons (a := V.ref a) rfl .nil) hq) (fun r s' e => ?_) fun _ _ z => z)
  obtain ⟨z, H', I', rz, ⟨t, rfl⟩, e⟩ := e
  obtain ⟨tt, rfl⟩ := rz
  exact ⟨.str t, H', I', ⟨_, rfl⟩, e⟩
theorem un_negO (c : CalM X.prog X.w X.K X.mg X.base CX0 k C "__neg__" sp) (hr : Room k X.A) : UnR X (unaryOp .USub) (rOwn C sp []) := by
  rintro pins s σ H o v Q I ro ⟨a, dx, fs, rfl, h, hq⟩
  obtain rfl : v = Value.ref a := ro
  obtain ⟨f, M, F⟩ := c
  obtain ⟨ox, od, J⟩ := own_at I h
  obtain ⟨m, R⟩ := I.fr
  exact PySem.W.ksp_neg R I.mod.kin J M.at_ M.fn (own_call F hr I (.cons (a := V.ref a) rfl .nil) hq)
theorem tru_boolO (c : CalM X.prog X.w X.K X.mg X.base CX0 k C "__bool__" sp) (hr : Room k X.A) : TruR X fun o H Q => rOwn C sp [] o H fun v H' => ∃ t, v = .bl t ∧ Q t H' := by
  rintro pins s σ H o v Q I ro ⟨a, dx, fs, rfl, h, hq⟩
  obtain rfl : v = Value.ref a := ro
  obtain ⟨f, M, F⟩ := c
  obtain ⟨ox, od, J⟩ := own_at I h
  obtain ⟨m, R⟩ := I.fr
  refine PySem.W.truthy_K R I.mod.kin J M.at_ M.fn (wpAny_mono (own_call F hr I (.cons (a := V.ref a) rfl .nil) hq) (fun r s' e => ?_) fun _ _ z => z)
  obtain ⟨z, H', I', rz, t, rfl, e⟩ := e
  cases rz
  exact ⟨H', I', e⟩
end
end Np

set_option Elab.async false
set_option linter.all false
set_option maxRecDepth 100000
set_option maxHeartbeats 4000000
namespace Np
open PySem PySem.Spec PyProof.Rows L2 RZ
/-! ### list(zip(a, b)): two lists or two tuples of one length -/
/-- an iterator that gives the items of a sequence, one after another -/
structure Itm (prog : Program) (w : World) (i l : Addr) (xs : Array Value) (St : Nat → Heap → Prop) : Prop where
  fr : ∀ k h h', St k h → (∀ c o, (c = i ∨ c = l) → h.get? c = some o → h'.get? c = some o) → St k h'
  it : ∀ {A : Around} {E : Value → Shared → Prop} {s : Shared} {k : Nat} {x : Value} {Q : Value → Shared → Prop}, St k s.heap → xs[k]? = some x → l ≠ i → (∀ h', St (k + 1) h' → Heap.SameBut i s.heap h' → Q x { s with heap := h' }) → wpAny (model prog w) A (Builtin.SmallTypes.nextOf (.ref i)) Q E s
  en : ∀ {A : Around} {E : Value → Shared → Prop} {s : Shared} {k : Nat} {Q : Value → Shared → Prop}, A.handled = none → St k s.heap → xs[k]? = none → (∀ h' e, Heap.ExtBut i s.heap h' → (∃ o, h'.get? e = some o ∧ o.cls = .type "StopIteration") → E (.ref e) { s with heap := h' }) → wpAny (model prog w) A (Builtin.SmallTypes.nextOf (.ref i)) Q E s
def StL (i l : Addr) (xs : Array Value) (k : Nat) (h : Heap) : Prop := h.IsListIter i l k ∧ h.IsList l xs
def StT (i l : Addr) (xs : Array Value) (k : Nat) (h : Heap) : Prop := h.IsTupleIter i l k ∧ h.IsTuple l xs
theorem itmL {prog : Program} {w : World} {i l : Addr} {xs : Array Value} : Itm prog w i l xs (StL i l xs) where
  fr := fun k h h' q e => ⟨q.1.at fun o r => e i o (.inl rfl) r, q.2.at fun o r => e l o (.inr rfl) r⟩
  it := fun {A E s k x Q} q hx ne hQ => wpAny_nextOf_list_item q.1 q.2 hx fun h' h1 sb => hQ h' ⟨h1, q.2.extBut sb.extBut ne⟩ sb
  en := fun {A E s k Q} hh q hx hE => wpAny_nextOf_list_end hh q.1 q.2 hx hE
theorem itmT {prog : Program} {w : World} {i l : Addr} {xs : Array Value} : Itm prog w i l xs (StT i l xs) where
  fr := fun k h h' q e => ⟨q.1.at fun o r => e i o (.inl rfl) r, q.2.at fun o r => e l o (.inr rfl) r⟩
  it := fun {A E s k x Q} q hx ne hQ => nextOf_tuple_item q.1 q.2 hx fun h' h1 sb => hQ h' ⟨h1, q.2.extBut sb.extBut ne⟩ sb
  en := fun {A E s k Q} hh q hx hE => nextOf_tuple_end hh q.1 q.2 hx hE
section
variable {prog : Program} {w : World} {A : Around} {E : Value → Shared → Prop} {s : Shared} {z TI TO T i1 i2 l1 l2 : Addr} {f : Bool} {oT : Obj} {k : Nat} {xs ys : Array Value} {S1 S2 : Nat → Heap → Prop}
/-- a turn of zip whose last tuple is still in use -/
theorem zheld_item {x y : Value} {Q : Value → Shared → Prop} (D : ZipApart z TI TO i1 i2 l1 l2) (I1 : Itm prog w i1 l1 xs S1) (I2 : Itm prog w i2 l2 ys S2) (hz : IsZipHeld s.heap z TI TO T f) (hT : s.heap.get? T = some oT) (hp : IsPair s.heap TI (.ref i1) (.ref i2))
    (q1 : S1 k s.heap) (q2 : S2 k s.heap) (hx : xs[k]? = some x) (hy : ys[k]? = some y)
    (hQ : ∀ h', IsZipHeld h' z TI TO T true → S1 (k + 1) h' → S2 (k + 1) h' → IsPair h' s.heap.objs.size x y → (∀ c o, c ≠ z → c ≠ i1 → c ≠ i2 → s.heap.get? c = some o → h'.get? c = some o) → Q (.ref s.heap.objs.size) { s with heap := h' }) :
    wpAny (model prog w) A (Builtin.«zip.__next__» ⟨[.ref z], []⟩) (fun (fin : Fin) s' => ∃ v, fin = .done (.ret v) ∧ Q v s') E s := by
  show wpAny (model prog w) A (field (.ref z) 2 >>= _) (fun (fin : Fin) s' => ∃ v, fin = .done (.ret v) ∧ Q v s') E s
  refine wpAny_bind (wpAny_field hz rfl (x := .bool false) rfl ?_)
  show wpAny (model prog w) A (field (.ref z) 3 >>= _) (fun (fin : Fin) s' => ∃ v, fin = .done (.ret v) ∧ Q v s') E s
  refine wpAny_bind (wpAny_field hz rfl (x := .ref TI) rfl (wpAny_bind (wpAny_seqItems hp rfl ?_)))
  show wpAny (model prog w) A (Builtin.SmallTypes.ownedTupleIsFree (.ref z) >>= _) (fun (fin : Fin) s' => ∃ v, fin = .done (.ret v) ∧ Q v s') E s
  refine wpAny_bind (wpAny_tupleHeld_zip hz hT fun g1 gz sb1 => ?_)
  simp only [if_false, Bool.false_eq_true]
  refine wpAny_bind ?_
  rw [← Array.forIn_toList]
  simp only [List.forIn_nil, List.forIn_cons]
  have f1 : ∀ j, S1 j s.heap → S1 j g1 := fun j q => I1.fr j _ _ q fun c o hc e => (sb1.2 c (hc.elim (fun q => q ▸ D.i1z) fun q => q ▸ D.l1z)).trans e
  have f2 : ∀ j, S2 j s.heap → S2 j g1 := fun j q => I2.fr j _ _ q fun c o hc e => (sb1.2 c (hc.elim (fun q => q ▸ D.i2z) fun q => q ▸ D.l2z)).trans e
  refine wpAny_bind (wpAny_bind (wpAny_holding ?_))
  show wpAny (model prog w) _ (Builtin.SmallTypes.nextOf (.ref i1) >>= _) _ _ _
  refine wpAny_bind (I1.it (s := { s with heap := g1 }) (f1 k q1) hx D.l1i1 fun g2 a1 sb2 => wpAny_pure (wpAny_pure ?_))
  have f3 : S2 k g2 := I2.fr k _ _ (f2 k q2) fun c o hc e => (sb2.2 c (hc.elim (fun q => q ▸ D.i12.symm) fun q => q ▸ D.l2i1)).trans e
  refine wpAny_bind (wpAny_bind (wpAny_holding ?_))
  show wpAny (model prog w) _ (Builtin.SmallTypes.nextOf (.ref i2) >>= _) _ _ _
  refine wpAny_bind (I2.it (s := { s with heap := g2 }) f3 hy D.l2i2 fun g3 a2 sb3 => wpAny_pure (wpAny_pure (wpAny_pure ?_)))
  have f4 : S1 (k + 1) g3 := I1.fr _ _ _ a1 fun c o hc e => (sb3.2 c (hc.elim (fun q => q ▸ D.i12) fun q => q ▸ D.l1i2)).trans e
  show wpAny (model prog w) A (newTuple [x, y] >>= _) (fun (fin : Fin) s' => ∃ v, fin = .done (.ret v) ∧ Q v s') E _
  refine wpAny_bind (wpAny_newTuple (wpAny_pure ⟨_, rfl, ?_⟩))
  have size : g3.objs.size = s.heap.objs.size := by rw [sb3.1, sb2.1, sb1.1]
  have up : ∀ c o, g3.get? c = some o → (g3.push { cls := .type "tuple", data := .seq #[x, y] }).get? c = some o := fun c o e => Heap.get?_push_of_some _ e
  have gz3 : IsZipHeld g3 z TI TO T true := (sb3.2 z D.i2z.symm).trans ((sb2.2 z D.i1z.symm).trans gz)
  have pr : IsPair (g3.push { cls := .type "tuple", data := .seq #[x, y] }) g3.objs.size x y := Heap.get?_push_size _ rfl
  have ke : ∀ c o, c ≠ z → c ≠ i1 → c ≠ i2 → s.heap.get? c = some o → g3.get? c = some o := fun c o n1 n2 n3 e => (sb3.2 c n3).trans ((sb2.2 c n2).trans ((sb1.2 c n1).trans e))
  show Q (.ref g3.objs.size) _
  rw [size] at pr ⊢
  exact hQ _ (up _ _ gz3) (I1.fr _ _ _ f4 fun c o _ e => up c o e) (I2.fr _ _ _ a2 fun c o _ e => up c o e) pr fun c o n1 n2 n3 e => up c o (ke c o n1 n2 n3 e)
theorem zheld_end {Q : Fin → Shared → Prop} (hh : A.handled = none) (D : ZipApart z TI TO i1 i2 l1 l2) (I1 : Itm prog w i1 l1 xs S1) (hz : IsZipHeld s.heap z TI TO T f) (hT : s.heap.get? T = some oT) (hp : IsPair s.heap TI (.ref i1) (.ref i2))
    (q1 : S1 k s.heap) (hx : xs[k]? = none)
    (hE : ∀ h' e, (∀ c o, c ≠ z → c ≠ i1 → s.heap.get? c = some o → h'.get? c = some o) → (∃ o, h'.get? e = some o ∧ o.cls = .type "StopIteration") → E (.ref e) { s with heap := h' }) :
    wpAny (model prog w) A (Builtin.«zip.__next__» ⟨[.ref z], []⟩) Q E s := by
  show wpAny (model prog w) A (field (.ref z) 2 >>= _) Q E s
  refine wpAny_bind (wpAny_field hz rfl (x := .bool false) rfl ?_)
  show wpAny (model prog w) A (field (.ref z) 3 >>= _) Q E s
  refine wpAny_bind (wpAny_field hz rfl (x := .ref TI) rfl (wpAny_bind (wpAny_seqItems hp rfl ?_)))
  show wpAny (model prog w) A (Builtin.SmallTypes.ownedTupleIsFree (.ref z) >>= _) Q E s
  refine wpAny_bind (wpAny_tupleHeld_zip hz hT fun g1 gz sb1 => ?_)
  simp only [if_false, Bool.false_eq_true]
  refine wpAny_bind ?_
  rw [← Array.forIn_toList]
  simp only [List.forIn_nil, List.forIn_cons]
  have f1 : S1 k g1 := I1.fr k _ _ q1 fun c o hc e => (sb1.2 c (hc.elim (fun q => q ▸ D.i1z) fun q => q ▸ D.l1z)).trans e
  refine wpAny_bind (wpAny_bind (wpAny_holding ?_))
  show wpAny (model prog w) _ (Builtin.SmallTypes.nextOf (.ref i1) >>= _) _ _ _
  exact wpAny_bind (I1.en (s := { s with heap := g1 }) hh f1 hx fun g2 e sb2 he => hE g2 e (fun c o n1 n2 x => sb2 _ _ n2 ((sb1.2 c n1).trans x)) he)
theorem znext_item {x y : Value} {Q : Option Value → Shared → Prop} (D : ZipApart z TI TO i1 i2 l1 l2) (I1 : Itm prog w i1 l1 xs S1) (I2 : Itm prog w i2 l2 ys S2) (hz : IsZipHeld s.heap z TI TO T f) (hT : s.heap.get? T = some oT) (hp : IsPair s.heap TI (.ref i1) (.ref i2))
    (q1 : S1 k s.heap) (q2 : S2 k s.heap) (hx : xs[k]? = some x) (hy : ys[k]? = some y)
    (hQ : ∀ h', IsZipHeld h' z TI TO T true → S1 (k + 1) h' → S2 (k + 1) h' → IsPair h' s.heap.objs.size x y → (∀ c o, c ≠ z → c ≠ i1 → c ≠ i2 → s.heap.get? c = some o → h'.get? c = some o) → Q (some (.ref s.heap.objs.size)) { s with heap := h' }) :
    wpAny (model prog w) A (pyNext (.ref z)) Q E s := by
  have ty : s.TypeIs (.ref z) "zip" := ⟨_, hz, rfl⟩
  unfold pyNext
  refine wpAny_bind (wpAny_attempt (wpAny_callSpecial?_slot (name := Str.ofString "__next__") ty F.slot_zip_next (wpAny_call_entry F.slot_zip_next ty F.entry_zip_next (zheld_item D I1 I2 hz hT hp q1 q2 hx hy fun g a1 a2 a3 a4 a5 => ?_) (F.args_zip_next_1 _))))
  exact wpAny_pure (hQ g a1 a2 a3 a4 a5)
theorem znext_end {Q : Option Value → Shared → Prop} (hh : A.handled = none) (D : ZipApart z TI TO i1 i2 l1 l2) (I1 : Itm prog w i1 l1 xs S1) (hz : IsZipHeld s.heap z TI TO T f) (hT : s.heap.get? T = some oT) (hp : IsPair s.heap TI (.ref i1) (.ref i2))
    (q1 : S1 k s.heap) (hx : xs[k]? = none) (hQ : ∀ h', (∀ c o, c ≠ z → c ≠ i1 → s.heap.get? c = some o → h'.get? c = some o) → Q none { s with heap := h' }) :
    wpAny (model prog w) A (pyNext (.ref z)) Q E s := by
  have ty : s.TypeIs (.ref z) "zip" := ⟨_, hz, rfl⟩
  unfold pyNext
  refine wpAny_bind (wpAny_attempt (wpAny_callSpecial?_slot (name := Str.ofString "__next__") ty F.slot_zip_next (wpAny_call_entry F.slot_zip_next ty F.entry_zip_next (zheld_end hh D I1 hz hT hp q1 hx fun g e a1 a2 => ?_) (F.args_zip_next_1 _))))
  obtain ⟨o, ho, hc⟩ := a2
  exact wpAny_bind (wpAny_isInstance (T := "StopIteration") (b := true) ⟨o, ho, hc⟩ isSubtype_stop (wpAny_pure (hQ _ a1)))
end
theorem zip_no_len : typeLookup (.type "zip") "__len__" = pure none := by rw [typeLookup_type, builtinLookup_eq_fast]; kernel_rfl
theorem zip_no_hint : typeLookup (.type "zip") "__length_hint__" = pure none := by rw [typeLookup_type, builtinLookup_eq_fast]; kernel_rfl
theorem zip_hint {M : Model} {A : Around} {E : Value → Shared → Prop} {s : Shared} {z : Addr} {Q : Bool → Shared → Prop} (ty : s.TypeIs (.ref z) "zip") (h : Q true s) : wpAny M A (Builtin.List.listLengthHint (.ref z)) Q E s := by
  unfold Builtin.List.listLengthHint
  refine wpAny_bind (wpAny_specialOf ty zip_no_len ?_)
  refine PySem.W.KFB.if_not rfl ?_
  refine PySem.W.KFB.if_not rfl ?_
  refine wpAny_bind (wpAny_specialOf ty zip_no_hint ?_)
  exact wpAny_pure h
section
variable {X : Cx} {pins : List (Addr × Obj)} {σ : L2.St}
theorem paired_snoc {α β : Type} {F : α → β → Prop} {l : List α} {m : List β} {a : α} {b : β} (h : Paired F l m) (q : F a b) : Paired F (l ++ [a]) (m ++ [b]) := paired_app h (.cons q .nil)
/-- the rest of the walk -/
theorem zip_loop {A1 : Around} {Rs : Result → Shared → Prop} {z TI TO i1 i2 a b q : Addr} {S1 S2 : Nat → Heap → Prop} {xs ys : List V} {us ws : List Value} (hh : A1.handled = none) (D : ZipApart z TI TO i1 i2 a b)
    (I1 : Itm X.prog X.w i1 a us.toArray S1) (I2 : Itm X.prog X.w i2 b ws.toArray S2) (rx : Vals xs us) (ry : Vals ys ws) (hl : xs.length = ys.length) (hz : xs.length ≤ 100000) (na : a ≠ q) (nb : b ≠ q) (H0 : Hp)
    (done : ∀ ts H s, Inv X pins σ H s → H q = some (.lst (ts.map V.ref)) → Paired (fun T (p : V × V) => H T = some (.tup [p.1, p.2])) ts (xs.zip ys) → But q H0 H → Rs (.ok (.ret .none)) s) :
    ∀ (m k : Nat) (ts : List Addr) (H : Hp) (s : Shared) (T : Addr) (f : Bool) (tv : List V), m = xs.length - k → k ≤ xs.length → Inv X pins σ H s → (∀ c ∈ [z, TI, TO, i1, i2], FpOk X pins H c) → IsZipHeld s.heap z TI TO T f → H T = some (.tup tv) → IsPair s.heap TI (.ref i1) (.ref i2) →
      S1 k s.heap → S2 k s.heap → H q = some (.lst (ts.map V.ref)) → ts.length = k → Paired (fun T (p : V × V) => H T = some (.tup [p.1, p.2])) ts ((xs.zip ys).take k) → But q H0 H → (∀ b, H b = none → H0 b = none) → (∀ c ∈ [z, TI, TO, i1, i2], c < s.heap.objs.size) →
      codeAny (model X.prog X.w) A1 (.builtin "list.extend.loop" ⟨[.ref q, .ref z, .none], []⟩) Rs s := by
  intro m
  induction m with
  | zero =>
    intro k ts H s T f tv hm hk I hf hzh hT hp q1 q2 hq ht hpr hbut hnn hlt
    have ek : k = xs.length := by omega
    subst ek
    refine codeAny_builtin PySem.F.entry_extend_loop ?_
    rw [Around.under_plainId PySem.F.plain_extend_loop _]
    show wpAny (model X.prog X.w) A1.in1 (pyNext (.ref z) >>= _) _ _ s
    obtain ⟨_, its, _, oT, eT, _⟩ := I.hok T _ hT
    have ux : us.toArray[xs.length]? = none := by
      have := rx.length
      simp
      omega
    refine wpAny_bind (znext_end hh D I1 hzh eT hp q1 ux fun h' hk' => ?_)
    have J : Inv X pins σ H { s with heap := h' } := I.turnedL (t' := s.toks) (ch := [z, i1]) (fun c o hc e => hk' c o (fun y => hc (by simp [y])) (fun y => hc (by simp [y])) e) fun c hc => hf c (by
      rcases List.mem_cons.mp hc with y | y
      · simp [y]
      · simp [List.mem_singleton.mp y])
    refine wpAny_pure (done ts H _ J hq ?_ hbut)
    rw [List.take_of_length_le (by rw [List.length_zip]; omega)] at hpr
    exact hpr
  | succ m ih =>
    intro k ts H s T f tv hm hk I hf hzh hT hp q1 q2 hq ht hpr hbut hnn hlt
    have hk1 : k < xs.length := by omega
    refine codeAny_builtin PySem.F.entry_extend_loop ?_
    rw [Around.under_plainId PySem.F.plain_extend_loop _]
    show wpAny (model X.prog X.w) A1.in1 (pyNext (.ref z) >>= _) _ _ s
    obtain ⟨_, its, _, oT, eT, _⟩ := I.hok T _ hT
    obtain ⟨u, hu, ru⟩ := rx.get (List.getElem?_eq_getElem hk1)
    obtain ⟨u2, hu2, ru2⟩ := ry.get (List.getElem?_eq_getElem (show k < ys.length by omega))
    refine wpAny_bind (znext_item D I1 I2 hzh eT hp q1 q2 (x := u) (y := u2) (by simpa using hu) (by simpa using hu2) fun h' zh1 r1 r2 nT hk' => ?_)
    have mem3 : ∀ c ∈ [z, i1, i2], c ∈ [z, TI, TO, i1, i2] := fun c hc => by
      simp only [List.mem_cons, List.not_mem_nil, or_false] at hc ⊢
      rcases hc with y | y | y <;> simp [y]
    have J : Inv X pins σ (upd H s.heap.objs.size (.tup [xs[k], ys[k]])) { s with heap := h' } :=
      I.turnedNew (t' := s.toks) (ch := [z, i1, i2]) (fun c o hc e => hk' c o (fun y => hc (by simp [y])) (fun y => hc (by simp [y])) (fun y => hc (by simp [y])) e) (fun c hc => hf c (mem3 c hc)) (Nat.le_refl _)
        ⟨by show 2 ≤ sizeLine; decide, [u, u2], .cons ru (.cons ru2 .nil), ⟨_, nT, rfl, _, rfl⟩⟩
    have nn : H s.heap.objs.size = none := I.hok.fresh (Nat.le_refl _)
    have nq : q ≠ s.heap.objs.size := ne_of_none hq nn
    have hq1 : (upd H s.heap.objs.size (.tup [xs[k], ys[k]])) q = some (.lst (ts.map V.ref)) := by rw [upd_ne nq]; exact hq
    show wpAny (model X.prog X.w) A1.in1 (updateSeq q (·.push (.ref s.heap.objs.size)) >>= _) _ _ _
    obtain ⟨_, lts, n, rl, ll, el⟩ := J.lstM hq1
    have lt : ts.length = lts.length := by rw [← ll, List.length_map]
    have small : lts.length + 1 ≤ sizeLine := by rw [sizeLine_eq]; omega
    refine wpAny_bind (wpAny_updateSeq el rfl (wpAny_pure ⟨plainId_quiet PySem.F.plain_extend_loop _, ?_⟩) (by rw [List.size_toArray]; omega) (by show (lts.toArray.push (.ref s.heap.objs.size)).size ≤ sizeLine + 1; rw [Array.size_push, List.size_toArray]; omega))
    have J2 := J.lset (f := (·.push (Value.ref s.heap.objs.size))) (its' := lts ++ [.ref s.heap.objs.size]) (ys := ts.map V.ref ++ [.ref s.heap.objs.size]) (t' := s.toks) hq1 el (by simp) (rl.append (show Vals [V.ref s.heap.objs.size] [Value.ref s.heap.objs.size] from .cons rfl .nil)) (by rw [List.length_append, List.length_singleton, ll]; exact small)
    have ec : ts.map V.ref ++ [V.ref s.heap.objs.size] = (ts ++ [s.heap.objs.size]).map V.ref := by rw [List.map_append]; rfl
    rw [ec] at J2
    have nfp : ∀ c ∈ [z, TI, TO, i1, i2], c ≠ q ∧ c ≠ s.heap.objs.size := fun c hc => by
      refine ⟨(ne_of_none hq (hf c hc).1).symm, fun y => ?_⟩
      exact absurd y (Nat.ne_of_lt (hlt c hc))
    have oth : ∀ c o, c ≠ q → h'.get? c = some o → (h'.update q (Obj.mapSeq (·.push (Value.ref s.heap.objs.size)))).get? c = some o := fun c o hc e => (Heap.get?_update_other _ _ (Ne.symm hc)).trans e
    have ts' : H s.heap.objs.size = none := nn
    refine ih (k + 1) (ts ++ [s.heap.objs.size]) _ _ T true tv (by omega) hk1 J2 (fun c hc => ?_) ?_ ?_ ?_ ?_ ?_ upd_same (by rw [List.length_append, ht]; rfl) ?_ ?_ ?_ ?_
    · obtain ⟨n1, n2⟩ := nfp c hc
      exact ⟨by rw [upd_ne n1, upd_ne n2]; exact (hf c hc).1, (hf c hc).2⟩
    · exact oth _ _ (nfp z (by simp)).1 zh1
    · rw [upd_ne (fun y => by rw [y, hq] at hT; cases hT), upd_ne (ne_of_none hT nn)]; exact hT
    · exact oth _ _ (nfp TI (by simp)).1 (hk' TI _ D.TIz D.TIi1 D.TIi2 hp)
    · exact I1.fr _ _ _ r1 fun c o hc e => oth c o (hc.elim (fun y => by rw [y]; exact (nfp i1 (by simp)).1) fun y => by rw [y]; exact na) e
    · exact I2.fr _ _ _ r2 fun c o hc e => oth c o (hc.elim (fun y => by rw [y]; exact (nfp i2 (by simp)).1) fun y => by rw [y]; exact nb) e
    · have hz1 : (xs.zip ys).take (k + 1) = (xs.zip ys).take k ++ [(xs[k], ys[k])] := by
        rw [List.take_succ, List.getElem?_eq_getElem (by rw [List.length_zip]; omega)]
        simp
      rw [hz1]
      refine paired_snoc (Paired.mapP hpr fun T' p hT' => ?_) ?_
      · rw [upd_ne (fun y => by rw [y, hq] at hT'; cases hT'), upd_ne (ne_of_none hT' nn)]; exact hT'
      · rw [upd_ne nq.symm, upd_same]
    · exact (hbut.fresh (o := .tup [xs[k], ys[k]]) (hnn _ nn)).trans But.upd
    · intro c hc
      obtain ⟨n1, n2⟩ := upd_none hc
      exact hnn _ (upd_none n2).2
    · intro c hc
      have h1 := hlt c hc
      have h2 := Heap.lt_size (oth _ _ nq.symm nT)
      exact Nat.lt_trans h1 h2
/-- the iterators over both, from the start -/
def StB (t : Bool) (i l : Addr) (us : Array Value) : Nat → Heap → Prop := if t then StL i l us else StT i l us
theorem itmB {P : Program} {w : World} {t : Bool} {i l : Addr} {us : Array Value} : Itm P w i l us (StB t i l us) := by
  cases t
  · exact itmT
  · exact itmL
theorem zfirst_item {P : Program} {w : World} {A : Around} {E : Value → Shared → Prop} {s : Shared} {z TI TO i1 i2 a b : Addr} {t : Bool} {us ws : Array Value} {x y v1 v2 : Value} {Q : Option Value → Shared → Prop} (D : ZipApart z TI TO i1 i2 a b) (hz : IsZip s.heap z TI TO .none) (hp : IsPair s.heap TI (.ref i1) (.ref i2))
    (ho : IsPair s.heap TO v1 v2) (q1 : StB t i1 a us 0 s.heap) (q2 : StB t i2 b ws 0 s.heap) (hx : us[0]? = some x) (hy : ws[0]? = some y)
    (hQ : ∀ h', IsZipHeld h' z TI TO s.heap.objs.size false → StB t i1 a us 1 h' → StB t i2 b ws 1 h' → IsPair h' s.heap.objs.size x y → (∀ c o, c ≠ z → c ≠ TO → c ≠ i1 → c ≠ i2 → s.heap.get? c = some o → h'.get? c = some o) → Q (some (.ref s.heap.objs.size)) { s with heap := h' }) :
    wpAny (model P w) A (pyNext (.ref z)) Q E s := by
  cases t
  · have q1 : StT i1 a us 0 s.heap := q1
    have q2 : StT i2 b ws 0 s.heap := q2
    exact pyNext_zipT_item D hz hp ho q1.1 q2.1 q1.2 q2.2 hx hy fun h' b1 b2 b3 b4 b5 b6 b7 => hQ h' b1 ⟨b3, q1.2.at fun o e => b7 a o D.l1z D.l1TO D.l1i1 D.l1i2 e⟩ ⟨b4, q2.2.at fun o e => b7 b o D.l2z D.l2TO D.l2i1 D.l2i2 e⟩ b5 b7
  · have q1 : StL i1 a us 0 s.heap := q1
    have q2 : StL i2 b ws 0 s.heap := q2
    exact wpAny_pyNext_zip_item D hz hp ho q1.1 q2.1 q1.2 q2.2 hx hy fun h' b1 b2 b3 b4 b5 b6 b7 => hQ h' b1 ⟨b3, q1.2.at fun o e => b7 a o D.l1z D.l1TO D.l1i1 D.l1i2 e⟩ ⟨b4, q2.2.at fun o e => b7 b o D.l2z D.l2TO D.l2i1 D.l2i2 e⟩ b5 b7
theorem zfirst_end {P : Program} {w : World} {A : Around} {E : Value → Shared → Prop} {s : Shared} {z TI TO i1 i2 a b : Addr} {t : Bool} {us ws : Array Value} {v1 v2 : Value} {Q : Option Value → Shared → Prop} (hh : A.handled = none) (D : ZipApart z TI TO i1 i2 a b) (hz : IsZip s.heap z TI TO .none) (hp : IsPair s.heap TI (.ref i1) (.ref i2))
    (ho : IsPair s.heap TO v1 v2) (q1 : StB t i1 a us 0 s.heap) (q2 : StB t i2 b ws 0 s.heap) (hx : us[0]? = none)
    (hQ : ∀ h', (∀ c o, c ≠ z → c ≠ TO → c ≠ i1 → c ≠ i2 → s.heap.get? c = some o → h'.get? c = some o) → Q none { s with heap := h' }) :
    wpAny (model P w) A (pyNext (.ref z)) Q E s := by
  cases t
  · have q1 : StT i1 a us 0 s.heap := q1
    have q2 : StT i2 b ws 0 s.heap := q2
    exact pyNext_zipT_end hh D hz hp ho q1.1 q2.1 q1.2 q2.2 (.inl hx) hQ
  · have q1 : StL i1 a us 0 s.heap := q1
    have q2 : StL i2 b ws 0 s.heap := q2
    exact wpAny_pyNext_zip_end hh D hz hp ho q1.1 q2.1 q1.2 q2.2 (.inl hx) hQ
/-- the whole walk -/
theorem zip_run {A1 : Around} {Rs : Result → Shared → Prop} {z TI TO i1 i2 a b q : Addr} {t : Bool} {xs ys : List V} {us ws : List Value} {v1 v2 : Value} {H : Hp} {s : Shared} (hh : A1.handled = none) (D : ZipApart z TI TO i1 i2 a b)
    (rx : Vals xs us) (ry : Vals ys ws) (hl : xs.length = ys.length) (hz : xs.length ≤ 100000) (na : a ≠ q) (nb : b ≠ q)
    (done : ∀ ts H' s, Inv X pins σ H' s → H' q = some (.lst (ts.map V.ref)) → Paired (fun T (p : V × V) => H' T = some (.tup [p.1, p.2])) ts (xs.zip ys) → But q H H' → Rs (.ok (.ret .none)) s)
    (I : Inv X pins σ H s) (hf : ∀ c ∈ [z, TI, TO, i1, i2], FpOk X pins H c) (hzz : IsZip s.heap z TI TO .none) (hp : IsPair s.heap TI (.ref i1) (.ref i2)) (ho : IsPair s.heap TO v1 v2)
    (q1 : StB t i1 a us.toArray 0 s.heap) (q2 : StB t i2 b ws.toArray 0 s.heap) (hq : H q = some (.lst [])) (hlt : ∀ c ∈ [z, TI, TO, i1, i2], c < s.heap.objs.size) :
    codeAny (model X.prog X.w) A1 (.builtin "list.extend.loop" ⟨[.ref q, .ref z, .none], []⟩) Rs s := by
  refine codeAny_builtin PySem.F.entry_extend_loop ?_
  rw [Around.under_plainId PySem.F.plain_extend_loop _]
  show wpAny (model X.prog X.w) A1.in1 (pyNext (.ref z) >>= _) _ _ s
  have lx := rx.length
  have ly := ry.length
  have mem4 : ∀ c ∈ [z, TO, i1, i2], c ∈ [z, TI, TO, i1, i2] := fun c hc => by
    simp only [List.mem_cons, List.not_mem_nil, or_false] at hc ⊢
    rcases hc with y | y | y | y <;> simp [y]
  cases hx0 : xs with
  | nil =>
    subst hx0
    have ux : us.toArray[0]? = none := by
      obtain rfl : us = [] := List.length_eq_zero_iff.mp lx.symm
      rfl
    refine wpAny_bind (zfirst_end hh D hzz hp ho q1 q2 ux fun h' hk' => ?_)
    have J : Inv X pins σ H { s with heap := h' } := I.turnedL (t' := s.toks) (ch := [z, TO, i1, i2]) (fun c o hc e => hk' c o (fun y => hc (by simp [y])) (fun y => hc (by simp [y])) (fun y => hc (by simp [y])) (fun y => hc (by simp [y])) e) fun c hc => hf c (mem4 c hc)
    exact wpAny_pure (done [] H _ J hq .nil (But.of (Same.refl _)))
  | cons x0 xr =>
    have hk1 : 0 < xs.length := by rw [hx0]; exact Nat.succ_pos _
    obtain ⟨u, hu, ru⟩ := rx.get (List.getElem?_eq_getElem hk1)
    obtain ⟨u2, hu2, ru2⟩ := ry.get (List.getElem?_eq_getElem (show 0 < ys.length by omega))
    refine wpAny_bind (zfirst_item D hzz hp ho q1 q2 (x := u) (y := u2) (by simpa using hu) (by simpa using hu2) fun h' zh1 r1 r2 nT hk' => ?_)
    have J : Inv X pins σ (upd H s.heap.objs.size (.tup [xs[0], ys[0]])) { s with heap := h' } :=
      I.turnedNew (t' := s.toks) (ch := [z, TO, i1, i2]) (fun c o hc e => hk' c o (fun y => hc (by simp [y])) (fun y => hc (by simp [y])) (fun y => hc (by simp [y])) (fun y => hc (by simp [y])) e) (fun c hc => hf c (mem4 c hc)) (Nat.le_refl _)
        ⟨by show 2 ≤ sizeLine; decide, [u, u2], .cons ru (.cons ru2 .nil), ⟨_, nT, rfl, _, rfl⟩⟩
    have nn : H s.heap.objs.size = none := I.hok.fresh (Nat.le_refl _)
    have nq : q ≠ s.heap.objs.size := ne_of_none hq nn
    have hq1 : (upd H s.heap.objs.size (.tup [xs[0], ys[0]])) q = some (.lst []) := by rw [upd_ne nq]; exact hq
    show wpAny (model X.prog X.w) A1.in1 (updateSeq q (·.push (.ref s.heap.objs.size)) >>= _) _ _ _
    obtain ⟨_, lts, n, rl, ll, el⟩ := J.lstM hq1
    cases rl
    have small : 1 ≤ sizeLine := by decide
    refine wpAny_bind (wpAny_updateSeq el rfl (wpAny_pure ⟨plainId_quiet PySem.F.plain_extend_loop _, ?_⟩) (by show 0 ≤ sizeLine; exact Nat.zero_le _) (by show 1 ≤ sizeLine + 1; exact Nat.le_add_left _ _))
    have J2 := J.lset (f := (·.push (Value.ref s.heap.objs.size))) (its' := [.ref s.heap.objs.size]) (ys := [s.heap.objs.size].map V.ref) (t' := s.toks) hq1 el (by simp) (show Vals [V.ref s.heap.objs.size] [Value.ref s.heap.objs.size] from .cons rfl .nil) small
    have nfp : ∀ c ∈ [z, TI, TO, i1, i2], c ≠ q ∧ c ≠ s.heap.objs.size := fun c hc => ⟨(ne_of_none hq (hf c hc).1).symm, fun y => absurd y (Nat.ne_of_lt (hlt c hc))⟩
    have oth : ∀ c o, c ≠ q → h'.get? c = some o → (h'.update q (Obj.mapSeq (·.push (Value.ref s.heap.objs.size)))).get? c = some o := fun c o hc e => (Heap.get?_update_other _ _ (Ne.symm hc)).trans e
    refine zip_loop hh D (itmB (t := t)) (itmB (t := t)) rx ry hl hz na nb H done (xs.length - 1) 1 [s.heap.objs.size] _ _ s.heap.objs.size false [xs[0], ys[0]] (by omega) hk1 J2 (fun c hc => ?_) ?_ ?_ ?_ ?_ ?_ upd_same rfl ?_ ?_ ?_ ?_
    · obtain ⟨n1, n2⟩ := nfp c hc
      exact ⟨by rw [upd_ne n1, upd_ne n2]; exact (hf c hc).1, (hf c hc).2⟩
    · exact oth _ _ (nfp z (by simp)).1 zh1
    · rw [upd_ne nq.symm, upd_same]
    · exact oth _ _ (nfp TI (by simp)).1 (hk' TI _ D.TIz D.TITO D.TIi1 D.TIi2 hp)
    · exact (itmB (P := X.prog) (w := X.w)).fr _ _ _ r1 fun c o hc e => oth c o (hc.elim (fun y => by rw [y]; exact (nfp i1 (by simp)).1) fun y => by rw [y]; exact na) e
    · exact (itmB (P := X.prog) (w := X.w)).fr _ _ _ r2 fun c o hc e => oth c o (hc.elim (fun y => by rw [y]; exact (nfp i2 (by simp)).1) fun y => by rw [y]; exact nb) e
    · have hz1 : (xs.zip ys).take 1 = [(xs[0], ys[0])] := by
        rw [List.take_succ, List.getElem?_eq_getElem (by rw [List.length_zip]; omega)]
        simp
      rw [hz1]
      refine .cons ?_ .nil
      rw [upd_ne nq.symm, upd_same]
    · exact (But.of (Same.new nn)).trans But.upd
    · intro c hc
      exact (upd_none (upd_none hc).2).2
    · intro c hc
      exact Nat.lt_trans (hlt c hc) (Heap.lt_size (oth _ _ nq.symm nT))
end
/-- list(zip(a, b)) -/
def tLZ (K : PySem.W.Frag) (ta : TA) : TE := fun σ H Q => ta σ H fun vs H1 => ∃ (t : Bool) (a b : Addr) (xs ys : List V), vs = [.ref a, .ref b] ∧ SqB K t H1 a xs ∧ SqB K t H1 b ys ∧ xs.length = ys.length ∧ xs.length ≤ 100000 ∧
  ∀ (q : Addr) (H' : Hp) (ts : List Addr), H1 q = none → Same H1 H' → H' q = some (.lst (ts.map V.ref)) → Paired (fun T (p : V × V) => H' T = some (.tup [p.1, p.2])) ts (xs.zip ys) → Q (.ref q) H'
theorem sqB_vals {X : Cx} {pins : List (Addr × Obj)} {σ : L2.St} {H : Hp} {s : Shared} {t : Bool} {a : Addr} {xs : List V} (I : Inv X pins σ H s) (h : SqB X.K t H a xs) : ∃ us : List Value, Vals xs us ∧ (if t then s.heap.IsList a us.toArray else s.heap.IsTuple a us.toArray) ∧ a < s.heap.objs.size := by
  cases t
  · obtain ⟨us, rv, p, _⟩ := I.tuple h
    obtain ⟨o, ho, _⟩ := id p
    exact ⟨us, rv, p, Heap.lt_size ho⟩
  · obtain ⟨us, rv, p, _⟩ := I.list h
    exact ⟨us, rv, p.isList, p.lt⟩
theorem zip_made {P : Program} {w : World} {A : Around} {E : Value → Shared → Prop} {s : Shared} {a b : Addr} {t : Bool} {us ws : Array Value} {Q : Value → Shared → Prop} (h1 : if t then s.heap.IsList a us else s.heap.IsTuple a us) (h2 : if t then s.heap.IsList b ws else s.heap.IsTuple b ws)
    (h : ∀ h', IsZip h' (s.heap.objs.size + 4) (s.heap.objs.size + 2) (s.heap.objs.size + 3) .none → IsPair h' (s.heap.objs.size + 2) (.ref s.heap.objs.size) (.ref (s.heap.objs.size + 1)) → IsPair h' (s.heap.objs.size + 3) .none .none → StB t s.heap.objs.size a us 0 h' → StB t (s.heap.objs.size + 1) b ws 0 h' →
      h'.objs.size = s.heap.objs.size + 5 → (∀ c o, s.heap.get? c = some o → h'.get? c = some o) → Q (.ref (s.heap.objs.size + 4)) { s with heap := h' }) : wpAny (model P w) A (call (.type "zip") [.ref a, .ref b]) Q E s := by
  cases t
  · have h1 : s.heap.IsTuple a us := h1
    have h2 : s.heap.IsTuple b ws := h2
    exact call_zipT h1 h2 fun h' b1 b2 b3 b4 b5 b6 b7 => h h' b1 b2 b3 ⟨b4, h1.at fun o e => b7 a o e⟩ ⟨b5, h2.at fun o e => b7 b o e⟩ b6 b7
  · have h1 : s.heap.IsList a us := h1
    have h2 : s.heap.IsList b ws := h2
    exact call_zip_2 h1 h2 fun h' b1 b2 b3 b4 b5 b6 b7 => h h' b1 b2 b3 ⟨b4, h1.at fun o e => b7 a o e⟩ ⟨b5, h2.at fun o e => b7 b o e⟩ b6 b7
theorem pe_listzip {X : Cx} {e e2 : Expr} {ta : TA} {p pos p2 pos2 : Pos} (hc : X.calm = true) (hg : Gl X "list") (hm : X.mg "list" = none) (hg2 : Gl X "zip") (hm2 : X.mg "zip" = none) (ha : PA X [e, e2] ta)
    (na : starEach [.Call (.Name "zip" p2) [e, e2] [] pos2] X.env = (false, eval (.Call (.Name "zip" p2) [e, e2] [] pos2) X.env) :: starEach [] X.env := by rfl)
    (hs : starEach [e, e2] X.env = (false, eval e X.env) :: starEach [e2] X.env := by rfl) (hpl : (backTo pos2 (starEach [e2] X.env)).any (·.1) = false := by rfl) :
    PE X (.Call (.Name "list" p) [.Call (.Name "zip" p2) [e, e2] [] pos2] [] pos) (tLZ X.K ta) := by
  refine ⟨fun pins s σ H Q I h => ?_⟩
  refine Call_ (ld_blt I hg hm boot_list (PyProof.Rows.callWith_type1 (args_cons ?_ na) na))
  refine Call_ (ld_blt I hg2 hm2 PyProof.Rows.boot_zip (PyProof.Rows.callWith_type1 (thn (ha.run pos2 pins s σ H _ I h) fun us s1 ⟨vs, H1, I1, r1, q1⟩ => ?_) hs hpl))
  obtain ⟨t, a, b, xs, ys, ex, hqx, hqy, hl, hz, q⟩ := q1
  subst ex
  cases r1 with
  | cons r rr =>
    cases rr with
    | cons r' rr =>
      cases rr
      cases r
      cases r'
      obtain ⟨us, rx, pa, la⟩ := sqB_vals I1 hqx
      obtain ⟨ws, ry, pb, lb⟩ := sqB_vals I1 hqy
      refine zip_made pa pb fun h' hzz hTI hTO b1 b2 hsz hk => args_nil ?_
      have D := PySem.W.ktu_apart s1.heap.objs.size a b la lb
      have I2 : Inv X pins σ H1 { s1 with heap := h' } := I1.kept (t' := s1.toks) hk
      have mem5 : ∀ c ∈ [s1.heap.objs.size + 4, s1.heap.objs.size + 2, s1.heap.objs.size + 3, s1.heap.objs.size, s1.heap.objs.size + 1], s1.heap.objs.size ≤ c ∧ c < s1.heap.objs.size + 5 := fun c hc => by
        simp only [List.mem_cons, List.not_mem_nil, or_false] at hc
        omega
      have fp : ∀ c ∈ [s1.heap.objs.size + 4, s1.heap.objs.size + 2, s1.heap.objs.size + 3, s1.heap.objs.size, s1.heap.objs.size + 1], FpOk X pins H1 c := fun c hc => I1.fpOk (mem5 c hc).1 (I1.hok.fresh (mem5 c hc).1)
      have calm : X.A.handled = none := I2.ok.hd hc
      refine callType_codes (Q₁ := fun o1 g1 => o1 = .ref h'.objs.size ∧ g1 = { s1 with heap := h'.push { cls := .type "list", data := .seq #[] } }) PySem.F.called_list (PySem.F.typeCall_list_1 _) PySem.F.entry_list_init (code_list_new _ ⟨rfl, rfl⟩) fun o1 g1 e1 => ?_
      obtain ⟨rfl, rfl⟩ := e1
      have hL : (h'.push { cls := .type "list", data := .seq #[] }).get? h'.objs.size = some { cls := .type "list", data := .seq #[] } := Heap.get?_push_size _ rfl
      refine ⟨⟨_, hL, rfl⟩, PySem.F.args_list_init_2 _ _, ?_⟩
      have nq : H1 h'.objs.size = none := I2.hok.fresh (Nat.le_refl _)
      have J1 : Inv X pins σ (upd H1 h'.objs.size (.lst [])) { s1 with heap := h'.push { cls := .type "list", data := .seq #[] } } := I2.lnew (its := []) (t' := s1.toks) .nil (Nat.zero_le _)
      show wpAny (model X.prog X.w) _ (do let old ← Builtin.List.listItems (.ref h'.objs.size); Builtin.List.listUpdate (.ref h'.objs.size) (fun _ => #[]); letGo old.toList.reverse; Builtin.List.listExtendWith (.ref h'.objs.size) (.ref (s1.heap.objs.size + 4)) .none) _ _ _
      refine wpAny_bind ?_
      unfold Builtin.List.listItems
      refine wpAny_bind (wpAny_seqItems hL rfl (wpAny_pure ?_))
      show wpAny (model X.prog X.w) _ (updateSeq h'.objs.size (fun _ => #[]) >>= fun _ => letGo (#[] : Array Value).toList.reverse >>= fun _ => Builtin.List.listExtendWith (.ref h'.objs.size) (.ref (s1.heap.objs.size + 4)) .none) _ _ _
      refine wpAny_bind (wpAny_updateSeq hL rfl ?_)
      have J2 := J1.lset (f := fun _ => #[]) (its := []) (its' := []) (ys := []) (t' := s1.toks) upd_same hL rfl .nil (Nat.zero_le _)
      rw [upd_upd] at J2
      refine wpAny_bind (wpAny_letGo ?_)
      obtain ⟨_, l2, n2, v2, _, e2⟩ := J2.lstM upd_same
      cases v2
      have up1 : ∀ {c o}, h'.get? c = some o → ((h'.push { cls := .type "list", data := .seq #[] }).update h'.objs.size (Obj.mapSeq fun _ => (#[] : Array Value))).get? c = some o := fun {c o} e => (Heap.get?_update_other _ _ (Nat.ne_of_gt (Heap.lt_size e))).trans (Heap.get?_push_of_some _ e)
      unfold Builtin.List.listExtendWith
      refine wpAny_bind (wpAny_typeOf (T := "zip") ⟨_, up1 hzz, rfl⟩ ?_)
      have d1 : Builtin.List.listSameRef (.ref h'.objs.size) (.ref (s1.heap.objs.size + 4)) = false := by
        have : h'.objs.size ≠ s1.heap.objs.size + 4 := by omega
        simp [Builtin.List.listSameRef, this]
      have d2 : (Value.type "zip" == Value.type "list") = false := by decide
      have d3 : (Value.type "zip" == Value.type "tuple") = false := by decide
      simp only [d1, d2, d3, Bool.or_false, Bool.false_eq_true, if_false]
      refine wpAny_bind (wpAny_pyIter_zip (up1 hzz) ?_)
      refine wpAny_bind (wpAny_holding (zip_hint ⟨_, up1 hzz, rfl⟩ ?_))
      have ending : ∀ (ts : List Addr) (H' : Hp) (s' : Shared), Inv X pins σ H' s' → H' h'.objs.size = some (.lst (ts.map V.ref)) → Paired (fun T (p : V × V) => H' T = some (.tup [p.1, p.2])) ts (xs.zip ys) → But h'.objs.size (upd H1 h'.objs.size (.lst [])) H' → ∃ x H2, Inv X pins σ H2 s' ∧ RelV x (.ref h'.objs.size) ∧ Q x H2 := fun ts H' s' J e1 e2 bu =>
        ⟨.ref h'.objs.size, H', J, rfl, q _ _ ts nq (fun c o hc => bu c o (ne_of_none hc nq) (by rw [upd_ne (ne_of_none hc nq)]; exact hc)) e1 e2⟩
      have lens : ∀ c ∈ [s1.heap.objs.size + 4, s1.heap.objs.size + 2, s1.heap.objs.size + 3, s1.heap.objs.size, s1.heap.objs.size + 1], c ≠ h'.objs.size := fun c hc => by
        have := (mem5 c hc).2
        omega
      have sz5 : s1.heap.objs.size ≤ h'.objs.size := by rw [hsz]; exact Nat.le_add_right _ _
      have na : a ≠ h'.objs.size := Nat.ne_of_lt (Nat.lt_of_lt_of_le la sz5)
      have nb : b ≠ h'.objs.size := Nat.ne_of_lt (Nat.lt_of_lt_of_le lb sz5)
      have goes : ∀ (g2 : Heap), (∀ c o, h'.get? c = some o → g2.get? c = some o) → Inv X pins σ (upd H1 h'.objs.size (.lst [])) { s1 with heap := g2 } → (∀ c ∈ [s1.heap.objs.size + 4, s1.heap.objs.size + 2, s1.heap.objs.size + 3, s1.heap.objs.size, s1.heap.objs.size + 1], c < g2.objs.size) →
          codeAny (model X.prog X.w) X.A.in1 (.builtin "list.extend.loop" ⟨[.ref h'.objs.size, .ref (s1.heap.objs.size + 4), .none], []⟩) (wants (fun r s₂ => r = .none ∧ EP X pins σ Q (.ref h'.objs.size) s₂) X.xe) { s1 with heap := g2 } := fun g2 k2 J3 lt3 => by
        refine zip_run (t := t) calm D rx ry hl hz na nb (fun ts H' s' J e1 e2 bu => ⟨rfl, ending ts H' s' J e1 e2 bu⟩) J3 (fun c hc => ?_) (k2 _ _ hzz) (k2 _ _ hTI) (k2 _ _ hTO) ?_ ?_ upd_same lt3
        · exact ⟨by rw [upd_ne (lens c hc)]; exact (fp c hc).1, (fp c hc).2⟩
        · exact (itmB (P := X.prog) (w := X.w)).fr _ _ _ b1 fun c o _ e => k2 c o e
        · exact (itmB (P := X.prog) (w := X.w)).fr _ _ _ b2 fun c o _ e => k2 c o e
      refine wpAny_ite_split (fun _ => ?_) (fun _ => wpAny_pure ⟨plainId_quiet PySem.F.plain_extend_loop _, goes _ (fun c o e => up1 e) J2 fun c hc => ?_⟩)
      · refine wpAny_bind (wpAny_rule ?_)
        refine wpAny_bind ?_
        show wpAny (model X.prog X.w) _ (updateSeq h'.objs.size (·.push .none) >>= fun _ => updateSeq h'.objs.size (·.pop)) _ _ _
        refine wpAny_bind (wpAny_updateSeq e2 rfl ?_)
        have J3 := J2.lset (f := (·.push Value.none)) (its' := [Value.none]) (ys := [.non]) (t' := s1.toks) upd_same e2 (by simp) (.cons rfl .nil) (by decide)
        rw [upd_upd] at J3
        obtain ⟨_, l4, n4, v4, _, e4⟩ := J3.lstM upd_same
        obtain ⟨u4, rfl, _⟩ := v4.one
        refine wpAny_updateSeq e4 rfl ?_ (by show 1 ≤ sizeLine; decide) (by show 0 ≤ sizeLine + 1; exact Nat.zero_le _)
        have J4 := J3.lset (f := (·.pop)) (its := [u4]) (its' := []) (ys := []) (t' := s1.toks) upd_same e4 (by rfl) .nil (Nat.zero_le _)
        rw [upd_upd] at J4
        refine wpAny_pure ⟨plainId_quiet PySem.F.plain_extend_loop _, goes _ (fun c o e => ?_) J4 fun c hc => ?_⟩
        · have ne : h'.objs.size ≠ c := Nat.ne_of_gt (Heap.lt_size e)
          exact (Heap.get?_update_other _ _ ne).trans ((Heap.get?_update_other _ _ ne).trans (up1 e))
        · have := (mem5 c hc).2
          simp only [Heap.size_update, Heap.size_push]
          omega
      · have := (mem5 c hc).2
        simp only [Heap.size_update, Heap.size_push]
        omega
end Np

set_option Elab.async false
set_option linter.all false
set_option maxRecDepth 100000
set_option maxHeartbeats 4000000
namespace Np
open PySem PySem.Spec PyProof.Rows L2
/-! ### a caught error as an argument -/
/-- what a def promises of a caught error: sp says of its address, its class, its dict -/
structure FnE (P : Program) (w : World) (K : PySem.W.Frag) (mg : Str → Option Value) (base : Heap) (CX : CXT) (k : Nat) (f : Addr) (fd : FuncData) (ps : List Str) (sp : Addr → Value → Option Addr → Sp) : Prop where
  len : ∀ a cls d vs H Q E, sp a cls d vs H Q E → vs.length = ps.length
  run : ∀ (A : Around) (outer : List Env) (s : Shared) (H : Hp) (args : Args) (us : List Value) (vs : List V) (Q : VK) (E : XK) (a : Addr) (oe : Obj) (cls : Value) (d : Option Addr), Zc cls d oe → (∃ xs, oe.data = .fields xs) → L2H.PinOk outer H s (a, oe) → L2H.RoomH k A → Env0 P w K mg base A outer s H →
    BindsTo s fd args (ps.zip us) → Vals vs us → sp a cls d vs H Q E → codeAny (model P w) A (.call (.ref f) args) (CR CX outer P w H s Q E) s
theorem fnE {P : Program} {w : World} {K : PySem.W.Frag} {mg : Str → Option Value} {base : Heap} {x qual : Str} {params : Arguments} {body : List Stmt} {scope : Scope} {dvs : List V} {kws : List (Str × V)} {f : Addr} {fd : FuncData} {CX : CXT} {N ps : List Str} {k : Nat} {sp : Addr → Value → Option Addr → Sp}
    (F : FunD K x qual params body scope dvs kws f fd) (S : FnScope N ps scope) (len : ∀ a cls d vs H Q E, sp a cls d vs H Q E → vs.length = ps.length)
    (hbody : ∀ (cdv : Value) (A : Around) (outer : List Env) (s : Shared) (H : Hp) (vs : List V) (Q : VK) (E : XK) (a : Addr) (oe : Obj) (cls : Value) (d : Option Addr), Zc cls d oe → (∃ xs, oe.data = .fields xs) → L2H.RoomH k (A.deeper (envOfC qual scope s.heap.objs.size f cdv)) → sp a cls d vs H Q E →
      ∃ t, PSs (L2H.cxH CX P w K mg base N qual scope f cdv A outer s H E (a, oe)) body t ∧ t { nx := fun _ H' => Q .non H', rt := Q } (L2.start N vs) H) : FnE P w K mg base CX (k + 1) f fd ps sp := by
  obtain ⟨oc, od, dV, kV, doc, pm, an, cdv, ct, osl, rfl, lk, hcd, _, _⟩ := F.ex
  refine ⟨len, fun A outer s H args us vs Q E a oe cls d hz hf hpin hr e0 hb r hsp => ?_⟩
  have nvs := len _ _ _ _ _ _ _ hsp
  have inK : K.In s.heap := e0.mod.kin.keeps fun b o e => (e0.bs b o e).1
  have nolim : s.heap.NoLimit := e0.mod.nolimit.keeps fun b o e => (e0.bs b o e).1
  have kinds : ∀ y ∈ ps.zip us, scope.names.lookup y.1 = some .local ∨ (scope.names.lookup y.1 = some .cell ∧ ((cellsFrom (s.heap.objs.size + 1) scope.names []).lookup y.1).isSome = true) := by
    rintro ⟨n, v⟩ hy
    rcases S.par n (List.of_mem_zip hy).1 with q | q
    · exact .inl q
    · exact .inr ⟨q, PySem.W.cellsFrom_some _ _ _ (.inl q)⟩
  refine codeAny_call_function hr.depth (inK _ _ lk) rfl S.co S.gen rfl (PySem.W.codeRec_of inK hcd) (hb _ _ _ _ (wpAny_newFunctionEnv_cells S.kind kinds fun env he s1 x => ?_))
  subst he
  refine ⟨nolim.keeps x.toInCall.keep, codeAny_func ?_⟩
  obtain ⟨t, ht, hq⟩ := hbody cdv A outer s H vs Q E a oe cls d hz hf (hr.deeper _) hsp
  refine wpAny_mono (ht.run [] s1 (L2.start N vs) H _ (L2H.inv_startH S hpin e0 nvs r x) hq) (fun fl s' hs => ?_) fun e s' hs => hs
  have close : ∀ {σ' : L2.St} {H' : Hp} {v : V} {u : Value}, Inv (L2H.cxH CX P w K mg base N qual scope f cdv A outer s H E (a, oe)) [] σ' H' s' → RelV v u → Q v H' → CE outer P w H s Q u s' := fun J rv q => ⟨_, _, J.os, J.bare, J.base, J.hok, rv, q⟩
  cases fl with
  | ret u => exact let ⟨v, σ', H', J, rv, q⟩ := hs; close J rv q
  | next => exact let ⟨σ', H', J, q⟩ := hs; close (v := V.non) (u := Value.none) J rfl q
  | brk => exact hs.elim fun _ z => z.elim fun _ z => z.2.elim
  | cont => exact hs.elim fun _ z => z.elim fun _ z => z.2.elim
theorem roomS {k : Nat} {A : Around} {v : Option Value} (h : Room k A) : L2H.RoomH k (A.mark v) := ⟨h.dp, h.un⟩
def CalleeE (P : Program) (w : World) (K : PySem.W.Frag) (mg : Str → Option Value) (base : Heap) (k : Nat) (x : Str) (ps : List Str) (sp : Addr → Value → Option Addr → Sp) : Prop :=
  ∃ (f : Addr) (fd : FuncData), mg x = some (.ref f) ∧ FnE P w K mg base CX0 k f fd ps sp ∧ PySem.W.keepIn K (.ref f) = true ∧ Binds K fd ps []
section
variable {X : Cx} {k : Nat} {x : Str} {ps : List Str} {sp : Addr → Value → Option Addr → Sp} {p pos : Pos} {e : Expr} {te : TE}
/-- f(err) in an except suite -/
def tCE (a : Addr) (cls : Value) (d : Option Addr) (sp : Addr → Value → Option Addr → Sp) (ta : TA) : TE := fun σ H Q => ta σ H fun vs H1 => sp a cls d vs H1 Q E0
theorem pe_callE {a : Addr} {oe : Obj} {cls : Value} {d : Option Addr} {es : List Expr} {ta : TA} (hz : Zc cls d oe) (hf : ∃ vs, oe.data = .fields vs) (hpn : (a, oe) ∈ X.pn) (c : CalleeE X.prog X.w X.K X.mg X.base k x ps sp) (hr : L2H.RoomH k X.A)
    (ha : PA X (e :: es) ta) (hg : Gl X x := by rfl) (hdb : (x == ("__debug__" : Str)) = false := by decide)
    (he : starEach (e :: es) X.env = (false, eval e X.env) :: starEach es X.env := by rfl) (hpl : (backTo pos (starEach es X.env)).any (·.1) = false := by rfl) : PE X (.Call (.Name x p) (e :: es) [] pos) (tCE a cls d sp ta) := by
  obtain ⟨f, fd, hm, F, hk, hb⟩ := c
  refine ⟨fun pins s σ H Q I h => wpAny_Call_Name_kw (ld_glob I hg hm ?_ hdb)⟩
  refine PySem.W.callWith_K (h₀ := X.base) I.ok.mod.kin hk (thn (ha.run pos pins s σ H _ I h) fun us s1 ⟨vs, H1, I1, r, q⟩ => ⟨I1.kIn, ?_⟩) he hpl
  have nl : us.length = ps.length := by rw [← r.length]; exact F.len _ _ _ _ _ _ _ q
  have b := hb s1 us I1.kIn (by rw [List.append_nil]; exact nl)
  rw [List.append_nil] at b
  have P1 := I1.pin (a, oe) (List.mem_append_left _ hpn)
  have hpin : L2H.PinOk X.stack H1 s1 (a, oe) := ⟨P1.1, P1.2.1, fun hm => (List.mem_cons.mp (I1.stkSub a hm)).elim P1.2.2.1 P1.2.2.2.1, P1.2.2.2.2⟩
  refine wpAny_call (codeAny_mono (F.run X.A X.stack s1 H1 ⟨us, []⟩ us vs Q E0 a oe cls d hz hf hpin hr I1.env0 b r q) fun r s' hq => ?_)
  cases r with
  | error e => exact hq.elim
  | ok fl =>
    cases fl with
    | ret u => exact I1.after hq
    | next => exact hq.elim
    | brk => exact hq.elim
    | cont => exact hq.elim
/-- err.f, err a parameter: the class is told by the reading -/
def tXP (K : PySem.W.Frag) (a : Addr) (cls : Value) (d : Option Addr) (f : Str) (te : TE) : TE := fun σ H Q => te σ H fun x H1 => x = .ref a ∧ ∃ (C dd : Addr) (fs : List (Str × V)) (v : V), cls = .ref C ∧ d = some dd ∧ ExcC K C ∧ PySem.W.findIn K (.ref C) f = some none ∧ H1 dd = some (.xd fs) ∧ fs.lookup f = some v ∧ Q v H1
theorem pe_xfP {K : PySem.W.Frag} {a : Addr} {oe : Obj} {cls : Value} {d : Option Addr} {n : Str} (hK : X.K = K) (hz : Zc cls d oe) (hf : ∃ vs, oe.data = .fields vs) (hpn : (a, oe) ∈ X.pn) (he : PE X e te)
    (hb : attributeBase e n X.env (eval e X.env) = eval e X.env := by rfl) : PE X (.Attribute e n pos) (tXP K a cls d n te) := by
  subst hK
  refine ⟨fun pins s σ H Q I h => attr_of hb (thn (he.run pins s σ H _ I h) fun u s1 hh => ?_)⟩
  obtain ⟨x, H1, I1, rx, rfl, C, dd, fs, v, rfl, rfl, T, hno, ea, l, q⟩ := hh
  obtain rfl : u = Value.ref a := rx
  obtain ⟨vs, hv⟩ := hf
  have got := (I1.pin (a, oe) (List.mem_append_left _ hpn)).1
  obtain ⟨mA, hns, rel⟩ := (show ObjOk X.prog X.w H1 s1.heap dd (.xd fs) from I1.hok dd _ ea)
  obtain ⟨od, ho, hl⟩ := lookIn_ns hns
  obtain ⟨u, hu, ru⟩ := RelO.some_of (v := v) (o := mA n) (by rw [← l]; exact rel n)
  have J : PySem.W.InstAt s1.heap a oe C (some od) := ⟨got, hz.1, by unfold PySem.W.notCls; rw [hv] <;> rfl, by rw [hz.2]; exact ho⟩
  exact HandSPX.exc_get I1.kIn J T.hg T.hk T.hs (PySem.W.findObj_own T.hd hno rfl (by rw [hl, hu])) (handed_of ru) ⟨v, H1, I1.tok _, ru, q⟩
/-- isinstance(err, c), err a pinned error -/
def rIP (K : PySem.W.Frag) (a : Addr) (cls : Value) (d : Option Addr) : List V → Hp → VK → Prop := fun xs H Q => ∃ (C dd : Addr) (fs : List (Str × V)) (c : V) (cv : Value) (b : Bool), xs = [.ref a, c] ∧ cls = .ref C ∧ d = some dd ∧ H dd = some (.xd fs) ∧ ExcC K C ∧ (∀ u, RelV c u → u = cv) ∧ PySem.W.kitOne K (.ref C) cv = some b ∧ Q (.bl b) H
theorem call_iP {K : PySem.W.Frag} {a : Addr} {oe : Obj} {cls : Value} {d : Option Addr} (hK : X.K = K) (hz : Zc cls d oe) (hf : ∃ vs, oe.data = .fields vs) (hpn : (a, oe) ∈ X.pn) : CallR X (.builtin "isinstance") (rIP K a cls d) := by
  subst hK
  rintro pins s σ H xs us Q I r ⟨C, dd, fs, c, cv, b, rfl, rfl, rfl, ea, T, hcv, e, q⟩
  obtain ⟨vs, hv⟩ := hf
  have got := (I.pin (a, oe) (List.mem_append_left _ hpn)).1
  obtain ⟨mA, hns, rel⟩ := (show ObjOk X.prog X.w H s.heap dd (.xd fs) from I.hok dd _ ea)
  obtain ⟨od, ho, hl⟩ := lookIn_ns hns
  have J : PySem.W.InstAt s.heap a oe C (some od) := ⟨got, hz.1, by unfold PySem.W.notCls; rw [hv] <;> rfl, by rw [hz.2]; exact ho⟩
  cases r with
  | cons rx rr =>
    cases rr with
    | cons rt rr =>
      cases rr
      cases rx
      obtain rfl := hcv _ rt
      exact PySem.W.kia_one (PySem.W.np_kit T) I.kIn ⟨oe, some od, J⟩ e (fun z => nomatch z) fun tk => ⟨.bl b, H, I.kept (t' := tk) fun _ _ z => z, rfl, q⟩
/-- xs.count(x), all of it flat -/
def rCntV (K : PySem.W.Frag) : V → List V → Hp → VK → Prop := fun x xs H Q => ∃ (p : Addr) (ys : List V) (y : V), x = .ref p ∧ xs = [y] ∧ SqL K H p ys ∧ ys.all flatV = true ∧ flatV y = true ∧ Q (.int (ys.countP fun z => eqV z y : Nat)) H
theorem count_eqU {x : V} : ∀ {xs : List V} {us : List Value}, Vals xs us → xs.all flatV = true → us.countP (eqU x) = xs.countP fun y => eqV y x
  | _, _, .nil, _ => rfl
  | y :: xs, u :: us, .cons r t, f => by
    rw [List.all_cons, Bool.and_eq_true] at f
    rw [List.countP_cons, List.countP_cons, eqU_of r f.1, count_eqU t f.2]
theorem flat_at {x : V} {v : Value} {A : Around} {s : Shared} (rx : RelV x v) (fx : flatV x = true) : ∀ {xs : List V} {us : List Value}, Vals xs us → xs.all flatV = true → ∀ u ∈ us, SeqAt.EqAt A s u v (eqU x u)
  | _, _, .nil, _ => fun u h => by cases h
  | y :: xs, w :: us, .cons r t, f => fun u h => by
    rw [List.all_cons, Bool.and_eq_true] at f
    rcases List.mem_cons.mp h with rfl | h
    · rw [eqU_of r f.1]
      exact eqAt_V r rx f.1 fx
    · exact flat_at rx fx t f.2 u h
theorem mt_vcount : MtR X "list.count" (rCntV X.K) := by
  rintro pins s σ H x xs v us Q I rx rxs ⟨p, ys, y, rfl, rfl, hs, f1, f2, q⟩
  cases rx
  obtain ⟨u, rfl, ru⟩ := rxs.one
  obtain ⟨its, rv, ⟨⟨cls, dd, data, sl⟩, n, ho, hc, hdn, hd⟩, _⟩ := I.list hs
  simp only at hc hd
  subst hc hd
  refine call_meets PySem.F.slot_list_count ⟨_, ho, rfl⟩ PySem.F.entry_list_count (PySem.F.args_list_count_2 _ _) (SeqAt.list_countAt p its.toArray n dd sl u (eqU y)) ⟨ho, fun z hz => flat_at ru f2 rv f1 z (by simpa using hz), ?_⟩
  have ec : its.toArray.toList.countP (eqU y) = ys.countP fun z => eqV z y := count_eqU rv f1
  exact ⟨.int (ys.countP fun z => eqV z y : Nat), H, I.tok _, ⟨s.toks, by rw [ec]⟩, q⟩
/-! ### isinstance(o, C), o an instance of an own class -/
structure IsiC (K : PySem.W.Frag) (C : Addr) : Prop where
  ha : PySem.W.findIn K (.ref C) "__class__" = some (some (.builtin "object.__class__"))
  hn : PySem.W.specialIn K (.builtin "object.__class__") "__get__" = some (some (.builtin "getset_descriptor.__get__"))
  htk : PySem.W.takesIn K (.builtin "object.__class__") = some true
  hm : PySem.W.mroIn K C (.type "object") = some true
def rIsC (K : PySem.W.Frag) (C : Addr) : List V → Hp → VK → Prop := fun xs H Q => ∃ (a dx D : Addr) (fs : List (Str × V)) (b : Bool), xs = [.ref a, .ref D] ∧ H a = some (.ins C dx fs) ∧ PySem.W.kitOne K (.ref C) (.ref D) = some b ∧ Q (.bl b) H
theorem call_isC {K : PySem.W.Frag} {C : Addr} (hK : X.K = K) (c : Cls K C) (i : IsiC K C) : CallR X (.builtin "isinstance") (rIsC K C) := by
  subst hK
  rintro pins s σ H xs us Q I r ⟨a, dx, D, fs, b, rfl, h, e, q⟩
  exact call_isi pins s σ H _ us Q I r ⟨_, _, .ref C, .ref D, b, rfl, .own D, .base (.ins h c i.ha i.hn i.htk i.hm), e, q⟩
def isiB (K : PySem.W.Frag) (C : Addr) : Bool := He.eqO (PySem.W.findIn K (.ref C) "__class__") (some (some (.builtin "object.__class__"))) && (He.eqO (PySem.W.specialIn K (.builtin "object.__class__") "__get__") (some (some (.builtin "getset_descriptor.__get__"))) && (decide (PySem.W.takesIn K (.builtin "object.__class__") = some true) && decide (PySem.W.mroIn K C (.type "object") = some true)))
theorem isiB_ok {K : PySem.W.Frag} {C : Addr} (h : isiB K C = true) : IsiC K C := by
  obtain ⟨h1, h⟩ := Bool.and_eq_true_iff.mp h
  obtain ⟨h2, h⟩ := Bool.and_eq_true_iff.mp h
  obtain ⟨h3, h4⟩ := Bool.and_eq_true_iff.mp h
  exact ⟨of_decide_eq_true h1, of_decide_eq_true h2, of_decide_eq_true h3, of_decide_eq_true h4⟩
end
end Np

set_option Elab.async false
set_option linter.all false
set_option maxRecDepth 100000
set_option maxHeartbeats 4000000
namespace Np
open PySem PySem.Spec PyProof.Rows L2
/-! ### sorted(xs), xs a list of tuples of data that are alike -/
theorem vals_of_refs : ∀ {ts : List Addr} {us : List Value}, Vals (ts.map V.ref) us → us = ts.map Value.ref
  | [], _, .nil => rfl
  | t :: ts, _, .cons r h => by
    obtain rfl := r
    rw [vals_of_refs h]
    rfl
theorem refs_vals : ∀ ts : List Addr, Vals (ts.map V.ref) (ts.map Value.ref)
  | [] => .nil
  | _ :: ts => .cons rfl (refs_vals ts)
theorem each_of {β : Type} {F : Addr → β → Prop} : ∀ {ts : List Addr} {bs : List β}, Paired F ts bs → PySem.W.EachIs (fun v b => ∃ T, v = Value.ref T ∧ F T b) (ts.map Value.ref) bs
  | _, _, .nil => .nil
  | _, _, .cons h t => .cons ⟨_, rfl, h⟩ (each_of t)
theorem of_each {β : Type} {F : Addr → β → Prop} : ∀ {us : List Value} {bs : List β}, PySem.W.EachIs (fun v b => ∃ T, v = Value.ref T ∧ F T b) us bs → ∃ ts : List Addr, us = ts.map Value.ref ∧ Paired F ts bs
  | _, _, .nil => ⟨[], rfl, .nil⟩
  | _, _, .cons ⟨T, e, h⟩ t => by
    obtain ⟨ts, rfl, q⟩ := of_each t
    subst e
    exact ⟨T :: ts, rfl, .cons h q⟩
def rSortedD (K : PySem.W.Frag) : List V → Hp → VK → Prop := fun xs H Q => ∃ (β : Type) (enc : β → PyData) (F : Addr → β → Prop) (a : Addr) (ts : List Addr) (bs : List β), xs = [.ref a] ∧ SqL K H a (ts.map V.ref) ∧ Paired (fun T b => F T b ∧ Dp K H (.ref T) (enc b)) ts bs ∧
  (∀ b b', PySem.W.alike (enc b) (enc b') = true) ∧ (∀ b, ∃ x r, enc b = .tuple (x :: r)) ∧ (∀ b, (enc b).depth ≤ 20) ∧
  ∀ p H' ts', H p = none → Same H H' → H' p = some (.lst (ts'.map V.ref)) → Paired F ts' (bs.mergeSort (PySem.W.dataLe false enc)) → Q (.ref p) H'
theorem cr_sortedD {X : Cx} {K : PySem.W.Frag} (hK : X.K = K) (hu : X.A.units + 64 < cLine) : CallR X (.builtin "sorted") (rSortedD K) := by
  subst hK
  rintro pins s σ H xs us Q I r ⟨β, enc, F, a, ts, bs, rfl, hs, hp, hal, hk, hd, q⟩
  obtain ⟨its, rv, hl, hz⟩ := I.list hs
  obtain ⟨u, rfl, ru⟩ := vals1 r
  obtain rfl : u = Value.ref a := ru
  obtain rfl := vals_of_refs rv
  have lb := paired_len hp
  rw [List.length_map] at hz
  have er : PySem.W.EachIs (fun v b => ∃ as, Reads s.heap v (enc b) as) (ts.map Value.ref) bs := (each_of hp).mono fun v b ⟨T, e, h⟩ => by
    subst e
    exact Dp.reads I (enc b) (.ref T) (.ref T) h.2 rfl
  refine PySem.W.sorted_data (R := fun v b => ∃ T, v = Value.ref T ∧ F T b) (enc := enc) hl.isList ((each_of hp).mono fun v b ⟨T, e, h⟩ => ⟨T, e, h.1⟩) er (.of hal) (.tuples hk) (by rw [← lb]; exact hz) (fun b _ => by have := hd b; omega) fun out lo eo => ?_
  obtain ⟨ts', rfl, hp'⟩ := of_each eo
  obtain ⟨c, hc⟩ := PyProof.Rows.sortedAll_at s.heap (ts.map Value.ref) (ts'.map Value.ref).toArray
  have fr : H (s.heap.objs.size + 1) = none := I.hok.fresh (Nat.le_succ _)
  refine ⟨.ref (s.heap.objs.size + 1), upd H (s.heap.objs.size + 1) (.lst (ts'.map V.ref)), I.laid (t' := s.toks) (fun _ _ => PyProof.Rows.sortedAll_old) (Nat.le_succ _) ⟨?_, ts'.map Value.ref, c, refs_vals ts', hc⟩, rfl, q _ _ ts' fr (Same.new fr) upd_same hp'⟩
  rw [List.length_map] at lo ⊢
  rw [lo, ← lb]
  exact hz
theorem pi_tupK {X : Cx} {K : PySem.W.Frag} (h : X.K = K) {tg l : Expr} {tl : TE} (hl : PE X l tl) : PI X tg l (iTup K tl) := by subst h; exact pi_tup hl
end Np

set_option Elab.async false
set_option linter.all false
set_option maxRecDepth 100000
set_option maxHeartbeats 4000000
namespace Np
open PySem PySem.Spec PyProof.Rows L2 HT
/-! ### t[::-1], t a pair -/
theorem pair_back {prog : Program} {w : World} {A : Around} {E : Value → Shared → Prop} {s : Shared} {t sl : Addr} {x y vl vu vs : Value} {Q : Value → Shared → Prop} (ht : IsTup s.heap t #[x, y]) (hs : s.heap.IsSliceOf sl vl vu vs) (pl : IsPart vl none) (pu : IsPart vu none) (ps : IsPart vs (some (-1)))
    (h : Q (.ref s.heap.objs.size) { s with heap := s.heap.push { cls := .type "tuple", data := .seq #[y, x] } }) : wpAny (model prog w) A (getItem (.ref t) (.ref sl)) Q E s := by
  obtain ⟨so, sg, sc, sd⟩ := id hs
  have ty : s.TypeIs (.ref sl) "slice" := ⟨so, sg, sc⟩
  unfold getItem
  try with_reducible refine wpAny_holding ?_
  first | refine wpAny_bind (wpAny_pure ?_) | skip
  refine wpAny_bind (wpAny_sequenceKey ht.typeIs (by decide) (wpAny_bind (wpAny_callSpecial?_slot (name := Str.ofString "__getitem__") ht.typeIs PyProof.Rows.slot_tuple_getitem (wpAny_call_entry PyProof.Rows.slot_tuple_getitem ht.typeIs entry_tuple_getitem ?_ (args_tuple_getitem _ _)))))
  show wpAny (model prog w) _ (Builtin.Tuple.tupleItemsOf (.ref t) >>= _) _ _ s
  refine wpAny_bind (tupleItemsOf_ ht (wpAny_bind (wpAny_typeOf ty ?_)))
  rw [if_pos (by decide)]
  refine wpAny_bind ?_
  unfold Builtin.Slice.sliceApplied Builtin.Slice.sliceFields
  refine wpAny_bind (wpAny_bind (wpAny_field sg sd (x := vl) rfl (wpAny_bind (wpAny_field sg sd (x := vu) rfl (wpAny_bind (wpAny_field sg sd (x := vs) rfl (wpAny_pure ?_)))))))
  refine wpAny_bind (slicePart_ ps ?_)
  show wpAny (model prog w) _ (if ((-1 : Int) == 0) = true then _ else _) _ _ s
  rw [if_neg (by decide)]
  refine wpAny_bind (slicePart_ pl (wpAny_bind (slicePart_ pu (wpAny_bind (wpAny_pure ?_)))))
  refine wpAny_pure ?_
  show wpAny (model prog w) _ (if ((1 : Int) == 0 && (-1 : Int) == 1 && (2 : Nat) == 2) = true then _ else _) _ _ s
  rw [if_neg (by decide)]
  have cast : ∀ {ys : Array Value}, ys = #[y, x] → Q (.ref s.heap.objs.size) { s with heap := s.heap.push { cls := .type "tuple", data := .seq ys } } := fun e => by rw [e]; exact h
  have sz : ∀ {ys : Array Value}, ys = #[y, x] → sizeOk (.seq ys) := fun e => by
    rw [e]
    show 2 ≤ sizeLine
    decide
  first
    | refine wpAny_bind (m := Builtin.Tuple.tupleExact _) (wpAny_newObj_type (wpAny_pure ⟨_, rfl, wpAny_pure (cast ?_)⟩) (sz ?_))
    | refine wpAny_bind (m := Builtin.Tuple.tupleExact _) (wpAny_newObj_type (wpAny_bind (wpAny_pure (wpAny_pure ⟨_, rfl, wpAny_pure (cast ?_)⟩))) (sz ?_))
    | refine wpAny_bind (wpAny_bind (m := Builtin.Tuple.tupleExact _) (wpAny_newObj_type (wpAny_pure (wpAny_pure ⟨_, rfl, wpAny_pure (cast ?_)⟩)) (sz ?_)))
    | refine wpAny_bind (wpAny_bind (m := Builtin.Tuple.tupleExact _) (wpAny_newObj_type (wpAny_pure ⟨_, rfl, wpAny_pure (cast ?_)⟩) (sz ?_)))
  all_goals kernel_rfl
def tRev2 (K : PySem.W.Frag) (te : TE) : TE := fun σ H Q => te σ H fun v H1 => ∃ a x y, v = .ref a ∧ SqT K H1 a [x, y] ∧ ∀ p, H1 p = none → Q (.ref p) (upd H1 p (.tup [y, x]))
theorem pe_rev2 {X : Cx} {K : PySem.W.Frag} (hK : X.K = K) {e : Expr} {te : TE} {k : Nat} {p1 p2 p3 pos : Pos} (he : PE X e te) : PE X (.Subscript e (.Slice none none (some (.UnaryOp .USub (.Constant (.int 1) k p1) p2)) p3) pos) (tRev2 K te) := by
  subst hK
  refine ⟨fun pins s σ H Q I h => Subscript_ (thn (he.run pins s σ H _ I h) fun v s1 ⟨x, H1, I1, r1, a, x1, y1, ex, hx, q⟩ => ?_)⟩
  subst ex
  cases r1
  have minus : PO X (some (.UnaryOp .USub (.Constant (.int 1) k p1) p2)) (tPart (tUn (rU fun i => .int (-i)) (tC (.int 1)))) := po_some (pe_un un_neg pe_int)
  refine wpAny_Slice (thn (po_none.run pins s1 σ H1 (fun o H2 => o = none ∧ H2 = H1) I1 ⟨rfl, rfl⟩) fun vl s2 ⟨l, H2, I2, pl, el, e2⟩ => ?_)
  subst el e2
  refine thn (po_none.run pins s2 σ H2 (fun o H3 => o = none ∧ H3 = H2) I2 ⟨rfl, rfl⟩) fun vu s3 ⟨u, H3, I3, pu, eu, e3⟩ => ?_
  subst eu e3
  refine thn (minus.run pins s3 σ H3 (fun o H4 => o = some (-1) ∧ H4 = H3) I3 ⟨1, rfl, -1, rfl, rfl, rfl⟩) fun vs s4 ⟨o, H4, I4, ps, eo, e4⟩ => ?_
  subst eo e4
  have J : Inv X pins σ H4 { s4 with heap := s4.heap.push { cls := .type "slice", data := .fields #[vl, vu, vs] } } := I4.kept (t' := s4.toks) fun b ob q => Heap.get?_push_of_some _ q
  obtain ⟨its, r, ht, _⟩ := J.tuple hx
  obtain ⟨u1, u2, rfl, ra, rb⟩ := vals2 r
  show wpAny (model X.prog X.w) X.A (subscriptTail e (.Slice none none (some (.UnaryOp .USub (.Constant (.int 1) k p1) p2)) p3) (.ref a) (.ref s4.heap.objs.size)) (EP X pins σ Q) X.xe { s4 with heap := s4.heap.push { cls := .type "slice", data := .fields #[vl, vu, vs] } }
  refine tail_any (ops := [.ref a, .ref s4.heap.objs.size]) ht.typeIs PyProof.Rows.slot_tuple_getitem.lookup ?_ (by with_unfolding_all rfl)
  refine pair_back ht (Heap.IsSliceOf.new _ vl vu vs) pl pu ps ?_
  refine ⟨.ref _, _, J.laid (t' := s4.toks) (o := .tup [y1, x1]) (fun b ob q => Heap.get?_push_of_some _ q) (Nat.le_refl _) ⟨by show 2 ≤ sizeLine; decide, [u2, u1], .cons rb (.cons ra .nil), IsTup.new _ _⟩, rfl, q _ (J.hok.fresh (Nat.le_refl _))⟩
end Np

set_option Elab.async false
set_option linter.all false
set_option maxRecDepth 100000
set_option maxHeartbeats 4000000
namespace Np
open PySem PySem.Spec PyProof.Rows L2
/-! ### an own == and the != that follows from it, with either answer (the method raises nothing) -/
section
variable {prog : Program} {w : World} {A : Around} {E : Value → Shared → Prop} {s : Shared} {K : PySem.W.Frag} {x C f : Addr} {ox : Obj} {od : Option Obj} {b tb : Value}
theorem rich_left {op : CmpOp} {Q : Value → Shared → Prop} (room : A.units < cLine) (kin : K.In s.heap) (J : PySem.W.InstAt s.heap x ox C od) (look : PySem.W.Looks (model prog w) s.heap (typeOf b) tb) (nf : PySem.W.notFirst K C tb = true)
    (first : wpAny (model prog w) A (tryCompare (.ref x) (cmpInfo op).2.1 b) (fun o s' => ∃ v, o = some v ∧ Q v s') E s) : wpAny (model prog w) A (richCompare op (.ref x) b) Q E s := by
  unfold richCompare
  simp only [oneThing_ref]
  refine wpAny_holding (wpAny_bind (wpAny_cRoomFor room (wpAny_bind (J.type.here (wpAny_bind (look.here ?_))))))
  by_cases same : tb = Value.ref C
  · subst same
    rw [show (Value.ref C != Value.ref C) = false from by simp]
    simp only [Bool.false_eq_true, if_false]
    refine wpAny_bind (wpAny_pure ?_)
    simp only [Bool.false_eq_true, if_false]
    refine wpAny_bind (wpAny_mono first (fun o s' z => ?_) fun _ _ z => z)
    obtain ⟨v, rfl, q⟩ := z
    exact wpAny_pure q
  · have sub : PySem.W.subIn K tb (.ref C) = some false := by
      unfold PySem.W.notFirst at nf
      rcases Bool.or_eq_true_iff.mp nf with z | z
      · exact absurd (beq_iff_eq.mp z) same
      · exact beq_iff_eq.mp z
    rw [show (Value.ref C != tb) = true from bne_iff_ne.mpr fun z => same z.symm]
    simp only [if_true]
    refine wpAny_bind ((PySem.W.looks_subIn kin sub).here ?_)
    simp only [Bool.false_eq_true, if_false]
    refine wpAny_bind (wpAny_mono first (fun o s' z => ?_) fun _ _ z => z)
    obtain ⟨v, rfl, q⟩ := z
    exact wpAny_pure q
/-- object's != at an instance with an own == -/
theorem ne_body {Q : Fin → Shared → Prop} (room : A.units < cLine) (kin : K.In s.heap) (J : PySem.W.InstAt s.heap x ox C od) (own : PySem.W.findIn K (.ref C) "__eq__" = some (some (.ref f))) (fn : PySem.W.isFn K (.ref f) = true)
    (called : wpAny (model prog w) A (call (.ref f) [.ref x, b]) (fun v s' => ∃ t, v = .bool t ∧ Q (.done (.ret (.bool (!t)))) s') E s) :
    wpAny (model prog w) A (Builtin.«object.__ne__» ⟨[.ref x, b], []⟩) Q E s := by
  unfold Builtin.«object.__ne__»
  repeat (first
    | with_reducible refine wpAny_cRoomFor room ?_
    | (refine wpAny_bind (m := callSpecialIfBound? (.ref x) (Str.ofString "__eq__") [b]) (PySem.W.ifBound_K kin J own fn (wpAny_mono called (fun o s' z => by
          obtain ⟨t, rfl, q⟩ := z
          repeat (first | exact q | exact wpAny_pure q | exact wpAny_truthy_bool q | (refine wpAny_bind (m := truthy (.bool _)) (wpAny_truthy_bool ?_)) | wp_step)) fun _ _ z => z)))
    | wp_step)
theorem bound_ne {args : List Value} {M : Model} {Q : Option Value → Shared → Prop} (kin : K.In s.heap) (J : PySem.W.InstAt s.heap x ox C od) (slot : PySem.W.findIn K (.ref C) "__ne__" = some (some (.builtin "object.__ne__")))
    (called : wpAny M A (call (.builtin "object.__ne__") (.ref x :: args)) (fun v => Q (some v)) E s) : wpAny M A (callSpecialIfBound? (.ref x) "__ne__" args) Q E s := by
  have last : wpAny M A (call (.builtin "object.__ne__") ([.ref x] ++ args) >>= fun v => pure (some v)) Q E s := wpAny_bind (wpAny_mono called (fun _ _ z => wpAny_pure z) fun _ _ z => z)
  simp only [callSpecialIfBound?, bindSpecialIfBound?]
  refine wpAny_holding (wpAny_bind (wpAny_bind (wpAny_bind (J.type.here ((PySem.W.looks_findIn kin slot).here (wpAny_bind (wpAny_askSetting (wpAny_ite ?_))))))))
  split
  · exact wpAny_bind (wpAny_of_eq (F.cmp_object.ne.bind _) (wpAny_pure (by exact last)))
  · exact wpAny_tryCatch (wpAny_bind (wpAny_of_eq (F.cmp_object.ne.bind _) (wpAny_pure (by exact last))))
end
section
variable {X : Cx} {k : Nat} {C : Addr} {sp : Sp}
/-- x == y or x != y, x an instance of C: what the own == promises of the two -/
def rCmO (K : PySem.W.Frag) (C : Addr) (sp : Sp) (g : Bool → Bool) : R2 := fun x y H Q => ∃ (a dx : Addr) (fs : List (Str × V)) (t : Value), x = .ref a ∧ H a = some (.ins C dx fs) ∧ TyX K H y t ∧ PySem.W.notFirst K C t = true ∧ sp [.ref a, y] H (fun v H' => ∃ b, v = .bl b ∧ Q (.bl (g b)) H') E0
theorem op_eqO (c : CalM X.prog X.w X.K X.mg X.base CX0 k C "__eq__" sp) (hr : Room k X.A) : OpR X (compareOp .Eq) (rCmO X.K C sp id) := by
  rintro pins s σ H x y v u Q I rx ry ⟨a, dx, fs, t, rfl, h, ty, nf, hq⟩
  obtain rfl : v = Value.ref a := rx
  obtain ⟨f, M, F⟩ := c
  obtain ⟨ox, od, J⟩ := own_at I h
  obtain ⟨m, R⟩ := I.fr
  obtain ⟨P, Z, p, _⟩ := kit_of I ry ty
  show wpAny (model X.prog X.w) X.A (richCompare .Eq (.ref a) u) (EP X pins σ Q) X.xe s
  refine PySem.W.cmp_K (op := .Eq) (tb := t) hr.units0 R I.mod.kin J (Z.ty _ _ I.kIn p) nf M.at_ M.fn (wpAny_mono (own_call F hr I (.cons (a := V.ref a) rfl (.cons ry .nil)) hq) (fun r s' e => ?_) fun _ _ z => z)
  obtain ⟨z, H', I', rz, b, rfl, e⟩ := e
  cases rz
  exact ⟨.bl b, H', I', rfl, e⟩
/-- the class has object's != -/
structure NeC (K : PySem.W.Frag) (C : Addr) : Prop where
  slot : PySem.W.findIn K (.ref C) "__ne__" = some (some (.builtin "object.__ne__"))
  obj : PySem.W.mroIn K C (.type "object") = some true
def neB (K : PySem.W.Frag) (C : Addr) : Bool := He.eqO (PySem.W.findIn K (.ref C) "__ne__") (some (some (.builtin "object.__ne__"))) && decide (PySem.W.mroIn K C (.type "object") = some true)
theorem neB_ok {K : PySem.W.Frag} {C : Addr} (h : neB K C = true) : NeC K C := by
  obtain ⟨h1, h2⟩ := Bool.and_eq_true_iff.mp h
  exact ⟨He.eqO_ok h1, of_decide_eq_true h2⟩
theorem op_neO (c : CalM X.prog X.w X.K X.mg X.base CX0 k C "__eq__" sp) (nc : NeC X.K C) (hr : Room (k + 1) X.A) : OpR X (compareOp .NotEq) (rCmO X.K C sp not) := by
  rintro pins s σ H x y v u Q I rx ry ⟨a, dx, fs, t, rfl, h, ty, nf, hq⟩
  obtain rfl : v = Value.ref a := rx
  obtain ⟨f, M, G⟩ := c
  obtain ⟨ox, od, J⟩ := own_at I h
  obtain ⟨m, R⟩ := I.fr
  obtain ⟨P, Z, p, _⟩ := kit_of I ry ty
  show wpAny (model X.prog X.w) X.A (richCompare .NotEq (.ref a) u) (EP X pins σ Q) X.xe s
  refine rich_left (op := .NotEq) hr.units0 I.kIn J (Z.ty _ _ I.kIn p) nf ?_
  show wpAny (model X.prog X.w) X.A (tryCompare (.ref a) "__ne__" u) _ X.xe s
  unfold tryCompare
  refine wpAny_bind (bound_ne I.kIn J nc.slot (wpAny_call (codeAny_call_builtin PySem.F.cmp_object.ne.plain PySem.F.cmpEntry_ne (PySem.W.check_slot PySem.F.cmpKind_ne PySem.F.cmpSplit_ne (J.type.andThen (PySem.W.looks_mroIn I.kIn nc.obj)) (PySem.F.cmpArgs_ne _ _)
    (ne_body hr.in1.units0 I.kIn J M.at_ M.fn (wpAny_mono (own_call1 G hr I (.cons (a := V.ref a) rfl (.cons ry .nil)) hq) (fun r s' e => ?_) fun _ _ z => z))))))
  obtain ⟨z, H', I', rz, b, rfl, e⟩ := e
  cases rz
  exact ⟨b, rfl, wpAny_pure ⟨_, rfl, .bl (!b), H', I', rfl, e⟩⟩
end
end Np
namespace Np
open PySem PySem.Spec PyProof.Rows L2
theorem call_isX {X : Cx} {K : PySem.W.Frag} (hK : X.K = K) : CallR X (.builtin "isinstance") (rIsi K) := by
  subst hK
  exact call_isi
end Np

set_option Elab.async false
set_option linter.all false
set_option maxRecDepth 100000
set_option maxHeartbeats 4000000
namespace Np
open PySem PySem.Spec PyProof.Rows L2
open PySem.Sem (wp)
/-! ### bool(a tuple) -/
theorem tup_truth (a : Addr) (ys : Array Value) (small : (ys.size : Int) < 2 ^ 63) :
    Meets (Builtin.«bool.__new__» ⟨[.type "bool", .ref a], []⟩) (fun _ R s => IsTup s.heap a ys ∧ R (.ok (.ret (.bool (!ys.isEmpty)))) { s with toks := s.toks + 1 + 1 }) :=
  Meets.of_wp fun prog w A R s given => by
    obtain ⟨here, given⟩ := given
    have sub := F.conv_sub_bool
    obtain ⟨h0, g0, d0, t0, o0⟩ := s
    repeat (any_goals (first | assumption | (with_reducible refine truthy_tuple here small ?_) | wp_step))
    all_goals first | exact given | exact ⟨_, rfl, given⟩ | skip
section
variable {X : Cx}
theorem call_boolT {K : PySem.W.Frag} (hK : X.K = K) : CallR X (.type "bool") (fun xs H Q => ∃ (a : Addr) (ys : List V), xs = [.ref a] ∧ SqT K H a ys ∧ Q (.bl (!ys.isEmpty)) H) := by
  subst hK
  intro pins s σ H xs us Q I r h
  obtain ⟨a, ys, rfl, here, q⟩ := h
  obtain rfl := Vals.ref1 r
  obtain ⟨its, rv, tp, _⟩ := I.tuple here
  have big := line63
  have len := rv.length
  obtain ⟨its, rv, tp, small⟩ := I.tuple here
  have len := rv.length
  refine call_bool_1 (tup_truth a its.toArray (by simp only [List.size_toArray]; omega)) ⟨tp, rfl, ?_⟩
  exact ⟨.bl (!ys.isEmpty), H, I.tok _, by rw [isEmpty_of rv]; rfl, q⟩
end
end Np

set_option Elab.async false
set_option linter.all false
set_option maxRecDepth 100000
set_option maxHeartbeats 4000000
namespace Np
open PySem PySem.Spec PyProof.Rows L2
/-! ### isinstance(e, (C, D, ..)) of a caught error -/
section
variable {X : Cx}
def rIPT (K : PySem.W.Frag) (a : Addr) (cls : Value) (d : Option Addr) : List V → Hp → VK → Prop := fun xs H Q => ∃ (C dd tp : Addr) (fs : List (Str × V)) (cs : List V) (vals : List Value) (b : Bool), xs = [.ref a, .ref tp] ∧ cls = .ref C ∧ d = some dd ∧ H dd = some (.xd fs) ∧ ExcC K C ∧
  H tp = some (.tup cs) ∧ Paired ClsV cs vals ∧ PySem.W.kitAny K (.ref C) vals = some b ∧ Q (.bl b) H
theorem call_iPT {K : PySem.W.Frag} {a : Addr} {oe : Obj} {cls : Value} {d : Option Addr} (hK : X.K = K) (hz : Zc cls d oe) (hf : ∃ vs, oe.data = .fields vs) (hpn : (a, oe) ∈ X.pn) : CallR X (.builtin "isinstance") (rIPT K a cls d) := by
  subst hK
  rintro pins s σ H xs us Q I r ⟨C, dd, tp, fs, cs, vals, b, rfl, rfl, rfl, ea, T, ht, pc, e, q⟩
  obtain ⟨vs, hv⟩ := hf
  have got := (I.pin (a, oe) (List.mem_append_left _ hpn)).1
  obtain ⟨mA, hns, rel⟩ := (show ObjOk X.prog X.w H s.heap dd (.xd fs) from I.hok dd _ ea)
  obtain ⟨od, ho, hl⟩ := lookIn_ns hns
  have J : PySem.W.InstAt s.heap a oe C (some od) := ⟨got, hz.1, by unfold PySem.W.notCls; rw [hv] <;> rfl, by rw [hz.2]; exact ho⟩
  obtain ⟨u1, u2, rfl, r1, r2⟩ := vals2 r
  cases (show u1 = Value.ref a from r1)
  cases (show u2 = Value.ref tp from r2)
  obtain ⟨_, its, rv, ⟨oc, dc, dt, sl⟩, g1, g2, n, g3⟩ := (show ObjOk X.prog X.w H s.heap tp (.tup cs) from I.hok tp _ ht)
  obtain rfl := ClsV.all pc rv
  simp only at g2 g3
  subst g2 g3
  exact PySem.W.kia_tup (PySem.W.np_kit T) I.kIn ⟨oe, some od, J⟩ g1 e (fun z => nomatch z) fun tk => ⟨.bl b, H, I.kept (t' := tk) fun _ _ z => z, rfl, q⟩
end
end Np
namespace Np
open PySem PySem.Spec PyProof.Rows L2
section
variable {X : Cx} {k : Nat} {C : Addr} {sp : Sp}
theorem op_eqOK {K : PySem.W.Frag} (hK : X.K = K) (c : CalM X.prog X.w X.K X.mg X.base CX0 k C "__eq__" sp) (hr : Room k X.A) : OpR X (compareOp .Eq) (rCmO K C sp id) := by
  subst hK
  exact op_eqO c hr
theorem op_neOK {K : PySem.W.Frag} (hK : X.K = K) (c : CalM X.prog X.w X.K X.mg X.base CX0 k C "__eq__" sp) (nc : NeC K C) (hr : Room (k + 1) X.A) : OpR X (compareOp .NotEq) (rCmO K C sp not) := by
  subst hK
  exact op_neO c nc hr
end
end Np

set_option Elab.async false
set_option linter.all false
set_option maxRecDepth 100000
set_option maxHeartbeats 4000000
namespace Np
open PySem PySem.Spec PyProof.Rows L2
/-! ### bool(x) of an instance with an own __bool__ -/
section
variable {prog : Program} {w : World} {A : Around} {E : Value → Shared → Prop} {s : Shared} {a : Addr}
theorem truth_asked (prog : Program) (w : World) (a : Addr) :
    MeetsIn prog w (Builtin.«bool.__new__» ⟨[.type "bool", .ref a], []⟩) (fun A R s => wpAny (model prog w) A.in1 (truthy (.ref a)) (fun t s' => R (.ok (.ret (.bool t))) s') (fun e s' => R (.error e) s') s) :=
  MeetsIn.of_wp fun A R s given => by
    have sub := F.conv_sub_bool
    unfold Builtin.«bool.__new__»
    repeat (any_goals (first | assumption | (refine wpAny_bind (m := truthy (.ref a)) (wpAny_mono given (fun t s' z => ?_) fun _ _ z => z)) | wp_step))
    all_goals first | exact ⟨_, rfl, given⟩ | exact ⟨_, rfl, z⟩ | skip
theorem bool_asked {Q : Value → Shared → Prop} (h : wpAny (model prog w) A.in1.in1 (truthy (.ref a)) (fun t s' => Q (.bool t) s') E s) : wpAny (model prog w) A (call (.type "bool") [.ref a]) Q E s :=
  callType_newIn F.called_bool F.newNe_bool (F.typeCall_bool_1 _) (F.newCall_bool_1 _) (fun obj => F.args_object_init_2 obj _) F.entry_bool_new (truth_asked prog w a) (wpAny_mono h (fun t s' z => ⟨rfl, z⟩) fun _ _ z => z)
end
section
variable {X : Cx} {k : Nat} {C : Addr} {sp : Sp}
def rBoO (C : Addr) (sp : Sp) : List V → Hp → VK → Prop := fun xs H Q => ∃ o, xs = [o] ∧ rOwn C sp [] o H fun v H' => ∃ t, v = .bl t ∧ Q (.bl t) H'
theorem call_boolO (c : CalM X.prog X.w X.K X.mg X.base CX0 k C "__bool__" sp) (hr : Room (k + 2) X.A) : CallR X (.type "bool") (rBoO C sp) := by
  rintro pins s σ H xs us Q I r ⟨o, rfl, a, dx, fs, rfl, h, hq⟩
  obtain ⟨u, rfl, ru⟩ := vals1 r
  obtain rfl : u = Value.ref a := ru
  obtain ⟨f, M, G⟩ := c
  obtain ⟨ox, od, J⟩ := own_at I h
  obtain ⟨m, R⟩ := I.fr
  have hr1 : Room (k + 1) X.A.in1 := Room.in1 hr
  have hr2 : Room k X.A.in1.in1 := Room.in1 hr1
  refine bool_asked ?_
  refine PySem.W.truthy_K R I.mod.kin J M.at_ M.fn ?_
  refine wpAny_call (codeAny_mono (G X.A.in1.in1 X.stack s H [.ref a] [.ref a] _ E0 hr2 I.env0.in1.in1 (.cons rfl .nil) hq) fun z s' e => ?_)
  cases z with
  | error er => exact e.elim
  | ok fl =>
    cases fl with
    | ret u =>
      obtain ⟨y, H', I', ry, t, rfl, q⟩ := I.after e
      cases ry
      exact ⟨.bl t, H', I', rfl, q⟩
    | next => exact e.elim
    | brk => exact e.elim
    | cont => exact e.elim
end
end Np

set_option Elab.async false
set_option linter.all false
set_option maxRecDepth 100000
set_option maxHeartbeats 4000000
namespace Np
open PySem PySem.Spec PyProof.Rows L2
/-! ### a + b, a - b .. of two instances of one class, by its own method (which raises nothing) -/
section
variable {X : Cx} {k : Nat} {C : Addr} {sp : Sp}
theorem op_binO {op : Operator} (c : CalM X.prog X.w X.K X.mg X.base CX0 k C (PySem.dunder op.info.2) sp) (sf : PySem.W.selfFirst X.K C = true) (hr : Room k X.A) :
    OpR X (binaryOp op) (fun x y H Q => ∃ b dxb fsb, y = .ref b ∧ H b = some (.ins C dxb fsb) ∧ rOwn C sp [y] x H Q) := by
  rintro pins s σ H x y v u Q I rx ry ⟨b, dxb, fsb, rfl, hb, a, dx, fs, rfl, h, hq⟩
  obtain rfl : v = Value.ref a := rx
  obtain rfl : u = Value.ref b := ry
  obtain ⟨f, M, F⟩ := c
  obtain ⟨ox, od, J⟩ := own_at I h
  obtain ⟨oy, oe, J2⟩ := own_at I hb
  obtain ⟨m, R⟩ := I.fr
  refine PySem.W.binop_K R I.mod.kin J J2.type sf M.at_ M.fn (wpAny_mono (own_call F hr I (.cons (a := V.ref a) rfl (.cons (a := V.ref b) rfl .nil)) hq) (fun r s' e => ?_) fun _ _ z => z)
  obtain ⟨z, H', I', rz, e⟩ := e
  have g : (EP X pins σ Q) r s' := ⟨z, H', I', rz, e⟩
  cases z <;> first | (obtain rfl := rz; exact g) | (obtain ⟨t, rfl⟩ := rz; exact g) | (cases rz; exact g)
end
end Np

set_option Elab.async false
set_option linter.all false
set_option maxRecDepth 100000
set_option maxHeartbeats 4000000
namespace Np
open PySem PySem.Spec PyProof.Rows L2
/-! ### (x,) * n, also once or not at all -/
theorem tuple_mul1 (l : Addr) (items : Array Value) (n : Nat) (dd : Option Addr) (sl : Array (Option Value)) (u : Tok) :
    Meets (Builtin.«tuple.__mul__» ⟨[.ref l, .int 1 u], []⟩) (fun _ R s => s.heap.get? l = some { cls := .type "tuple", dict := dd, data := .seq items n, slots := sl } ∧ R (.ok (.ret (Value.ref l))) s) :=
  .of_wp fun prog w A R s h => by
    obtain ⟨hp, g, d, tk, os⟩ := s
    obtain ⟨hl, h⟩ := h
    have f1 := AutoSeq1.idx_int
    wp_walk using wpAny_loadPart' hl
    repeat (first
      | (refine wpAny_ite_false (decide_eq_false (by decide)) ?_; wp_walk using wpAny_loadPart' hl)
      | (refine wpAny_ite_true (decide_eq_true (by simp)) ?_; wp_walk using wpAny_loadPart' hl))
    exact ⟨_, rfl, h⟩
theorem tuple_mul0 (l : Addr) (items : Array Value) (n : Nat) (dd : Option Addr) (sl : Array (Option Value)) (u : Tok) (c1 : items.isEmpty = false) :
    Meets (Builtin.«tuple.__mul__» ⟨[.ref l, .int 0 u], []⟩) (fun _ R s => s.heap.get? l = some { cls := .type "tuple", dict := dd, data := .seq items n, slots := sl } ∧
      R (.ok (.ret (Value.ref s.heap.objs.size))) { s with heap := s.heap.push { cls := Value.type "tuple", data := Data.seq #[] }, toks := s.toks }) :=
  .of_wp fun prog w A R s h => by
    obtain ⟨hp, g, d, tk, os⟩ := s
    obtain ⟨hl, h⟩ := h
    have f1 := AutoSeq1.idx_int
    wp_walk using wpAny_loadPart' hl
    repeat (first
      | (refine wpAny_ite_false (decide_eq_false (by decide)) ?_; wp_walk using wpAny_loadPart' hl)
      | (refine wpAny_ite_false (decide_eq_false (by rw [c1]; decide)) ?_; wp_walk using wpAny_loadPart' hl)
      | (refine wpAny_ite_true (decide_eq_true (by simp)) ?_; wp_walk using wpAny_loadPart' hl))
    exact ⟨_, rfl, h⟩
def rRepU (K : PySem.W.Frag) : R2 := fun x y H Q => ∃ (l : Addr) (k : Nat) (xs : List V), x = .ref l ∧ y = .int k ∧ SqT K H l xs ∧ xs ≠ [] ∧ k ≤ 1000 ∧ xs.length ≤ 1000 ∧ ∀ p H', Same H H' → SqT K H' p (List.replicate k xs).flatten → Q (.ref p) H'
section
variable {X : Cx} {K : PySem.W.Frag}
theorem op_repU (hK : X.K = K) : OpR X (binaryOp .Mult) (rRepU K) := by
  subst hK
  intro pins s σ H x y v u Q I rx ry h
  obtain ⟨l, k, xs, rfl, rfl, hT, hne, h2, hz, q⟩ := h
  by_cases h1 : 2 ≤ k
  · exact op_repT pins s σ H (.ref l) (.int k) v u Q I rx ry ⟨l, k, xs, rfl, rfl, hT, hne, by omega, by omega, hz, fun p hp => q p _ (Same.new hp) (by rw [Int.toNat_natCast]; exact SqT.of upd_same)⟩
  cases rx
  obtain ⟨t, rfl⟩ := ry
  obtain ⟨its, r, ⟨⟨cls, dd, data, sl⟩, ho, hc, n, hd⟩, hs⟩ := I.tuple hT
  simp only at hc hd
  subst hc hd
  have hle : its.length = xs.length := r.length.symm
  have hi : its.toArray.isEmpty = false := by
    cases its with
    | nil => exact absurd (List.eq_nil_of_length_eq_zero hle.symm) hne
    | cons a b => rfl
  obtain rfl | rfl : k = 0 ∨ k = 1 := by omega
  · refine wpAny_binaryOp_repeat_ref (T := "tuple") (U := "int") (by decide) ⟨_, ho, rfl⟩ (fun s' => typeIs_int s' _ t) noFill_tuple_mul F.fills_int_mul F.slot_int_rmul repeat_tuple F.slot_int_index.lookup
      (call_meets F.slot_int_rmul (typeIs_int s _ t) F.entry_int_rmul (F.args_int_rmul_2 _ _) (int_rmul_tuple _ t l its.toArray n dd sl)
        ⟨ho, rfl, ⟨_, ho, rfl⟩, call_meets F.slot_tuple_mul ⟨_, ho, rfl⟩ F.entry_tuple_mul (F.args_tuple_mul_2 _ _) (tuple_mul0 l its.toArray n dd sl t hi) ⟨ho, ?_⟩⟩)
    refine ⟨.ref s.heap.objs.size, _, I.laid (t' := s.toks) (o := .tup []) (fun b ob q => Heap.get?_push_of_some _ q) (Nat.le_refl _) ?_, rfl, q _ _ (Same.new (o := .tup []) (I.hok.fresh (Nat.le_refl _))) (SqT.of upd_same)⟩
    exact ⟨by decide, [], .nil, IsTup.new _ _⟩
  · refine wpAny_binaryOp_repeat_ref (T := "tuple") (U := "int") (by decide) ⟨_, ho, rfl⟩ (fun s' => typeIs_int s' _ t) noFill_tuple_mul F.fills_int_mul F.slot_int_rmul repeat_tuple F.slot_int_index.lookup
      (call_meets F.slot_int_rmul (typeIs_int s _ t) F.entry_int_rmul (F.args_int_rmul_2 _ _) (int_rmul_tuple _ t l its.toArray n dd sl)
        ⟨ho, rfl, ⟨_, ho, rfl⟩, call_meets F.slot_tuple_mul ⟨_, ho, rfl⟩ F.entry_tuple_mul (F.args_tuple_mul_2 _ _) (tuple_mul1 l its.toArray n dd sl t) ⟨ho, ?_⟩⟩)
    exact ⟨.ref l, H, I, rfl, q l H (Same.refl _) (by simpa using hT)⟩
end
end Np

set_option Elab.async false
set_option linter.all false
set_option maxRecDepth 100000
set_option maxHeartbeats 4000000
namespace Np
open PySem PySem.Spec PyProof.Rows L2
/-! ### keyword-only defaults: needs=(), bars=(), costs=None -/
theorem emT_ok {K : PySem.W.Frag} {o : Option (Option Value)} (h : emT K o = true) : ∃ t, o = some (some (.ref t)) ∧ ∀ H, SqT K H t [] := by
  unfold emT at h
  split at h
  · rename_i t
    refine ⟨t, rfl, fun H => .inr ?_⟩
    split at h
    · rename_i d its n sl e
      have e2 : its.toList = [] := List.isEmpty_iff.mp h
      exact ⟨_, its, n, e, rfl, rfl, by rw [← Array.length_toList, e2]; decide, by rw [e2]; exact .nil⟩
    · cases h
  · cases h
theorem kwd_ok {K : PySem.W.Frag} {x q : Str} {p : Arguments} {b : List Stmt} {s : Scope} {f : Addr} {fd : FuncData} (F : FunD K x q p b s [] [] f fd) (h : kwdB K f = true) :
    ∃ t1 t2, FunD K x q p b s [] [("needs", .ref t1), ("bars", .ref t2), ("costs", .non)] f fd ∧ (∀ H, SqT K H t1 []) ∧ ∀ H, SqT K H t2 [] := by
  obtain ⟨oc, od, dV, kV, doc, pm, an, cdv, ct, osl, e, lk, hcd, hD, hK⟩ := F.ex
  subst e
  unfold kwdB at h
  rw [lk] at h
  simp only [PySem.W.fnOf] at h
  split at h
  · rename_i D
    obtain ⟨h1, h⟩ := Bool.and_eq_true_iff.mp h
    obtain ⟨h2, h3⟩ := Bool.and_eq_true_iff.mp h
    obtain ⟨t1, e1, s1⟩ := emT_ok h1
    obtain ⟨t2, e2, s2⟩ := emT_ok h2
    have e3 := He.eqO_ok h3
    refine ⟨t1, t2, ⟨⟨oc, od, dV, .ref D, doc, pm, an, cdv, ct, osl, rfl, lk, hcd, hD, .inr ⟨D, rfl, fun q hq => ?_⟩⟩, F.kp⟩, s1, s2⟩
    rcases List.mem_cons.mp hq with rfl | hq
    · exact ⟨_, e1, rfl⟩
    rcases List.mem_cons.mp hq with rfl | hq
    · exact ⟨_, e2, rfl⟩
    cases List.mem_singleton.mp hq
    exact ⟨_, e3, rfl⟩
  · cases h
end Np

set_option Elab.async false
set_option linter.all false
set_option maxRecDepth 100000
set_option maxHeartbeats 4000000
namespace Np
open PySem PySem.Spec PyProof.Rows L2
/-- C.m is a static method: its object at p, its def at g -/
structure SMet (K : PySem.W.Frag) (C : Addr) (m : Str) (p g : Addr) : Prop where
  rd : ClX.CRead K C (.type "type")
  cls : PySem.W.findCls K (.ref C) (.type "type") m = some (.get (.builtin "staticmethod.__get__") (.ref p) .none (.ref C))
  pg : PySem.W.plainGet K C Str.empty = true
  ic : PySem.W.isClsIn K C = true
  at_ : PySem.W.findIn K (.ref C) m = some (some (.ref p))
  ty : PySem.W.typeIn K (.ref p) = some (.type "staticmethod")
  get : PySem.W.specialIn K (.ref p) "__get__" = some (some (.builtin "staticmethod.__get__"))
  tk : PySem.W.takesIn K (.ref p) = some false
  cp : PySem.W.copiedNames.contains m = false
  rc : ∃ rest, PySem.W.recIn K p "staticmethod" = some (.ref g :: rest)
/-! ### what the head says of one -/
/-- the object of a static method, its def -/
def smG (K : PySem.W.Frag) (C : Addr) (f : Str) : Addr := match PySem.W.recIn K (prA K C f) "staticmethod" with
  | some (.ref g :: _) => g
  | _ => 0
def clsIs (K : PySem.W.Frag) (C : Addr) (f : Str) : Bool := match PySem.W.findCls K (.ref C) (.type "type") f with
  | some (.get (.builtin g) (.ref p) .none (.ref D)) => decide (g = "staticmethod.__get__") && (decide (p = prA K C f) && decide (D = C))
  | _ => false
def smetB (K : PySem.W.Frag) (C : Addr) (f : Str) : Bool := creadB K C && (clsIs K C f && (PySem.W.plainGet K C Str.empty && (PySem.W.isClsIn K C && (He.eqO (PySem.W.findIn K (.ref C) f) (some (some (.ref (prA K C f)))) && (decide (PySem.W.typeIn K (.ref (prA K C f)) = some (.type "staticmethod")) &&
  (He.eqO (PySem.W.specialIn K (.ref (prA K C f)) "__get__") (some (some (.builtin "staticmethod.__get__"))) && (decide (PySem.W.takesIn K (.ref (prA K C f)) = some false) && (decide (PySem.W.copiedNames.contains f = false) && match PySem.W.recIn K (prA K C f) "staticmethod" with
    | some (.ref _ :: _) => true
    | _ => false))))))))
theorem smetB_ok {K : PySem.W.Frag} {C : Addr} {f : Str} (h : smetB K C f = true) : SMet K C f (prA K C f) (smG K C f) := by
  unfold smetB at h
  simp only [Bool.and_eq_true] at h
  obtain ⟨h1, h2, h3, h4, h5, h6, h7, h8, h9, h10⟩ := h
  refine ⟨creadB_ok h1, ?_, h3, h4, He.eqO_ok h5, of_decide_eq_true h6, He.eqO_ok h7, of_decide_eq_true h8, of_decide_eq_true h9, ?_⟩
  · unfold clsIs at h2
    split at h2
    · rename_i g p D e
      simp only [Bool.and_eq_true] at h2
      obtain ⟨k1, k2, k3⟩ := h2
      rw [e, of_decide_eq_true k1, of_decide_eq_true k2, of_decide_eq_true k3]
    · cases h2
  · unfold smG
    cases e : PySem.W.recIn K (prA K C f) "staticmethod" with
    | none => rw [e] at h10; cases h10
    | some l =>
      rw [e] at h10
      cases l with
      | nil => cases h10
      | cons v r =>
        cases v with
        | ref g => exact ⟨r, rfl⟩
        | _ => cases h10
/-! ### the hook, with the texts of static methods -/
def staW (ss : List GetD) (K : PySem.W.Frag) : List He.FnW := ss.map fun g => fnAt K (smG K (He.ga K g.1) g.2.1)
def staB (ss : List GetD) (K : PySem.W.Frag) : Bool := ss.all fun g => smetB K (He.ga K g.1) g.2.1 && codAt K (smG K (He.ga K g.1) g.2.1) g.2.2.qual
def hookS (n : Nat) (fa : List He.Fa) (fn : List He.DefD) (gs ss : List GetD) (ex : PySem.W.Frag → Bool) : PySem.W.Hook where
  α := He.AlD × List He.FnW × Bool
  obs := fun s => (He.obsD fa fn (He.frG s.heap.get? (asCK s.heap.get? n)), getW gs (He.frG s.heap.get? (asCK s.heap.get? n)) ++ staW ss (He.frG s.heap.get? (asCK s.heap.get? n)), (ex (He.frG s.heap.get? (asCK s.heap.get? n)) && getB gs (He.frG s.heap.get? (asCK s.heap.get? n))) && staB ss (He.frG s.heap.get? (asCK s.heap.get? n)))
  val := fun _ => (He.valD fn, getV gs ++ getV ss, true)
  says := fun _ h => ∃ K : PySem.W.Frag, K.In h ∧ He.SaysD fa fn K ∧ getW gs K ++ staW ss K = getV gs ++ getV ss ∧ ((ex K && getB gs K) && staB ss K) = true
  of := fun _ _ e => ⟨_, He.frG_in, congrArg Prod.fst e, congrArg (fun z => z.2.1) e, congrArg (fun z => z.2.2) e⟩
  keeps := fun _ _ _ ⟨K, hK, c⟩ k => ⟨K, PySem.W.Frag.In.keeps hK k, c⟩
def obsS (n : Nat) (fa : List He.Fa) (fn : List He.DefD) (gs ss : List GetD) (ex : PySem.W.Frag → Bool) (g : Addr → Option Obj) : He.AlD × List He.FnW × Bool := (He.obsD fa fn (He.frG g (asCK g n)), getW gs (He.frG g (asCK g n)) ++ staW ss (He.frG g (asCK g n)), (ex (He.frG g (asCK g n)) && getB gs (He.frG g (asCK g n))) && staB ss (He.frG g (asCK g n)))
theorem obsS_eq {n : Nat} {fa : List He.Fa} {fn : List He.DefD} {gs ss : List GetD} {ex : PySem.W.Frag → Bool} {g : Addr → Option Obj} {s : Shared} (h : ∀ a, g a = s.heap.get? a) : obsS n fa fn gs ss ex g = (hookS n fa fn gs ss ex).obs s := by
  have e : g = s.heap.get? := funext h
  rw [e] <;> rfl
theorem hookS_apart {K : PySem.W.Frag} {gs ss : List GetD} (e : getW gs K ++ staW ss K = getV gs ++ getV ss) : getW gs K = getV gs ∧ staW ss K = getV ss :=
  List.append_inj e (by unfold getW getV; rw [List.length_map, List.length_map])
theorem sta_ok {K : PySem.W.Frag} {ss : List GetD} (e : staW ss K = getV ss) (b : staB ss K = true) (i : Nat) {g : GetD} (h : ss[i]? = some g := by rfl) :
    ∃ fd, SMet K (He.ga K g.1) g.2.1 (prA K (He.ga K g.1) g.2.1) (smG K (He.ga K g.1) g.2.1) ∧ FunD K g.2.2.name g.2.2.qual g.2.2.params g.2.2.body g.2.2.scope [] [] (smG K (He.ga K g.1) g.2.1) fd := by
  have b1 := List.all_eq_true.mp b g (List.mem_of_getElem? h)
  rw [Bool.and_eq_true] at b1
  have e2 : (staW ss K)[i]? = (getV ss)[i]? := by rw [e]
  unfold staW getV at e2
  rw [List.getElem?_map, List.getElem?_map, h] at e2
  obtain ⟨fd, F⟩ := fnAt_ok (Option.some.inj e2) b1.2
  exact ⟨fd, smetB_ok b1.1, F⟩
end Np

set_option Elab.async false
set_option linter.all false
set_option maxRecDepth 100000
set_option maxHeartbeats 4000000
namespace Np
open PySem PySem.Spec PyProof.Rows L2
/-! ### sum(a tuple of ints) -/
def rSumT (K : PySem.W.Frag) : List V → Hp → VK → Prop := fun vs H Q => ∃ (a : Addr) (ns : List Int), vs = [V.ref a] ∧ SqT K H a (ns.map V.int) ∧ Q (.int ns.sum) H
theorem cr_sumT {X : Cx} {K : PySem.W.Frag} (hK : X.K = K) (hc : X.calm = true) : CallR X (.builtin "sum") (rSumT K) := by
  subst hK
  intro pins s σ H vs us Q I r h
  obtain ⟨a, ns, rfl, hs, q⟩ := h
  obtain ⟨its, rv, hl, _⟩ := I.tuple hs
  rw [Vals.ref1 r]
  have hi := rv.ints
  obtain ⟨xs, e⟩ := hi.allInts.items
  have hn : numsOf (intItems xs).toList = ns := by rw [← e]; exact hi.numsOf
  rw [nums_intItems] at hn
  have hl2 : s.heap.IsTuple a its.toArray := hl
  rw [e] at hl2
  refine PySem.W.ktm_sumG (I.ok.hd hc) hl2 fun h' tk t' hk => ?_
  rw [preSum_eq, List.take_of_length_le (by simp), hn]
  exact ⟨.int _, H, I.kept hk, ⟨_, rfl⟩, q⟩
end Np

set_option Elab.async false
set_option linter.all false
set_option maxRecDepth 100000
set_option maxHeartbeats 4000000
namespace Np
open PySem PySem.Spec PyProof.Rows L2
/-! ### sets of texts, of any size: made of a row, walked in whatever order, sorted -/
def txtOf (e : Int × Value) : Str := match e.2 with | .str k _ => k | _ => Str.empty
/-- an entry of a set: a text beside its hash -/
def IsTx (P : Program) (w : World) (e : Int × Value) : Prop := ∃ k tk, e.2 = Value.str k tk ∧ e.1 = (strKind P w).hash k
/-- the entries and the table of a set of the texts l -/
structure TxT (P : Program) (w : World) (es : Array (Int × Value)) (t : SetTable) (l : List Str) : Prop where
  all : ∀ e ∈ es.toList, IsTx P w e
  per : (es.toList.map txtOf).Perm l
  dst : l.Nodup
  few : es.size < scanBound
  fit : t.fits es.size = true
  ris : Ris t.place.toList
  led : w.params.followText "set-order" = true ∨ t.led = true
def TxAt (P : Program) (w : World) (h : Heap) (a : Addr) (l : List Str) : Prop := ∃ o es ep t, h.get? a = some o ∧ o.ExactSet ∧ o.data = .set es ep t ∧ TxT P w es t l
section
variable {P : Program} {w : World} {h h' : Heap} {a : Addr} {l : List Str} {es : Array (Int × Value)} {t : SetTable}
theorem TxAt.keep (R : TxAt P w h a l) (k : ∀ o, h.get? a = some o → h'.get? a = some o) : TxAt P w h' a l := by
  obtain ⟨o, es, ep, t, ho, r⟩ := R
  exact ⟨o, es, ep, t, k o ho, r⟩
theorem TxT.elems (T : TxT P w es t l) : ElemsOf (strKind P w) es.toList := fun e he => by
  obtain ⟨k, tk, h1, h2⟩ := T.all e he
  exact ⟨⟨k, by rw [h1]; exact strKind_is P w k tk, h2⟩, by rw [h1] <;> rfl⟩
theorem tx_is {e : Int × Value} (g : IsTx P w e) (k : Str) : (strKind P w).is k e.2 = true ↔ txtOf e = k := by
  obtain ⟨k0, tk, h1, _⟩ := g
  unfold txtOf
  rw [h1]
  simp [PySem.strKind, Value.isStrOf]
theorem TxT.mem (T : TxT P w es t l) (k : Str) : k ∈ l ↔ ∃ e ∈ es.toList, (strKind P w).is k e.2 = true := by
  rw [← T.per.mem_iff, List.mem_map]
  exact ⟨fun ⟨e, he, q⟩ => ⟨e, he, (tx_is (T.all e he) k).2 q⟩, fun ⟨e, he, q⟩ => ⟨e, he, (tx_is (T.all e he) k).1 q⟩⟩
theorem TxT.len (T : TxT P w es t l) : l.length = es.size := by rw [← T.per.length_eq, List.length_map, Array.length_toList]
end
def addT (l : List Str) (k : Str) : List Str := if k ∈ l then l else k :: l
section
variable {P : Program} {w : World} {A : Around} {E : Value → Shared → Prop} {s : Shared} {a : Addr} {l : List Str}
theorem tx_tail {g : Bool → Sem Unit} (hg : ∀ (b : Bool) (s1 : Shared) (Z : Unit → Shared → Prop), Z () s1 → wpAny (model P w) A (g b) Z E s1) {o : Obj} {es : Array (Int × Value)} {ep : Nat} {t : SetTable} (ho : s.heap.get? a = some o) (hex : o.ExactSet) (hd : o.data = .set es ep t)
    {e1 : Array (Int × Value)} {u2 : SetTable} (T : TxT P w e1 u2 l) {wd : Bool} {R : Option Bool → Shared → Prop} (hR : ∀ h', Heap.SameBut a s.heap h' → TxAt P w h' a l → R (some true) { s with heap := h' }) :
    wpAny (model P w) A (do storeSet a e1 u2; if (!wd && u2.tooFull) = true then (do g (relayAll u2 e1 (SetTable.grown e1.size)).2.2; storeSet a (relayAll u2 e1 (SetTable.grown e1.size)).1 (relayAll u2 e1 (SetTable.grown e1.size)).2.1; pure (some true)) else pure (some true)) R E s := by
  have room := fits_of_scanBound T.few
  have first := store_at (es' := e1) (t' := u2) ho hd
  have near := Heap.SameBut.update s.heap a (Obj.putSet e1 u2)
  refine wpAny_bind (wpAny_storeSet_of ho hd ?_ room)
  split
  · have p3 := relayAll_perm u2 e1 (SetTable.grown e1.size)
    have f3 := relayAll_fits u2 e1 (SetTable.grown e1.size)
    have r3 := relayAll_ris u2 e1 (SetTable.grown e1.size)
    have l3 := relayAll_led u2 e1 (SetTable.grown e1.size)
    generalize relayAll u2 e1 (SetTable.grown e1.size) = Z at p3 f3 r3 l3 ⊢
    obtain ⟨e2, u3, gw⟩ := Z
    dsimp only at p3 f3 r3 l3 ⊢
    have sz : e2.size = e1.size := by rw [← Array.length_toList, p3.length_eq, Array.length_toList]
    have T3 : TxT P w e2 u3 l := ⟨fun e he => T.all e (p3.mem_iff.mp he), (p3.map txtOf).trans T.per, T.dst, by rw [sz]; exact T.few, f3, r3, T.led.imp id fun z => l3.trans z⟩
    refine wpAny_bind (hg _ _ _ ?_)
    refine wpAny_bind (wpAny_storeSet_of first rfl ?_ (fits_of_scanBound T3.few))
    have second := store_at (es' := e2) (t' := u3) first rfl
    exact wpAny_pure (hR _ (near.trans (Heap.SameBut.update _ a _)) ⟨_, e2, _, u3, second, hex, rfl, T3⟩)
  · exact wpAny_pure (hR _ near ⟨_, e1, _, u2, first, hex, rfl, T⟩)
theorem tx_add {k : Str} {tk : Tok} {Q : Bool → Shared → Prop} (R : TxAt P w s.heap a l) (room : l.length + 1 < scanBound)
    (hQ : ∀ h' b, Heap.SameBut a s.heap h' → TxAt P w h' a (addT l k) → Q b { s with heap := h' }) : wpAny (model P w) A (setAddHashed a (.str k tk) ((strKind P w).hash k)) Q E s := by
  obtain ⟨o, es, ep, t, ho, hex, hd, T⟩ := R
  have isk := strKind_is P w k tk
  have scn : (Value.str k tk).scannable = true := rfl
  have els := T.elems
  unfold setAddHashed setAddHashedIn
  refine wpAny_holding (wpAny_bind (wpAny_setState_of ho hd T.fit ?_))
  dsimp only
  rw [byScan_of scn T.few els]
  simp only [↓reduceIte]
  unfold setAddByScan
  refine wpAny_bind (wpAny_bind (wpAny_rule (wpAny_bind (wpAny_setScan_of isk ho hd T.fit els ?_))))
  cases found : List.findIdx? (fun e => (strKind P w).is k e.2) es.toList with
  | some j =>
    dsimp only
    obtain ⟨hj, pj, _⟩ := List.findIdx?_eq_some_iff_getElem.mp found
    have inl : k ∈ l := (T.mem k).2 ⟨_, List.getElem_mem hj, pj⟩
    refine wpAny_pure (wpAny_pure (hQ s.heap _ (Heap.SameBut.refl a s.heap) ⟨o, es, ep, t, ho, hex, hd, ?_⟩))
    unfold addT
    rw [if_pos inl]
    exact T
  | none =>
    dsimp only
    have notin : k ∉ l := fun z => by
      obtain ⟨e, he, q⟩ := (T.mem k).1 z
      have c := List.findIdx?_eq_none_iff.mp found e he
      rw [q] at c
      cases c
    have gw : ∀ (b : Bool) {s1 : Shared} {Z : Unit → Shared → Prop}, Z () s1 → wpAny (model P w) A (match b with | true => rule "set.scan.the-table-gave-way" | false => pure ()) Z E s1 := fun b s1 Z z => by cases b <;> first | exact wpAny_pure z | exact wpAny_rule z
    have p1 := layNew_perm t es ((strKind P w).hash k) (.str k tk)
    have f1 := layNew_fits t es ((strKind P w).hash k) (.str k tk)
    have r1 := layNew_ris t es ((strKind P w).hash k) (.str k tk) T.ris
    have l1 := layNew_led t es ((strKind P w).hash k) (.str k tk)
    generalize layNew t es ((strKind P w).hash k) (.str k tk) = Z at p1 f1 r1 l1 ⊢
    obtain ⟨e1, t1, wd, gave⟩ := Z
    dsimp only at p1 f1 r1 l1 ⊢
    rw [Array.toList_push] at p1
    have pc : e1.toList.Perm (((strKind P w).hash k, Value.str k tk) :: es.toList) := p1.trans (List.perm_append_singleton _ _)
    have pk : (e1.toList.map txtOf).Perm (k :: l) := (pc.map txtOf).trans (T.per.cons k)
    have all1 : ∀ e ∈ e1.toList, IsTx P w e := fun e he => by
      rcases List.mem_cons.mp (pc.mem_iff.mp he) with z | z
      · rw [z]; exact ⟨k, tk, rfl, rfl⟩
      · exact T.all e z
    have sz : e1.size = l.length + 1 := by rw [← Array.length_toList, pc.length_eq, List.length_cons, Array.length_toList, T.len]
    have eA : addT l k = k :: l := by unfold addT; rw [if_neg notin]
    have mk : ∀ {u : SetTable}, u.fits e1.size = true → Ris u.place.toList → u.led = t.led → TxT P w e1 u (addT l k) := fun f r e => ⟨all1, by rw [eA]; exact pk, by rw [eA]; exact List.nodup_cons.mpr ⟨notin, T.dst⟩, by rw [sz]; exact room, f, r, T.led.imp id fun z => e.trans z⟩
    refine wpAny_bind (gw _ ?_)
    split
    · refine wpAny_bind ?_
      rw [hashByValue_scannable 8 scn]
      refine wpAny_pure (tx_tail ?_ ho hex hd (l := addT l k) ?_ ?_)
      · intro b s1 Z z; cases b <;> first | exact wpAny_pure z | exact wpAny_rule z
      · split
        · exact mk f1 r1 l1
        · exact mk (SetTable.fits_plain_off f1) r1 l1
      · intro h' sb r; dsimp only; exact wpAny_pure (hQ h' _ sb r)
    · refine wpAny_bind (wpAny_pure ?_)
      simp only [↓reduceIte]
      refine tx_tail ?_ ho hex hd (mk f1 r1 l1) ?_
      · intro b s1 Z z; cases b <;> first | exact wpAny_pure z | exact wpAny_rule z
      · intro h' sb r; dsimp only; exact wpAny_pure (hQ h' _ sb r)
end
end Np

set_option Elab.async false
set_option linter.all false
set_option maxRecDepth 100000
set_option maxHeartbeats 4000000
namespace Np
open PySem PySem.Spec PyProof.Rows L2
/-! ### set(row of texts) -/
abbrev bareSet (b : Bool) : Obj := { cls := .type "set", dict := none, data := .set #[] 0 (.fresh 0 0 b) }
theorem tx_fresh (P : Program) (w : World) {h : Heap} : TxAt P w (h.push (bareSet (!w.params.followText "set-order"))) h.objs.size [] :=
  ⟨_, #[], 0, _, Heap.get?_push_size _ rfl, ⟨rfl, rfl, rfl⟩, rfl, fun e he => (by simp at he), .refl _, List.nodup_nil, (by decide), (by rfl), List.Pairwise.nil, by
    show _ ∨ (!w.params.followText "set-order") = true
    cases w.params.followText "set-order"
    · exact .inr rfl
    · exact .inl rfl⟩
section
variable {prog : Program} {w : World} {A : Around} {E : Value → Shared → Prop} {s : Shared}
theorem code_new_tx (v : Value) {Z : Value → Shared → Prop} (h : Z (.ref s.heap.objs.size) { s with heap := s.heap.push (bareSet (!w.params.followText "set-order")) }) :
    codeAny (model prog w) A (.call (.builtin "set.__new__") ⟨[.type "set", v], []⟩) (wants Z E) s := by
  refine codeAny_of_tree ?_
  show wpAny _ A.in1 (checkBuiltinCall "set.__new__" ⟨[.type "set", v], []⟩ >>= fun _ => again (.builtin "set.__new__" ⟨[.type "set", v], []⟩)) _ _ s
  refine wpAny_bind (wpAny_of_eq (PySem.F.newCall_set_1 v) (wpAny_pure ⟨plainId_quiet F.plain_set_new _, codeAny_builtin F.entry_set_new ?_⟩))
  rw [Around.under_plainId F.plain_set_new _]; unfold Builtin.«set.__new__» Builtin.Frozenset.newClass
  have own := sub_set_self
  obtain ⟨x1, x2, x3, x4, x5⟩ := s
  dsimp only
  wp_walk
  refine wpAny_askSetting (wpAny_pure ?_)
  dsimp only; simp only [newObj]
  exact wpAny_bind (wpAny_alloc (wpAny_pure (wpAny_pure h)))
end
theorem foldl_len : ∀ (xs l : List Str), (xs.foldl addT l).length ≤ l.length + xs.length
  | [], l => Nat.le_refl _
  | x :: xs, l => by
    have h1 := foldl_len xs (addT l x)
    have h2 : (addT l x).length ≤ l.length + 1 := by unfold addT; split <;> simp
    show (xs.foldl addT (addT l x)).length ≤ _
    rw [List.length_cons]
    omega
theorem mem_addT {l : List Str} {k x : Str} : x ∈ addT l k ↔ x = k ∨ x ∈ l := by
  unfold addT
  split
  · rename_i c
    exact ⟨.inr, fun h => h.elim (fun e => e ▸ c) id⟩
  · exact List.mem_cons
theorem mem_foldl : ∀ (xs l : List Str) (x : Str), x ∈ xs.foldl addT l ↔ x ∈ xs ∨ x ∈ l
  | [], l, x => by simp
  | k :: xs, l, x => by
    show x ∈ xs.foldl addT (addT l k) ↔ _
    rw [mem_foldl xs (addT l k) x, mem_addT, List.mem_cons]
    exact ⟨fun h => h.elim (fun z => .inl (.inr z)) fun z => z.elim (fun z => .inl (.inl z)) .inr, fun h => h.elim (fun z => z.elim (fun z => .inr (.inl z)) .inl) fun z => .inr (.inr z)⟩
section
variable {prog : Program} {w : World} {A : Around} {R : Result → Shared → Prop} {I : Addr} {fp wr : List Addr} {G : Array GenState → Array GenState → Prop} {n : Nat} {Pv : Nat → Value → Prop} {St : Nat → Shared → Prop}
theorem tx_loop (W : WalksS prog w A.in1 I fp wr G n Pv St) (S : Addr) (out : S ∉ fp) (xs : List Str) (sz : xs.length = n) (val : ∀ i v, Pv i v → ∃ t, v = .str (xs.getD i Str.empty) t) :
    ∀ (k i : Nat) (s : Shared) (l : List Str), n - i = k → i ≤ n → St i s → TxAt prog w s.heap S l → l.length + k + 1 < scanBound →
      (∀ s', Moved (S :: wr) G s s' → TxAt prog w s'.heap S ((xs.drop i).foldl addT l) → R (.ok (.ret .none)) s') → codeAny (model prog w) A (.builtin "set.update.loop" ⟨[.ref S, .ref I], []⟩) R s := by
  have Sw : S ∉ wr := fun h => out (W.sub _ h)
  have more : ∀ b ∈ wr, b ∈ S :: wr := fun b hb => List.mem_cons_of_mem _ hb
  intro k
  induction k with
  | zero =>
    intro i s l hk hi st hS room hR
    obtain rfl : i = n := by omega
    refine codeAny_builtin F.entry_set_update_loop ?_
    rw [Around.under_plainId F.plain_set_update_loop _]
    refine (show wpAny _ A.in1 (pyNext (.ref I) >>= _) _ _ s from ?_)
    refine wpAny_bind (W.done s _ _ st fun s' hm => ?_)
    have z := hR s' (hm.mono more) (by
      rw [List.drop_eq_nil_of_le (Nat.le_of_eq sz)]
      exact hS.keep fun o ho => hm.heap S _ Sw ho)
    exact (show wpAny _ A.in1 (ret Value.none) _ _ s' from wpAny_pure z)
  | succ k ih =>
    intro i s l hk hi st hS room hR
    have lt : i < n := by omega
    refine codeAny_builtin F.entry_set_update_loop ?_
    rw [Around.under_plainId F.plain_set_update_loop _]
    refine (show wpAny _ A.in1 (pyNext (.ref I) >>= _) _ _ s from ?_)
    refine wpAny_bind (W.item i s _ _ lt st fun v s' hP st' hm => ?_)
    obtain ⟨t, rfl⟩ := val i v hP
    have hS2 : TxAt prog w s'.heap S l := hS.keep fun o ho => hm.heap S _ Sw ho
    refine (show wpAny _ A.in1 (holding [Value.str (xs.getD i Str.empty) t] (setAdd S (.str (xs.getD i Str.empty) t)) >>= _) _ _ s' from ?_)
    refine wpAny_bind (wpAny_holding ?_)
    unfold setAdd
    refine wpAny_holding (wpAny_bind ((PySem.strKind prog w).pyHash (k := xs.getD i Str.empty) (strKind_is _ _ _ _) ?_))
    refine tx_add (s := { s' with toks := s'.toks + 1 }) hS2 (by omega) fun h' bb near hS3 => ?_
    have ed : xs.drop i = xs.getD i Str.empty :: xs.drop (i + 1) := by
      rw [List.drop_eq_getElem_cons (by omega)]
      congr 1
      rw [List.getD_eq_getElem?_getD, List.getElem?_eq_getElem (by omega)]
      rfl
    have l1 : (addT l (xs.getD i Str.empty)).length ≤ l.length + 1 := by unfold addT; split <;> simp
    refine wpAny_pure ⟨plainId_quiet F.plain_set_update_loop _, ih (i + 1) _ _ (by omega) lt (W.frame _ s' _ _ st' (Nat.le_succ _) fun b hb o e => ?_) hS3 (by omega) fun s3 hm3 z3 => ?_⟩
    · exact (near.2 b fun z : b = S => out (by rw [← z]; exact hb)).trans e
    · refine hR s3 (Moved.trans W.gtrans ((hm.mono more).then_heap (Nat.le_succ _) fun b o hb e => ?_) hm3) (by rw [ed]; exact z3)
      exact (near.2 b fun z : b = S => hb (by rw [z]; exact List.mem_cons_self)).trans e
end
end Np

set_option Elab.async false
set_option linter.all false
set_option maxRecDepth 100000
set_option maxHeartbeats 4000000
namespace Np
open PySem PySem.Spec PyProof.Rows L2
/-- what set(row) wants to know of the row's class -/
structure RowC (prog : Program) (w : World) (T IT : String) (l : Addr) (o : Obj) (items : Array Value) : Prop where
  cls : o.cls = .type T
  s1 : isSubtype (.type T) (.type "set") = pure false
  s2 : isSubtype (.type T) (.type "frozenset") = pure false
  nd : (Value.type T == Value.type "dict") = false
  iter : ∀ {A : Around} {E : Value → Shared → Prop} {s : Shared} {Z : Value → Shared → Prop}, s.heap.get? l = some o → Z (.ref s.heap.objs.size) { s with heap := s.heap.push { cls := .type IT, data := .fields #[.ref l, .int 0 0] } } → wpAny (model prog w) A (pyIter (.ref l)) Z E s
  walk : ∀ {A : Around} (I : Addr), A.handled = none → l ≠ I → ∃ St : Nat → Heap → Prop, Walks prog w A I [I, l] [I] items.size (fun i v => items[i]? = some v) St ∧ ∀ h : Heap, h.get? l = some o → h.get? I = some { cls := .type IT, data := .fields #[.ref l, .int 0 0] } → St 0 h
theorem rowC_list {prog : Program} {w : World} {l : Addr} {o : Obj} {items : Array Value} {n : Nat} (c : o.cls = .type "list") (d : o.data = .seq items n) : RowC prog w "list" "list_iterator" l o items :=
  ⟨c, PySem.F.sub_list_set, PySem.F.sub_list_frozenset, by decide, fun ho z => wpAny_pyIter_list ⟨_, ho, c, n, d⟩ z, fun I hh ne => ⟨_, Walks.list hh I l ne items, fun h h1 h2 => ⟨⟨_, h2, rfl, rfl⟩, ⟨_, h1, c, n, d⟩⟩⟩⟩
theorem rowC_tup {prog : Program} {w : World} {l : Addr} {o : Obj} {items : Array Value} {n : Nat} (c : o.cls = .type "tuple") (d : o.data = .seq items n) : RowC prog w "tuple" "tuple_iterator" l o items :=
  ⟨c, PySem.F.sub_tuple_set, PySem.F.sub_tuple_frozenset, by decide, fun ho z => wpAny_pyIter_tuple ⟨_, ho, c, n, d⟩ z, fun I hh ne => ⟨_, Walks.tuple hh I l ne items, fun h h1 h2 => ⟨⟨_, h2, rfl, rfl⟩, ⟨_, h1, c, n, d⟩⟩⟩⟩
section
variable {prog : Program} {w : World} {A : Around} {E : Value → Shared → Prop} {s : Shared}
set_option maxHeartbeats 8000000 in
theorem call_set_tx {T IT : String} {l : Addr} {o : Obj} {items : Array Value} {xs : List Str} {Q : Value → Shared → Prop} (hh : A.handled = none) (ho : s.heap.get? l = some o) (C : RowC prog w T IT l o items) (hi : StrsAre items.toList xs) (room : xs.length + 1 < scanBound)
    (h : ∀ (h' : Heap) (tk : Nat), TxAt prog w h' s.heap.objs.size (xs.foldl addT []) → (∀ b u, s.heap.get? b = some u → h'.get? b = some u) → Q (.ref s.heap.objs.size) { s with heap := h', toks := tk }) : wpAny (model prog w) A (call (.type "set") [.ref l]) Q E s := by
  obtain ⟨c0, tl0, mro⟩ := PySem.F.called_set.mro
  have made := PySem.F.called_set.made
  have sub0 := PySem.F.called_set.sub
  refine wpAny_call (codeAny_of_tree ?_)
  refine (show wpAny _ _ (callAny (.type "set") _) _ _ _ from ?_)
  refine wpAny_pure ⟨Code.quiet_builtin _ (by decide +kernel), codeAny_builtin PySem.F.entry_type_call ?_⟩
  rw [Around.under_plain (weight_type_call_type "set" [.ref l] []) rfl]
  have k1 := PySem.F.called_set.notType
  have k2 := PySem.F.called_set.canCreate
  have k3 := PySem.F.typeCall_set_1 (.ref l)
  repeat (any_goals (first | assumption | wp_step))
  refine codeAny_mono (code_new_tx (.ref l) (E := E) (Z := fun obj t => obj = .ref s.heap.objs.size ∧ t = { s with heap := s.heap.push (bareSet (!w.params.followText "set-order")) }) ⟨rfl, rfl⟩) fun r s₁ hr => ?_
  cases r with
  | error e => exact hr
  | ok fl =>
    cases fl with
    | ret obj =>
      obtain ⟨rfl, rfl⟩ := hr
      have at0 := tx_fresh prog w (h := s.heap)
      have got : (s.heap.push (bareSet (!w.params.followText "set-order"))).get? s.heap.objs.size = some (bareSet (!w.params.followText "set-order")) := Heap.get?_push_size _ rfl
      generalize (!w.params.followText "set-order") = led at at0 got ⊢
      have hT : Shared.TypeIs { s with heap := s.heap.push (bareSet led) } (.ref s.heap.objs.size) "set" := ⟨_, got, rfl⟩
      have k4 := PySem.F.called_set.init.lookup
      have k5 := PySem.F.called_set.init.bind (.ref s.heap.objs.size)
      repeat (any_goals (first | assumption | wp_step))
      refine codeAny_mono (codeAny_call_builtin (R := wants (fun r t => r = .none ∧ ∃ h' tk, t = { s with heap := h', toks := tk } ∧ TxAt prog w h' s.heap.objs.size (xs.foldl addT []) ∧ (∀ b u, s.heap.get? b = some u → h'.get? b = some u)) E)
        PySem.F.called_set.init.plain PySem.F.entry_set_init (check_set_init_1 hT ?_)) fun r₂ s₂ hr₂ => ?_
      · have ho1 : (s.heap.push (bareSet led)).get? l = some o := Heap.get?_push_of_some _ ho
        have hTl : Shared.TypeIs { s with heap := s.heap.push (bareSet led) } (.ref l) T := ⟨_, ho1, C.cls⟩
        have k6 := C.s1
        have k7 := C.s2
        have k8 := C.nd
        unfold Builtin.«set.__init__» noKeywords Builtin.Frozenset.updateFrom
        generalize gP : pyIter = PI
        wp_walk
        subst gP
        refine C.iter ho1 ?_
        refine wpAny_bind (wpAny_runValue ?_)
        have lS : l < s.heap.objs.size := Heap.lt_size ho
        have h3 : A.in1.in1.in1.handled = none := by simp [hh]
        have szp : (s.heap.push (bareSet led)).objs.size = s.heap.objs.size + 1 := Heap.size_push _ _
        have neI : l ≠ (s.heap.push (bareSet led)).objs.size := by rw [szp]; exact Nat.ne_of_lt (Nat.lt_succ_of_lt lS)
        have outS : s.heap.objs.size ∉ [(s.heap.push (bareSet led)).objs.size, l] := by
          rw [szp]
          simp only [List.mem_cons, List.not_mem_nil, or_false, not_or]
          exact ⟨Nat.ne_of_lt (Nat.lt_succ_self _), Nat.ne_of_gt lS⟩
        have szx : xs.length = items.size := by rw [← StrsAre.len_eq hi, Array.length_toList]
        have val : ∀ (i : Nat) (v : Value), items[i]? = some v → ∃ t, v = .str (xs.getD i Str.empty) t := fun i v hv => SS.strs_at hi i v (by rw [Array.getElem?_toList]; exact hv)
        obtain ⟨St, W, st0⟩ := C.walk (A := A.in1.in1.in1) _ h3 neI
        refine tx_loop W.toS s.heap.objs.size outS xs szx val (items.size - 0) 0 _ [] (by omega) (Nat.zero_le _) (st0 _ (Heap.get?_push_of_some _ ho1) (Heap.get?_push_size _ rfl)) (at0.keep fun o e => Heap.get?_push_of_some _ e) (by rw [List.length_nil]; omega) fun s' hm hS' => ?_
        obtain ⟨y1, y2, y3, y4, y5⟩ := s'
        obtain rfl : y2 = s.gens := hm.gens
        obtain rfl : y3 = s.drawn := hm.drawn
        obtain rfl : y5 = s.os := hm.os
        refine (show wpAny _ _ _ _ _ _ from wpAny_pure ?_)
        refine (show wpAny _ _ (ret Value.none) _ _ _ from wpAny_pure ⟨rfl, y1, y4, rfl, hS', fun b u e => ?_⟩)
        have lb : b < s.heap.objs.size := Heap.lt_size e
        refine hm.heap b u ?_ (Heap.get?_push_of_some _ (Heap.get?_push_of_some _ e))
        rw [szp]
        simp only [List.mem_cons, List.not_mem_nil, or_false, not_or]
        exact ⟨Nat.ne_of_lt lb, Nat.ne_of_lt (Nat.lt_succ_of_lt lb)⟩
      · cases r₂ with
        | error e => exact hr₂
        | ok fl₂ =>
          cases fl₂ with
          | ret r =>
            obtain ⟨rfl, h', tk, rfl, z1, z2⟩ := hr₂
            repeat (any_goals (first | assumption | wp_step))
            exact h _ _ z1 z2
          | _ => exact hr₂.elim
    | _ => exact hr.elim
end
end Np

set_option Elab.async false
set_option linter.all false
set_option maxRecDepth 100000
set_option maxHeartbeats 4000000
namespace Np
open PySem PySem.Spec PyProof.Rows L2
/-! ### sorted(set of texts); the rules -/
theorem strs_of : ∀ (l : List Value), (∀ v ∈ l, ∃ k tk, v = Value.str k tk) → StrsAre l (l.map fun v => txtOf (0, v))
  | [], _ => .nil
  | v :: l, h => by
    obtain ⟨k, tk, rfl⟩ := h v List.mem_cons_self
    exact .cons k tk (strs_of l fun u hu => h u (List.mem_cons_of_mem _ hu))
section
variable {P : Program} {w : World} {A : Around} {E : Value → Shared → Prop} {s : Shared} {a : Addr} {l : List Str}
theorem sorted_tx {Q : Value → Shared → Prop} (R : TxAt P w s.heap a l) (hh : A.handled = none) (few : l.length < 64)
    (hQ : ∀ s' p (out : Array Value) (c : Nat) (ys : List Str), (∀ b o, s.heap.get? b = some o → s'.heap.get? b = some o) → s'.gens = s.gens → s'.os = s.os → s.heap.objs.size ≤ p → s'.heap.get? p = some (seqObj "list" out c) → StrsAre out.toList ys → ys.Perm l → sortedS ys = true → Q (.ref p) s') :
    wpAny (model P w) A (call (.builtin "sorted") [.ref a]) Q E s := by
  obtain ⟨o, es, ep, t, ho, hex, hd, T⟩ := R
  refine Calls.call_function_entry kind_sorted plain_sorted entry_sorted (args_sorted1 _) ?_
  unfold Builtin.«sorted»
  refine wpAny_bind (m := checkCount "sorted" 1 1 _) (wpAny_pure ?_)
  refine wpAny_bind (collect_set (A := A.in1) hh ⟨o, ho, hex.1, hd⟩ T.fit T.few T.ris T.led fun s1 vs k1 hz g1 o1 pm => ?_)
  have lv : vs.length = l.length := by rw [pm.length_eq, List.length_map, Array.length_toList, T.len]
  have are : StrsAre vs (vs.map fun v => txtOf (0, v)) := strs_of vs fun v hv => by
    obtain ⟨e, he, q⟩ := List.mem_map.mp (pm.mem_iff.mp hv)
    obtain ⟨k, tk, h1, _⟩ := T.all e he
    exact ⟨k, tk, by rw [← q]; exact h1⟩
  have pk : (vs.map fun v => txtOf (0, v)).Perm l := by
    have q := pm.map fun v => txtOf (0, v)
    rw [List.map_map] at q
    exact (show (vs.map fun v => txtOf (0, v)).Perm (es.toList.map txtOf) from q).trans T.per
  refine wpAny_bind (wpAny_newList ?_ (by rw [lv, sizeLine_eq]; omega))
  have at1 : (s1.heap.push (seqObj "list" vs.toArray 0)).get? s1.heap.objs.size = some (seqObj "list" vs.toArray 0) := Heap.get?_push_size _ rfl
  refine wpAny_bind (wpAny_holding (wpAny_call_entry slot_list_sort ⟨_, at1, rfl⟩ entry_list_sort (list_sort_treeK strKind_oneLt at1 are.keysOf (fun v₁ v₂ rest e => keyKind_strs (by rw [← e]; exact are)) (by rw [lv]; exact few) fun st' hp hs => ⟨_, rfl, ?_⟩) (args_list_sort _)))
  obtain ⟨ys, h1, h2, h3⟩ := sorted_out_str are hp hs
  obtain ⟨c, hc⟩ := sortedHeap_at (vs := vs) (out := (arrOf st').map (·.2)) at1
  refine wpAny_pure ⟨_, rfl, hQ _ s1.heap.objs.size _ c ys (fun b u e => ?_) g1 o1 hz hc h1 (h2.trans pk) h3⟩
  have q := k1 b u e
  have lt := Heap.lt_size q
  show (sortedHeap (s1.heap.push (seqObj "list" vs.toArray 0)) s1.heap.objs.size vs ((arrOf st').map (·.2))).get? b = some u
  rw [sortedHeap_old (Nat.ne_of_lt lt) (by rw [size_push']; exact Nat.lt_succ_of_lt lt)]
  exact Heap.get?_push_of_some _ q
end
/-! ### over the layer -/
/-- the set of the texts l at a -/
def SetT (P : Program) (w : World) (a : Addr) (l : List Str) : HO := .ext fun h => TxAt P w h a l
section
variable {X : Cx}
theorem setT_new {P : Program} {w : World} {H : Hp} {h : Heap} {a : Addr} {l : List Str} (R : TxAt P w h a l) : ObjOk P w H h a (SetT P w a l) := by
  have ⟨o, _, _, _, ho, _⟩ := R
  exact ⟨R, ⟨o, ho⟩, fun h1 h2 p k => p.keep k⟩
theorem setT_get {pins : List (Addr × Obj)} {σ : L2.St} {H : Hp} {s : Shared} {a : Addr} {l : List Str} (I : Inv X pins σ H s) (ha : H a = some (SetT X.prog X.w a l)) : TxAt X.prog X.w s.heap a l := (I.hok a _ ha).1
/-- the texts of a row, each once -/
def once (xs : List Str) : List Str := xs.foldl addT []
theorem mem_once {xs : List Str} {x : Str} : x ∈ once xs ↔ x ∈ xs := by
  unfold once
  rw [mem_foldl]
  exact ⟨fun h => h.elim id (fun z => by cases z), .inl⟩
theorem nd_addT {l : List Str} {k : Str} (h : l.Nodup) : (addT l k).Nodup := by
  unfold addT
  split
  · exact h
  · rename_i c
    exact List.nodup_cons.mpr ⟨c, h⟩
theorem nd_foldl : ∀ (xs : List Str) {l : List Str}, l.Nodup → (xs.foldl addT l).Nodup
  | [], _, h => h
  | x :: xs, l, h => nd_foldl xs (nd_addT (k := x) h)
theorem once_nd (xs : List Str) : (once xs).Nodup := nd_foldl xs List.nodup_nil
theorem once_len (xs : List Str) : (once xs).length ≤ xs.length := by
  have := foldl_len xs []
  unfold once
  simpa using this
/-- set(row) -/
def rSetQ (P : Program) (w : World) (K : PySem.W.Frag) : List V → Hp → VK → Prop := fun xs H Q => ∃ t p ys, xs = [.ref p] ∧ SqB K t H p (ys.map V.str) ∧ ys.length + 1 < scanBound ∧ ∀ a H', H a = none → Same H H' → H' a = some (SetT P w a (once ys)) → Q (.ref a) H'
theorem call_setQ {K : PySem.W.Frag} (hK : X.K = K) (hc : X.calm = true) : CallR X (.type "set") (rSetQ X.prog X.w K) := by
  subst hK
  intro pins s σ H xs us Q I r h
  obtain ⟨t, p, ys, rfl, hp, room, q⟩ := h
  rw [Vals.ref1 r]
  have fin : ∀ (h' : Heap) (tk : Nat), TxAt X.prog X.w h' s.heap.objs.size (once ys) → (∀ b u, s.heap.get? b = some u → h'.get? b = some u) → ∃ x H', Inv X pins σ H' { s with heap := h', toks := tk } ∧ RelV x (.ref s.heap.objs.size) ∧ Q x H' := fun h' tk R k => by
    have hn : H s.heap.objs.size = none := I.hok.fresh (Nat.le_refl _)
    exact ⟨.ref _, upd H s.heap.objs.size (SetT X.prog X.w s.heap.objs.size (once ys)), I.laid (t' := tk) k (Nat.le_refl _) (setT_new R), rfl, q _ _ hn (Same.new hn) upd_same⟩
  cases t with
  | true =>
    obtain ⟨its, rv, hl, _⟩ := I.list hp
    obtain ⟨o, ho, c, n, d⟩ := hl.isList
    refine call_set_tx (I.ok.hd hc) ho (rowC_list c d) rv.strs room fun h' tk R k => fin h' tk R k
  | false =>
    obtain ⟨its, rv, hl, _⟩ := I.tuple hp
    obtain ⟨o, ho, c, n, d⟩ := hl
    exact call_set_tx (I.ok.hd hc) ho (rowC_tup c d) rv.strs room fun h' tk R k => fin h' tk R k
/-- the texts of a set in their order -/
def rSortedT (P : Program) (w : World) : List V → Hp → VK → Prop := fun vs H Q => ∃ a l, vs = [V.ref a] ∧ H a = some (SetT P w a l) ∧ l.length < 64 ∧ ∀ ys p, ys.Perm l → sortedS ys = true → H p = none → Q (.ref p) (upd H p (.lst (ys.map V.str)))
theorem cr_sortedTx (hc : X.calm = true) : CallR X (.builtin "sorted") (rSortedT X.prog X.w) := by
  intro pins s σ H vs us Q I r h
  obtain ⟨a, l, rfl, ha, few, q⟩ := h
  have R := setT_get I ha
  rw [Vals.ref1 r]
  refine sorted_tx R (I.ok.hd hc) few fun s' p out c ys k g o hp hg hi pm so => ?_
  have hlen : (ys.map V.str).length ≤ sizeLine := by rw [List.length_map, pm.length_eq]; exact small64 few
  have hn : H p = none := I.hok.fresh hp
  have J : Inv X pins σ (upd H p (.lst (ys.map V.str))) { s with heap := s'.heap, gens := s'.gens, drawn := s'.drawn, toks := s'.toks } :=
    I.call (ch := []) (Un.laid k hp hn) (I.hok.laid k hp ⟨hlen, out.toList, c, vals_of_strs hi, hg⟩) (by rw [g]; exact I.bare) (fun _ z => nomatch z)
  obtain ⟨y1, y2, y3, y4, y5⟩ := s'
  obtain rfl : y5 = s.os := o
  exact ⟨.ref p, _, J, rfl, q ys p pm so hn⟩
end
/-! ### the order of texts: one row alone is sorted, of the same texts, each once -/
def leT (a b : Str) : Prop := ¬ b.cps.toList < a.cps.toList
theorem leT_trans {a b c : Str} (h1 : leT a b) (h2 : leT b c) : leT a c := fun z => by
  have e1 : a.cps.toList ≤ b.cps.toList := h1
  have e2 : b.cps.toList ≤ c.cps.toList := h2
  exact absurd z (List.not_lt.mpr (List.le_trans e1 e2))
theorem leT_anti {a b : Str} (h1 : leT a b) (h2 : leT b a) : a = b := by
  have e1 : a.cps.toList ≤ b.cps.toList := h1
  have e2 : b.cps.toList ≤ a.cps.toList := h2
  have e := List.le_antisymm e1 e2
  obtain ⟨⟨x⟩⟩ := a
  obtain ⟨⟨y⟩⟩ := b
  have : x = y := e
  rw [this]
theorem rising_pw : ∀ (xs : List Str) (p : Str), risingS p xs = true → (p :: xs).Pairwise leT
  | [], p, _ => List.pairwise_singleton ..
  | x :: r, p, h => by
    have h' : (!ltCps x.cps.toList p.cps.toList && risingS x r) = true := h
    rw [Bool.and_eq_true] at h'
    have px : leT p x := fun z => by
      have e := h'.1
      rw [ltCps_eq, decide_eq_true z] at e
      cases e
    have pr := rising_pw r x h'.2
    refine List.pairwise_cons.mpr ⟨fun y hy => ?_, pr⟩
    rcases List.mem_cons.mp hy with rfl | hy
    · exact px
    · exact leT_trans px (List.rel_of_pairwise_cons pr hy)
theorem sorted_pw {xs : List Str} (h : sortedS xs = true) : xs.Pairwise leT := by
  cases xs with
  | nil => exact .nil
  | cons x r => exact rising_pw r x h
/-- sorted rows of the same texts are the same -/
theorem sorted_uniq {xs ys : List Str} (p : xs.Perm ys) (h1 : sortedS xs = true) (h2 : sortedS ys = true) : xs = ys :=
  List.Perm.eq_of_pairwise (le := leT) (fun a b _ _ z1 z2 => leT_anti z1 z2) (sorted_pw h1) (sorted_pw h2) p
end Np

set_option Elab.async false
set_option linter.all false
set_option maxRecDepth 100000
set_option maxHeartbeats 4000000
namespace Np
open PySem PySem.Spec PyProof.Rows L2
/-! ### positional defaults: C(), C(e) with the rest left out, C(k = v, ..) -/
section
variable {X : Cx} {CX : CXT} {k n : Nat} {x : Str} {C : Addr} {sp : Sp} {E : L2.St → XK} {p pos : Pos} {ks : List Str} {kws : List Keyword} {tk : TA}
theorem pe_I0 (c : CalI X.prog X.w X.K X.mg X.base CX k x C sp) (hr : Room (k + 1) X.A) (hx : ∀ σ, PassesAt CX X σ (E σ)) (hg : Gl X x := by rfl) (hdb : (x == ("__debug__" : Str)) = false := by decide) : PE X (.Call (.Name x p) [] [] pos) (tCalI C sp E tNil) := by
  obtain ⟨f, hm, M, F⟩ := c
  refine ⟨fun pins s σ H Q I h => ?_⟩
  exact wpAny_Call_Name_kw (ld_glob I hg hm (PySem.W.callWith_K0 I.kIn M.kp (run_I M F hr (hx σ) I .nil h)) hdb)
theorem pe_KI0 {sp : List V → List V → Hp → VK → Prop} (c : CalK X.prog X.w X.K X.mg X.base k x C 0 ks sp) (hr : Room (k + 1) X.A) (_hx : ∀ σ : L2.St, PassesAt CX0 X σ ((fun _ => E0) σ)) (hkw : PK X kws tk) (hg : Gl X x := by rfl)
    (hall : (backToKw pos (keywordEach kws X.env)).all (·.1.isSome) = true := by rfl) (hks : (backToKw pos (keywordEach kws X.env)).filterMap (·.1) = ks := by rfl) (hdb : (x == ("__debug__" : Str)) = false := by decide)
    (hpl : ((backTo pos (starEach [] X.env)).any (·.1) || (backToKw pos (keywordEach kws X.env)).any (·.1.isNone)) = false := by rfl) : PE X (.Call (.Name x p) [] kws pos) (tCalK C 0 ks.length sp tNil tk) := by
  obtain ⟨f, fd, ps, sp0, g, gV, hm, M, F, hb, im⟩ := c
  refine ⟨fun pins s σ H Q I h => ?_⟩
  refine wpAny_Call_Name_kw (ld_glob I hg hm ?_ hdb)
  refine PySem.W.callWith_KW0 (h₀ := X.base) I.ok.mod.kin M.kp hall (thn (hkw.run pos pins s σ H _ I h) fun ws s2 ⟨zs, H2, I2, rz, l1, l2, q2⟩ => ⟨I2.kIn, ?_⟩) hpl
  rw [hks]
  exact run_makeK (vs := []) (us := []) (E := E0) M F hr hb pass0 I2 .nil rz rfl l2 fun x dx nx ndx ne => im _ _ _ _ rfl l2 (q2 x dx nx ndx ne)
end
section
variable {P : Program} {w : World} {K : PySem.W.Frag} {mg : Str → Option Value} {base : Heap} {CX : CXT} {k : Nat} {x : Str} {C f : Addr} {fd : FuncData} {ps : List Str} {sp : Sp}
/-- C(e, ..), defaults behind -/
theorem CalI.ofD {dvs : List V} {ds : List Value} (g : mg x = some (.ref C)) (M : Mk K C f) (F : FnOk P w K mg base CX k f fd ps sp) (hb : Binds K fd ps ds) (r : Vals dvs ds) : CalI P w K mg base CX k x C (fun vs H Q E => sp (vs ++ dvs) H Q E) :=
  ⟨f, g, M, F.raw hb r⟩
theorem CalM.ofD {m : Str} {dvs : List V} {ds : List Value} (M : Meth K C m f) (F : FnOk P w K mg base CX k f fd ps sp) (hb : Binds K fd ps ds) (r : Vals dvs ds) : CalM P w K mg base CX k C m (fun vs H Q E => sp (vs ++ dvs) H Q E) :=
  ⟨f, M, F.raw hb r⟩
theorem FunD.kb1 {y qual : Str} {params : Arguments} {body : List Stmt} {scope : Scope} {dvs : List V} {kws : List (Str × V)} (F : FunD K y qual params body scope dvs kws f fd) (n : Nat) (ks : List Str) (g : {α : Type} → List α → List α → List α → List α) (hd : dvs ≠ [])
    (hrel : ∀ {vs ds zs : List V} {us its ws : List Value}, Vals vs us → Vals ds its → Vals zs ws → Vals (g vs ds zs) (g us its ws))
    (h : ∀ (T : Addr) (kV doc pm : Value) (an : Option Addr) (cdv ct : Value) (us its ws : List Value), us.length = n → its.length = dvs.length → ws.length = ks.length →
      ∃ k, bindArgs (PySem.W.fnOf y qual params body scope (.ref T) kV doc pm an cdv ct) ⟨us, ks.zip ws⟩ = seqItems? (.ref T) >>= k ∧ k (some its.toArray) = pure (ps.zip (g us its ws))) :
    ∃ its : List Value, KBn K fd ps n ks (fun us ws => g us its ws) (fun vs zs => g vs dvs zs) := by
  obtain ⟨oc, od, dV, kV, doc, pm, an, cdv, ct, osl, rfl, lk, hcd, hD, hK⟩ := F.ex
  rcases hD with ⟨e, _⟩ | ⟨_, T, o, its, m, rfl, lT, oT, rT⟩
  · exact absurd e hd
  · refine ⟨its, ⟨fun s us ws X l1 l2 => ?_, fun r1 r2 => hrel r1 rT r2⟩⟩
    obtain ⟨k, e1, e2⟩ := h T kV doc pm an cdv ct us its ws l1 rT.length.symm l2
    refine BindsTo.of_looks fun M => ?_
    rw [e1]
    exact looks_items X lT oT (.of_pure e2)
end
/-- an f-string, by a name (an item of a comprehension) -/
def tJn (ts : List TE) : TE := fun σ H Q => tJs ts Str.empty σ H fun out H1 => Q (.str out) H1
theorem pe_jn {X : Cx} {v1 v2 : Expr} {es : List Expr} {ts : List TE} {pos : Pos} (h : PJ X (v1 :: v2 :: es) ts) : PE X (.JoinedStr (v1 :: v2 :: es) pos) (tJn ts) := pe_joined h
end Np

set_option Elab.async false
set_option linter.all false
set_option maxRecDepth 100000
set_option maxHeartbeats 4000000
namespace Np
open PySem PySem.Spec PyProof.Rows L2
/-! ### all and any within a comprehension -/
theorem cr_allK {X : Cx} {K : PySem.W.Frag} (hK : X.K = K) (hc : X.calm = true) : CallR X (.builtin "all") (rAll K) := by
  subst hK
  exact cr_all hc
theorem cr_anyK {X : Cx} {K : PySem.W.Frag} (hK : X.K = K) (hc : X.calm = true) : CallR X (.builtin "any") (rAny K) := by
  subst hK
  exact cr_any hc
end Np

set_option Elab.async false
set_option linter.all false
set_option maxRecDepth 100000
set_option maxHeartbeats 4000000
namespace Np
open PySem PySem.Spec PyProof.Rows L2
/-! ### static methods, asked of a class or of an instance -/
/-- a static method, by what it promises -/
def CalS (P : Program) (w : World) (K : PySem.W.Frag) (mg : Str → Option Value) (base : Heap) (CX : CXT) (k : Nat) (C : Addr) (m : Str) (sp : Sp) : Prop := ∃ p g : Addr, SMet K C m p g ∧ FnR P w K mg base CX k g sp ∧ PySem.W.keepIn K (.ref g) = true
section
variable {X : Cx} {pins : List (Addr × Obj)} {σ : L2.St} {H : Hp} {s : Shared} {a C p g : Addr} {m : Str} {A : Around} {E : Value → Shared → Prop}
theorem getcsm_ok {b : Bool} {Q : Value → Shared → Prop} (I : Inv X pins σ H s) (k : SMet X.K C m p g) (h : ∀ s', Inv X pins σ H s' → Q (.ref g) s') : wpAny (model X.prog X.w) A (getAttr (.ref C) m b) Q E s := by
  obtain ⟨rest, hp⟩ := k.rc
  refine PySem.W.cls_bind I.kIn k.rd.rd k.cls ?_
  refine wpAny_call (PySem.W.sm_get (s := { s with toks := s.toks + 1 }) I.kIn hp (PySem.W.handed_on rfl ?_))
  exact h _ (I.tok _)
theorem getmethcs_ok {pl : Sem Bool} {Q : Value × List Value → Shared → Prop} (I : Inv X pins σ H s) (k : SMet X.K C m p g) (h : ∀ s', Inv X pins σ H s' → Q (.ref g, []) s') : wpAny (model X.prog X.w) A (getMethod (.ref C) m pl) Q E s :=
  PySem.W.method_cls I.kIn k.rd.ga (getcsm_ok I k h)
theorem getmethis_ok {pl : Sem Bool} {ox od : Obj} {Q : Value × List Value → Shared → Prop} (I : Inv X pins σ H s) (J : PySem.W.InstAt s.heap a ox C (some od)) (hl : PySem.W.lookIn m od = some none) (k : SMet X.K C m p g)
    (h : ∀ s', Inv X pins σ H s' → Q (.ref g, []) s') : wpAny (model X.prog X.w) A (getMethod (.ref a) m pl) Q E s := by
  obtain ⟨rest, hp⟩ := k.rc
  refine PySem.W.method_usual (r := some (.ref p)) I.kIn J (PySem.W.plainGet_of k.pg).1 (PySem.W.plainGet_of k.pg).2 k.at_ ?_ ?_
  · show ((PySem.W.typeIn X.K (.ref p)).any fun t => t != .type "function" && t != .type "method_descriptor" && t != .type "wrapper_descriptor") = true
    rw [k.ty]
    first
    | rfl
    | decide +kernel
  · refine PySem.W.get_bind I.kIn J (PySem.W.plainGet_of k.pg).1 (ClX.find_cm k.ic k.at_ k.get k.tk k.cp hl) (PySem.W.plainGet_of k.pg).2 ?_
    refine wpAny_call (PySem.W.sm_get (s := { s with toks := s.toks + 1 }) I.kIn hp (PySem.W.handed_on rfl ?_))
    exact h _ (I.tok _)
end
/-- e.m(..), e the class at C, m a static method -/
def tCalS (C : Addr) (sp : Sp) (E : L2.St → XK) (ta : TE) (t : TA) : TE := fun σ H Q => ta σ H fun x H1 => x = .ref C ∧ t σ H1 fun vs H2 => sp vs H2 Q (E σ)
/-- o.m(..), o an instance of the class at C -/
def tCalSI (C : Addr) (m : Str) (sp : Sp) (E : L2.St → XK) (ta : TE) (t : TA) : TE := fun σ H Q => ta σ H fun x H1 => ∃ a dx fs, x = .ref a ∧ H1 a = some (.ins C dx fs) ∧ fs.lookup m = none ∧ t σ H1 fun vs H2 => sp vs H2 Q (E σ)
section
variable {X : Cx} {CX : CXT} {k : Nat} {C : Addr} {sp : Sp} {E : L2.St → XK} {o e : Expr} {es : List Expr} {m : Str} {pos apos : Pos} {ta : TE} {t : TA} {pl : Sem Bool}
theorem pe_S (he : PE X o ta) (c : CalS X.prog X.w X.K X.mg X.base CX k C m sp) (hr : Room k X.A) (hx : ∀ σ, PassesAt CX X σ (E σ)) (ha : PA X (e :: es) t)
    (hst : starEach (e :: es) X.env = (false, eval e X.env) :: starEach es X.env := by rfl) (hpl : (backTo pos (starEach es X.env)).any (·.1) = false := by rfl)
    (ht : eval (.Call (.Attribute o m apos) (e :: es) [] pos) X.env = (do
      let ov ← eval o X.env
      standAt apos.atName
      let (f, first) ← holding [ov] (getMethod ov m pl)
      callWith pos f first (backTo pos (starEach (e :: es) X.env)) (backToKw pos (keywordEach [] X.env))) := by rfl) :
    PE X (.Call (.Attribute o m apos) (e :: es) [] pos) (tCalS C sp E ta t) := by
  obtain ⟨p, g, c, F, hk⟩ := c
  refine ⟨fun pins s σ H Q I h => ?_⟩
  refine PySem.W.methodCall_KW (pl := pl) (thn (he.run pins s σ H _ I h) fun u s1 ⟨x, H1, I1, rx, ex, q⟩ => ?_) ht
  subst ex
  obtain rfl : u = Value.ref C := rx
  refine getmethcs_ok I1 c fun s2 I2 => ?_
  refine PySem.W.callWith_K (h₀ := X.base) I.ok.mod.kin hk (thn (ha.run pos pins s2 σ H1 _ I2 q) fun us s3 ⟨vs, H2, I3, r, q2⟩ => ⟨I3.kIn, ?_⟩) hst hpl
  exact wpAny_call (run_fnRA F hr (hx σ) I3 r q2)
theorem pe_SI (he : PE X o ta) (c : CalS X.prog X.w X.K X.mg X.base CX k C m sp) (hr : Room k X.A) (hx : ∀ σ, PassesAt CX X σ (E σ)) (ha : PA X (e :: es) t)
    (hst : starEach (e :: es) X.env = (false, eval e X.env) :: starEach es X.env := by rfl) (hpl : (backTo pos (starEach es X.env)).any (·.1) = false := by rfl)
    (ht : eval (.Call (.Attribute o m apos) (e :: es) [] pos) X.env = (do
      let ov ← eval o X.env
      standAt apos.atName
      let (f, first) ← holding [ov] (getMethod ov m pl)
      callWith pos f first (backTo pos (starEach (e :: es) X.env)) (backToKw pos (keywordEach [] X.env))) := by rfl) :
    PE X (.Call (.Attribute o m apos) (e :: es) [] pos) (tCalSI C m sp E ta t) := by
  obtain ⟨p, g, c, F, hk⟩ := c
  refine ⟨fun pins s σ H Q I h => ?_⟩
  refine PySem.W.methodCall_KW (pl := pl) (thn (he.run pins s σ H _ I h) fun u s1 ⟨x, H1, I1, rx, a, dx, fs, ex, ea, l, q⟩ => ?_) ht
  subst ex
  obtain rfl : u = Value.ref a := rx
  obtain ⟨mA, O, rr, _, _, _⟩ := ins_get I1.hok ea
  have hn : mA m = none := RelO.none_of (by rw [← l]; exact rr m)
  obtain ⟨od, J, hl⟩ := O.look
  refine getmethis_ok I1 J (by rw [hl m, hn]) c fun s2 I2 => ?_
  refine PySem.W.callWith_K (h₀ := X.base) I.ok.mod.kin hk (thn (ha.run pos pins s2 σ H1 _ I2 q) fun us s3 ⟨vs, H2, I3, r, q2⟩ => ⟨I3.kIn, ?_⟩) hst hpl
  exact wpAny_call (run_fnRA F hr (hx σ) I3 r q2)
end
/-! ### == and != of data within a comprehension -/
theorem op_neDK {X : Cx} {K : PySem.W.Frag} (hK : X.K = K) (hu : X.A.units + 64 < cLine) : OpR X (compareOp .NotEq) (rNeD K) := by
  subst hK
  exact op_neD hu
theorem op_eqDK {X : Cx} {K : PySem.W.Frag} (hK : X.K = K) (hu : X.A.units + 64 < cLine) : OpR X (compareOp .Eq) (rEqD K) := by
  subst hK
  exact op_eqD hu
/-! ### is, is not of truth values -/
section
variable {X : Cx}
theorem op_isnotB : OpR X (compareOp .IsNot) (fun x y H Q => ∃ a b, x = .bl a ∧ y = .bl b ∧ Q (.bl (!decide (a = b))) H) := by
  intro pins s σ H x y v u Q I rx ry h
  obtain ⟨m, n, rfl, rfl, q⟩ := h
  cases (show v = Value.bool m from rx)
  cases (show u = Value.bool n from ry)
  by_cases e : m = n
  · subst e
    exact wpAny_isNot_self rfl ⟨.bl false, H, I, rfl, by simpa using q⟩
  · exact wpAny_isNot_other rfl (fun z => e (Value.bool.inj z)) ⟨.bl true, H, I, rfl, by simpa [e] using q⟩
end
/-! ### keyword-only defaults, some of them written -/
theorem FunD.part {K : PySem.W.Frag} {x qual : Str} {params : Arguments} {body : List Stmt} {scope : Scope} {kws kws' : List (Str × V)} {f : Addr} {fd : FuncData} (F : FunD K x qual params body scope [] kws f fd) (hk : kws ≠ []) (h : ∀ q ∈ kws', q ∈ kws) : FunD K x qual params body scope [] kws' f fd := by
  obtain ⟨oc, od, dV, kV, doc, pm, an, cdv, ct, osl, e, lk, hcd, hD, hK⟩ := F.ex
  rcases hK with e2 | ⟨D, rfl, hq⟩
  · exact absurd e2 hk
  · exact ⟨⟨oc, od, dV, .ref D, doc, pm, an, cdv, ct, osl, e, lk, hcd, hD, .inr ⟨D, rfl, fun q hm => hq q (h q hm)⟩⟩, F.kp⟩
theorem FunD.kb0 {K : PySem.W.Frag} {x qual : Str} {params : Arguments} {body : List Stmt} {scope : Scope} {kws : List (Str × V)} {f : Addr} {fd : FuncData} {ps : List Str} (F : FunD K x qual params body scope [] kws f fd) (n : Nat) (ks : List Str) (hk : kws ≠ [])
    (h : ∀ (D : Addr) (doc pm : Value) (an : Option Addr) (cdv ct : Value) (us ws js : List Value), us.length = n → ws.length = ks.length → js.length = kws.length →
      KwChain D ((kws.map (·.1)).zip js) (bindArgs (PySem.W.fnOf x qual params body scope .none (.ref D) doc pm an cdv ct) ⟨us, ks.zip ws⟩) (ps.zip (us ++ (ws ++ js)))) :
    ∃ js : List Value, KBn K fd ps n ks (fun us ws => us ++ (ws ++ js)) (fun vs zs => vs ++ (zs ++ kws.map (·.2))) := by
  obtain ⟨oc, od, dV, kV, doc, pm, an, cdv, ct, osl, rfl, lk, hcd, hD, hK⟩ := F.ex
  rcases hD with ⟨_, rfl⟩ | ⟨e, _⟩
  · rcases hK with e | ⟨D, rfl, hq⟩
    · exact absurd e hk
    · obtain ⟨js, hl, rk, hks⟩ := kwd_vals hq
      refine ⟨js, ⟨fun s us ws X l1 l2 => ?_, fun r1 r2 => r1.append (r2.append rk)⟩⟩
      exact BindsTo.of_looks fun M => KwChain.looks X hks (h D doc pm an cdv ct us ws js l1 l2 hl)
  · exact absurd rfl e
theorem CalS.of {P : Program} {w : World} {K : PySem.W.Frag} {mg : Str → Option Value} {base : Heap} {CX : CXT} {k : Nat} {C p g : Addr} {m : Str} {sp : Sp} {fd : FuncData} {ps : List Str} (M : SMet K C m p g) (F : FnOk P w K mg base CX k g fd ps sp) (hb : Binds K fd ps []) (hk : PySem.W.keepIn K (.ref g) = true) : CalS P w K mg base CX k C m sp := ⟨p, g, M, FnOk.raw0 F hb, hk⟩
end Np

set_option Elab.async false
set_option linter.all false
set_option maxRecDepth 100000
set_option maxHeartbeats 4000000
namespace Np
open PySem PySem.Spec PyProof.Rows L2
theorem ifb {b : Bool} {A B : Prop} (h1 : b = true → A) (h0 : b = false → B) : if b = true then A else B := by
  cases b with
  | true => exact iteT (h1 rfl)
  | false => exact iteF (h0 rfl)
/-! ### readings closed upwards; objects by their class alone -/
def tUp (t : TE) : TE := fun σ H Q => ∃ R : VK, t σ H R ∧ ∀ v H', R v H' → Q v H'
def taUp (t : TA) : TA := fun σ H Q => ∃ R : List V → Hp → Prop, t σ H R ∧ ∀ v H', R v H' → Q v H'
theorem PE.up {X : Cx} {e : Expr} {t : TE} (h : PE X e t) : PE X e (tUp t) := ⟨fun pins s σ H Q I ⟨R, h1, h2⟩ => thn (h.run pins s σ H R I h1) fun _ _ ⟨v, H', I', r, q⟩ => ⟨v, H', I', r, h2 _ _ q⟩⟩
theorem PA.up {X : Cx} {e : List Expr} {t : TA} (h : PA X e t) : PA X e (taUp t) := ⟨fun pos pins s σ H Q I ⟨R, h1, h2⟩ => thn (h.run pos pins s σ H R I h1) fun _ _ ⟨v, H', I', r, q⟩ => ⟨v, H', I', r, h2 _ _ q⟩⟩
theorem OpR.imp' {X : Cx} {f : Value → Value → Sem Value} {r r' : R2} (h : OpR X f r) (i : ∀ x y H Q, r' x y H Q → r x y H Q) : OpR X f r' := fun pins s σ H x y v u Q I rx ry q => h pins s σ H x y v u Q I rx ry (i _ _ _ _ q)
theorem CallR.imp' {X : Cx} {f : Value} {r r' : List V → Hp → VK → Prop} (h : CallR X f r) (i : ∀ xs H Q, r' xs H Q → r xs H Q) : CallR X f r' := fun pins s σ H xs us Q I rx q => h pins s σ H xs us Q I rx (i _ _ _ q)
def ObjAt (C : Addr) (fs : List Str) (H : Hp) (a : Addr) : Prop := ∃ dx ps, H a = some (.ins C dx ps) ∧ ∀ m : Str, m ∉ fs → ps.lookup m = none
theorem ObjAt.same {C : Addr} {fs : List Str} {H H' : Hp} {a : Addr} (S : Same H H') (h : ObjAt C fs H a) : ObjAt C fs H' a := let ⟨dx, ps, h1, h2⟩ := h; ⟨dx, ps, S _ _ h1, h2⟩
theorem lookup_out : ∀ {ps : List (Str × V)} {m : Str}, m ∉ ps.map Prod.fst → ps.lookup m = none
  | [], _, _ => rfl
  | (k, v) :: ps, m, h => by
    rw [List.lookup_cons]
    have h1 : (m == k) = false := by
      rw [beq_eq_false_iff_ne]
      rintro rfl
      exact h List.mem_cons_self
    rw [h1]
    exact lookup_out fun z => h (List.mem_cons_of_mem _ z)
theorem ObjAt.of {C : Addr} {fs : List Str} {H : Hp} {a dx : Addr} {ps : List (Str × V)} (h : H a = some (.ins C dx ps)) (e : ps.map Prod.fst = fs) : ObjAt C fs H a := ⟨dx, ps, h, fun m hm => lookup_out (by rw [e]; exact hm)⟩
theorem Same.back {A B C : Hp} (h : Same B C) (k : Same A B) : Same A C := k.trans h
theorem Same.at' {H H' : Hp} (S : Same H H') {p : Addr} {o : HO} (h : H p = some o) : H' p = some o := S _ _ h
def tTupN (t : TA) : TE := fun σ H Q => t σ H fun xs H1 => xs.length ≤ sizeLine ∧ ∀ p H2, H1 p = none → Same H1 H2 → H2 p = some (.tup xs) → Q (.ref p) H2
def tLstN (t : TA) : TE := fun σ H Q => t σ H fun xs H1 => xs.length ≤ sizeLine ∧ ∀ p H2, H1 p = none → Same H1 H2 → H2 p = some (.lst xs) → Q (.ref p) H2
section
variable {X : Cx} {es : List Expr} {t : TA} {pos : Pos}
theorem pe_tupN {x1} (h : PA X es t) : PE X (.Tuple es x1 pos) (tTupN t) := PE.imp (pe_tup (PA.up h)) fun _ _ _ q => ⟨_, q, fun _ _ ⟨l, k⟩ => ⟨l, fun p n => k p _ n (Same.new n) upd_same⟩⟩
theorem pe_lstN (h : PA X es t) : PE X (.List es pos) (tLstN t) := PE.imp (pe_lst (PA.up h)) fun _ _ _ q => ⟨_, q, fun _ _ ⟨l, k⟩ => ⟨l, fun p n => k p _ n (Same.new n) upd_same⟩⟩
end
section
variable {X : Cx} {CX : CXT} {k : Nat} {C : Addr} {fs : List Str} {sp : Sp} {E : L2.St → XK} {x m : Str} {p pos apos : Pos} {e o fe : Expr} {es : List Expr} {ta tf : TE} {t : TA}
def tCalMN (C : Addr) (fs : List Str) (sp : Sp) (E : L2.St → XK) (ta : TE) (t : TA) : TE := fun σ H Q => ta σ H fun x H1 => ∃ a, x = .ref a ∧ ObjAt C fs H1 a ∧ t σ H1 fun vs H2 => sp (x :: vs) H2 Q (E σ)
theorem pe_MN {pl : Sem Bool} (hn : m ∉ fs) (he : PE X o ta) (c : Cls X.K C) (cm : CalM X.prog X.w X.K X.mg X.base CX k C m sp) (hr : Room k X.A) (hx : ∀ σ, PassesAt CX X σ (E σ)) (ha : PA X (e :: es) t)
    (hst : starEach (e :: es) X.env = (false, eval e X.env) :: starEach es X.env := by rfl) (hpl : (backTo pos (starEach es X.env)).any (·.1) = false := by rfl)
    (ht : eval (.Call (.Attribute o m apos) (e :: es) [] pos) X.env = (do
      let ov ← eval o X.env
      standAt apos.atName
      let (f, first) ← holding [ov] (getMethod ov m pl)
      callWith pos f first (backTo pos (starEach (e :: es) X.env)) (backToKw pos (keywordEach [] X.env))) := by rfl) :
    PE X (.Call (.Attribute o m apos) (e :: es) [] pos) (tCalMN C fs sp E ta t) :=
  PE.imp (pe_M (PE.up he) c cm hr hx (PA.up ha) hst hpl ht) fun _ _ _ q => ⟨_, q, fun _ _ ⟨a, e, ⟨dx, ps, h1, h2⟩, k⟩ => ⟨a, dx, ps, e, h1, h2 _ hn, _, k, fun _ _ z => z⟩⟩
theorem pe_M0N {pl : Sem Bool} (hn : m ∉ fs) (he : PE X o ta) (c : Cls X.K C) (cm : CalM X.prog X.w X.K X.mg X.base CX k C m sp) (hr : Room k X.A) (hx : ∀ σ, PassesAt CX X σ (E σ))
    (ht : eval (.Call (.Attribute o m apos) [] [] pos) X.env = (do
      let ov ← eval o X.env
      standAt apos.atName
      let (f, first) ← holding [ov] (getMethod ov m pl)
      callWith pos f first (backTo pos (starEach [] X.env)) (backToKw pos (keywordEach [] X.env))) := by rfl) :
    PE X (.Call (.Attribute o m apos) [] [] pos) (tCalMN C fs sp E ta tNil) :=
  PE.imp (pe_M0 (PE.up he) c cm hr hx ht) fun _ _ _ q => ⟨_, q, fun _ _ ⟨a, e, ⟨dx, ps, h1, h2⟩, k⟩ => ⟨a, dx, ps, e, h1, h2 _ hn, k⟩⟩
def tCalPN (C : Addr) (fs : List Str) (sp : Sp) (ta : TE) : TE := fun σ H Q => ta σ H fun x H1 => ∃ a, x = .ref a ∧ ObjAt C fs H1 a ∧ sp [.ref a] H1 Q E0
theorem pe_PN {fs : List Str} (he : PE X o ta) (c : Cls X.K C) (cp : CalP X.prog X.w X.K X.mg X.base CX0 k C m sp) (hr : Room (k + 1) X.A) (hab : attributeBase o m X.env (eval o X.env) = eval o X.env := by rfl) : PE X (.Attribute o m pos) (tCalPN C fs sp ta) :=
  PE.imp (pe_P (PE.up he) c cp hr hab) fun _ _ _ q => ⟨_, q, fun _ _ ⟨a, e, ⟨dx, ps, h1, _⟩, k⟩ => ⟨a, dx, ps, e, h1, k⟩⟩
def tCalON (C : Addr) (fs : List Str) (sp : Sp) (E : L2.St → XK) (tf : TE) (t : TA) : TE := fun σ H Q => tf σ H fun y H1 => ∃ a, y = V.ref a ∧ t σ H1 fun vs H2 => ObjAt C fs H2 a ∧ sp (V.ref a :: vs) H2 Q (E σ)
theorem pe_ON {fs : List Str} (hf : PE X fe tf) (c : CalO X.prog X.w X.K X.mg X.base CX k C sp) (hr : Room k X.A) (hx : ∀ σ, PassesAt CX X σ (E σ)) (ha : PA X (e :: es) t)
    (ht : eval (.Call fe (e :: es) [] pos) X.env = (do callWith pos (← eval fe X.env) [] (backTo pos (starEach (e :: es) X.env)) (backToKw pos (keywordEach [] X.env))) := by rfl)
    (he : starEach (e :: es) X.env = (false, eval e X.env) :: starEach es X.env := by rfl) (hpl : (backTo pos (starEach es X.env)).any (·.1) = false := by rfl) : PE X (.Call fe (e :: es) [] pos) (tCalON C fs sp E tf t) :=
  PE.imp (pe_O (PE.up hf) c hr hx (PA.up ha) ht he hpl) fun _ _ _ q => ⟨_, q, fun _ _ ⟨a, e, k⟩ => ⟨a, e, _, k, fun _ _ ⟨⟨dx, ps, h1, _⟩, z⟩ => ⟨⟨dx, ps, h1⟩, z⟩⟩⟩
end
theorem TyX.ownN {K : PySem.W.Frag} {H : Hp} {C a dx : Addr} {fs : List (Str × V)} (c : Cls K C) (i : IsiC K C) (h : H a = some (.ins C dx fs)) : TyX K H (.ref a) (.ref C) := .base (.ins h c i.ha i.hn i.htk i.hm)
theorem nf_selfN {K : PySem.W.Frag} {C : Addr} : PySem.W.notFirst K C (.ref C) = true := by
  unfold PySem.W.notFirst
  rw [beq_iff_eq.mpr rfl]
  rfl
/-- == of two instances of one class -/
def rEqN (C : Addr) (fs : List Str) (sp : Sp) (g : Bool → Bool) : R2 := fun x y H Q => ∃ a b, x = .ref a ∧ y = .ref b ∧ ObjAt C fs H a ∧ ObjAt C fs H b ∧ sp [.ref a, .ref b] H (fun v H' => ∃ c, v = .bl c ∧ Q (.bl (g c)) H') E0
section
variable {X : Cx} {k : Nat} {C : Addr} {sp : Sp} {fs : List Str}
theorem op_eqN {K : PySem.W.Frag} (hK : X.K = K) (cl : Cls K C) (isi : IsiC K C) (c : CalM X.prog X.w X.K X.mg X.base CX0 k C "__eq__" sp) (hr : Room k X.A) : OpR X (compareOp .Eq) (rEqN C fs sp id) :=
  OpR.imp' (op_eqOK hK c hr) fun _ _ _ _ ⟨a, b, e1, e2, ⟨dx, ps, h1, _⟩, ⟨dy, qs, h2, _⟩, k⟩ => ⟨a, dx, ps, _, e1, h1, by rw [e2]; exact TyX.ownN cl isi h2, nf_selfN, by rw [e2]; exact k⟩
theorem op_neN {K : PySem.W.Frag} (hK : X.K = K) (cl : Cls K C) (isi : IsiC K C) (c : CalM X.prog X.w X.K X.mg X.base CX0 k C "__eq__" sp) (nc : NeC K C) (hr : Room (k + 1) X.A) : OpR X (compareOp .NotEq) (rEqN C fs sp not) :=
  OpR.imp' (op_neOK hK c nc hr) fun _ _ _ _ ⟨a, b, e1, e2, ⟨dx, ps, h1, _⟩, ⟨dy, qs, h2, _⟩, k⟩ => ⟨a, dx, ps, _, e1, h1, by rw [e2]; exact TyX.ownN cl isi h2, nf_selfN, by rw [e2]; exact k⟩
/-- a - b .. of two instances of one class -/
def rBinN (C : Addr) (fs : List Str) (sp : Sp) : R2 := fun x y H Q => ∃ a b, x = .ref a ∧ y = .ref b ∧ ObjAt C fs H a ∧ ObjAt C fs H b ∧ sp [.ref a, .ref b] H Q E0
theorem op_binN {op : Operator} (c : CalM X.prog X.w X.K X.mg X.base CX0 k C (PySem.dunder op.info.2) sp) (sf : PySem.W.selfFirst X.K C = true) (hr : Room k X.A) : OpR X (binaryOp op) (rBinN C fs sp) :=
  OpR.imp' (op_binO c sf hr) fun _ _ _ _ ⟨a, b, e1, e2, ⟨dx, ps, h1, _⟩, ⟨dy, qs, h2, _⟩, k⟩ => ⟨b, dy, qs, e2, h2, a, dx, ps, e1, h1, by rw [e2]; exact k⟩
end
/-! ### comprehensions and loops over a sequence that stays -/
section
variable {K : PySem.W.Frag} {α : Type} {g : TG} {tt : TT} {te : TE} {vs : List Nat} {σ : L2.St} {H1 : Hp} {a : Addr} {l : List α} {enc : α → V}
theorem enc_at {i : Nat} {x : V} {b : α} (h : l[i]? = some b) (e : (l.map enc)[i]? = some x) : x = enc b := by
  rw [List.getElem?_map, h] at e
  exact (Option.some.inj e).symm
/-- items that are objects: R holds of them also without the new list -/
theorem lcBr {J : It} {n : Nat} {G : Hp → Prop} {Y : Nat → Hp → V → Hp → Prop} {Qd : Addr → Hp → Prop} (w : Walk J n G Y) (hn : l.length = n) (hG : ∀ H, Same H1 H → G H) (p : α → Bool) (R : Hp → V → α → Prop) (hR : ∀ {H H' : Hp} {v : V} {a : α}, Same H H' → R H v a → R H' v a) (hH : ∀ {H : Hp} {D : Addr} {acc : List V} {v : V} {a : α}, H D = some (.lst acc) → R H v a → R (hide D H) v a) (hz : l.length ≤ 1000)
    (hs : ∀ i x v H H', l[i]? = some x → Same H1 H → Y i H v H' → ∀ (NT : V → Hp → Prop) (NF : Hp → Prop), (∀ y H4, Same H H4 → R H4 y x → p x = true → NT y H4) → (∀ H3, Same H H3 → p x = false → NF H3) →
      g v (wipe σ vs) H' fun σ2 H2 => wipe σ2 vs = wipe σ vs ∧ tt σ2 H2 fun b H3 => if b = true then te σ2 H3 NT else NF H3)
    (hd : ∀ D H ys, H1 D = none → Same H1 H → H D = some (.lst ys) → Paired (R H) ys (l.filter p) → Qd D H) :
    ∀ D, H1 D = none → ∃ W : Nat → Nat → Hp → Prop, (∃ m, W 0 m (upd H1 D (.lst []))) ∧ ∀ i m H, W i m H →
      (J.stop i H ∧ Qd D H) ∨ (J.go i H ∧ ∃ Nx : Hp → Prop, (∀ H', Nx H' → ∃ m', m' < m ∧ W (i + 1) m' H') ∧ ∀ x H', J.yld i H x H' → g x (wipe σ vs) H' fun σ2 H2 => wipe σ2 vs = wipe σ vs ∧ tt σ2 H2 fun b H3 =>
        if b = true then te σ2 H3 fun y H4 => ∃ acc, H4 D = some (.lst acc) ∧ acc.length < sizeLine ∧ Nx (upd H4 D (.lst (acc ++ [y]))) else Nx H3) := fun D hD => by
  refine lc_it w (fun i H => ∃ ys, H D = some (.lst ys) ∧ Same H1 (hide D H) ∧ Paired (R (hide D H)) ys ((l.take i).filter p)) ?_ ?_ ?_ ?_
  · exact ⟨[], upd_same, hide_start hD, .nil⟩
  · rintro i H hi ⟨ys, h1, h2, h3⟩
    exact hG _ (h2.trans (hide_same D H))
  · rintro i x H H' hi ⟨ys, h1, h2, h3⟩ y
    have hl : i < l.length := by omega
    have ha : l[i]? = some l[i] := List.getElem?_eq_getElem hl
    have hlen : ys.length ≤ 1000 := by
      rw [paired_len h3]
      refine Nat.le_trans (List.length_filter_le _ _) ?_
      rw [List.length_take]
      omega
    refine hs i l[i] x H H' ha (h2.trans (hide_same D H)) y _ _ ?_ ?_
    · intro v H4 s r hp
      have f : (l.take (i + 1)).filter p = (l.take i).filter p ++ [l[i]] := by
        rw [take_succ_of ha, List.filter_append]
        simp [hp]
      refine ⟨ys, s _ _ h1, small1000 hlen, ys ++ [v], upd_same, same_hide hD h2 s, ?_⟩
      rw [f]
      exact Paired.snoc (Paired.mapP h3 fun _ _ z => hR ((hide_mono0 s).trans hide_up) z) (hR hide_up (hH (s _ _ h1) r))
    · intro H3 s hp
      have f : (l.take (i + 1)).filter p = (l.take i).filter p := by
        rw [take_succ_of ha, List.filter_append]
        simp [hp]
      refine ⟨ys, s _ _ h1, same_hide0 hD h2 s, ?_⟩
      rw [f]
      exact Paired.mapP h3 fun _ _ z => hR (hide_mono0 s) z
  · rintro H ⟨ys, h1, h2, h3⟩
    have e : l.take n = l := by rw [← hn, List.take_length]
    rw [e] at h3
    exact hd D H ys hD (h2.trans (hide_same D H)) h1 (Paired.mapP h3 fun _ _ z => hR (hide_same D H) z)
/-- enumerate(..): the pairs, new -/
theorem lcE {t : Bool} {Qd : Addr → Hp → Prop} (hx : SqB K t H1 a (l.map enc)) (p : Nat → α → Bool) (f : Nat → α → V) (hz : l.length ≤ 1000)
    (hs : ∀ i x, l[i]? = some x → ∀ H T, Same H1 H → H T = some (.tup [.int (i : Nat), enc x]) → ∀ (NT : V → Hp → Prop) (NF : Hp → Prop), (∀ H4, Same H H4 → p i x = true → NT (f i x) H4) → (∀ H3, Same H H3 → p i x = false → NF H3) →
      g (.ref T) (wipe σ vs) H fun σ2 H2 => wipe σ2 vs = wipe σ vs ∧ tt σ2 H2 fun b H3 => if b = true then te σ2 H3 NT else NF H3)
    (hd : ∀ D H, H1 D = none → Same H1 H → H D = some (.lst ((l.zipIdx.filter fun z => p z.2 z.1).map fun z => f z.2 z.1)) → Qd D H) :
    ∀ D, H1 D = none → ∃ W : Nat → Nat → Hp → Prop, (∃ m, W 0 m (upd H1 D (.lst []))) ∧ ∀ i m H, W i m H →
      ((IteB K t a).stop i H ∧ Qd D H) ∨ ((IteB K t a).go i H ∧ ∃ Nx : Hp → Prop, (∀ H', Nx H' → ∃ m', m' < m ∧ W (i + 1) m' H') ∧ ∀ x H', (IteB K t a).yld i H x H' → g x (wipe σ vs) H' fun σ2 H2 => wipe σ2 vs = wipe σ vs ∧ tt σ2 H2 fun b H3 =>
        if b = true then te σ2 H3 fun y H4 => ∃ acc, H4 D = some (.lst acc) ∧ acc.length < sizeLine ∧ Nx (upd H4 D (.lst (acc ++ [y]))) else Nx H3) := fun D hD =>
  lc_val (walk_enumB (K := K) (t := t) (xs := l.map enc)) hD l.zipIdx (fun z => p z.2 z.1) (fun z => f z.2 z.1) (by rw [List.length_map, List.length_zipIdx]) (by rw [List.length_map]; exact hz) (fun H S => SqB.same hx S)
    (fun i b v H H' hb S nD ⟨T, x1, x2, e0, hT, e1, e2, e3⟩ NT NF yes no => by
      subst e0 e1
      obtain ⟨b1, j⟩ := b
      rw [List.getElem?_zipIdx] at hb
      cases hi : l[i]? with
      | none => rw [hi] at hb; cases hb
      | some b2 =>
        rw [hi] at hb
        cases hb
        have e2 : x1 = .int (i : Nat) := (Option.some.inj e2).symm
        have e3 : x2 = enc b1 := enc_at hi e3
        rw [Nat.zero_add] at yes no
        subst e2 e3
        exact hs i b1 hi _ T (S.trans (Same.new hT)) upd_same NT NF (fun H4 s h => yes H4 ((Same.new hT).trans s) h) (fun H4 s h => no H4 ((Same.new hT).trans s) h)) (fun H S h => hd D H hD S h)
/-- range(n) -/
theorem lcR {n : Nat} {Qd : Addr → Hp → Prop} (p : Nat → Bool) (f : Nat → V) (hz : n ≤ 1000)
    (hs : ∀ i, i < n → ∀ H, Same H1 H → ∀ (NT : V → Hp → Prop) (NF : Hp → Prop), (∀ H4, Same H H4 → p i = true → NT (f i) H4) → (∀ H3, Same H H3 → p i = false → NF H3) →
      g (vN i) (wipe σ vs) H fun σ2 H2 => wipe σ2 vs = wipe σ vs ∧ tt σ2 H2 fun b H3 => if b = true then te σ2 H3 NT else NF H3)
    (hd : ∀ D H, H1 D = none → Same H1 H → H D = some (.lst (((List.range n).filter p).map f)) → Qd D H) :
    ∀ D, H1 D = none → ∃ W : Nat → Nat → Hp → Prop, (∃ m, W 0 m (upd H1 D (.lst []))) ∧ ∀ i m H, W i m H →
      ((Itr 0 n).stop i H ∧ Qd D H) ∨ ((Itr 0 n).go i H ∧ ∃ Nx : Hp → Prop, (∀ H', Nx H' → ∃ m', m' < m ∧ W (i + 1) m' H') ∧ ∀ x H', (Itr 0 n).yld i H x H' → g x (wipe σ vs) H' fun σ2 H2 => wipe σ2 vs = wipe σ vs ∧ tt σ2 H2 fun b H3 =>
        if b = true then te σ2 H3 fun y H4 => ∃ acc, H4 D = some (.lst acc) ∧ acc.length < sizeLine ∧ Nx (upd H4 D (.lst (acc ++ [y]))) else Nx H3) := fun D hD =>
  lc_val walk_range hD (List.range n) p f (by rw [List.length_range]) hz (fun _ _ => trivial)
    (fun i b v H H' hb S nD ⟨e1, e2⟩ NT NF yes no => by
      subst e1
      obtain ⟨h1, h2⟩ := List.getElem?_eq_some_iff.mp hb
      rw [List.getElem_range] at h2
      subst h2
      rw [show v = vN i from e2.trans (congrArg V.int (by omega))]
      exact hs i (by simpa using h1) _ S NT NF yes no) (fun H S h => hd D H hD S h)
end
section
variable {K : PySem.W.Frag} {α : Type} {g : TG} {tb : TS} {D : Ends} {σ : L2.St} {H : Hp} {a : Addr} {l : List α} {enc : α → V}
/-- for x in ..: inv of what is done -/
theorem forB {t : Bool} (inv : List α → L2.St → Hp → Prop) (h0 : inv [] σ H) (hG : ∀ d σ H, inv d σ H → SqB K t H a (l.map enc))
    (hs : ∀ d x r σ H, l = d ++ x :: r → inv d σ H → g (enc x) σ H fun σ2 H2 => tb { D with nx := inv (d ++ [x]), ct := inv (d ++ [x]), bk := D.nx } σ2 H2) (hd : ∀ σ H, inv l σ H → D.nx σ H) :
    ∃ W : Nat → Nat → L2.St → Hp → Prop, (∃ m, W 0 m σ H) ∧ ∀ i m σ H, W i m σ H →
      ((Itb K t a).stop i H ∧ D.nx σ H) ∨ ((Itb K t a).go i H ∧ ∃ N : L2.St → Hp → Prop, (∀ σ' H', N σ' H' → ∃ m', m' < m ∧ W (i + 1) m' σ' H') ∧ ∀ x H', (Itb K t a).yld i H x H' → g x σ H' fun σ2 H2 => tb { D with nx := N, ct := N, bk := D.nx } σ2 H2) :=
  for_it (walk_sq (K := K) (t := t) (xs := l.map enc)) (fun i σ H => inv (l.take i) σ H) h0 (fun i σ H _ h => hG _ _ _ h)
    (fun i x σ H H' hi h ⟨e, hv⟩ => by
      subst e
      rw [List.length_map] at hi
      have hb := List.getElem?_eq_getElem hi
      rw [enc_at hb hv, take_succ_of hb]
      refine hs (l.take i) l[i] (l.drop (i + 1)) σ _ ?_ h
      rw [List.getElem_cons_drop, List.take_append_drop]) (fun σ H h => by rw [List.length_map, List.take_length] at h; exact hd _ _ h)
theorem forE {t : Bool} (inv : List α → L2.St → Hp → Prop) (h0 : inv [] σ H) (hG : ∀ d σ H, inv d σ H → SqB K t H a (l.map enc))
    (hs : ∀ d x r σ H H' T, l = d ++ x :: r → inv d σ H → Same H H' → H T = none → H' T = some (.tup [vN d.length, enc x]) → g (.ref T) σ H' fun σ2 H2 => tb { D with nx := inv (d ++ [x]), ct := inv (d ++ [x]), bk := D.nx } σ2 H2) (hd : ∀ σ H, inv l σ H → D.nx σ H) :
    ∃ W : Nat → Nat → L2.St → Hp → Prop, (∃ m, W 0 m σ H) ∧ ∀ i m σ H, W i m σ H →
      ((IteB K t a).stop i H ∧ D.nx σ H) ∨ ((IteB K t a).go i H ∧ ∃ N : L2.St → Hp → Prop, (∀ σ' H', N σ' H' → ∃ m', m' < m ∧ W (i + 1) m' σ' H') ∧ ∀ x H', (IteB K t a).yld i H x H' → g x σ H' fun σ2 H2 => tb { D with nx := N, ct := N, bk := D.nx } σ2 H2) :=
  for_it (walk_enumB (K := K) (t := t) (xs := l.map enc)) (fun i σ H => inv (l.take i) σ H) h0 (fun i σ H _ h => hG _ _ _ h)
    (fun i x σ H H' hi h ⟨T, x1, x2, e0, hT, e1, e2, e3⟩ => by
      subst e0 e1
      rw [List.length_map] at hi
      have hb := List.getElem?_eq_getElem hi
      have e2 : x1 = vN i := (Option.some.inj e2).symm
      have e4 : (l.take i).length = i := by rw [List.length_take]; omega
      have q := hs (l.take i) l[i] (l.drop (i + 1)) σ H (upd H T (.tup [x1, x2])) T (by rw [List.getElem_cons_drop, List.take_append_drop]) h (Same.new hT) hT (by rw [upd_same, e2, e4, enc_at hb e3])
      rw [take_succ_of hb]
      exact q) (fun σ H h => by rw [List.length_map, List.take_length] at h; exact hd _ _ h)
theorem forR {n : Nat} (inv : Nat → L2.St → Hp → Prop) (h0 : inv 0 σ H)
    (hs : ∀ i σ H, i < n → inv i σ H → g (vN i) σ H fun σ2 H2 => tb { D with nx := inv (i + 1), ct := inv (i + 1), bk := D.nx } σ2 H2) (hd : ∀ σ H, inv n σ H → D.nx σ H) :
    ∃ W : Nat → Nat → L2.St → Hp → Prop, (∃ m, W 0 m σ H) ∧ ∀ i m σ H, W i m σ H →
      ((Itr 0 n).stop i H ∧ D.nx σ H) ∨ ((Itr 0 n).go i H ∧ ∃ N : L2.St → Hp → Prop, (∀ σ' H', N σ' H' → ∃ m', m' < m ∧ W (i + 1) m' σ' H') ∧ ∀ x H', (Itr 0 n).yld i H x H' → g x σ H' fun σ2 H2 => tb { D with nx := N, ct := N, bk := D.nx } σ2 H2) :=
  for_it walk_range inv h0 (fun _ _ _ _ _ => trivial)
    (fun i x σ H H' hi h ⟨e1, e2⟩ => by
      subst e1
      rw [show x = vN i from e2.trans (congrArg V.int (by omega))]
      exact hs i σ _ hi h) hd
end
theorem SqT.hideL {K : PySem.W.Frag} {H : Hp} {D T : Addr} {acc xs : List V} (h : H D = some (.lst acc)) (q : SqT K H T xs) : SqT K (hide D H) T xs := by
  rcases q with (q | ⟨o, q⟩) | q
  · exact .inl (.inl (by rw [hide_ne (ne_of q h (fun z => nomatch z))]; exact q))
  · exact .inl (.inr ⟨o, by rw [hide_ne (ne_of q h (fun z => nomatch z))]; exact q⟩)
  · exact .inr q
theorem sqB_f {K : PySem.W.Frag} {H : Hp} {T : Addr} {xs : List V} (q : SqT K H T xs) : SqB K false H T xs := q
theorem sqB_t {K : PySem.W.Frag} {H : Hp} {T : Addr} {xs : List V} (q : SqL K H T xs) : SqB K true H T xs := q
theorem PairsAt.hideL {K : PySem.W.Frag} {H : Hp} {D : Addr} {acc : List V} {ns : List Addr} {W : List (Str × Str)} (h : H D = some (.lst acc)) (q : PairsAt K H ns W) : PairsAt K (hide D H) ns W := Paired.mapP q fun _ _ z => SqT.hideL h z
end Np
namespace Np
open PySem PySem.Spec PyProof.Rows L2
theorem call_tupleN {X : Cx} {K : PySem.W.Frag} (h : X.K = K) : CallR X (.type "tuple") (fun xs H Q => ∃ p ys, xs = [.ref p] ∧ (SqL K H p ys ∨ SqT K H p ys) ∧ ∀ q H', Same H H' → SqT K H' q ys → Q (.ref q) H') :=
  CallR.imp' (call_tuple_ofK h) fun xs H Q ⟨p, ys, e, h1, k⟩ => ⟨p, ys, e, h1.elim (fun h => .inl ⟨h, fun l n => k l _ (Same.new n) (SqT.of upd_same)⟩) fun h => .inr ⟨h, k p H (Same.refl _) h⟩⟩
def rOwnN (C : Addr) (fs : List Str) (sp : Sp) (ws : List V) (o : V) (H : Hp) (Q : VK) : Prop := ∃ a, o = .ref a ∧ ObjAt C fs H a ∧ sp (.ref a :: ws) H Q E0
theorem rOwnN.old {C : Addr} {fs : List Str} {sp : Sp} {ws : List V} {o : V} {H : Hp} {Q : VK} (h : rOwnN C fs sp ws o H Q) : rOwn C sp ws o H Q := let ⟨a, e, ⟨dx, ps, h1, _⟩, k⟩ := h; ⟨a, dx, ps, e, h1, k⟩
section
variable {X : Cx} {k : Nat} {C : Addr} {sp : Sp} {fs : List Str}
theorem op_inN (c : CalM X.prog X.w X.K X.mg X.base CX0 k C "__contains__" sp) (hr : Room k X.A) : OpR X (compareOp .In) (fun y o H Q => rOwnN C fs sp [y] o H fun v H' => ∃ t, v = .bl t ∧ Q (.bl t) H') := OpR.imp' (op_inO c hr) fun _ _ _ _ h => h.old
theorem op_ninN (c : CalM X.prog X.w X.K X.mg X.base CX0 k C "__contains__" sp) (hr : Room k X.A) : OpR X (compareOp .NotIn) (fun y o H Q => rOwnN C fs sp [y] o H fun v H' => ∃ t, v = .bl t ∧ Q (.bl (!t)) H') := OpR.imp' (op_ninO c hr) fun _ _ _ _ h => h.old
theorem call_lenN (c : CalM X.prog X.w X.K X.mg X.base CX0 k C "__len__" sp) (hr : Room (k + 1) X.A) : CallR X (.builtin "len") (fun xs H Q => ∃ o, xs = [o] ∧ rOwnN C fs sp [] o H fun v H' => IsLen v ∧ Q v H') := CallR.imp' (call_lenO c hr) fun _ _ _ ⟨o, e, h⟩ => ⟨o, e, h.old⟩
theorem call_reprN (c : CalM X.prog X.w X.K X.mg X.base CX0 k C "__repr__" sp) (hr : Room (k + 1) X.A) : CallR X (.builtin "repr") (fun xs H Q => ∃ o, xs = [o] ∧ rOwnN C fs sp [] o H fun v H' => (∃ t, v = .str t) ∧ Q v H') := CallR.imp' (call_reprO c hr) fun _ _ _ ⟨o, e, h⟩ => ⟨o, e, h.old⟩
theorem un_negN (c : CalM X.prog X.w X.K X.mg X.base CX0 k C "__neg__" sp) (hr : Room k X.A) : UnR X (unaryOp .USub) (rOwnN C fs sp []) := fun pins s σ H x v Q I rx q => un_negO c hr pins s σ H x v Q I rx q.old
theorem tru_boolN (c : CalM X.prog X.w X.K X.mg X.base CX0 k C "__bool__" sp) (hr : Room k X.A) : TruR X fun o H Q => rOwnN C fs sp [] o H fun v H' => ∃ t, v = .bl t ∧ Q t H' := fun pins s σ H x v Q I rx q => tru_boolO c hr pins s σ H x v Q I rx q.old
end
end Np

set_option Elab.async false
set_option linter.all false
set_option maxRecDepth 100000
set_option maxHeartbeats 4000000
namespace Np
open PySem PySem.Spec PyProof.Rows L2
/-! ### a new list that grows within a comprehension -/
/-- what a relation between values and things must bear: later heaps, and that the list itself is hidden -/
structure Bears {γ : Type} (R : Hp → V → γ → Prop) : Prop where
  up : ∀ {H H' : Hp} {v : V} {c : γ}, Same H H' → R H v c → R H' v c
  hid : ∀ {H : Hp} {D : Addr} {acc : List V} {v : V} {c : γ}, H D = some (.lst acc) → R H v c → R (hide D H) v c
def Acc {γ : Type} (R : Hp → V → γ → Prop) (H1 : Hp) (D : Addr) (done : List γ) (H : Hp) : Prop := ∃ ys, H D = some (.lst ys) ∧ Same H1 (hide D H) ∧ Paired (R (hide D H)) ys done
section
variable {γ : Type} {R : Hp → V → γ → Prop} {H1 H H' : Hp} {D : Addr} {done : List γ}
theorem Acc.start (hD : H1 D = none) : Acc R H1 D ([] : List γ) (upd H1 D (.lst [])) := ⟨[], upd_same, hide_start hD, .nil⟩
theorem Acc.old (h : Acc R H1 D done H) : Same H1 H := let ⟨_, _, s, _⟩ := h; s.trans (hide_same D H)
theorem Acc.same (b : Bears R) (hD : H1 D = none) (h : Acc R H1 D done H) (s : Same H H') : Acc R H1 D done H' := by
  obtain ⟨ys, h1, h2, h3⟩ := h
  exact ⟨ys, s _ _ h1, same_hide0 hD h2 s, Paired.mapP h3 fun _ _ z => b.up (hide_mono0 s) z⟩
theorem Acc.add (b : Bears R) (hD : H1 D = none) (h : Acc R H1 D done H) (s : Same H H') {v : V} {c : γ} (r : R H' v c) (hz : done.length ≤ 1000000) :
    ∃ acc, H' D = some (.lst acc) ∧ acc.length < sizeLine ∧ Acc R H1 D (done ++ [c]) (upd H' D (.lst (acc ++ [v]))) := by
  obtain ⟨ys, h1, h2, h3⟩ := h
  have h4 := s _ _ h1
  refine ⟨ys, h4, (by rw [paired_len h3, sizeLine_eq]; omega), ys ++ [v], upd_same, same_hide hD h2 s, ?_⟩
  exact Paired.snoc (Paired.mapP h3 fun _ _ z => b.up ((hide_mono0 s).trans hide_up) z) (b.up hide_up (b.hid h4 r))
theorem Acc.out (b : Bears R) (h : Acc R H1 D done H) : ∃ ys, H D = some (.lst ys) ∧ Same H1 H ∧ Paired (R H) ys done := by
  obtain ⟨ys, h1, h2, h3⟩ := h
  exact ⟨ys, h1, h2.trans (hide_same D H), Paired.mapP h3 fun _ _ z => b.up (hide_same D H) z⟩
end
/-- the second source's loop -/
theorem inB {K : PySem.W.Frag} {α : Type} {t : Bool} {a : Addr} {l : List α} {enc : α → V} {g : TG} {tt : TT} {te : TE} {vs : List Nat} {σ : L2.St} {H0 : Hp} {D : Addr} {Nx : Hp → Prop} (inv : List α → Hp → Prop) (h0 : inv [] H0) (hG : ∀ d H, inv d H → SqB K t H a (l.map enc))
    (hs : ∀ d x r H, l = d ++ x :: r → inv d H → g (enc x) (wipe σ vs) H fun σ3 H5 => wipe σ3 vs = wipe σ vs ∧ tt σ3 H5 fun b H6 =>
      if b = true then te σ3 H6 fun y H7 => ∃ acc, H7 D = some (.lst acc) ∧ acc.length < sizeLine ∧ inv (d ++ [x]) (upd H7 D (.lst (acc ++ [y]))) else inv (d ++ [x]) H6)
    (hd : ∀ H, inv l H → Nx H) : ∃ W1 : Nat → Nat → Hp → Prop, (∃ m, W1 0 m H0) ∧ ∀ j k H, W1 j k H →
      ((Itb K t a).stop j H ∧ Nx H) ∨ ((Itb K t a).go j H ∧ ∃ Nx1 : Hp → Prop, (∀ H', Nx1 H' → ∃ k', k' < k ∧ W1 (j + 1) k' H') ∧ ∀ x H', (Itb K t a).yld j H x H' → g x (wipe σ vs) H' fun σ3 H5 => wipe σ3 vs = wipe σ vs ∧ tt σ3 H5 fun b H6 =>
        if b = true then te σ3 H6 fun y H7 => ∃ acc, H7 D = some (.lst acc) ∧ acc.length < sizeLine ∧ Nx1 (upd H7 D (.lst (acc ++ [y]))) else Nx1 H6) := by
  have w := walk_sq (K := K) (t := t) (a := a) (xs := l.map enc)
  rw [List.length_map] at w
  refine ⟨fun i m H => m = l.length - i ∧ i ≤ l.length ∧ inv (l.take i) H, ⟨l.length, by simp, Nat.zero_le _, h0⟩, ?_⟩
  rintro i m H ⟨rfl, hi, p⟩
  have q := hG _ H p
  by_cases hlt : i < l.length
  · refine .inr ⟨w.goes i H hlt q, inv (l.take (i + 1)), fun H' p' => ⟨l.length - (i + 1), by omega, rfl, hlt, p'⟩, fun x H' y => ?_⟩
    obtain ⟨e, hv⟩ := w.yields i H x H' hlt q y
    subst e
    have hb := List.getElem?_eq_getElem hlt
    rw [enc_at hb hv, take_succ_of hb]
    exact hs (l.take i) l[i] (l.drop (i + 1)) _ (by rw [List.getElem_cons_drop, List.take_append_drop]) p
  · have e : i = l.length := by omega
    subst e
    rw [List.take_length] at p
    exact .inl ⟨w.stops H q, hd H p⟩
/-- a comprehension by an invariant of what is done (the first or the only source) -/
theorem lcI {K : PySem.W.Frag} {α : Type} {t : Bool} {a : Addr} {l : List α} {enc : α → V} {g : TG} {vs : List Nat} {σ : L2.St} {H1 : Hp} {D : Addr} {Qd : Hp → Prop} {body : (Hp → Prop) → L2.St → Hp → Prop} (inv : List α → Hp → Prop) (h0 : inv [] (upd H1 D (.lst []))) (hG : ∀ d H, inv d H → SqB K t H a (l.map enc))
    (hs : ∀ d x r H, l = d ++ x :: r → inv d H → g (enc x) (wipe σ vs) H fun σ2 H2 => wipe σ2 vs = wipe σ vs ∧ body (inv (d ++ [x])) σ2 H2) (hd : ∀ H, inv l H → Qd H) :
    ∃ W : Nat → Nat → Hp → Prop, (∃ m, W 0 m (upd H1 D (.lst []))) ∧ ∀ i m H, W i m H →
      ((Itb K t a).stop i H ∧ Qd H) ∨ ((Itb K t a).go i H ∧ ∃ Nx : Hp → Prop, (∀ H', Nx H' → ∃ m', m' < m ∧ W (i + 1) m' H') ∧ ∀ x H', (Itb K t a).yld i H x H' → g x (wipe σ vs) H' fun σ2 H2 => wipe σ2 vs = wipe σ vs ∧ body Nx σ2 H2) := by
  have w := walk_sq (K := K) (t := t) (a := a) (xs := l.map enc)
  rw [List.length_map] at w
  refine ⟨fun i m H => m = l.length - i ∧ i ≤ l.length ∧ inv (l.take i) H, ⟨l.length, by simp, Nat.zero_le _, h0⟩, ?_⟩
  rintro i m H ⟨rfl, hi, p⟩
  have q := hG _ H p
  by_cases hlt : i < l.length
  · refine .inr ⟨w.goes i H hlt q, inv (l.take (i + 1)), fun H' p' => ⟨l.length - (i + 1), by omega, rfl, hlt, p'⟩, fun x H' y => ?_⟩
    obtain ⟨e, hv⟩ := w.yields i H x H' hlt q y
    subst e
    have hb := List.getElem?_eq_getElem hlt
    rw [enc_at hb hv, take_succ_of hb]
    exact hs (l.take i) l[i] (l.drop (i + 1)) _ (by rw [List.getElem_cons_drop, List.take_append_drop]) p
  · have e : i = l.length := by omega
    subst e
    rw [List.take_length] at p
    exact .inl ⟨w.stops H q, hd H p⟩
/-- a pair of strings -/
def pairR (K : PySem.W.Frag) : Hp → V → Str × Str → Prop := fun H v w => ∃ T, v = .ref T ∧ SqT K H T [.str w.1, .str w.2]
theorem pairR_bears (K : PySem.W.Frag) : Bears (pairR K) := ⟨fun s ⟨T, e, h⟩ => ⟨T, e, Same.sqT s h⟩, fun e ⟨T, e2, h⟩ => ⟨T, e2, SqT.hideL e h⟩⟩
theorem pairR_out {K : PySem.W.Frag} {H : Hp} : ∀ {ys : List V} {W : List (Str × Str)}, Paired (pairR K H) ys W → ∃ ns : List Addr, ys = ns.map V.ref ∧ PairsAt K H ns W
  | _, _, .nil => ⟨[], rfl, .nil⟩
  | _, _, .cons ⟨T, e, h⟩ t => let ⟨ns, e2, h2⟩ := pairR_out t; ⟨T :: ns, by rw [e, e2]; rfl, .cons h h2⟩
theorem valR_bears {γ : Type} (f : γ → V) : Bears (fun (_ : Hp) v c => v = f c) := ⟨fun _ h => h, fun _ h => h⟩
section
variable {K : PySem.W.Frag} {α : Type} {g : TG} {tt : TT} {te : TE} {vs : List Nat} {σ : L2.St} {H1 : Hp} {a : Addr} {l : List α} {enc : α → V}
theorem filter_snoc {α : Type} (p : α → Bool) (l : List α) (x : α) : (l ++ [x]).filter p = l.filter p ++ (bif p x then [x] else []) := by
  rw [List.filter_append]
  cases h : p x <;> simp [h]
/-- [.. for x in row if ..] -/
theorem lcB {t : Bool} {Qd : Addr → Hp → Prop} (hx : SqB K t H1 a (l.map enc)) {γ : Type} {R : Hp → V → γ → Prop} (b : Bears R) (p : α → Bool) (f : α → γ) (hz : l.length ≤ 1000000)
    (hs : ∀ x ∈ l, ∀ H, Same H1 H → ∀ (NT : V → Hp → Prop) (NF : Hp → Prop), (∀ y H4, Same H H4 → R H4 y (f x) → p x = true → NT y H4) → (∀ H3, Same H H3 → p x = false → NF H3) →
      g (enc x) (wipe σ vs) H fun σ2 H2 => wipe σ2 vs = wipe σ vs ∧ tt σ2 H2 fun b H3 => if b = true then te σ2 H3 NT else NF H3)
    (hd : ∀ D H ys, H1 D = none → Same H1 H → H D = some (.lst ys) → Paired (R H) ys ((l.filter p).map f) → Qd D H) :
    ∀ D, H1 D = none → ∃ W : Nat → Nat → Hp → Prop, (∃ m, W 0 m (upd H1 D (.lst []))) ∧ ∀ i m H, W i m H →
      ((Itb K t a).stop i H ∧ Qd D H) ∨ ((Itb K t a).go i H ∧ ∃ Nx : Hp → Prop, (∀ H', Nx H' → ∃ m', m' < m ∧ W (i + 1) m' H') ∧ ∀ x H', (Itb K t a).yld i H x H' → g x (wipe σ vs) H' fun σ2 H2 => wipe σ2 vs = wipe σ vs ∧ tt σ2 H2 fun b H3 =>
        if b = true then te σ2 H3 fun y H4 => ∃ acc, H4 D = some (.lst acc) ∧ acc.length < sizeLine ∧ Nx (upd H4 D (.lst (acc ++ [y]))) else Nx H3) := fun D hD => by
  refine lcI (body := fun Nx σ2 H2 => tt σ2 H2 fun b H3 => if b = true then te σ2 H3 fun y H4 => ∃ acc, H4 D = some (.lst acc) ∧ acc.length < sizeLine ∧ Nx (upd H4 D (.lst (acc ++ [y]))) else Nx H3) (fun d H => Acc R H1 D ((d.filter p).map f) H) (Acc.start hD) (fun d H h => SqB.same hx h.old) ?_ ?_
  · intro d x r H e A
    have hl : ((d.filter p).map f).length ≤ 1000000 := by
      rw [List.length_map]
      have := List.length_filter_le p d
      rw [e, List.length_append] at hz
      omega
    refine hs x (by rw [e]; simp) H A.old _ _ (fun y H4 s r hp => ?_) (fun H3 s hp => ?_)
    · obtain ⟨acc, h1, h2, h3⟩ := A.add b hD s r hl
      refine ⟨acc, h1, h2, ?_⟩
      rw [filter_snoc, hp, cond_true, List.map_append]
      exact h3
    · rw [filter_snoc, hp, cond_false, List.append_nil]
      exact A.same b hD s
  · intro H A
    obtain ⟨ys, h1, h2, h3⟩ := A.out b
    exact hd D H ys hD h2 h1 h3
/-- its items values -/
theorem lcV {t : Bool} {Qd : Addr → Hp → Prop} (hx : SqB K t H1 a (l.map enc)) (p : α → Bool) (f : α → V) (hz : l.length ≤ 1000000)
    (hs : ∀ x ∈ l, ∀ H, Same H1 H → ∀ (NT : V → Hp → Prop) (NF : Hp → Prop), (∀ H4, Same H H4 → p x = true → NT (f x) H4) → (∀ H3, Same H H3 → p x = false → NF H3) →
      g (enc x) (wipe σ vs) H fun σ2 H2 => wipe σ2 vs = wipe σ vs ∧ tt σ2 H2 fun b H3 => if b = true then te σ2 H3 NT else NF H3)
    (hd : ∀ D H, H1 D = none → Same H1 H → H D = some (.lst ((l.filter p).map f)) → Qd D H) :
    ∀ D, H1 D = none → ∃ W : Nat → Nat → Hp → Prop, (∃ m, W 0 m (upd H1 D (.lst []))) ∧ ∀ i m H, W i m H →
      ((Itb K t a).stop i H ∧ Qd D H) ∨ ((Itb K t a).go i H ∧ ∃ Nx : Hp → Prop, (∀ H', Nx H' → ∃ m', m' < m ∧ W (i + 1) m' H') ∧ ∀ x H', (Itb K t a).yld i H x H' → g x (wipe σ vs) H' fun σ2 H2 => wipe σ2 vs = wipe σ vs ∧ tt σ2 H2 fun b H3 =>
        if b = true then te σ2 H3 fun y H4 => ∃ acc, H4 D = some (.lst acc) ∧ acc.length < sizeLine ∧ Nx (upd H4 D (.lst (acc ++ [y]))) else Nx H3) :=
  lcB (R := fun _ v c => v = c) hx ⟨fun _ h => h, fun _ h => h⟩ p f hz (fun x hm H S NT NF yes no => hs x hm H S NT NF (fun H4 s hp => yes _ H4 s rfl hp) no)
    (fun D H ys n S h r => hd D H n S (by
      rw [h]
      exact congrArg (fun z => some (HO.lst z)) (by
        have := paired_eq (f := id) r
        rw [List.map_id] at this
        exact this)))
end
end Np

set_option Elab.async false
set_option linter.all false
set_option maxRecDepth 100000
set_option maxHeartbeats 4000000
namespace Np
open PySem PySem.Spec PyProof.Rows L2
/-! ### tests as a whole -/
/-- an if, told as a whole -/
@[irreducible] def tIfN (tt : TT) (th el : TS) : TS := tIfS tt th el
theorem ps_ifN {X : Cx} {c : Expr} {a b : List Stmt} {tc : TT} {t u : TS} {pos : Pos} (hc : PT X c tc) (ha : PSs X a t) (hb : PSs X b u) : PS X (.If c a b pos) (tIfN tc t u) := by
  unfold tIfN
  exact ps_if hc ha hb
theorem pif {tt : TT} {th el : TS} {D : Ends} {σ : L2.St} {H : Hp} (B : Bool) (h : ∀ k : Bool → Hp → Prop, k B H → tt σ H k) (h1 : B = true → th D σ H) (h0 : B = false → el D σ H) : tIfN tt th el D σ H := by
  unfold tIfN
  exact h _ (by
    cases B with
    | true => exact iteT (h1 rfl)
    | false => exact iteF (h0 rfl))
theorem pifS {tt : TT} {th el : TS} {D : Ends} {σ : L2.St} {H : Hp} (B : Bool) (h : ∀ k : Bool → Hp → Prop, (∀ H', Same H H' → k B H') → tt σ H k) (h1 : ∀ H', Same H H' → B = true → th D σ H') (h0 : ∀ H', Same H H' → B = false → el D σ H') : tIfN tt th el D σ H := by
  unfold tIfN
  exact h _ (fun H' S => by
    cases B with
    | true => exact iteT (h1 H' S rfl)
    | false => exact iteF (h0 H' S rfl))
theorem pifE {tt : TT} {ta tb : TE} {σ : L2.St} {H : Hp} {Q : VK} (B : Bool) (h : ∀ k : Bool → Hp → Prop, (∀ H', Same H H' → k B H') → tt σ H k) (h1 : ∀ H', Same H H' → B = true → ta σ H' Q) (h0 : ∀ H', Same H H' → B = false → tb σ H' Q) : tIf tt ta tb σ H Q := h _ (fun H' S => by
  cases B with
  | true => exact iteT (h1 H' S rfl)
  | false => exact iteF (h0 H' S rfl))
theorem pcl {tt : TT} {σ : L2.St} {H : Hp} {A C : Hp → Prop} (B : Bool) (h : ∀ k : Bool → Hp → Prop, (∀ H', Same H H' → k B H') → tt σ H k) (h1 : ∀ H', Same H H' → B = true → A H') (h0 : ∀ H', Same H H' → B = false → C H') : tt σ H fun b H' => if b = true then A H' else C H' := h _ (fun H' S => by
  cases B with
  | true => exact iteT (h1 H' S rfl)
  | false => exact iteF (h0 H' S rfl))
theorem andS {b r : Bool} {k : Bool → Hp → Prop} {H : Hp} {A : Prop} (hk : k (b && r) H) (h : k r H → A) : if b = true then A else k false H := by
  cases b with
  | true => exact iteT (h hk)
  | false => exact iteF hk
theorem orS {b r : Bool} {k : Bool → Hp → Prop} {H : Hp} {A : Prop} (hk : k (b || r) H) (h : k r H → A) : if b = true then k true H else A := by
  cases b with
  | true => exact iteT hk
  | false => exact iteF (h hk)
theorem andS' {b r : Bool} {k : Bool → Hp → Prop} {H : Hp} {A : Prop} (hk : ∀ H', Same H H' → k (b && r) H') (h : (∀ H', Same H H' → k r H') → A) : if b = true then A else k false H := by
  cases b with
  | true => exact iteT (h hk)
  | false => exact iteF (hk H (Same.refl _))
theorem orS' {b r : Bool} {k : Bool → Hp → Prop} {H : Hp} {A : Prop} (hk : ∀ H', Same H H' → k (b || r) H') (h : (∀ H', Same H H' → k r H') → A) : if b = true then k true H else A := by
  cases b with
  | true => exact iteT (hk H (Same.refl _))
  | false => exact iteF (h hk)
theorem tyL {K : PySem.W.Frag} {H : Hp} {p : Addr} {xs : List V} (h : H p = some (.lst xs)) : tyV K "list" (.ref p) H := .inl ⟨rfl, xs, SqL.of h⟩
theorem tyLs {K : PySem.W.Frag} {H : Hp} {p : Addr} {xs : List V} (h : SqL K H p xs) : tyV K "list" (.ref p) H := .inl ⟨rfl, xs, h⟩
theorem op_eqSt {X : Cx} : OpR X (compareOp .Eq) (fun x y H Q => ∃ a b, x = .str a ∧ y = .str b ∧ Q (.bl (decide (a = b))) H) := OpR.imp' op_eq fun _ _ _ _ ⟨a, b, e1, e2, k⟩ => ⟨by rw [e1, e2]; rfl, by
  rw [e1, e2, show decide (V.str a = V.str b) = decide (a = b) from decide_eq_decide.mpr ⟨fun h => V.str.inj h, fun h => by rw [h]⟩]
  exact k⟩
theorem op_neSt {X : Cx} : OpR X (compareOp .NotEq) (fun x y H Q => ∃ a b, x = .str a ∧ y = .str b ∧ Q (.bl (!decide (a = b))) H) := OpR.imp' op_ne fun _ _ _ _ ⟨a, b, e1, e2, k⟩ => ⟨by rw [e1, e2]; rfl, by
  rw [e1, e2, show decide (V.str a = V.str b) = decide (a = b) from decide_eq_decide.mpr ⟨fun h => V.str.inj h, fun h => by rw [h]⟩]
  exact k⟩
/-! ### lists that change, the heap behind by a name -/
theorem MtM.imp' {X : Cx} {n : String} {r r' : V → List V → Hp → VK → Prop} (h : MtM X n r) (i : ∀ x vs H Q, r' x vs H Q → r x vs H Q) : MtM X n r' := fun pins s σ H x vs v us Q I rx rv q => h pins s σ H x vs v us Q I rx rv (i _ _ _ _ q)
def rAppendN : V → List V → Hp → VK → Prop := fun x vs H Q => ∃ l xs y, x = .ref l ∧ vs = [y] ∧ H l = some (.lst xs) ∧ xs.length < sizeLine ∧ ∀ H', But l H H' → H' l = some (.lst (xs ++ [y])) → Q .non H'
theorem mt_appendN {X : Cx} : MtM X "list.append" rAppendN := MtM.imp' mt_append fun _ _ H Q ⟨l, xs, y, e1, e2, h, hz, k⟩ => ⟨l, xs, y, e1, e2, h, hz, k _ But.upd upd_same⟩
def rExtendN : V → List V → Hp → VK → Prop := fun x vs H Q => ∃ l b xs zs, x = .ref l ∧ vs = [.ref b] ∧ H l = some (.lst xs) ∧ H b = some (.lst zs) ∧ xs.length + zs.length ≤ sizeLine ∧ ∀ H', But l H H' → H' l = some (.lst (xs ++ zs)) → Q .non H'
theorem mt_extendN {X : Cx} : MtM X "list.extend" rExtendN := MtM.imp' mt_extend fun _ _ H Q ⟨l, b, xs, zs, e1, e2, h, hb, hz, k⟩ => ⟨l, b, xs, zs, e1, e2, h, hb, hz, k _ But.upd upd_same⟩
def rCatN : R2 := fun x y H Q => ∃ l b xs zs, x = .ref l ∧ y = .ref b ∧ H l = some (.lst xs) ∧ H b = some (.lst zs) ∧ xs.length + zs.length ≤ sizeLine ∧ ∀ p H', H p = none → Same H H' → H' p = some (.lst (xs ++ zs)) → Q (.ref p) H'
theorem op_catN {X : Cx} : OpR X (binaryOp .Add) rCatN := OpR.imp' op_cat fun _ _ H Q ⟨l, b, xs, zs, e1, e2, h, hb, hz, k⟩ => ⟨l, b, xs, zs, e1, e2, h, hb, hz, fun p n => k p _ n (Same.new n) upd_same⟩
def rListN (K : PySem.W.Frag) : List V → Hp → VK → Prop := fun xs H Q => ∃ p ys, xs = [.ref p] ∧ (SqL K H p ys ∨ SqT K H p ys) ∧ ∀ q H', H q = none → Same H H' → H' q = some (.lst ys) → Q (.ref q) H'
theorem call_listN {X : Cx} {K : PySem.W.Frag} (hK : X.K = K) : CallR X (.type "list") (rListN K) := by
  subst hK
  exact CallR.imp' call_list_of fun _ H Q ⟨p, ys, e, h, k⟩ => ⟨p, ys, e, h, fun q n => k q _ n (Same.new n) upd_same⟩
theorem op_inDK {X : Cx} {K : PySem.W.Frag} (hK : X.K = K) (hu : X.A.units + 65 < cLine) : OpR X (compareOp .In) (rInD K) := by subst hK; exact op_inD hu
theorem op_notInDK {X : Cx} {K : PySem.W.Frag} (hK : X.K = K) (hu : X.A.units + 65 < cLine) : OpR X (compareOp .NotIn) (rNotInD K) := by subst hK; exact op_notInD hu
/-- a list that was new, and all that was before -/
theorem But.fin {L : Addr} {H H1 H2 : Hp} (n : H L = none) (S : Same H H1) (B : But L H1 H2) : Same H H2 := fun a o h => B a o (ne_of_none h n) (S a o h)
theorem Room.u65 {k : Nat} {A : Around} (r : Room (k + 1) A) : A.units + 65 < cLine := by have := r.un; omega
end Np
namespace Np
open PySem PySem.Spec PyProof.Rows L2
def rInS (K : PySem.W.Frag) (g : Bool → Bool) : R2 := fun x y H Q => ∃ (s : Str) (a : Addr) (t : Bool) (xs : List Str), x = .str s ∧ y = .ref a ∧ SqB K t H a (xs.map V.str) ∧ Q (.bl (g (decide (s ∈ xs)))) H
theorem op_inS {X : Cx} {K : PySem.W.Frag} (h : X.K = K) : OpR X (compareOp .In) (rInS K id) := OpR.imp' (op_in_seqK h) fun _ _ H Q ⟨s, a, t, xs, e1, e2, hs, k⟩ => ⟨a, _, e2, hs.or, by rw [e1]; rfl, Np.flat_strs _, by
  rw [e1, if_neg (by decide), inV_strs]
  exact k⟩
theorem op_ninS {X : Cx} {K : PySem.W.Frag} (h : X.K = K) : OpR X (compareOp .NotIn) (rInS K not) := OpR.imp' (op_notIn_seqK h) fun _ _ H Q ⟨s, a, t, xs, e1, e2, hs, k⟩ => ⟨a, _, e2, hs.or, by rw [e1]; rfl, Np.flat_strs _, by
  rw [e1, if_pos rfl, inV_strs]
  exact k⟩
theorem pairs_zip {K : PySem.W.Frag} {H : Hp} : ∀ {ns : List Addr} {W : List (Str × Str)}, PairsAt K H ns W → ∃ zl : List (Addr × (Str × Str)), ns = zl.map Prod.fst ∧ W = zl.map Prod.snd ∧ ∀ z ∈ zl, SqT K H z.1 [.str z.2.1, .str z.2.2]
  | _, _, .nil => ⟨[], rfl, rfl, fun _ h => nomatch h⟩
  | _, _, .cons (a := a) (b := b) h t => let ⟨zl, e1, e2, h2⟩ := pairs_zip t; ⟨(a, b) :: zl, by rw [e1]; rfl, by rw [e2]; rfl, fun z hz => by
    rcases List.mem_cons.mp hz with e | e
    · rw [e]; exact h
    · exact h2 z e⟩
theorem sl_listN {X : Cx} {K : PySem.W.Frag} (hK : X.K = K) : SlR X (fun x lo hi H Q => ∃ a xs, x = .ref a ∧ SqL K H a xs ∧ ∀ p H', H p = none → Same H H' → H' p = some (.lst (cutV xs lo hi)) → Q (.ref p) H') := by
  subst hK
  intro pins s σ H x v vl vu lo hi sl Q I rx hs pl pu ⟨a, xs, e, h, k⟩
  exact sl_list pins s σ H x v vl vu lo hi sl Q I rx hs pl pu ⟨a, xs, e, h, fun p n => k p _ n (Same.new n) upd_same⟩
/-- a list of pairs that grows, new since H1 -/
def FL (K : PySem.W.Frag) (F : Addr) (H1 : Hp) (fd : List (Str × Str)) (H : Hp) : Prop := But F H1 H ∧ ∃ ts : List Addr, H F = some (.lst (ts.map V.ref)) ∧ PairsAt K H ts fd
theorem FL.same {K : PySem.W.Frag} {F : Addr} {H1 H H' : Hp} {fd : List (Str × Str)} (h : FL K F H1 fd H) (S : Same H H') : FL K F H1 fd H' := let ⟨b, ts, e, p⟩ := h; ⟨b.trans (But.of S), ts, S _ _ e, p.same S⟩
theorem FL.len {K : PySem.W.Frag} {H : Hp} {fd : List (Str × Str)} {ts : List Addr} (p : PairsAt K H ts fd) : (ts.map V.ref).length = fd.length := by rw [List.length_map]; exact paired_len p
theorem FL.more {K : PySem.W.Frag} {F : Addr} {H1 H H' : Hp} {fd gd : List (Str × Str)} {ts us : List Addr} (b : But F H1 H) (e : H F = some (.lst (ts.map V.ref))) (p : PairsAt K H ts fd) (q : PairsAt K H us gd) (B : But F H H') (e' : H' F = some (.lst (ts.map V.ref ++ us.map V.ref))) : FL K F H1 (fd ++ gd) H' :=
  ⟨b.trans B, ts ++ us, by rw [e', List.map_append], paired_app ((Fr.but B e).pairs p) ((Fr.but B e).pairs q)⟩
end Np

set_option Elab.async false
set_option linter.all false
set_option maxRecDepth 100000
set_option maxHeartbeats 4000000
namespace Np
open PySem PySem.Spec PyProof.Rows L2
/-! ### promises about data, answered as a whole -/
@[irreducible] def rReprN (K : PySem.W.Frag) : List V → Hp → VK → Prop := rRepr K
@[irreducible] def rEqDN (K : PySem.W.Frag) : R2 := rEqD K
@[irreducible] def rNeDN (K : PySem.W.Frag) : R2 := rNeD K
@[irreducible] def rSortDN (K : PySem.W.Frag) : List V → Hp → VK → Prop := rSortedD K
theorem call_reprDN {X : Cx} {K : PySem.W.Frag} (hK : X.K = K) (hgd : X.A.guards = some []) (hu : X.A.units + 64 < cLine) : CallR X (.builtin "repr") (rReprN K) := by
  subst hK
  unfold rReprN
  exact call_repr hgd hu
theorem op_eqDN {X : Cx} {K : PySem.W.Frag} (hK : X.K = K) (hu : X.A.units + 64 < cLine) : OpR X (compareOp .Eq) (rEqDN K) := by
  unfold rEqDN
  exact op_eqDK hK hu
theorem op_neDN {X : Cx} {K : PySem.W.Frag} (hK : X.K = K) (hu : X.A.units + 64 < cLine) : OpR X (compareOp .NotEq) (rNeDN K) := by
  unfold rNeDN
  exact op_neDK hK hu
theorem cr_sortDN {X : Cx} {K : PySem.W.Frag} (hK : X.K = K) (hu : X.A.units + 64 < cLine) : CallR X (.builtin "sorted") (rSortDN K) := by
  unfold rSortDN
  exact cr_sortedD hK hu
theorem reprI {K : PySem.W.Frag} {v : V} {d : PyData} {H : Hp} {Q : VK} {a l : Nat} (h : Dp K H v d) (g : Good a l d) (k : Q (.str d.shown) H) (h1 : a ≤ 30 := by decide) (h2 : l ≤ sizeLine := by decide) : rReprN K [v] H Q := by
  unfold rReprN
  exact ⟨v, d, rfl, h, g.s, g.n, Nat.le_trans g.dp h1, Nat.le_trans g.l h2, k⟩
theorem eqDI {K : PySem.W.Frag} {x y : V} {d e : PyData} {H : Hp} {Q : VK} (h : Dp K H x d) (h' : Dp K H y e) (s : SeqAt.shaped d = true) (s' : SeqAt.shaped e = true) {b : Bool} (hb : PyData.eqv d e = b) (k : Q (.bl b) H) : rEqDN K x y H Q := by
  unfold rEqDN
  exact ⟨d, e, h, h', s, s', by rw [hb]; exact k⟩
theorem neDI {K : PySem.W.Frag} {x y : V} {d e : PyData} {H : Hp} {Q : VK} (h : Dp K H x d) (h' : Dp K H y e) (s : SeqAt.shaped d = true) (s' : SeqAt.shaped e = true) {b : Bool} (hb : PyData.eqv d e = b) (k : Q (.bl (!b)) H) : rNeDN K x y H Q := by
  unfold rNeDN
  exact ⟨d, e, h, h', s, s', by rw [hb]; exact k⟩
theorem sortI {K : PySem.W.Frag} {β : Type} {enc : β → PyData} {H : Hp} {Q : VK} (F : Addr → β → Prop) {a : Addr} {ts : List Addr} {bs : List β} (hL : SqL K H a (ts.map V.ref)) (hp : Paired (fun T b => F T b ∧ Dp K H (.ref T) (enc b)) ts bs) (h1 : ∀ b b', PySem.W.alike (enc b) (enc b') = true) (h2 : ∀ b, ∃ x r, enc b = .tuple (x :: r)) (h3 : ∀ b, (enc b).depth ≤ 20)
    (k : ∀ p H' ts', H p = none → Same H H' → H' p = some (.lst (ts'.map V.ref)) → Paired F ts' (bs.mergeSort (PySem.W.dataLe false enc)) → Q (.ref p) H') : rSortDN K [.ref a] H Q := by
  unfold rSortDN
  exact ⟨β, enc, F, a, ts, bs, rfl, hL, hp, h1, h2, h3, k⟩
end Np

set_option Elab.async false
set_option linter.all false
set_option maxRecDepth 100000
set_option maxHeartbeats 4000000
namespace Np
open PySem PySem.Spec PyProof.Rows L2 PySem.W
/-! ### sorted(a tuple of tuples) -/
section
variable {β : Type} {prog : Program} {w : World} {A : Around} {E : Value → Shared → Prop} {s : Shared} {R : Value → β → Prop} {enc : β → PyData} {vs : List Value} {bs : List β}
theorem sorted_dataT {l : Addr} {o : Obj} {n : Nat} {Q : Value → Shared → Prop} (ho : s.heap.get? l = some o) (hc : o.cls = .type "tuple") (hd : o.data = .seq vs.toArray n) (e : EachIs R vs bs) (er : EachIs (fun v b => ∃ as, Reads s.heap v (enc b) as) vs bs) (hal : AllAlike (bs.map enc)) (hk : Sortable (bs.map enc)) (hL : bs.length ≤ sizeLine)
    (hu : ∀ b, b ∈ bs → A.units + 2 + (enc b).depth < cLine)
    (hQ : ∀ h' p (out : List Value) (c : Nat), (∀ b o, s.heap.get? b = some o → h'.get? b = some o) → s.heap.get? p = none → h'.get? p = some (seqObj "list" out.toArray c) → out.length = bs.length → EachIs R out (bs.mergeSort (dataLe false enc)) → Q (.ref p) { s with heap := h' }) :
    wpAny (model prog w) A (call (.builtin "sorted") [.ref l]) Q E s := by
  have lv : vs.length = bs.length := e.length
  refine Calls.call_function_entry kind_sorted plain_sorted entry_sorted (args_sorted1 _) ?_
  unfold Builtin.«sorted»
  refine wpAny_bind (m := checkCount "sorted" 1 1 _) (wpAny_pure ?_)
  refine wpAny_bind (wpAny_collect_seq l (.inr rfl) ho hc hd (fun h1 k1 => ?_) (by rw [List.size_toArray, lv]; exact hL))
  rw [show vs.toArray.toList = vs from rfl]
  refine wpAny_bind (wpAny_newList ?_ (by rw [lv]; exact hL))
  have at1 : (h1.push (seqObj "list" vs.toArray 0)).get? h1.objs.size = some (seqObj "list" vs.toArray 0) := Heap.get?_push_size _ rfl
  have k2 : ∀ b o, s.heap.get? b = some o → (sortingHeap (h1.push (seqObj "list" vs.toArray 0)) h1.objs.size vs).get? b = some o := fun b u q => by
    have q1 := k1 b u q
    exact sortingHeap_old (Nat.ne_of_lt (Heap.lt_size q1)) (Heap.get?_push_of_some _ q1)
  have er' : EachIs (fun v b => ∃ as, Reads (sortingHeap (h1.push (seqObj "list" vs.toArray 0)) h1.objs.size vs) v (enc b) as) vs bs := er.mono fun _ _ ⟨as, r⟩ => ⟨as, PyProof.Rows.Reads.keeps k2 r⟩
  refine wpAny_bind (wpAny_holding (wpAny_call_entry slot_list_sort ⟨_, at1, rfl⟩ entry_list_sort (list_sort_vals (κ := dataKind (sortingHeap (h1.push (seqObj "list" vs.toArray 0)) h1.objs.size vs) (bs.map enc)) at1 (SortsAt.data (s := { s with heap := sortingHeap (h1.push (seqObj "list" vs.toArray 0)) h1.objs.size vs }) (each_map (R := fun v d => ∃ as, Reads (sortingHeap (h1.push (seqObj "list" vs.toArray 0)) h1.objs.size vs) v d as) enc er') hal hk (bound_map hu)) (by rw [lv]; exact hL) ?_) (args_list_sort _)))
  obtain ⟨c, hcc⟩ := sortedHeap_at (vs := vs) (out := (sortVals (dataKind (sortingHeap (h1.push (seqObj "list" vs.toArray 0)) h1.objs.size vs) (bs.map enc)) false vs vs).toArray) at1
  have lo := ((sortVals_length (κ := dataKind (sortingHeap (h1.push (seqObj "list" vs.toArray 0)) h1.objs.size vs) (bs.map enc)) false (rfl : vs.length = vs.length))).trans lv
  have eo := sortVals_data (R := R) false e er' hal
  refine ⟨_, rfl, wpAny_pure ⟨_, rfl, ?_⟩⟩
  refine hQ _ h1.objs.size _ c (fun b u q => ?_) ?_ hcc lo eo
  · have q1 := k1 b u q
    have lt := Heap.lt_size q1
    show (sortedHeap (h1.push (seqObj "list" vs.toArray 0)) h1.objs.size vs _).get? b = some u
    rw [sortedHeap_old (Nat.ne_of_lt lt) (by rw [size_push']; exact Nat.lt_succ_of_lt lt)]
    exact Heap.get?_push_of_some _ q1
  · cases g : s.heap.get? h1.objs.size with
    | none => rfl
    | some u => exact absurd (Heap.lt_size (k1 _ _ g)) (Nat.lt_irrefl _)
end
@[irreducible] def rSortedDT (K : PySem.W.Frag) : List V → Hp → VK → Prop := fun xs H Q => ∃ (β : Type) (enc : β → PyData) (F : Addr → β → Prop) (a : Addr) (ts : List Addr) (bs : List β), xs = [.ref a] ∧ SqT K H a (ts.map V.ref) ∧ Paired (fun T b => F T b ∧ Dp K H (.ref T) (enc b)) ts bs ∧
  (∀ b b', PySem.W.alike (enc b) (enc b') = true) ∧ (∀ b, ∃ x r, enc b = .tuple (x :: r)) ∧ (∀ b, (enc b).depth ≤ 20) ∧
  ∀ p H' ts', H p = none → Same H H' → H' p = some (.lst (ts'.map V.ref)) → Paired F ts' (bs.mergeSort (PySem.W.dataLe false enc)) → Q (.ref p) H'
theorem cr_sortedDT {X : Cx} {K : PySem.W.Frag} (hK : X.K = K) (hu : X.A.units + 64 < cLine) : CallR X (.builtin "sorted") (rSortedDT K) := by
  subst hK
  unfold rSortedDT
  rintro pins s σ H xs us Q I r ⟨β, enc, F, a, ts, bs, rfl, hs, hp, hal, hk, hd, q⟩
  obtain ⟨its, rv, hl, hz⟩ := I.tuple hs
  obtain ⟨u, rfl, ru⟩ := vals1 r
  obtain rfl : u = Value.ref a := ru
  obtain rfl := vals_of_refs rv
  have lb := paired_len hp
  rw [List.length_map] at hz
  have er : PySem.W.EachIs (fun v b => ∃ as, Reads s.heap v (enc b) as) (ts.map Value.ref) bs := (each_of hp).mono fun v b ⟨T, e, h⟩ => by
    subst e
    exact Dp.reads I (enc b) (.ref T) (.ref T) h.2 rfl
  obtain ⟨o, ho, hc, n, hdd⟩ := hl
  refine sorted_dataT (R := fun v b => ∃ T, v = Value.ref T ∧ F T b) (enc := enc) ho hc hdd ((each_of hp).mono fun v b ⟨T, e, h⟩ => ⟨T, e, h.1⟩) er (.of hal) (.tuples hk) (by rw [← lb]; exact hz) (fun b _ => by have := hd b; omega) fun h' p out c k1 hsz hg lo eo => ?_
  obtain ⟨ts', rfl, hp'⟩ := of_each eo
  have fr : H p = none := I.hok.gone hsz
  refine ⟨.ref p, upd H p (.lst (ts'.map V.ref)), I.laidN (t' := s.toks) k1 hsz fr ⟨?_, ts'.map Value.ref, c, refs_vals ts', hg⟩, rfl, q _ _ ts' fr (Same.new fr) upd_same hp'⟩
  rw [List.length_map] at lo ⊢
  rw [lo, ← lb]
  exact hz
theorem sortTI {K : PySem.W.Frag} {β : Type} {enc : β → PyData} {H : Hp} {Q : VK} (F : Addr → β → Prop) {a : Addr} {ts : List Addr} {bs : List β} (hL : SqT K H a (ts.map V.ref)) (hp : Paired (fun T b => F T b ∧ Dp K H (.ref T) (enc b)) ts bs) (h1 : ∀ b b', PySem.W.alike (enc b) (enc b') = true) (h2 : ∀ b, ∃ x r, enc b = .tuple (x :: r)) (h3 : ∀ b, (enc b).depth ≤ 20)
    (k : ∀ p H' ts', H p = none → Same H H' → H' p = some (.lst (ts'.map V.ref)) → Paired F ts' (bs.mergeSort (PySem.W.dataLe false enc)) → Q (.ref p) H') : rSortedDT K [.ref a] H Q := by
  unfold rSortedDT
  exact ⟨β, enc, F, a, ts, bs, rfl, hL, hp, h1, h2, h3, k⟩
end Np

set_option Elab.async false
set_option linter.all false
set_option maxRecDepth 100000
set_option maxHeartbeats 4000000
namespace Lw
open PySem PySem.Spec PyProof.Rows L2 Np
local macro_rules | `(tactic| walk_at "np_h") => `(tactic| first | assumption | exact upd_same | (refine (upd_ne ?_).trans ?_; (walk_at "np_ne"); (walk_at "np_h")) | exact SqL.of (by walk_at "np_h") | exact SqT.of (by walk_at "np_h"))
local macro_rules | `(tactic| walk_at "np_ne") => `(tactic| first | assumption | exact Ne.symm (by assumption))
local macro_rules | `(tactic| walk_at "np_r") => `(tactic| first
  | refine ⟨_, rfl, ?_⟩
  | refine ⟨_, _, rfl, rfl, ?_⟩
  | refine ⟨(.inl ⟨by decide, by decide⟩ : CMul _ _), ?_⟩
  | refine ⟨(.inr ⟨by decide, by decide⟩ : CMul _ _), ?_⟩
  | refine ⟨(by first | decide | omega : (0 : Int) < _), ?_⟩
  | refine ⟨(⟨by decide, by decide⟩ : CDiv _ _), ?_⟩
  | (refine' ⟨_, _, _, _, rfl, rfl, ?np1, ?np2, ?_⟩; (case np1 => walk_at "np_h"); (case np2 => rfl)))

/-- what the layer asks of the built-in names -/
structure Bl (mg : Str → Option Value) : Prop where
  len : mg "len" = none
  int : mg "int" = none
  range : mg "range" = none
  repr : mg "repr" = none
  isinstance : mg "isinstance" = none
  list : mg "list" = none
  enumerate : mg "enumerate" = none
  ValueError : mg "ValueError" = none
  KeyError : mg "KeyError" = none
  IndexError : mg "IndexError" = none
  all : mg "all" = none
  sum : mg "sum" = none
  tuple : mg "tuple" = none
  dict : mg "dict" = none
  max : mg "max" = none
  min : mg "min" = none
  str : mg "str" = none
  bool : mg "bool" = none
  zip : mg "zip" = none
  sorted : mg "sorted" = none
  abs : mg "abs" = none
  any : mg "any" = none
section
variable {P : Program} {w : World} {K : PySem.W.Frag} {mg : Str → Option Value} {base : Heap}
/-! ### the source of draws -/
abbrev bx (x y z : Int) : HO := .lst [.int x, .int y, .int z]
def spBox (K : PySem.W.Frag) : Sp := fun vs H Q _ => ∃ (a : Addr) (ns : List Int) (k : Int), vs = [.ref a, .int k] ∧ SqL K H a (ns.map V.int) ∧ ns.length ≤ 63 ∧ 0 ≤ k ∧ k < 10 ∧
  ∀ (p : Addr) (H' : Hp) (x y z : Int), H p = none → Same H H' → H' p = some (bx x y z) → Q (.ref p) H'
def spTake : Sp := fun vs H Q _ => ∃ (b : Addr) (x y z m : Int), vs = [.ref b, .int m] ∧ H b = some (bx x y z) ∧ 1 ≤ m ∧ m < 2 ^ 100 ∧
  ∀ (r x' y' z' : Int), 0 ≤ r → r < m → Q (.int r) (upd H b (bx x' y' z'))
theorem scTake : FnScope ["_law_box_here", "_law_many", "_law_digit", "_law_one"] ["_law_box_here", "_law_many"] (defScope sTake) := ⟨rfl, rfl, rfl, by decide +kernel, rfl, by decide +kernel, by decide +kernel⟩
theorem wide {x m : Int} (h1 : 1 ≤ m) (h2 : m < 2 ^ 100) : CDivW x m := wide_div (b := 100) (by omega) (by omega) (by decide) (by decide)
theorem ok_take {f : Addr} {fd : FuncData} (F : FnT K "_law_take" sTake f fd) : FnOk P w K mg base CX0 1 f fd ["_law_box_here", "_law_many"] spTake := by
  have nd := scTake.nd
  refine F.ok scTake (fun vs H Q E h => ?_) (fun cdv A outer s H vs Q E hr h => ?_)
  · obtain ⟨b, x, y, z, m, rfl, _⟩ := h
    rfl
  · obtain ⟨b, x, y, z, m, rfl, hb, h1, h2, k⟩ := h
    refine ⟨_, PSs.nox (pss_cons (ps_if (pt_cmpR op_gt (pe_ix ix_list (pv 0) pe_int (fun _ _ => rfl)) pe_int (nomark _)) (pss_cons (ps_set (i := 2) nd rfl (.inl rfl) (pe_op op_mod (pe_ix ix_list (pv 0) pe_int (fun _ _ => rfl)) (pv 1)))
  (pss_cons (ps_asg (pe_op op_fdivW (pe_ix ix_list (pv 0) pe_int (fun _ _ => rfl)) (pv 1)) (pg_sub (pv 0) pe_int set_list))
  (pss_one (ps_ret (pv 2))))) pss_nil)
  (pss_cons (ps_asg (pe_op op_add (pe_ix ix_list (pv 0) pe_int (fun _ _ => rfl)) pe_int) (pg_sub (pv 0) pe_int set_list))
  (pss_cons (ps_set (i := 3) nd rfl (.inl rfl) (pe_op op_mod (pe_op op_mul (pe_op op_add (pe_ix ix_list (pv 0) pe_int (fun _ _ => rfl)) (pe_op op_mul pe_int (pe_ix ix_list (pv 0) pe_int (fun _ _ => rfl)))) pe_int) pe_int))
  (pss_cons (ps_asg (pe_op op_add (pe_op op_mod (pe_op op_add (pe_op op_mul (pv 3) pe_int) pe_int) pe_int) pe_int) (pg_sub (pv 0) pe_int set_list))
  (pss_one (ps_ret (pe_op op_mod (pe_op op_fdiv (pe_op op_add (pe_op op_mul (pv 3) pe_int) (pe_ix ix_list (pv 0) pe_int (fun _ _ => rfl))) pe_int) (pv 1)))))))), ?_⟩
    repeat (walk_at "np_r")
    refine ite2 (fun c => ?_) (fun c => ?_)
    · repeat (first | walk_at "np_r" | (refine ⟨wide h1 h2, ?_⟩))
      exact k (x % m) (x / m) y z (Int.emod_nonneg _ (by omega)) (Int.emod_lt_of_pos _ (by omega))
    · repeat (walk_at "np_r")
      have e := k (((((y + 104729 * (z + 1)) * 69623 % 2147483647) * 2147483647 + (((y + 104729 * (z + 1)) * 69623 % 2147483647 * 48271 + 30103) % 2147483629 + 1)) / 8191) % m) x (((y + 104729 * (z + 1)) * 69623 % 2147483647 * 48271 + 30103) % 2147483629 + 1) (z + 1) (Int.emod_nonneg _ (by omega)) (Int.emod_lt_of_pos _ (by omega))
      rw [← upd_upd] at e
      exact e
theorem scBox : FnScope ["_law_script", "_law_k", "_law_cell", "_law_seed"] ["_law_script", "_law_k"] (defScope sBox) := ⟨rfl, rfl, rfl, by decide +kernel, rfl, by decide +kernel, by decide +kernel⟩
theorem pick {b : Bool} {i j : Int} : atI [V.int i, V.int j] (if b = true then 1 else 0) = some (.int (if b = true then j else i)) := by cases b <;> rfl
theorem ok_box {f : Addr} {fd : FuncData} (F : FnT K "_law_box" sBox f fd) (m : Bl mg) : FnOk P w K mg base CX0 1 f fd ["_law_script", "_law_k"] (spBox K) := by
  have nd := scBox.nd
  refine F.ok scBox (fun vs H Q E h => ?_) (fun cdv A outer s H vs Q E hr h => ?_)
  · obtain ⟨a, ns, k, rfl, _⟩ := h
    rfl
  · obtain ⟨a, ns, k, rfl, hS, hl, k0, k1, q⟩ := h
    obtain ⟨j, rfl⟩ : ∃ j : Nat, k = (j : Int) := ⟨k.toNat, by omega⟩
    have hlen : (ns.map V.int).length = ns.length := List.length_map ..
    refine ⟨_, PSs.nox (pss_cons (ps_set (i := 2) nd rfl (.inl rfl) (pe_op op_add (pe_op op_mul pe_int (pv 1)) pe_int))
  (pss_cons (ps_if (pt_cmpR op_lt (pv 1) (pe_callB call_len_seq (by rfl) m.len (by decide +kernel) (pa_cons (pv 0) pa_nil)) (nomark _)) (pss_one (ps_set (i := 2) nd rfl (.inl rfl) (pe_ix ix_list (pv 0) (pv 1) (fun _ _ => rfl)))) (pss_one (ps_if (pt_cmpR op_gt (pe_callB call_len_seq (by rfl) m.len (by decide +kernel) (pa_cons (pv 0) pa_nil)) pe_int (nomark _)) (pss_one (ps_set (i := 2) nd rfl (.inl rfl) (pe_op op_add (pv 2) (pe_op op_mul (pe_op op_mod (pe_ix ix_list (pv 0) (pe_op op_mod (pv 1) (pe_callB call_len_seq (by rfl) m.len (by decide +kernel) (pa_cons (pv 0) pa_nil))) (fun _ _ => rfl)) pe_int) pe_int)))) pss_nil)))
  (pss_cons (ps_set (i := 3) nd rfl (.inl rfl) (pe_op op_add (pe_op op_mod (pe_op op_add (pe_op op_mul (pe_op op_mod (pv 2) pe_int) pe_int) (pe_op op_mul pe_int (pv 1))) pe_int) pe_int))
  (pss_one (ps_ret (pe_lst (pa_cons (pe_ix ix_list (pe_lst (pa_cons pe_int (pa_cons (pv 2) pa_nil))) (pe_callTy call_int1 (by rfl) m.int (by decide +kernel) (pa_cons (pe_cmpR op_ge (pv 2) (pe_op op_pow pe_int pe_int) (nomark _)) pa_nil)) (fun _ _ => rfl)) (pa_cons (pv 3) (pa_cons pe_int pa_nil))))))))), ?_⟩
    repeat (walk_at "np_r")
    refine ⟨_, _, rfl, .inl hS, ?_⟩
    repeat (walk_at "np_r")
    refine ite2 (fun c => ?_) (fun c => ?_)
    · have cj : j < ns.length := by
        have c2 : (j : Int) < ((ns.map V.int).length : Int) := of_decide_eq_true c
        omega
      refine ⟨_, rfl, _, rfl, _, _, _, _, rfl, rfl, hS, atI_nat (j := j) (by rw [List.getElem?_map, List.getElem?_eq_getElem cj]; rfl), ?_⟩
      repeat (walk_at "np_r")
      refine ⟨by show 2 ≤ sizeLine; decide, fun p1 h1 => ?_⟩
      refine ⟨_, rfl, _, _, rfl, rfl, ⟨by decide, by decide, by decide⟩, _, _, rfl, rfl, .inr ⟨_, rfl, ?_⟩⟩
      refine ⟨p1, _, _, _, rfl, rfl, SqL.of upd_same, pick, ?_⟩
      refine ⟨_, rfl, by show 3 ≤ sizeLine; decide, fun p2 h2 => ?_⟩
      exact q p2 _ _ _ _ (upd_none h2).2 ((Same.new h1).trans (Same.new h2)) upd_same

    · repeat (first | walk_at "np_r" | refine ⟨_, _, rfl, .inl hS, ?_⟩)
      refine ite2 (fun c2 => ?_) (fun c2 => ?_)
      · have c3 : (0 : Int) < ((ns.map V.int).length : Int) := of_decide_eq_true c2
        have hj : j % ns.length < ns.length := Nat.mod_lt _ (by omega)
        have ej : (j : Int) % ((ns.map V.int).length : Int) = ((j % ns.length : Nat) : Int) := by rw [hlen]; rfl
        have hat : atI (ns.map V.int) ((j : Int) % ((ns.map V.int).length : Int)) = some (.int ns[j % ns.length]) := by
          rw [ej]
          exact atI_nat (by rw [List.getElem?_map, List.getElem?_eq_getElem hj]; rfl)
        refine ⟨_, rfl, _, rfl, _, rfl, _, rfl, _, _, rfl, .inl hS, _, _, rfl, rfl, c3, _, _, _, .int ns[j % ns.length], rfl, rfl, hS, hat, ?_⟩
        repeat (walk_at "np_r")
        refine ⟨by show 2 ≤ sizeLine; decide, fun p1 h1 => ?_⟩
        refine ⟨_, rfl, _, _, rfl, rfl, ⟨by decide, by decide, by decide⟩, _, _, rfl, rfl, .inr ⟨_, rfl, ?_⟩⟩
        refine ⟨p1, _, _, _, rfl, rfl, SqL.of upd_same, pick, ?_⟩
        refine ⟨_, rfl, by show 3 ≤ sizeLine; decide, fun p2 h2 => ?_⟩
        exact q p2 _ _ _ _ (upd_none h2).2 ((Same.new h1).trans (Same.new h2)) upd_same

      · repeat (walk_at "np_r")
        refine ⟨by show 2 ≤ sizeLine; decide, fun p1 h1 => ?_⟩
        refine ⟨_, rfl, _, _, rfl, rfl, ⟨by decide, by decide, by decide⟩, _, _, rfl, rfl, .inr ⟨_, rfl, ?_⟩⟩
        refine ⟨p1, _, _, _, rfl, rfl, SqL.of upd_same, pick, ?_⟩
        refine ⟨_, rfl, by show 3 ≤ sizeLine; decide, fun p2 h2 => ?_⟩
        exact q p2 _ _ _ _ (upd_none h2).2 ((Same.new h1).trans (Same.new h2)) upd_same

end

end Lw

set_option Elab.async false
set_option linter.all false
set_option maxRecDepth 100000
set_option maxHeartbeats 4000000
namespace Lw
open PySem PySem.Spec PyProof.Rows L2 Np
local macro_rules | `(tactic| walk_at "np_h") => `(tactic| first | assumption | exact upd_same | (refine (upd_ne ?_).trans ?_; (walk_at "np_ne"); (walk_at "np_h")) | exact SqL.of (by walk_at "np_h") | exact SqT.of (by walk_at "np_h"))
local macro_rules | `(tactic| walk_at "np_ne") => `(tactic| first | assumption | exact Ne.symm (by assumption))
local macro_rules | `(tactic| walk_at "np_r") => `(tactic| first
  | refine ⟨_, rfl, ?_⟩
  | refine ⟨_, _, rfl, rfl, ?_⟩
  | refine ⟨(.inl ⟨by decide, by decide⟩ : CMul _ _), ?_⟩
  | refine ⟨(.inr ⟨by decide, by decide⟩ : CMul _ _), ?_⟩
  | refine ⟨(by first | decide | omega : (0 : Int) < _), ?_⟩
  | refine ⟨(⟨by decide, by decide⟩ : CDiv _ _), ?_⟩
  | (refine' ⟨_, _, _, _, rfl, rfl, ?np1, ?np2, ?_⟩; (case np1 => walk_at "np_h"); (case np2 => rfl)))

theorem erase_perm {α : Type} : ∀ {l : List α} {k : Nat} (h : k < l.length), (l[k] :: l.eraseIdx k).Perm l
  | v :: l, 0, _ => .refl _
  | v :: l, k + 1, h => ((List.Perm.swap _ _ _).trans ((erase_perm (l := l) (Nat.lt_of_succ_lt_succ h)).cons v))
theorem seqIndex_nat {k n : Nat} (h : k < n) : seqIndex? (k : Int) n = some k := by
  unfold seqIndex?
  simp
  omega
section
variable {P : Program} {w : World} {K : PySem.W.Frag} {mg : Str → Option Value} {base : Heap}
/-- a drawn order of a list, a tuple -/
def spMixed (K : PySem.W.Frag) : Sp := fun vs H Q _ => ∃ (b p : Addr) (x y z : Int) (ys : List V), vs = [.ref b, .ref p] ∧ H b = some (bx x y z) ∧ (SqL K H p ys ∨ SqT K H p ys) ∧ ys.length ≤ 1000 ∧
  ∀ (q : Addr) (H' : Hp) (x' y' z' : Int) (zs : List V), H q = none → But b H H' → H' b = some (bx x' y' z') → H' q = some (.lst zs) → zs.Perm ys → Q (.ref q) H'
theorem scMixed : FnScope ["_law_box_here", "_law_things", "_law_left", "_law_found"] ["_law_box_here", "_law_things"] (defScope sMixed) := ⟨rfl, rfl, rfl, by decide +kernel, rfl, by decide +kernel, by decide +kernel⟩
theorem ok_mixed {f : Addr} {fd : FuncData} (F : FnT K "_law_mixed" sMixed f fd) (m : Bl mg) (c_take : Callee P w K mg base 1 "_law_take" ["_law_box_here", "_law_many"] spTake) : FnOk P w K mg base CX0 2 f fd ["_law_box_here", "_law_things"] (spMixed K) := by
  have nd := scMixed.nd
  refine F.ok scMixed (fun vs H Q E h => ?_) (fun cdv A outer s H vs Q E hr h => ?_)
  · obtain ⟨b, p, x, y, z, ys, rfl, _⟩ := h
    rfl
  · obtain ⟨b, p, x, y, z, ys, rfl, hb, hp, hl, q⟩ := h
    refine ⟨_, PSs.nox (pss_cons (ps_par (i := 2) (j := 3) (by rfl) nd rfl rfl (by decide) rfl rfl (pa_cons (pe_callTy call_list_of (by rfl) m.list (by decide +kernel) (pa_cons (pv 1) pa_nil)) (pa_cons (pe_lst pa_nil) pa_nil)) (by rfl))
  (pss_cons (ps_while PassesOwn.never (pt_cmpR (op_neE hr.units) (pv 2) (pe_lst pa_nil) (nomark _)) (pss_one (ps_expr (pe_bm PySem.F.plainAttrs_list PySem.F.slot_list_append PySem.F.type_list_append mt_append (pv 3) (pa_cons (pe_bm PySem.F.plainAttrs_list PySem.F.slot_list_pop PySem.F.type_list_pop mt_popAt (pv 2) (pa_cons (pe_callC c_take (hr.mono (by decide)) (pa_cons (pv 0) (pa_cons (pe_callB call_len_seq (by rfl) m.len (by decide +kernel) (pa_cons (pv 2) pa_nil)) pa_nil))) pa_nil)) pa_nil)))))
  (pss_one (ps_ret (pv 3))))), ?_⟩
    refine ⟨_, rfl, p, ys, rfl, hp, fun L hL => ?_⟩
    refine ⟨by show 0 ≤ sizeLine; decide, fun F hF => ?_⟩
    obtain ⟨nFL, hF0⟩ := upd_none hF
    have nLb : L ≠ b := (ne_of_none hb hL).symm
    have nFb : F ≠ b := (ne_of_none hb hF0).symm
    refine ⟨_, _, rfl, ?_⟩
    refine while_by (fun σ H1 => ∃ (left found : List V) (x y z : Int), σ = [some (.ref b), some (.ref p), some (.ref L), some (.ref F)] ∧ H1 b = some (bx x y z) ∧ H1 L = some (.lst left) ∧ H1 F = some (.lst found) ∧ (left ++ found).Perm ys ∧ But b H H1)
      (fun σ H1 => match H1 L with | some (.lst xs) => xs.length | _ => 0) ?_ ?_ ?_
    · refine ⟨ys, [], x, y, z, rfl, ?_, ?_, upd_same, by rw [List.append_nil], (But.of (Same.new hL)).trans (But.of (Same.new hF))⟩
      · rw [upd_ne nFb.symm, upd_ne nLb.symm]; exact hb
      · rw [upd_ne nFL.symm, upd_same]
    · rintro σ H1 ⟨left, found, x1, y1, z1, rfl, h1, h2, h3, h4, h5⟩
      refine ⟨_, rfl, by show 0 ≤ sizeLine; decide, fun N hN => ?_⟩
      refine ⟨L, N, left, rfl, rfl, Same.new hN |> fun s => SqL.of (s _ _ h2), SqL.of upd_same, ?_⟩
      have h1' := Same.new (o := .lst []) hN _ _ h1
      have h2' := Same.new (o := .lst []) hN _ _ h2
      have h3' := Same.new (o := .lst []) hN _ _ h3
      have h5' : But b H (upd H1 N (.lst [])) := h5.trans (But.of (Same.new hN))
      cases left with
      | nil =>
        refine ⟨_, rfl, _, rfl, ?_⟩
        exact q F _ x1 y1 z1 found hF0 h5' h1' h3' (by simpa using h4)
      | cons v left =>
        refine ⟨true, rfl, ?_⟩
        have hlen := h4.length_eq
        rw [List.length_append] at hlen
        refine ⟨_, rfl, .inl ⟨rfl, _, SqL.of h3'⟩, ?_⟩
        refine ⟨_, rfl, .inl ⟨rfl, _, SqL.of h2'⟩, ?_⟩
        refine ⟨_, rfl, _, rfl, L, _, rfl, .inl (SqL.of h2'), ?_⟩
        refine ⟨b, x1, y1, z1, _, rfl, h1', ?_, ?_, fun r x2 y2 z2 r0 r1 => ?_⟩
        · simp only [List.length_cons]; omega
        · simp only [List.length_cons] at hlen ⊢; omega
        obtain ⟨k, rfl⟩ : ∃ k : Nat, r = (k : Int) := ⟨r.toNat, by omega⟩
        have hk : k < (v :: left).length := by omega
        refine ⟨L, v :: left, k, k, (v :: left)[k], rfl, rfl, (upd_ne nLb).trans h2', by omega, by simp only [List.length_cons] at hlen hk; omega, seqIndex_nat hk, List.getElem?_eq_getElem hk, ?_⟩
        refine ⟨F, found, _, rfl, rfl, ?_, small1000 (by omega), ?_⟩
        · rw [upd_ne nFL, upd_ne nFb]; exact h3'
        · refine ⟨⟨(v :: left).eraseIdx k, found ++ [(v :: left)[k]], x2, y2, z2, rfl, ?_, ?_, upd_same, ?_, ?_⟩, ?_⟩
          · rw [upd_ne nFb.symm, upd_ne nLb.symm, upd_same]
          · rw [upd_ne nFL.symm, upd_same]
          · refine List.Perm.trans ?_ h4
            rw [← List.append_assoc]
            exact (List.perm_append_singleton _ _).trans ((erase_perm hk).append_right found)
          · exact But.fresh (But.fresh (But.trans h5' But.upd) hL) hF0
          · have e1 : (upd (upd (upd (upd H1 N (.lst [])) b (bx x2 y2 z2)) L (.lst ((v :: left).eraseIdx k))) F (.lst (found ++ [(v :: left)[k]]))) L = some (.lst ((v :: left).eraseIdx k)) := by rw [upd_ne nFL.symm, upd_same]
            simp only [e1, h2, List.length_eraseIdx, hk, if_true]
            omega
    · rintro σ H1 Q1 Q2 mono ⟨v, e1, lz, h⟩
      refine ⟨v, e1, lz, fun p hp => ?_⟩
      obtain ⟨a, b, xs, e2, e3, s1, s2, k, e4, q⟩ := h p hp
      exact ⟨a, b, xs, e2, e3, s1, s2, k, e4, mono _ _ q⟩
end
end Lw

set_option Elab.async false
set_option linter.all false
set_option maxRecDepth 100000
set_option maxHeartbeats 4000000
namespace Lw
open PySem PySem.Spec PyProof.Rows L2 Np TL
local macro_rules | `(tactic| walk_at "np_h") => `(tactic| first | assumption | exact upd_same | (refine (upd_ne ?_).trans ?_; (walk_at "np_ne"); (walk_at "np_h")) | exact SqL.of (by walk_at "np_h") | exact SqT.of (by walk_at "np_h"))
local macro_rules | `(tactic| walk_at "np_ne") => `(tactic| first | assumption | exact Ne.symm (by assumption))
local macro_rules | `(tactic| walk_at "np_r") => `(tactic| first
  | refine ⟨_, rfl, ?_⟩
  | refine ⟨_, _, rfl, rfl, ?_⟩
  | refine ⟨(.inl ⟨by decide, by decide⟩ : CMul _ _), ?_⟩
  | refine ⟨(.inr ⟨by decide, by decide⟩ : CMul _ _), ?_⟩
  | refine ⟨(by first | decide | omega : (0 : Int) < _), ?_⟩
  | refine ⟨(⟨by decide, by decide⟩ : CDiv _ _), ?_⟩
  | (refine' ⟨_, _, _, _, rfl, rfl, ?np1, ?np2, ?_⟩; (case np1 => walk_at "np_h"); (case np2 => rfl)))

theorem letter_at {r : Int} (h0 : 0 ≤ r) (h1 : r < 26) : atI (lettersS.cps.toList) r = some (97 + r.toNat) := by
  obtain ⟨k, rfl⟩ : ∃ k : Nat, r = (k : Int) := ⟨r.toNat, by omega⟩
  have all : ∀ k : Nat, k < 26 → (lettersS.cps.toList)[k]? = some (97 + k) := by decide +kernel
  exact atI_nat (all k (by omega))
theorem joinL_nil : ∀ l : List (List Nat), (joinL [] l).length = (l.map List.length).sum ∧ ∀ c ∈ joinL [] l, ∃ p ∈ l, c ∈ p
  | [] => ⟨rfl, fun _ h => nomatch h⟩
  | [p] => ⟨by simp [joinL], fun c h => ⟨p, List.mem_cons_self, h⟩⟩
  | p :: q :: r => by
    obtain ⟨h1, h2⟩ := joinL_nil (q :: r)
    refine ⟨?_, fun c h => ?_⟩
    · simp only [joinL, List.nil_append, List.length_append, h1, List.map_cons, List.sum_cons]
    · have h' : c ∈ p ++ ([] ++ joinL [] (q :: r)) := h
      rw [List.nil_append] at h'
      rcases List.mem_append.mp h' with h3 | h3
      · exact ⟨p, List.mem_cons_self, h3⟩
      · obtain ⟨s, h4, h5⟩ := h2 c h3
        exact ⟨s, List.mem_cons_of_mem _ h4, h5⟩
theorem ones_sum : ∀ {ys : List Str}, (∀ t ∈ ys, t.length = 1) → (ys.map (·.length)).sum = ys.length
  | [], _ => rfl
  | y :: ys, h => by
    have e := ones_sum (ys := ys) fun t ht => h t (List.mem_cons_of_mem _ ht)
    rw [List.map_cons, List.sum_cons, e, h y List.mem_cons_self, List.length_cons]
    omega
theorem join_right {ys : List Str} (h : ∀ t ∈ ys, ∃ c, t = sgn c ∧ 97 ≤ c ∧ c < 123) : (Txt.join "" ys).length = ys.length ∧ ∀ c ∈ tl (Txt.join "" ys), 97 ≤ c ∧ c < 123 := by
  rw [join_eq]
  have e : tl (Str.join "" ys) = joinL (tl "") (ys.map tl) := tl_join "" ys
  obtain ⟨h1, h2⟩ := joinL_nil (ys.map tl)
  have e0 : tl ("" : Str) = [] := rfl
  rw [e0] at e
  refine ⟨?_, fun c hc => ?_⟩
  · have e1 : (Str.join "" ys).length = (tl (Str.join "" ys)).length := rfl
    rw [e1, e, h1, List.map_map]
    have e2 : (List.length ∘ tl) = (fun t : Str => t.length) := rfl
    rw [e2, ones_sum fun t ht => by obtain ⟨c, rfl, _⟩ := h t ht; rfl]
  · rw [e] at hc
    obtain ⟨p, hp, hcp⟩ := h2 c hc
    obtain ⟨t, ht, rfl⟩ := List.mem_map.mp hp
    obtain ⟨d, rfl, hd⟩ := h t ht
    cases List.mem_singleton.mp (show c ∈ [d] from hcp)
    exact hd
section
variable {P : Program} {w : World} {K : PySem.W.Frag} {mg : Str → Option Value} {base : Heap}
def spNames : Sp := fun vs H Q _ => ∃ (b : Addr) (x y z : Int) (many : Nat), vs = [.ref b, .int many] ∧ H b = some (bx x y z) ∧ many ≤ 26 ∧
  ∀ (q : Addr) (H' : Hp) (x' y' z' : Int) (ns : List Str), H q = none → But b H H' → H' b = some (bx x' y' z') → H' q = some (.lst (ns.map V.str)) → ns.Nodup → (∀ t ∈ ns, RightName t) → ns.length ≤ many → (many ≤ 12 → ns.length = many) → Q (.ref q) H'
theorem scNames : FnScope ["_law_box_here", "_law_many", "_law_letters", "_law_form", "_law_words", "_law_k", "_law_stem", "_law_spot", "_law_first", "_law_found", "_law_letter", "_law_name"] ["_law_box_here", "_law_many"] (defScope sNames) := ⟨rfl, rfl, rfl, by decide +kernel, rfl, by decide +kernel, by decide +kernel⟩
theorem ok_names {f : Addr} {fd : FuncData} (F : FnT K "_law_names" sNames f fd) (m : Bl mg) (c_take : Callee P w K mg base 1 "_law_take" ["_law_box_here", "_law_many"] spTake) (c_mixed : Callee P w K mg base 2 "_law_mixed" ["_law_box_here", "_law_things"] (spMixed K)) : FnOk P w K mg base CX0 3 f fd ["_law_box_here", "_law_many"] spNames := by
  have nd := scNames.nd
  refine F.ok scNames (fun vs H Q E h => ?_) (fun cdv A outer s H vs Q E hr h => ?_)
  · obtain ⟨b, x, y, z, n, rfl, _⟩ := h
    rfl
  · obtain ⟨b, x, y, z, n, rfl, hb, hn, q⟩ := h
    refine ⟨_, PSs.nox (pss_cons (ps_asg (pe_tup (pa_cons pe_str (pa_cons (pe_callC c_take (hr.mono (by decide)) (pa_cons (pv 0) (pa_cons pe_int pa_nil))) pa_nil))) (pg_tup (by rfl) (pgs_cons (pg_name (i := 2) nd rfl (.inr rfl)) (pgs_cons (pg_name (i := 3) nd rfl (.inl rfl)) pgs_nil))))
  (pss_cons (ps_if (pt_cmpR op_eq (pv 3) pe_int (nomark _)) (pss_cons (ps_set (i := 4) nd rfl (.inl rfl) (pe_lst (pa_cons pe_str (pa_cons pe_str (pa_cons pe_str (pa_cons pe_str (pa_cons pe_str (pa_cons pe_str (pa_cons pe_str (pa_cons pe_str (pa_cons pe_str (pa_cons pe_str (pa_cons pe_str (pa_cons pe_str pa_nil))))))))))))))
  (pss_one (ps_ret (pe_slice sl_list (pe_callC c_mixed (hr.mono (by decide)) (pa_cons (pv 0) (pa_cons (pv 4) pa_nil))) po_none (po_some (pv 1)))))) pss_nil)
  (pss_cons (ps_set (i := 6) nd rfl (.inl rfl) (pe_bm PySem.F.plainAttrs_str PySem.F.slot_str_join PySem.F.type_str_join mt_join pe_str (pa_cons (pe_lc (own := [("_law_k", 5)]) (g := gName 5) (tt := tYes) rfl nd (pi_range1 (by rfl) m.range (pa_cons (pe_ix ix_list (pe_lst (pa_cons (pe_callC c_take (hr.mono (by decide)) (pa_cons (pv 0) (pa_cons pe_int pa_nil))) (pa_cons pe_int pa_nil))) (pe_callTy call_int1 (by rfl) m.int (by decide +kernel) (pa_cons (pe_cmpR op_eq (pv 3) pe_int (nomark _)) pa_nil)) (fun _ _ => rfl)) pa_nil)) (blkOk_by (N := ["_law_box_here", "_law_many", "_law_letters", "_law_form", "_law_words", "_law_k", "_law_stem", "_law_spot", "_law_first", "_law_found", "_law_letter", "_law_name"]) (sc := defScope sNames) (by decide +kernel)) (fun _ _ _ _ _ => (pg_name (i := 5) nd rfl (.inl rfl))) (fun _ _ _ _ _ => pts_nil) (fun _ _ _ _ _ => (pe_ix ix_str (pv 2) (pe_callC c_take (hr.mono (by decide)) (pa_cons (pv 0) (pa_cons pe_int pa_nil))) (fun _ _ => rfl)))) pa_nil)))
  (pss_cons (ps_par (i := 7) (j := 8) (by rfl) nd rfl rfl (by decide) rfl rfl (pa_cons (pe_ix ix_list (pe_lst (pa_cons (pe_callC c_take (hr.mono (by decide)) (pa_cons (pv 0) (pa_cons (pe_op op_add (pe_callB call_len_str (by rfl) m.len (by decide +kernel) (pa_cons (pv 6) pa_nil)) pe_int) pa_nil))) (pa_cons pe_int pa_nil))) (pe_callTy call_int1 (by rfl) m.int (by decide +kernel) (pa_cons (pe_cmpR op_eq (pv 3) pe_int (nomark _)) pa_nil)) (fun _ _ => rfl)) (pa_cons (pe_callC c_take (hr.mono (by decide)) (pa_cons (pv 0) (pa_cons pe_int pa_nil))) pa_nil)) (by rfl))
  (pss_cons (ps_set (i := 9) nd rfl (.inl rfl) (pe_lst pa_nil))
  (pss_cons (ps_for PassesOwn.never rfl (pi_range1 (by rfl) m.range (pa_cons (pv 1) pa_nil)) (pg_name (i := 5) nd rfl (.inl rfl))
   (pss_cons (ps_set (i := 10) nd rfl (.inl rfl) (pe_ix ix_str (pv 2) (pe_op op_mod (pe_op op_add (pv 8) (pe_op op_mul pe_int (pv 5))) pe_int) (fun _ _ => rfl)))
  (pss_cons (ps_set (i := 11) nd rfl (.inl rfl) (pe_op op_add_str (pe_op op_add_str (pe_slice sl_str (pv 6) po_none (po_some (pv 7))) (pv 10)) (pe_slice sl_str (pv 6) (po_some (pv 7)) po_none)))
  (pss_cons (ps_if (PW.pt (pw_and (pt_cmpR op_eq (pv 3) pe_int (nomark _)) (pw_and1 (pt_cmpR op_eq (pe_op op_mod (pv 5) pe_int) pe_int (nomark _))))) (pss_one (ps_set (i := 11) nd rfl (.inl rfl) (pe_op op_add_str (pe_ix ix_list (pv 9) (pe_un un_neg pe_int) (fun _ _ => rfl)) (pv 10)))) pss_nil)
  (pss_one (ps_expr (pe_bm PySem.F.plainAttrs_list PySem.F.slot_list_append PySem.F.type_list_append mt_append (pv 9) (pa_cons (pv 11) pa_nil))))))))
  (pss_one (ps_ret (pe_callC c_mixed (hr.mono (by decide)) (pa_cons (pv 0) (pa_cons (pv 9) pa_nil))))))))))), ?_⟩
    refine ⟨_, rfl, b, x, y, z, 5, rfl, hb, by decide, by decide, fun fm x1 y1 z1 f0 f1 => ?_⟩
    refine ⟨by show 2 ≤ sizeLine; decide, fun T0 hT0 => ?_⟩
    obtain ⟨nT0b, hT0'⟩ := upd_none hT0
    refine ⟨T0, _, rfl, SqT.of upd_same, rfl, _, _, rfl, _, _, rfl, rfl, ?_⟩
    have hb1 : (upd (upd H b (bx x1 y1 z1)) T0 (.tup [.str lettersS, .int fm])) b = some (bx x1 y1 z1) := (upd_ne nT0b.symm).trans upd_same
    have B0 : But b H (upd (upd H b (bx x1 y1 z1)) T0 (.tup [.str lettersS, .int fm])) := But.fresh But.upd hT0'
    repeat (walk_at "np_r")
    refine ⟨rfl, _, rfl, ?_⟩
    refine ite2 (fun c => ?_) (fun c => ?_)
    · refine ⟨by show 12 ≤ sizeLine; decide, fun W hW => ?_⟩
      refine ⟨_, rfl, _, rfl, b, W, x1, y1, z1, wordsL.map V.str, rfl, Same.new hW _ _ hb1, .inl (SqL.of upd_same), by decide, fun o H1 x2 y2 z2 zs no B1 e1 e2 pm => ?_⟩
      obtain ⟨ns, rfl, pn⟩ := perm_strs pm
      refine ⟨_, rfl, _, rfl, o, _, rfl, SqL.of e2, fun p hp => ?_⟩
      have hlen := pn.length_eq
      have hw : wordsL.length = 12 := rfl
      have ep : (upd H1 p (.lst (cutV (ns.map V.str) none (some (n : Int))))) p = some (.lst ((ns.take n).map V.str)) := by rw [upd_same, cutV_take, List.map_take]
      have bp : p ≠ b := fun z => by rw [z, e1] at hp; cases hp
      refine q p _ x2 y2 z2 (ns.take n) (But.free B0 hb1 (But.free (But.of (Same.new hW)) (Same.new hW _ _ hb1) (But.free B1 e1 hp))) ((((B0.trans (But.of (Same.new hW))).trans B1).trans (But.of (Same.new hp)))) ((upd_ne bp.symm).trans e1) ep ?_ ?_ ?_ ?_
      · exact ((pn.nodup_iff).mpr wordsL_nodup).sublist (List.take_sublist _ _)
      · exact fun t ht => wordsL_right t (pn.subset (List.mem_of_mem_take ht))
      · rw [List.length_take]; omega
      · intro h12
        rw [List.length_take]; omega
    · refine ⟨?ty, _, rfl, b, x1, y1, z1, 5, rfl, hb1, by decide, by decide, fun r2 x2 y2 z2 s0 s1 => ?_⟩
      case ty => exact rfl
      refine ⟨by show 2 ≤ sizeLine; decide, fun P1 hP1 => ?_⟩
      obtain ⟨nP1, hP1'⟩ := upd_none hP1
      have hb2 : (upd (upd (upd (upd H b (bx x1 y1 z1)) T0 (.tup [.str lettersS, .int fm])) b (bx x2 y2 z2)) P1 (.lst [.int r2, .int 5])) b = some (bx x2 y2 z2) := (upd_ne nP1.symm).trans upd_same
      have B2 : But b H (upd (upd (upd (upd H b (bx x1 y1 z1)) T0 (.tup [.str lettersS, .int fm])) b (bx x2 y2 z2)) P1 (.lst [.int r2, .int 5])) := But.fresh (B0.trans But.upd) (But.free B0 hb1 hP1')
      refine ⟨_, rfl, rfl, .inr ⟨_, rfl, ?_⟩⟩
      refine ⟨P1, _, _, _, rfl, rfl, SqL.of upd_same, pick, ?_⟩
      obtain ⟨l, el, l5, l4⟩ : ∃ l : Nat, (if decide (V.int fm = V.int 4) = true then (5 : Int) else r2) = (l : Int) ∧ l ≤ (if decide (fm = 1) = true then 4 else 5) ∧ (fm = 4 → l = 5) := by
        by_cases h4 : fm = 4
        · refine ⟨5, ?_, ?_, fun _ => rfl⟩
          · rw [if_pos (decide_eq_true (congrArg V.int h4))]; rfl
          · rw [if_neg (by simp; omega)]
            exact Nat.le_refl _
        · refine ⟨r2.toNat, ?_, ?_, fun z => absurd z h4⟩
          · rw [if_neg (by simpa using fun z => h4 z)]; omega
          · split <;> omega
      rw [el]
      refine ⟨_, rfl, by omega, by split at l5 <;> omega, fun D hD => ?_⟩
      have nDb : D ≠ b := (ne_of_none hb2 hD).symm
      refine lc_range (lo := 0) (n := l) (fun i H2 => ∃ (ys : List Str) (x y z : Int), H2 D = some (.lst (ys.map V.str)) ∧ ys.length = i ∧ (∀ t ∈ ys, ∃ c, t = sgn c ∧ 97 ≤ c ∧ c < 123) ∧ H2 b = some (bx x y z) ∧ But b H H2) ?_ ?_ ?_
      · exact ⟨[], x2, y2, z2, upd_same, rfl, (fun t ht => absurd ht (by simp)), (upd_ne nDb.symm).trans hb2, But.fresh B2 (But.free B2 hb2 hD)⟩
      · rintro i H2 hi ⟨ys, x3, y3, z3, g1, rfl, g3, g4, g5⟩
        refine ⟨rfl, ?_⟩
        refine ⟨_, rfl, _, rfl, b, x3, y3, z3, 26, rfl, g4, by decide, by decide, fun k x4 y4 z4 k0 k1 => ?_⟩
        refine ⟨_, _, _, rfl, rfl, by decide, letter_at k0 k1, _, (upd_ne nDb).trans g1, ?_, ?_⟩
        · rw [List.length_map]
          exact small1000 (by split at l5 <;> omega)
        · refine ⟨ys ++ [sgn (97 + k.toNat)], x4, y4, z4, ?_, ?_, ?_, ?_, ?_⟩
          · rw [upd_same, List.map_append]; rfl
          · rw [List.length_append]; rfl
          · intro t ht
            rcases List.mem_append.mp ht with h | h
            · exact g3 t h
            · cases List.mem_singleton.mp h
              exact ⟨_, rfl, by omega, by omega⟩
          · exact (upd_ne nDb.symm).trans upd_same
          · exact But.fresh (But.trans g5 But.upd) (But.free B2 hb2 hD)
      · rintro H2 ⟨ys, x3, y3, z3, g1, g2, g3, g4, g5⟩
        obtain ⟨jl, jr⟩ := join_right g3
        refine ⟨_, D, ys, rfl, rfl, .inl (SqL.of g1), ?_, ?_⟩
        · rw [ones_sum fun t ht => by obtain ⟨c, rfl, _⟩ := g3 t ht; rfl]
          show ys.length + ys.length * 0 ≤ 16777216
          split at l5 <;> omega
        generalize Txt.join "" ys = S at jl jr
        have hz : S.length ≤ 5 := by rw [jl, g2]; split at l5 <;> omega
        refine ⟨_, rfl, _, rfl, S, rfl, Nat.le_trans hz (by decide), _, _, rfl, rfl, b, x3, y3, z3, _, rfl, g4, by omega, by omega, fun r5 x5 y5 z5 t0 t1 => ?_⟩
        refine ⟨by show 2 ≤ sizeLine; decide, fun P2 hP2 => ?_⟩
        obtain ⟨nP2, hP2'⟩ := upd_none hP2
        have hb5 : (upd (upd H2 b (bx x5 y5 z5)) P2 (.lst [.int r5, .int 5])) b = some (bx x5 y5 z5) := (upd_ne nP2.symm).trans upd_same
        have B5 : But b H (upd (upd H2 b (bx x5 y5 z5)) P2 (.lst [.int r5, .int 5])) := But.fresh (But.trans g5 But.upd) (But.free g5 g4 hP2')
        refine ⟨_, rfl, rfl, .inr ⟨_, rfl, ?_⟩⟩
        refine ⟨P2, _, _, _, rfl, rfl, SqL.of upd_same, pick, ?_⟩
        obtain ⟨sp, esp, hsp⟩ : ∃ sp : Nat, (if decide (V.int fm = V.int 4) = true then (5 : Int) else r5) = (sp : Int) ∧ sp ≤ S.length := by
          by_cases h4 : fm = 4
          · refine ⟨5, ?_, ?_⟩
            · rw [if_pos (decide_eq_true (congrArg V.int h4))]; rfl
            · rw [jl, g2, l4 h4]
              exact Nat.le_refl _
          · refine ⟨r5.toNat, ?_, ?_⟩
            · rw [if_neg (by simpa using fun z => h4 z)]; omega
            · omega
        rw [esp]
        refine ⟨_, rfl, b, x5, y5, z5, 26, rfl, hb5, by decide, by decide, fun fi x6 y6 z6 u0 u1 => ?_⟩
        obtain ⟨ft, rfl⟩ : ∃ ft : Nat, fi = (ft : Int) := ⟨fi.toNat, by omega⟩
        refine ⟨_, _, rfl, ?_⟩
        refine ⟨by show 0 ≤ sizeLine; decide, fun G hG => ?_⟩
        have B6 : But b H (upd (upd (upd H2 b (bx x5 y5 z5)) P2 (.lst [.int r5, .int 5])) b (bx x6 y6 z6)) := B5.trans But.upd
        have nGb : G ≠ b := (ne_of_none upd_same hG).symm
        have hG0 : H G = none := But.free B6 upd_same hG
        refine ⟨_, rfl, _, rfl, by omega, by omega, for_range (n := n) (fun i σ H3 => (∃ s5 s10 s11 : Option V, σ = [some (.ref b), some (.int n), some (.str lettersS), some (.int fm), none, s5, some (.str S), some (.int sp), some (.int ft), some (.ref G), s10, s11]) ∧
          H3 G = some (.lst ((nms (decide (fm = 1)) S sp ft i).map V.str)) ∧ H3 b = some (bx x6 y6 z6) ∧ But b H H3) ?_ ?_ ?_⟩
        · refine ⟨⟨_, _, _, rfl⟩, upd_same, (upd_ne nGb.symm).trans upd_same, But.fresh B6 hG0⟩
        · rintro i σ H3 hi ⟨⟨s5, s10, s11, rfl⟩, h1, h2, h3⟩
          have hi26 : i < 26 := by omega
          have hl : atI (lettersS.cps.toList) (((ft : Int) + 7 * (0 + (i : Int))) % 26) = some (sg ft i) := by
            rw [letter_at (by omega) (by omega)]
            unfold sg
            exact congrArg some (by omega)
          refine ⟨_, rfl, _, rfl, _, rfl, _, _, rfl, rfl, .inl ⟨by decide, by decide⟩, _, _, rfl, rfl, _, _, rfl, rfl, (by decide : (0 : Int) < 26), _, _, _, rfl, rfl, by decide, hl, ?_⟩
          have c1 := cutS_length S none (some (sp : Int))
          have c2 := cutS_length S (some (sp : Int)) none
          have z1 : ∀ n, n ≤ 20 → n ≤ sizeLine := fun n h => Nat.le_trans h (by decide)
          refine ⟨_, rfl, _, rfl, _, rfl, S, rfl, z1 _ (by omega), ?_⟩
          refine ⟨_, rfl, _, _, rfl, rfl, z1 _ (by show (cutS S none (some (sp : Int))).length + 1 ≤ 20; omega), ?_⟩
          refine ⟨_, rfl, _, rfl, _, rfl, S, rfl, z1 _ (by omega), ?_⟩
          have e0 : (cutS S none (some (sp : Int)) ++ sgn (sg ft i)).length = (cutS S none (some (sp : Int))).length + 1 := str_app _ _
          refine ⟨_, _, rfl, rfl, z1 _ (by show (cutS S none (some (sp : Int)) ++ sgn (sg ft i)).length + (cutS S (some (sp : Int)) none).length ≤ 20; omega), ?_⟩
          have keepG : ∀ t : Str, t = nm (decide (fm = 1)) S sp ft i → (upd H3 G (.lst ((nms (decide (fm = 1)) S sp ft i).map V.str ++ [.str t]))) G = some (.lst ((nms (decide (fm = 1)) S sp ft (i + 1)).map V.str)) ∧
              (upd H3 G (.lst ((nms (decide (fm = 1)) S sp ft i).map V.str ++ [.str t]))) b = some (bx x6 y6 z6) ∧ But b H (upd H3 G (.lst ((nms (decide (fm = 1)) S sp ft i).map V.str ++ [.str t]))) := by
            rintro t rfl
            refine ⟨?_, (upd_ne nGb.symm).trans h2, But.fresh h3 hG0⟩
            rw [upd_same, nms_succ, List.map_append]
            rfl
          have sml : ((nms (decide (fm = 1)) S sp ft i).map V.str).length < sizeLine := by
            rw [List.length_map, nms_len]
            exact small1000 (by omega)
          refine ⟨_, rfl, rfl, _, rfl, ?_⟩
          refine ite2 (fun d1 => ?_) (fun d1 => ?_)
          · have f1 : fm = 1 := V.int.inj (of_decide_eq_true d1)
            refine ⟨_, rfl, _, _, rfl, rfl, (by decide : (0 : Int) < 2), rfl, _, rfl, ?_⟩
            refine ite2 (fun d2 => ?_) (fun d2 => ?_)
            · have i2 : i % 2 = 1 := by have := V.int.inj (of_decide_eq_true d2); omega
              obtain ⟨j, rfl⟩ : ∃ j, i = j + 1 := ⟨i - 1, by omega⟩
              have lastI : atI ((nms (decide (fm = 1)) S sp ft (j + 1)).map V.str) (-1) = some (.str (nmB S sp (sg ft j))) := by
                rw [nms_succ, List.map_append]
                have e : nm (decide (fm = 1)) S sp ft j = nmB S sp (sg ft j) := by unfold nm; rw [if_neg (fun z => by have := z.2; omega)]
                rw [e]
                exact atI_last _ _
              refine ⟨_, rfl, _, rfl, G, _, _, _, rfl, rfl, SqL.of h1, lastI, ?_⟩
              refine ⟨_, rfl, _, _, rfl, rfl, z1 _ (by show (nmB S sp (sg ft j)).length + 1 ≤ 20; rw [nmB_len]; omega), ?_⟩
              refine ⟨_, rfl, .inl ⟨rfl, _, SqL.of h1⟩, _, rfl, G, _, _, rfl, rfl, h1, sml, ?_⟩
              exact ⟨⟨_, _, _, rfl⟩, keepG _ (by unfold nm; rw [if_pos ⟨decide_eq_true f1, i2⟩]; rfl)⟩
            · refine ⟨_, rfl, .inl ⟨rfl, _, SqL.of h1⟩, _, rfl, G, _, _, rfl, rfl, h1, sml, ?_⟩
              exact ⟨⟨_, _, _, rfl⟩, keepG _ (by unfold nm; rw [if_neg (fun z => d2 (decide_eq_true (congrArg V.int (by have := z.2; omega))))]; rfl)⟩
          · refine ⟨_, rfl, .inl ⟨rfl, _, SqL.of h1⟩, _, rfl, G, _, _, rfl, rfl, h1, sml, ?_⟩
            exact ⟨⟨_, _, _, rfl⟩, keepG _ (by unfold nm; rw [if_neg (fun z => d1 (by simpa using z.1))]; rfl)⟩
        · rintro σ H3 ⟨⟨s5, s10, s11, rfl⟩, h1, h2, h3⟩
          refine ⟨_, rfl, _, rfl, b, G, x6, y6, z6, _, rfl, h2, .inl (SqL.of h1), by rw [List.length_map, nms_len]; omega, fun o H4 x7 y7 z7 zs no B7 v1 v2 pm => ?_⟩
          obtain ⟨ns, rfl, pn⟩ := perm_strs pm
          have hlen := pn.length_eq
          rw [nms_len] at hlen
          refine q o H4 x7 y7 z7 ns (But.free h3 h2 no) (h3.trans B7) v1 v2 ((pn.nodup_iff).mpr (nms_nodup hsp hn)) (fun t ht => ?_) (by omega) (fun _ => hlen)
          obtain ⟨k, _, rfl⟩ := List.mem_map.mp (show t ∈ (List.range n).map _ from pn.subset ht)
          exact nm_right (by rw [jl, g2]; exact l5) jr
end
end Lw

set_option Elab.async false
set_option linter.all false
set_option maxRecDepth 100000
set_option maxHeartbeats 4000000
namespace Lw
open PySem PySem.Spec PyProof.Rows L2 Np TL
local macro_rules | `(tactic| walk_at "np_h") => `(tactic| first | assumption | exact upd_same | (refine (upd_ne ?_).trans ?_; (walk_at "np_ne"); (walk_at "np_h")) | exact SqL.of (by walk_at "np_h") | exact SqT.of (by walk_at "np_h"))
local macro_rules | `(tactic| walk_at "np_ne") => `(tactic| first | assumption | exact Ne.symm (by assumption))
local macro_rules | `(tactic| walk_at "np_r") => `(tactic| first
  | refine ⟨_, rfl, ?_⟩
  | refine ⟨_, _, rfl, rfl, ?_⟩
  | refine ⟨(.inl ⟨by decide, by decide⟩ : CMul _ _), ?_⟩
  | refine ⟨(.inr ⟨by decide, by decide⟩ : CMul _ _), ?_⟩
  | refine ⟨(by first | decide | omega : (0 : Int) < _), ?_⟩
  | refine ⟨(⟨by decide, by decide⟩ : CDiv _ _), ?_⟩
  | (refine' ⟨_, _, _, _, rfl, rfl, ?np1, ?np2, ?_⟩; (case np1 => walk_at "np_h"); (case np2 => rfl)))

theorem iteNP {c A B : Prop} [Decidable c] (hc : ¬ c) (h : A) : if (!decide c) = true then A else B := by
  rw [decide_eq_false hc]
  exact iteT h
section
variable {P : Program} {w : World} {K : PySem.W.Frag} {mg : Str → Option Value} {base : Heap}
def spRows (K : PySem.W.Frag) : Sp := fun vs H Q _ => ∃ (pg wt : Addr) (tp tw : Bool) (pegs : List Str) (W : List (Str × Str)) (wa : List Addr), vs = [.ref pg, .ref wt] ∧ SqB K tp H pg (pegs.map V.str) ∧ SqB K tw H wt (wa.map V.ref) ∧ PairsAt K H wa W ∧
  pegs.Nodup ∧ pegs.length ≤ 30 ∧ W.length ≤ 900 ∧ (∀ w ∈ W, w.1 ∈ pegs ∧ w.2 ∈ pegs) ∧ Ranked W pegs ∧
  ∀ (R : Addr) (H' : Hp) (ad : Str → Addr), Same H H' → H R = none → H' R = some (.dK (byPeg pegs fun p => .ref (ad p))) → (∀ p ∈ pegs, H' (ad p) = some (.tup ((rowOf W pegs p).map V.str))) → Q (.ref R) H'
theorem scRows : FnScope ["_law_pegs", "_law_wants", "_law_peg", "_law_found", "_law_turn", "_law_needed", "_law_one"] ["_law_pegs", "_law_wants"] (defScope sRows) := ⟨rfl, rfl, rfl, by decide +kernel, rfl, by decide +kernel, by decide +kernel⟩
theorem ok_rows {f : Addr} {fd : FuncData} (F : FnT K "_law_rows" sRows f fd) (m : Bl mg) : FnOk P w K mg base CX0 1 f fd ["_law_pegs", "_law_wants"] (spRows K) := by
  have nd := scRows.nd
  refine F.ok scRows (fun vs H Q E h => ?_) (fun cdv A outer s H vs Q E hr h => ?_)
  · obtain ⟨pg, wt, tp, tw, pegs, W, wa, rfl, _⟩ := h
    rfl
  · obtain ⟨pg, wt, tp, tw, pegs, W, wa, rfl, hp, hw, hP, hnd, hl, hlW, hin, ⟨rk, hrk, hrn⟩, q⟩ := h
    refine ⟨_, PSs.nox (pss_cons (ps_set (i := 3) nd rfl (.inr rfl) (pe_callTy (call_dictP (by rfl)) (by rfl) m.dict (by decide +kernel) (pa_cons (pe_lc (own := [("_law_peg", 2)]) (g := gName 2) (tt := tYes) rfl nd (pi_sq (pv 0)) (blkOk_by (N := ["_law_pegs", "_law_wants", "_law_peg", "_law_found", "_law_turn", "_law_needed", "_law_one"]) (sc := defScope sRows) (by decide +kernel)) (fun _ _ _ _ _ => (pg_name (i := 2) nd rfl (.inl rfl))) (fun _ _ _ _ _ => pts_nil) (fun _ _ _ _ _ => (pe_tup (pa_cons (pv 2) (pa_cons (pe_lst (pa_cons (pv 2) pa_nil)) pa_nil))))) pa_nil)))
  (pss_cons (ps_for PassesOwn.never rfl (pi_range1 (by rfl) m.range (pa_cons (pe_callB call_len_seq (by rfl) m.len (by decide +kernel) (pa_cons (pv 0) pa_nil)) pa_nil)) (pg_name (i := 4) nd rfl (.inl rfl))
   (pss_one (ps_for PassesOwn.never rfl (pi_sq (pv 1)) (pg_tup (by rfl) (pgs_cons (pg_name (i := 2) nd rfl (.inr rfl)) (pgs_cons (pg_name (i := 5) nd rfl (.inl rfl)) pgs_nil)))
   (pss_one (ps_asg (pe_op op_cat (pe_dget (hu_of hr) (pv 3) (pv 2) (fun _ _ => rfl)) (pe_lc (own := [("_law_one", 6)]) (g := gName 6) rfl nd (pi_list (pe_dget (hu_of hr) (pv 3) (pv 5) (fun _ _ => rfl))) (blkOk_by (N := ["_law_pegs", "_law_wants", "_law_peg", "_law_found", "_law_turn", "_law_needed", "_law_one"]) (sc := defScope sRows) (by decide +kernel)) (fun _ _ _ _ _ => (pg_name (i := 6) nd rfl (.inl rfl))) (fun _ _ _ _ _ => pts_one (pt_cmpR (op_notIn_seqK (K := K) rfl) (pv 6) (pe_dget (hu_of hr) (pv 3) (pv 2) (fun _ _ => rfl)) (by rfl))) (fun _ _ _ _ _ => (pv 6)))) (pg_sub (pv 3) (pv 2) (set_dict (hu_of hr))))))))
  (pss_one (ps_ret (pe_callTy (call_dictP (by rfl)) (by rfl) m.dict (by decide +kernel) (pa_cons (pe_lc (own := [("_law_peg", 2)]) (g := gName 2) (tt := tYes) rfl nd (pi_sq (pv 0)) (blkOk_by (N := ["_law_pegs", "_law_wants", "_law_peg", "_law_found", "_law_turn", "_law_needed", "_law_one"]) (sc := defScope sRows) (by decide +kernel)) (fun _ _ _ _ _ => (pg_name (i := 2) nd rfl (.inr rfl))) (fun _ _ _ _ _ => pts_nil) (fun _ _ _ _ _ => (pe_tup (pa_cons (pv 2) (pa_cons (pe_callTy (call_tuple_ofK (K := K) rfl) (by rfl) m.tuple (by decide +kernel) (pa_cons (pe_lc (own := [("_law_one", 6)]) (g := gName 6) rfl nd (pi_sqK (K := K) rfl (pv 0)) (blkOk_by (by kernel_rfl)) (fun _ _ _ _ _ => (pg_name (i := 6) nd rfl (.inl rfl))) (fun _ _ _ _ _ => pts_one (pt_cmpR (op_in_seqK (K := K) rfl) (pv 6) (pe_dget (hu_of hr) (pv 3) (pv 2) (fun _ _ => rfl)) (by rfl))) (fun _ _ _ _ _ => (pv 6))) pa_nil)) pa_nil))))) pa_nil)))))), ?_⟩
    have hlen : (pegs.map V.str).length = pegs.length := List.length_map _
    refine ⟨_, rfl, tp, pg, _, rfl, hp, fun D hD => ?_⟩
    refine lc_it (walk_sq (K := K) (xs := pegs.map V.str)) (fun i H2 => ∃ (ts : List Addr) (ad : Str → Addr), H2 D = some (.lst (ts.map V.ref)) ∧ Paired (fun T kv => SqT K (hide D H2) T [kV kv.1, kv.2]) ts (byPeg (pegs.take i) fun p => .ref (ad p)) ∧
      (∀ p ∈ pegs.take i, hide D H2 (ad p) = some (.lst [.str p])) ∧ Same H (hide D H2) ∧ ts.length = i) ?_ ?_ ?_ ?_
    · exact ⟨[], fun _ => 0, upd_same, .nil, (fun p hp => by simp at hp), hide_start hD, rfl⟩
    · rintro i H2 hi ⟨ts, ad, h1, h2, h3, h4, h5⟩
      exact SqB.same hp (h4.trans (hide_same D H2))
    · rintro i x H2 H3 hi ⟨ts, ad, h1, h2, h3, h4, h5⟩ ⟨rfl, hx⟩
      obtain ⟨s, rfl, hs⟩ := str_at hx
      refine ⟨rfl, ?_⟩
      refine ⟨_, rfl, _, rfl, by show 1 ≤ sizeLine; decide, fun l hl => ?_⟩
      refine ⟨by show 2 ≤ sizeLine; decide, fun T hT => ?_⟩
      obtain ⟨nTl, hT0⟩ := upd_none hT
      have nlD : l ≠ D := (ne_of_none h1 hl).symm
      have nTD : T ≠ D := (ne_of_none h1 hT0).symm
      refine ⟨_, (upd_ne nTD.symm).trans ((upd_ne nlD.symm).trans h1), ?_, ?_⟩
      · rw [List.length_map, h5]
        exact small1000 (by omega)
      have M : Same (hide D H3) (hide D (upd (upd (upd H3 l (.lst [.str s])) T (.tup [.str s, .ref l])) D (.lst (ts.map V.ref ++ [.ref T])))) := hide_mono (((But.of (Same.new hl)).trans (But.of (Same.new hT))).trans But.upd)
      have gl : hide D (upd (upd (upd H3 l (.lst [.str s])) T (.tup [.str s, .ref l])) D (.lst (ts.map V.ref ++ [.ref T]))) l = some (.lst [.str s]) := by rw [hide_ne nlD, upd_ne nlD, upd_ne nTl.symm, upd_same]
      have gT : hide D (upd (upd (upd H3 l (.lst [.str s])) T (.tup [.str s, .ref l])) D (.lst (ts.map V.ref ++ [.ref T]))) T = some (.tup [.str s, .ref l]) := by rw [hide_ne nTD, upd_ne nTD, upd_same]
      have ni := not_in_take hnd hs
      refine ⟨ts ++ [T], fun x => if x = s then l else ad x, ?_, ?_, ?_, h4.trans M, by rw [List.length_append, h5]; rfl⟩
      · rw [upd_same, List.map_append]; rfl
      · rw [take_succ_of hs, byPeg_snoc (f := fun p => .ref (ad p)) (fun x hx => congrArg V.ref (if_neg (fun z => ni (by rw [← z]; exact hx))))]
        refine Paired.snoc (Paired.mapP h2 fun _ _ z => Same.sqT M z) ?_
        have e : (if s = s then l else ad s) = l := if_pos rfl
        show SqT K _ T [.str s, .ref (if s = s then l else ad s)]
        rw [e]
        exact SqT.of gT
      · intro p hp'
        rw [take_succ_of hs] at hp'
        rcases List.mem_append.mp hp' with h | h
        · have e : (if p = s then l else ad p) = ad p := if_neg fun z => ni (by rw [← z]; exact h)
          show hide D _ (if p = s then l else ad p) = _
          rw [e]
          exact M _ _ (h3 p h)
        · cases List.mem_singleton.mp h
          have e : (if s = s then l else ad s) = l := if_pos rfl
          show hide D _ (if s = s then l else ad s) = _
          rw [e]
          exact gl
    · rintro H2 ⟨ts, ad, h1, h2, h3, h4, h5⟩
      have et : pegs.take (pegs.map V.str).length = pegs := by rw [hlen, List.take_length]
      rw [et] at h2 h3
      refine ⟨D, ts, _, rfl, SqL.of h1, Paired.mapP h2 fun _ _ z => Same.sqT (hide_same D H2) z, fun R hR => ?_⟩
      rw [mergeK_byPeg hnd]
      have nRD : R ≠ D := (ne_of_none h1 hR).symm
      have S2 : Same (hide D H2) (upd H2 R (.dK (byPeg pegs fun p => .ref (ad p)))) := (hide_same D H2).trans (Same.new hR)
      have hp2 := SqB.same hp (h4.trans S2)
      have hR0 : H R = none := by
        cases e : H R with
        | none => rfl
        | some o => rw [hide_same D H2 _ _ (h4 _ _ e)] at hR; cases hR
      have hRS : Same H (hide R (upd H2 R (.dK (byPeg pegs fun p => .ref (ad p))))) := hide_of hR0 (h4.trans S2)
      refine ⟨_, rfl, pg, _, rfl, hp2.or, _, rfl, by rw [hlen]; omega, by rw [hlen]; omega, for_range (n := (pegs.map V.str).length) (fun t σ H3 => ∃ (s2 s4 s5 s6 : Option V) (fd : Str → List Str) (ad : Str → Addr), σ = [some (.ref pg), some (.ref wt), s2, some (.ref R), s4, s5, s6] ∧
        H3 R = some (.dK (byPeg pegs fun p => .ref (ad p))) ∧ (∀ p ∈ pegs, hide R H3 (ad p) = some (.lst ((fd p).map V.str))) ∧ Same H (hide R H3) ∧ Fnd W pegs fd ∧ Full W pegs rk t fd) ?_ ?_ ?_⟩
      · refine ⟨_, _, _, _, fun p => [p], ad, rfl, upd_same, fun p hp' => ?_, hRS, ⟨fun x _ => List.mem_singleton.mpr rfl, fun x _ q hq => ?_, fun x _ => by simp⟩, fun x _ hk => absurd hk (by omega)⟩
        · exact (hide_of hR (Same.new hR)) _ _ (hide_same D H2 _ _ (h3 p hp'))
        · cases List.mem_singleton.mp hq
          exact .refl _
      · rintro t σ H3 ht ⟨s2, s4, s5, s6, fd, ad, rfl, g1, g2, g3, g4, g5⟩
        have hPl : wa.length = W.length := paired_len hP
        refine ⟨_, rfl, tw, wt, _, rfl, SqB.same hw (g3.trans (hide_same R H3)), for_it (walk_sq (K := K) (xs := wa.map V.ref)) (fun i σ H4 => ∃ (s2 s4 s5 s6 : Option V) (fd' : Str → List Str) (ad' : Str → Addr), σ = [some (.ref pg), some (.ref wt), s2, some (.ref R), s4, s5, s6] ∧
          H4 R = some (.dK (byPeg pegs fun p => .ref (ad' p))) ∧ (∀ p ∈ pegs, hide R H4 (ad' p) = some (.lst ((fd' p).map V.str))) ∧ Same H (hide R H4) ∧ Fnd W pegs fd' ∧ (∀ x q, q ∈ fd x → q ∈ fd' x) ∧ (∀ w ∈ W.take i, ∀ q, q ∈ fd w.2 → q ∈ fd' w.1)) ?_ ?_ ?_ ?_⟩
        · exact ⟨_, _, _, _, fd, ad, rfl, g1, g2, g3, g4, fun _ _ h => h, fun w hw => by simp at hw⟩
        · rintro i σ H4 hi ⟨s2, s4, s5, s6, fd', ad', rfl, k1, k2, k3, k4, k5, k6⟩
          exact SqB.same hw (k3.trans (hide_same R H4))
        · rintro i x σ H4 H5 hi ⟨s2, s4, s5, s6, fd', ad', rfl, k1, k2, k3, k4, k5, k6⟩ ⟨rfl, hx⟩
          obtain ⟨a, rfl, ha⟩ := ref_at hx
          obtain ⟨⟨p, r⟩, hwp, hT⟩ := paired_at hP ha
          obtain ⟨pin, rin⟩ := hin _ (mem_of_at hwp)
          have cp := hide_same R H5 _ _ (k2 p pin)
          have cr := hide_same R H5 _ _ (k2 r rin)
          have sp : (fd' p).length ≤ pegs.length := k4.small hin pin
          have sr : (fd' r).length ≤ pegs.length := k4.small hin rin
          refine ⟨a, _, rfl, Same.sqT (k3.trans (hide_same R H5)) hT, rfl, _, _, rfl, _, _, rfl, rfl, ?_⟩
          refine ⟨_, rfl, _, rfl, R, _, rfl, .inl ⟨_, kS p, .inl k1, rfl, (valV_byPeg pin).symm⟩, ?_⟩
          refine ⟨_, rfl, _, rfl, R, _, rfl, .inl ⟨_, kS r, .inl k1, rfl, (valV_byPeg rin).symm⟩, ad' r, rfl, ⟨_, SqL.of cr⟩, fun D2 hD2 => ?_⟩
          have nD2R : D2 ≠ R := (ne_of_none k1 hD2).symm
          refine lc_it (walk_list (K := K) (xs := (fd' r).map V.str)) (fun j H6 => H6 = upd H5 D2 (.lst ((((fd' r).take j).filter fun q => decide (q ∉ fd' p)).map V.str))) ?_ ?_ ?_ ?_
          · rfl
          · rintro j H6 hj rfl
            exact SqL.of (Same.new hD2 _ _ cr)
          · rintro j x H6 H7 hj rfl ⟨rfl, hx2⟩
            obtain ⟨u, rfl, hu⟩ := str_at hx2
            refine ⟨rfl, ?_⟩
            refine ⟨_, rfl, _, rfl, _, rfl, R, _, rfl, .inl ⟨_, kS p, .inl (Same.new hD2 _ _ k1), rfl, (valV_byPeg pin).symm⟩, ad' p, _, rfl, .inl (SqL.of (Same.new hD2 _ _ cp)), rfl, Np.flat_strs _, ?_⟩
            refine ⟨_, rfl, ?_⟩
            have ei : (if true = true then !inV (V.str u) ((fd' p).map V.str) else inV (V.str u) ((fd' p).map V.str)) = !decide (u ∈ fd' p) := by rw [if_pos rfl, inV_strs]
            rw [ei]
            by_cases c : u ∈ fd' p
            · refine iteNS c ?_
              rw [take_succ_of hu, List.filter_append]
              simp [c]
            · refine iteNP c ?_
              refine ⟨_, rfl, _, upd_same, ?_, ?_⟩
              · rw [List.length_map]
                exact small1000 (Nat.le_trans (List.length_filter_le _ _) (by rw [List.length_take]; omega))
              · rw [upd_upd, take_succ_of hu, List.filter_append]
                simp [c]
          · rintro H6 rfl
            have e2 : (fd' r).take ((fd' r).map V.str).length = fd' r := by rw [List.length_map, List.take_length]
            rw [e2]
            have lf : ((fd' r).filter fun q => decide (q ∉ fd' p)).length ≤ (fd' r).length := List.length_filter_le _ _
            refine ⟨ad' p, D2, _, _, rfl, rfl, Same.new hD2 _ _ cp, upd_same, ?_, fun L hL => ?_⟩
            · rw [List.length_map, List.length_map]
              exact Nat.le_of_lt (small1000 (by omega))
            obtain ⟨nLD, hL0⟩ := upd_none hL
            have nLR : L ≠ R := (ne_of_none k1 hL0).symm
            refine ⟨_, rfl, _, rfl, R, _, rfl, .inl ⟨_, kS p, Same.new hL _ _ (Same.new hD2 _ _ k1), rfl, by rw [byPeg_len]; exact small1000 (by omega), rfl⟩, ?_⟩
            have M : Same (hide R H5) (hide R (upd (upd (upd H5 D2 (.lst (((fd' r).filter fun q => decide (q ∉ fd' p)).map V.str))) L (.lst ((fd' p).map V.str ++ ((fd' r).filter fun q => decide (q ∉ fd' p)).map V.str))) R (.dK (putK (byPeg pegs fun p => .ref (ad' p)) (kS p) (.ref L))))) :=
              hide_mono (((But.of (Same.new hD2)).trans (But.of (Same.new hL))).trans But.upd)
            refine ⟨_, _, _, _, stp fd' (p, r), fun x => if x = p then L else ad' x, rfl, ?_, fun x hx => ?_, k3.trans M, k4.stp hin (mem_of_at hwp), fun x u hu => mem_stp.mpr (.inl (k5 x u hu)), fun w hw u hu => ?_⟩
            · rw [upd_same, putK_byPeg pin]
              exact congrArg (fun z => some (HO.dK z)) (byPeg_congr fun x _ => (apply_ite V.ref (x = p) L (ad' x)).symm)
            · by_cases e : x = p
              · subst e
                have e1 : (if x = x then L else ad' x) = L := if_pos rfl
                have e2 : stp fd' (x, r) x = fd' x ++ (fd' r).filter fun q => decide (q ∉ fd' x) := if_pos rfl
                show hide R _ (if x = x then L else ad' x) = _
                rw [e1, e2, hide_ne nLR, upd_ne nLR, upd_same, List.map_append]
              · have e1 : (if x = p then L else ad' x) = ad' x := if_neg e
                have e2 : stp fd' (p, r) x = fd' x := if_neg e
                show hide R _ (if x = p then L else ad' x) = _
                rw [e1, e2]
                exact M _ _ (k2 x hx)
            · rw [take_succ_of hwp] at hw
              rcases List.mem_append.mp hw with h | h
              · exact mem_stp.mpr (.inl (k6 w h u hu))
              · cases List.mem_singleton.mp h
                exact mem_stp.mpr (.inr ⟨rfl, k5 _ _ hu⟩)
        · rintro σ H4 ⟨s2, s4, s5, s6, fd', ad', rfl, k1, k2, k3, k4, k5, k6⟩
          have ew : W.take (wa.map V.ref).length = W := by rw [List.length_map, hPl, List.take_length]
          rw [ew] at k6
          exact ⟨_, _, _, _, fd', ad', rfl, k1, k2, k3, k4, full_round hin hrk g4 g5 k5 k6⟩
      · rintro σ H3 ⟨s2, s4, s5, s6, fd, ad, rfl, g1, g2, g3, g4, g5⟩
        rw [hlen] at g5
        have hp3 := SqB.same hp (g3.trans (hide_same R H3))
        refine ⟨_, rfl, tp, pg, _, rfl, hp3, fun D3 hD3 => ?_⟩
        refine lc_it (walk_sq (K := K) (xs := pegs.map V.str)) (fun i H4 => ∃ (ts : List Addr) (ad2 : Str → Addr), H4 D3 = some (.lst (ts.map V.ref)) ∧ Paired (fun T kv => SqT K (hide D3 H4) T [kV kv.1, kv.2]) ts (byPeg (pegs.take i) fun p => .ref (ad2 p)) ∧
          (∀ p ∈ pegs.take i, hide D3 H4 (ad2 p) = some (.tup ((rowOf W pegs p).map V.str))) ∧ Same H3 (hide D3 H4) ∧ ts.length = i) ?_ ?_ ?_ ?_
        · exact ⟨[], fun _ => 0, upd_same, .nil, (fun p hp => by simp at hp), hide_start hD3, rfl⟩
        · rintro i H4 hi ⟨ts, ad2, k1, k2, k3, k4, k5⟩
          exact SqB.same hp3 (k4.trans (hide_same D3 H4))
        · rintro i x H4 H5 hi ⟨ts, ad2, k1, k2, k3, k4, k5⟩ ⟨rfl, hx⟩
          obtain ⟨u, rfl, hu⟩ := str_at hx
          have uin := mem_of_at hu
          have S35 := k4.trans (hide_same D3 H5)
          refine ⟨rfl, ?_⟩
          refine ⟨_, rfl, _, rfl, tp, pg, _, rfl, SqB.same hp3 S35, fun D4 hD4 => ?_⟩
          refine lc_it (walk_sq (K := K) (xs := pegs.map V.str)) (fun j H6 => H6 = upd H5 D4 (.lst (((pegs.take j).filter fun q => decide (q ∈ fd u)).map V.str))) ?_ ?_ ?_ ?_
          · rfl
          · rintro j H6 hj rfl
            exact SqB.same hp3 (S35.trans (Same.new hD4))
          · rintro j x H6 H7 hj rfl ⟨rfl, hx2⟩
            obtain ⟨v, rfl, hv⟩ := str_at hx2
            refine ⟨rfl, ?_⟩
            refine ⟨_, rfl, _, rfl, _, rfl, R, _, rfl, .inl ⟨_, kS u, .inl ((S35.trans (Same.new hD4)) _ _ g1), rfl, (valV_byPeg uin).symm⟩, ad u, _, rfl, .inl (SqL.of ((S35.trans (Same.new hD4)) _ _ (hide_same R H3 _ _ (g2 u uin)))), rfl, Np.flat_strs _, ?_⟩
            refine ⟨_, rfl, ?_⟩
            have ei : (if false = true then !inV (V.str v) ((fd u).map V.str) else inV (V.str v) ((fd u).map V.str)) = decide (v ∈ fd u) := by rw [if_neg (by decide), inV_strs]
            rw [ei]
            refine ite2 (fun c => ?_) (fun c => ?_)
            · have c := of_decide_eq_true c
              refine ⟨_, rfl, _, upd_same, ?_, ?_⟩
              · rw [List.length_map]
                exact small1000 (Nat.le_trans (List.length_filter_le _ _) (by rw [List.length_take]; omega))
              · rw [upd_upd, take_succ_of hv, List.filter_append]
                simp [c]
            · have c : v ∉ fd u := fun z => c (decide_eq_true z)
              rw [take_succ_of hv, List.filter_append]
              simp [c]
          · rintro H6 rfl
            have e2 : pegs.take (pegs.map V.str).length = pegs := by rw [List.length_map, List.take_length]
            rw [e2, rowOf_eq g4 g5 hrn uin]
            refine ⟨D4, _, rfl, .inl ⟨SqL.of upd_same, fun T2 hT2 => ?_⟩⟩
            refine ⟨by show 2 ≤ sizeLine; decide, fun T3 hT3 => ?_⟩
            obtain ⟨n32, hT3a⟩ := upd_none hT3
            obtain ⟨n34, hT3b⟩ := upd_none hT3a
            obtain ⟨n24, hT2b⟩ := upd_none hT2
            have n4D : D4 ≠ D3 := (ne_of_none k1 hD4).symm
            have n2D : T2 ≠ D3 := (ne_of_none k1 hT2b).symm
            have n3D : T3 ≠ D3 := (ne_of_none k1 hT3b).symm
            refine ⟨_, Same.new hT3 _ _ (Same.new hT2 _ _ (Same.new hD4 _ _ k1)), ?_, ?_⟩
            · rw [List.length_map, k5]
              exact small1000 (by omega)
            have M : Same (hide D3 H5) (hide D3 (upd (upd (upd (upd H5 D4 (.lst ((rowOf W pegs u).map V.str))) T2 (.tup ((rowOf W pegs u).map V.str))) T3 (.tup [.str u, .ref T2])) D3 (.lst (ts.map V.ref ++ [.ref T3])))) :=
              hide_mono ((((But.of (Same.new hD4)).trans (But.of (Same.new hT2))).trans (But.of (Same.new hT3))).trans But.upd)
            have ni := not_in_take hnd hu
            refine ⟨ts ++ [T3], fun x => if x = u then T2 else ad2 x, ?_, ?_, ?_, k4.trans M, by rw [List.length_append, k5]; rfl⟩
            · rw [upd_same, List.map_append]; rfl
            · rw [take_succ_of hu, byPeg_snoc (f := fun p => .ref (ad2 p)) (fun x hx => congrArg V.ref (if_neg (fun z => ni (by rw [← z]; exact hx))))]
              refine Paired.snoc (Paired.mapP k2 fun _ _ z => Same.sqT M z) ?_
              have e : (if u = u then T2 else ad2 u) = T2 := if_pos rfl
              show SqT K _ T3 [.str u, .ref (if u = u then T2 else ad2 u)]
              rw [e]
              exact SqT.of (by rw [hide_ne n3D, upd_ne n3D, upd_same])
            · intro p hp'
              rw [take_succ_of hu] at hp'
              rcases List.mem_append.mp hp' with h | h
              · have e : (if p = u then T2 else ad2 p) = ad2 p := if_neg fun z => ni (by rw [← z]; exact h)
                show hide D3 _ (if p = u then T2 else ad2 p) = _
                rw [e]
                exact M _ _ (k3 p h)
              · cases List.mem_singleton.mp h
                have e : (if u = u then T2 else ad2 u) = T2 := if_pos rfl
                show hide D3 _ (if u = u then T2 else ad2 u) = _
                rw [e, hide_ne n2D, upd_ne n2D, upd_ne n32.symm, upd_same]
        · rintro H4 ⟨ts, ad2, k1, k2, k3, k4, k5⟩
          have et : pegs.take (pegs.map V.str).length = pegs := by rw [hlen, List.take_length]
          rw [et] at k2 k3
          refine ⟨D3, ts, _, rfl, SqL.of k1, Paired.mapP k2 fun _ _ z => Same.sqT (hide_same D3 H4) z, fun R2 hR2 => ?_⟩
          rw [mergeK_byPeg hnd]
          have SH : Same H H4 := (g3.trans (hide_same R H3)).trans (k4.trans (hide_same D3 H4))
          exact q R2 _ ad2 (SH.trans (Same.new hR2)) (SH.free hR2) upd_same fun p hp' => Same.new hR2 _ _ (hide_same D3 H4 _ _ (k3 p hp'))
end
end Lw

set_option Elab.async false
set_option linter.all false
set_option maxRecDepth 100000
set_option maxHeartbeats 4000000
namespace Lw
open PySem PySem.Spec PyProof.Rows L2 Np TL
local macro_rules | `(tactic| walk_at "np_h") => `(tactic| first | assumption | exact upd_same | (refine (upd_ne ?_).trans ?_; (walk_at "np_ne"); (walk_at "np_h")) | exact SqL.of (by walk_at "np_h") | exact SqT.of (by walk_at "np_h"))
local macro_rules | `(tactic| walk_at "np_ne") => `(tactic| first | assumption | exact Ne.symm (by assumption))
local macro_rules | `(tactic| walk_at "np_r") => `(tactic| first
  | refine ⟨_, rfl, ?_⟩
  | refine ⟨_, _, rfl, rfl, ?_⟩
  | refine ⟨(.inl ⟨by decide, by decide⟩ : CMul _ _), ?_⟩
  | refine ⟨(.inr ⟨by decide, by decide⟩ : CMul _ _), ?_⟩
  | refine ⟨(by first | decide | omega : (0 : Int) < _), ?_⟩
  | refine ⟨(⟨by decide, by decide⟩ : CDiv _ _), ?_⟩
  | (refine' ⟨_, _, _, _, rfl, rfl, ?np1, ?np2, ?_⟩; (case np1 => walk_at "np_h"); (case np2 => rfl)))

def barP (row other : List Str) (w : Str × Str) : Bool := (decide (w.1 ∈ row) && decide (w.2 ∈ other)) || (decide (w.2 ∈ row) && decide (w.1 ∈ other))
/-- two rows of pegs are barred by a pair -/
def barB (row other : List Str) (B : List (Str × Str)) : Bool := B.any (barP row other)
def ones (row other : List Str) (B : List (Str × Str)) : List V := (B.filter (barP row other)).map fun _ => V.int 1
theorem ones_yes {row other : List Str} {B : List (Str × Str)} {j : Nat} {w : Str × Str} (h : B[j]? = some w) (c : barP row other w = true) : ones row other (B.take (j + 1)) = ones row other (B.take j) ++ [.int 1] := by
  unfold ones
  rw [take_succ_of h, List.filter_append, List.map_append]
  simp [c]
theorem ones_no {row other : List Str} {B : List (Str × Str)} {j : Nat} {w : Str × Str} (h : B[j]? = some w) (c : barP row other w = false) : ones row other (B.take (j + 1)) = ones row other (B.take j) := by
  unfold ones
  rw [take_succ_of h, List.filter_append, List.map_append]
  simp [c]
theorem ones_len (row other : List Str) (B : List (Str × Str)) : (ones row other B).length ≤ B.length := by
  unfold ones
  rw [List.length_map]
  exact List.length_filter_le _ _
theorem ones_empty (row other : List Str) (B : List (Str × Str)) : (!(ones row other B).isEmpty) = barB row other B := by
  unfold ones barB
  induction B with
  | nil => rfl
  | cons w B ih =>
    by_cases c : barP row other w = true
    · simp [c]
    · have c : barP row other w = false := by simpa using c
      simpa [c] using ih
def spareL : List Str := ["zzzzzz", "zzzzzy", "a", "zz", "q", "x", "yy", "b", "c", "d", "e", "f", "g", "h"]
theorem spareL_nodup : spareL.Nodup := by decide +kernel
theorem spare_ne {ns : List Str} (h : ns.length ≤ 13) : (spareL.filter fun s => decide (s ∉ ns)) ≠ [] := by
  intro e
  have all : ∀ s ∈ spareL, s ∈ ns := fun s hs => by
    apply Classical.byContradiction
    intro c
    have : s ∈ spareL.filter fun s => decide (s ∉ ns) := List.mem_filter.mpr ⟨hs, decide_eq_true c⟩
    rw [e] at this
    cases this
  have l := nodup_len_le spareL_nodup all
  have : spareL.length = 14 := rfl
  omega
theorem sqT_upd {K : PySem.W.Frag} {H : Hp} {T b : Addr} {ys zs : List V} {o : HO} (h : SqT K H T ys) (hb : H b = some (.lst zs)) : SqT K (upd H b o) T ys := by
  rcases h with (h | ⟨o', h⟩) | ⟨o', its, n, h⟩
  · exact .inl (.inl (by rw [upd_ne (ne_of h hb (fun z => nomatch z))]; exact h))
  · exact .inl (.inr ⟨o', by rw [upd_ne (ne_of h hb (fun z => nomatch z))]; exact h⟩)
  · exact .inr ⟨o', its, n, h⟩
section
variable {P : Program} {w : World} {K : PySem.W.Frag} {mg : Str → Option Value} {base : Heap}
def spIsBarred (K : PySem.W.Frag) : Sp := fun vs H Q _ => ∃ (ra oa ba : Addr) (tr to tb : Bool) (row other : List Str) (B : List (Str × Str)) (bs : List Addr), vs = [.ref ra, .ref oa, .ref ba] ∧ SqB K tr H ra (row.map V.str) ∧ SqB K to H oa (other.map V.str) ∧ SqB K tb H ba (bs.map V.ref) ∧ PairsAt K H bs B ∧ B.length ≤ 900 ∧
  ∀ H', Same H H' → Q (.bl (barB row other B)) H'
theorem scIsBarred : FnScope ["_law_row", "_law_other", "_law_blocks", "_law_a", "_law_b"] ["_law_row", "_law_other", "_law_blocks"] (defScope sIsBarred) := ⟨rfl, rfl, rfl, by decide +kernel, rfl, by decide +kernel, by decide +kernel⟩
theorem ok_is_barred {f : Addr} {fd : FuncData} (F : FnT K "_law_is_barred" sIsBarred f fd) (m : Bl mg) : FnOk P w K mg base CX0 1 f fd ["_law_row", "_law_other", "_law_blocks"] (spIsBarred K) := by
  have nd := scIsBarred.nd
  refine F.ok scIsBarred (fun vs H Q E h => ?_) (fun cdv A outer s H vs Q E hr h => ?_)
  · obtain ⟨ra, oa, ba, tr, to, tb, row, other, B, bs, rfl, _⟩ := h
    rfl
  · obtain ⟨ra, oa, ba, tr, to, tb, row, other, B, bs, rfl, h1, h2, h3, h4, hB, q⟩ := h
    refine ⟨_, PSs.nox (pss_one (ps_ret (pe_cmpR (op_neE hr.units) (pe_lc (own := [("_law_a", 3), ("_law_b", 4)]) (g := gTup K 2 (gCons (gName 3) (gCons (gName 4) gNil))) rfl nd (pi_sq (pv 2)) (blkOk_by (N := ["_law_row", "_law_other", "_law_blocks", "_law_a", "_law_b"]) (sc := defScope sIsBarred) (by decide +kernel)) (fun _ _ _ _ _ => (pg_tupK (K := K) rfl (by rfl) (pgs_cons (pg_name (i := 3) nd rfl (.inl rfl)) (pgs_cons (pg_name (i := 4) nd rfl (.inl rfl)) pgs_nil)))) (fun _ _ _ _ _ => pts_one (PW.pt (pw_or (PW.pt (pw_and (pt_cmpR (op_in_seqK (K := K) rfl) (pv 3) (pv 0) (by rfl)) (pw_and1 (pt_cmpR (op_in_seqK (K := K) rfl) (pv 4) (pv 1) (by rfl))))) (pw_or1 (PW.pt (pw_and (pt_cmpR (op_in_seqK (K := K) rfl) (pv 4) (pv 0) (by rfl)) (pw_and1 (pt_cmpR (op_in_seqK (K := K) rfl) (pv 3) (pv 1) (by rfl))))))))) (fun _ _ _ _ _ => pe_int)) (pe_lst pa_nil) (nomark _)))), ?_⟩
    have hl4 : bs.length = B.length := paired_len h4
    refine ⟨_, rfl, tb, ba, _, rfl, h3, fun D hD => ?_⟩
    refine lc_it (walk_sq (K := K) (xs := bs.map V.ref)) (fun j H2 => H2 = upd H D (.lst (ones row other (B.take j)))) ?_ ?_ ?_ ?_
    · rfl
    · rintro j H2 hj rfl
      exact SqB.same h3 (Same.new hD)
    · rintro j x H2 H3 hj rfl ⟨rfl, hx⟩
      obtain ⟨a, rfl, ha⟩ := ref_at hx
      obtain ⟨wp, hwp, hT⟩ := paired_at h4 ha
      have S1 : Same H (upd H D (.lst (ones row other (B.take j)))) := Same.new hD
      have g1 := (SqB.same h1 S1).or
      have g2 := (SqB.same h2 S1).or
      have yes : barP row other wp = true → ∃ acc, upd H D (.lst (ones row other (B.take j))) D = some (.lst acc) ∧ acc.length < sizeLine ∧ upd (upd H D (.lst (ones row other (B.take j)))) D (.lst (acc ++ [.int 1])) = upd H D (.lst (ones row other (B.take (j + 1)))) := fun c => by
        refine ⟨_, upd_same, small1000 ?_, by rw [upd_upd, ones_yes hwp c]⟩
        have := ones_len row other (B.take j)
        have e : (B.take j).length ≤ B.length := by rw [List.length_take]; omega
        omega
      have no : barP row other wp = false → upd H D (.lst (ones row other (B.take j))) = upd H D (.lst (ones row other (B.take (j + 1)))) := fun c => by rw [ones_no hwp c]
      refine ⟨a, _, rfl, Same.sqT S1 hT, rfl, _, _, rfl, _, _, rfl, rfl, rfl, ?_⟩
      have iv : ∀ (u : Str) (l : List Str), (if false = true then !inV (V.str u) (l.map V.str) else inV (V.str u) (l.map V.str)) = decide (u ∈ l) := fun u l => by rw [if_neg (by decide), inV_strs]
      refine ⟨_, rfl, _, rfl, ra, _, rfl, g1, rfl, Np.flat_strs _, _, rfl, ?_⟩
      rw [iv]
      refine ite2 (fun c1 => ?_) (fun c1 => ?_)
      · refine ⟨_, rfl, _, rfl, oa, _, rfl, g2, rfl, Np.flat_strs _, _, rfl, ?_⟩
        rw [iv]
        refine ite2 (fun c2 => ?_) (fun c2 => ?_)
        · exact yes (by unfold barP; rw [c1, c2]; rfl)
        · skip
          have h12 : (decide (wp.1 ∈ row) && decide (wp.2 ∈ other)) = false := by rw [Bool.eq_false_iff.mpr c2, Bool.and_false]
          refine ⟨_, rfl, _, rfl, ra, _, rfl, g1, rfl, Np.flat_strs _, _, rfl, ?_⟩
          rw [iv]
          refine ite2 (fun c3 => ?_) (fun c3 => ?_)
          · refine ⟨_, rfl, _, rfl, oa, _, rfl, g2, rfl, Np.flat_strs _, _, rfl, ?_⟩
            rw [iv]
            refine ite2 (fun c4 => ?_) (fun c4 => ?_)
            · exact yes (by unfold barP; rw [c3, c4]; exact Bool.or_true _)
            · exact no (by unfold barP; rw [h12, Bool.eq_false_iff.mpr c4, Bool.and_false]; rfl)
          · exact no (by unfold barP; rw [h12, Bool.eq_false_iff.mpr c3, Bool.false_and]; rfl)
      · skip
        have h12 : (decide (wp.1 ∈ row) && decide (wp.2 ∈ other)) = false := by rw [Bool.eq_false_iff.mpr c1, Bool.false_and]
        refine ⟨_, rfl, _, rfl, ra, _, rfl, g1, rfl, Np.flat_strs _, _, rfl, ?_⟩
        rw [iv]
        refine ite2 (fun c3 => ?_) (fun c3 => ?_)
        · refine ⟨_, rfl, _, rfl, oa, _, rfl, g2, rfl, Np.flat_strs _, _, rfl, ?_⟩
          rw [iv]
          refine ite2 (fun c4 => ?_) (fun c4 => ?_)
          · exact yes (by unfold barP; rw [c3, c4]; exact Bool.or_true _)
          · exact no (by unfold barP; rw [h12, Bool.eq_false_iff.mpr c4, Bool.and_false]; rfl)
        · exact no (by unfold barP; rw [h12, Bool.eq_false_iff.mpr c3, Bool.false_and]; rfl)
    · rintro H2 rfl
      have e : B.take (bs.map V.ref).length = B := by rw [List.length_map, hl4, List.take_length]
      rw [e]
      refine ⟨by show 0 ≤ sizeLine; decide, fun N hN => ?_⟩
      refine ⟨D, N, _, rfl, rfl, SqL.of (Same.new hN _ _ upd_same), SqL.of upd_same, ?_⟩
      rw [ones_empty]
      exact q _ ((Same.new hD).trans (Same.new hN))
/-- the things as a tuple or as a new list -/
def spListed (K : PySem.W.Frag) : Sp := fun vs H Q _ => ∃ (b p : Addr) (t : Bool) (x y z : Int) (ys : List V), vs = [.ref b, .ref p] ∧ H b = some (bx x y z) ∧ SqB K t H p ys ∧
  ∀ (q : Addr) (t' : Bool) (H' : Hp) (x' y' z' : Int), But b H H' → H' b = some (bx x' y' z') → SqB K t' H' q ys → (t' = true → H q = none ∧ H' q = some (.lst ys)) → Q (.ref q) H'
def spSpare (K : PySem.W.Frag) : Sp := fun vs H Q _ => ∃ (p : Addr) (t : Bool) (ns : List Str), vs = [.ref p] ∧ SqB K t H p (ns.map V.str) ∧ ns.length ≤ 13 ∧
  ∀ (u : Str) (H' : Hp), Same H H' → u ∉ ns → u ∈ spareL → Q (.str u) H'
end
end Lw

set_option Elab.async false
set_option linter.all false
set_option maxRecDepth 100000
set_option maxHeartbeats 4000000
namespace Lw
open PySem PySem.Spec PyProof.Rows L2 Np TL
local macro_rules | `(tactic| walk_at "np_h") => `(tactic| first | assumption | exact upd_same | (refine (upd_ne ?_).trans ?_; (walk_at "np_ne"); (walk_at "np_h")) | exact SqL.of (by walk_at "np_h") | exact SqT.of (by walk_at "np_h"))
local macro_rules | `(tactic| walk_at "np_ne") => `(tactic| first | assumption | exact Ne.symm (by assumption))
local macro_rules | `(tactic| walk_at "np_r") => `(tactic| first
  | refine ⟨_, rfl, ?_⟩
  | refine ⟨_, _, rfl, rfl, ?_⟩
  | refine ⟨(.inl ⟨by decide, by decide⟩ : CMul _ _), ?_⟩
  | refine ⟨(.inr ⟨by decide, by decide⟩ : CMul _ _), ?_⟩
  | refine ⟨(by first | decide | omega : (0 : Int) < _), ?_⟩
  | refine ⟨(⟨by decide, by decide⟩ : CDiv _ _), ?_⟩
  | (refine' ⟨_, _, _, _, rfl, rfl, ?np1, ?np2, ?_⟩; (case np1 => walk_at "np_h"); (case np2 => rfl)))

section
variable {P : Program} {w : World} {K : PySem.W.Frag} {mg : Str → Option Value} {base : Heap}
/-! ### sets of places -/
def spPlaces (K : PySem.W.Frag) : Sp := fun vs H Q _ => ∃ m : Nat, vs = [vN m] ∧ bits m ≤ 1000 ∧ ∀ p H', Same H H' → H p = none → H' p = some (.lst ((plc m).map vN)) → Q (.ref p) H'
theorem scPlacesIn : FnScope ["mask", "place"] ["mask"] (defScope sPlacesIn) := ⟨rfl, rfl, rfl, by decide +kernel, rfl, by decide +kernel, by decide +kernel⟩
theorem ok_places_in {f : Addr} {fd : FuncData} (F : FnT K "places_in" sPlacesIn f fd) (m : Bl mg) : FnOk P w K mg base CX0 1 f fd ["mask"] (spPlaces K) := by
  have nd := scPlacesIn.nd
  refine F.ok scPlacesIn (fun vs H Q E h => ?_) (fun cdv A outer s H vs Q E hr h => ?_)
  · obtain ⟨n, rfl, _⟩ := h
    rfl
  · obtain ⟨n, rfl, hn, q⟩ := h
    refine ⟨_, PSs.nox (pss_one (ps_ret (pe_lc (own := [("place", 1)]) (g := gName 1) rfl nd (pi_range1 (by rfl) m.range (pa_cons (pe_bits (pv 0)) pa_nil)) (blkOk_by (N := ["mask", "place"]) (sc := defScope sPlacesIn) (by decide +kernel)) (fun _ _ _ _ _ => (pg_name (i := 1) nd rfl (.inl rfl))) (fun _ _ _ _ _ => pts_one (pt_truthI (pe_op op_bandM (pe_op op_bshrM (pv 0) (pv 1)) pe_int) (by intro _; rfl))) (fun _ _ _ _ _ => (pv 1))))), ?_⟩
    refine ⟨_, rfl, _, rfl, _, rfl, by have : (0 : Int) ≤ (bits n : Int) := Int.natCast_nonneg _; show -(2 ^ 62) ≤ ((bits n : Nat) : Int); omega, by show ((bits n : Nat) : Int) < 2 ^ 62; omega, fun D hD => ?_⟩
    refine lc_val walk_range hD (List.range (bits n)) (fun i => n.testBit i) vN (by rw [List.length_range]; rfl) hn (fun _ _ => trivial) ?_ ?_
    · rintro i a x H2 H3 ha S nD ⟨rfl, rfl⟩ NT NF yes no
      have hi : i = a := by
        have := List.getElem?_eq_some_iff.mp ha
        obtain ⟨h1, h2⟩ := this
        rw [List.getElem_range] at h2
        exact h2
      subst hi
      refine ⟨rfl, ?_⟩
      refine ⟨_, rfl, _, rfl, n, i, rfl, v0 i, n / 2 ^ i, 1, rfl, rfl, _, rfl, ?_⟩
      show if ((((n / 2 ^ i &&& 1 : Nat) : Int)) != 0) = true then _ else _
      rw [bitM]
      cases c : n.testBit i with
      | true => exact iteT ⟨_, rfl, by show NT (V.int (0 + (i : Int))) _; rw [v0]; exact yes _ (Same.refl _) c⟩
      | false => exact iteF (no _ (Same.refl _) c)
    · intro H2 S h
      exact q D H2 S hD h
def spFirst : Sp := fun vs H Q _ => ∃ m : Nat, vs = [vN m] ∧ bits m ≤ 1000 ∧ m ≠ 0 ∧ ∀ k H', Same H H' → (plc m)[0]? = some k → Q (vN k) H'
theorem scFirstPlace : FnScope ["mask"] ["mask"] (defScope sFirstPlace) := ⟨rfl, rfl, rfl, by decide +kernel, rfl, by decide +kernel, by decide +kernel⟩
theorem ok_first_place {f : Addr} {fd : FuncData} (F : FnT K "first_place" sFirstPlace f fd) (c_places_in : Callee P w K mg base 1 "places_in" ["mask"] (spPlaces K)) : FnOk P w K mg base CX0 2 f fd ["mask"] spFirst := by
  have nd := scFirstPlace.nd
  refine F.ok scFirstPlace (fun vs H Q E h => ?_) (fun cdv A outer s H vs Q E hr h => ?_)
  · obtain ⟨n, rfl, _⟩ := h
    rfl
  · obtain ⟨n, rfl, hn, h0, q⟩ := h
    refine ⟨_, PSs.nox (pss_one (ps_ret (pe_ix ix_list (pe_callC c_places_in (hr.mono (by decide)) (pa_cons (pv 0) pa_nil)) pe_int (fun _ _ => rfl)))), ?_⟩
    refine ⟨_, rfl, n, rfl, hn, fun p H' S np hp => ?_⟩
    obtain ⟨j, hj⟩ := Nat.exists_testBit_of_ne_zero h0
    have mj := mem_plc.mpr hj
    cases e : plc n with
    | nil => rw [e] at mj; cases mj
    | cons k ks =>
      refine ⟨p, _, _, vN k, rfl, rfl, SqL.of hp, ?_, q k H' S (by rw [e]; rfl)⟩
      rw [e]
      exact atI_nat (j := 0) rfl
def spMaskWith (K : PySem.W.Frag) : Sp := fun vs H Q _ => ∃ (p : Addr) (ps : List Nat), vs = [.ref p] ∧ SqL K H p (ps.map vN) ∧ (∀ i ∈ ps, i ≤ 1000) ∧ ps.length ≤ 1000 ∧ ∀ H', Same H H' → Q (vN (msk ps)) H'
theorem scMaskWith : FnScope ["places", "place"] ["places"] (defScope sMaskWith) := ⟨rfl, rfl, rfl, by decide +kernel, rfl, by decide +kernel, by decide +kernel⟩
theorem ok_mask_with {f : Addr} {fd : FuncData} (F : FnT K "mask_with" sMaskWith f fd) (m : Bl mg) : FnOk P w K mg base CX0 1 f fd ["places"] (spMaskWith K) := by
  have nd := scMaskWith.nd
  refine F.ok scMaskWith (fun vs H Q E h => ?_) (fun cdv A outer s H vs Q E hr h => ?_)
  · obtain ⟨p, ps, rfl, _⟩ := h
    rfl
  · obtain ⟨p, ps, rfl, hp, h1, hl, q⟩ := h
    refine ⟨_, PSs.nox (pss_one (ps_ret (pe_callB (cr_sum rfl) (by rfl) m.sum (by decide +kernel) (pa_cons (pe_lc (own := [("place", 1)]) (g := gName 1) (tt := tYes) rfl nd (pi_list (pv 0)) (blkOk_by (N := ["places", "place"]) (sc := defScope sMaskWith) (by decide +kernel)) (fun _ _ _ _ _ => (pg_name (i := 1) nd rfl (.inl rfl))) (fun _ _ _ _ _ => pts_nil) (fun _ _ _ _ _ => (pe_op op_bshlM pe_int (pv 1)))) pa_nil)))), ?_⟩
    refine ⟨_, rfl, p, rfl, ⟨_, hp⟩, fun D hD => ?_⟩
    refine lc_map (walk_list (xs := ps.map vN)) hD ps (fun i => vN (2 ^ i)) (by rw [List.length_map]) (by rw [List.length_map]; exact hl) (fun H2 S => S.seq hp) ?_ ?_
    · rintro i a x H2 H3 ha S nD ⟨rfl, hx⟩ NT yes
      obtain ⟨b, rfl, hb⟩ := natInt_at hx
      rw [ha] at hb
      cases hb
      exact ⟨rfl, _, rfl, a, rfl, rfl, h1 a (mem_of_at ha), yes _ (Same.refl _)⟩
    · intro H2 S h
      refine ⟨D, ps.map fun i => ((2 ^ i : Nat) : Int), rfl, SqL.of ?_, ?_⟩
      · rw [h, List.map_map]
        rfl
      · rw [sum_cast]
        exact q H2 S
def spJoined (K : PySem.W.Frag) : Sp := fun vs H Q _ => ∃ (r : Addr) (rows : List Nat) (m : Nat), vs = [.ref r, vN m] ∧ SqL K H r (rows.map vN) ∧ bits m ≤ 1000 ∧ (∀ i, m.testBit i = true → i < rows.length) ∧ ∀ H', Same H H' → Q (vN (orl rows (plc m))) H'
theorem scJoined : FnScope ["rows", "mask", "whole", "place"] ["rows", "mask"] (defScope sJoined) := ⟨rfl, rfl, rfl, by decide +kernel, rfl, by decide +kernel, by decide +kernel⟩
theorem ok_joined {f : Addr} {fd : FuncData} (F : FnT K "joined" sJoined f fd) (c_places_in : Callee P w K mg base 1 "places_in" ["mask"] (spPlaces K)) : FnOk P w K mg base CX0 2 f fd ["rows", "mask"] (spJoined K) := by
  have nd := scJoined.nd
  refine F.ok scJoined (fun vs H Q E h => ?_) (fun cdv A outer s H vs Q E hr h => ?_)
  · obtain ⟨r, rows, n, rfl, _⟩ := h
    rfl
  · obtain ⟨r, rows, n, rfl, hr2, hn, hb, q⟩ := h
    refine ⟨_, PSs.nox (pss_cons (ps_set (i := 2) nd rfl (.inl rfl) pe_int)
  (pss_cons (ps_for PassesOwn.never rfl (pi_list (pe_callC c_places_in (hr.mono (by decide)) (pa_cons (pv 1) pa_nil))) (pg_name (i := 3) nd rfl (.inl rfl))
   (pss_one (ps_set (i := 2) nd rfl (.inl rfl) (pe_op op_borM (pv 2) (pe_ix ix_list (pv 0) (pv 3) (fun _ _ => rfl))))))
  (pss_one (ps_ret (pv 2))))), ?_⟩
    refine ⟨_, rfl, n, rfl, hn, fun p H2 S np hp => ?_⟩
    refine ⟨p, rfl, ⟨_, SqL.of hp⟩, for_list (xs := (plc n).map vN) (fun i σ H3 => ∃ s3, σ = [some (.ref r), some (vN n), some (vN (orl rows ((plc n).take i))), s3] ∧ H3 = H2) ?_ ?_ ?_ ?_⟩
    · exact ⟨_, rfl, rfl⟩
    · rintro i σ H3 hi ⟨s3, rfl, rfl⟩
      exact SqL.of hp
    · rintro i x σ H3 hx ⟨s3, rfl, rfl⟩
      obtain ⟨a, rfl, ha⟩ := natInt_at hx
      have la := hb a (mem_plc.mp (mem_of_at ha))
      refine ⟨_, rfl, _, rfl, _, rfl, r, _, _, _, rfl, rfl, S.seq hr2, atI_vN la, _, _, rfl, rfl, ?_⟩
      have e : orl rows ((plc n).take (i + 1)) = orl rows ((plc n).take i) ||| rows.getD a 0 := by
        rw [take_succ_of ha]
        unfold orl
        rw [List.foldl_append]
        rfl
      rw [e]
      exact ⟨_, rfl, rfl⟩
    · rintro σ H3 ⟨s3, rfl, rfl⟩
      refine ⟨_, rfl, ?_⟩
      have e : (plc n).take ((plc n).map vN).length = plc n := by rw [List.length_map, List.take_length]
      rw [e]
      exact q _ S
def spMeet (K : PySem.W.Frag) : Sp := fun vs H Q _ => ∃ (r : Addr) (rows : List Nat) (m : Nat), vs = [.ref r, vN m] ∧ SqL K H r (rows.map vN) ∧ rows.length ≤ 900 ∧ ∀ H', Same H H' → Q (vN (meet rows m)) H'
theorem scRowsThatMeet : FnScope ["rows", "mask", "place", "row"] ["rows", "mask"] (defScope sRowsThatMeet) := ⟨rfl, rfl, rfl, by decide +kernel, rfl, by decide +kernel, by decide +kernel⟩
theorem ok_rows_that_meet {f : Addr} {fd : FuncData} (F : FnT K "rows_that_meet" sRowsThatMeet f fd) (m : Bl mg) (c_mask_with : Callee P w K mg base 1 "mask_with" ["places"] (spMaskWith K)) : FnOk P w K mg base CX0 2 f fd ["rows", "mask"] (spMeet K) := by
  have nd := scRowsThatMeet.nd
  refine F.ok scRowsThatMeet (fun vs H Q E h => ?_) (fun cdv A outer s H vs Q E hr h => ?_)
  · obtain ⟨r, rows, n, rfl, _⟩ := h
    rfl
  · obtain ⟨r, rows, n, rfl, hr2, hl, q⟩ := h
    refine ⟨_, PSs.nox (pss_one (ps_ret (pe_callC c_mask_with (hr.mono (by decide)) (pa_cons (pe_lc (own := [("place", 2), ("row", 3)]) (g := gTup K 2 (gCons (gName 2) (gCons (gName 3) gNil))) rfl nd (pi_enum (by rfl) m.enumerate (pa_cons (pv 0) pa_nil)) (blkOk_by (N := ["rows", "mask", "place", "row"]) (sc := defScope sRowsThatMeet) (by decide +kernel)) (fun _ _ _ _ _ => (pg_tupK (K := K) rfl (by rfl) (pgs_cons (pg_name (i := 2) nd rfl (.inl rfl)) (pgs_cons (pg_name (i := 3) nd rfl (.inl rfl)) pgs_nil)))) (fun _ _ _ _ _ => pts_one (pt_cmpR op_neM (pe_op op_bandM (pv 3) (pv 1)) pe_int (nomark _))) (fun _ _ _ _ _ => (pv 2))) pa_nil)))), ?_⟩
    refine ⟨_, rfl, r, _, rfl, hr2, fun D hD => ?_⟩
    refine lc_val (walk_enum (xs := rows.map vN)) hD (List.range rows.length) (fun i => decide (rows.getD i 0 &&& n ≠ 0)) vN (by rw [List.length_range, List.length_map]) (by rw [List.length_map]; omega) (fun H2 S => S.seq hr2) ?_ ?_
    · rintro i a x H2 H3 ha S nD ⟨T, x1, x2, rfl, hT, rfl, e1, e2⟩ NT NF yes no
      obtain ⟨h1, h2⟩ := List.getElem?_eq_some_iff.mp ha
      rw [List.getElem_range] at h2
      subst h2
      rw [List.length_range] at h1
      obtain ⟨b, rfl, hb⟩ := natInt_at e2
      cases e1
      have eb := getD_at hb
      refine ⟨T, _, rfl, SqT.of upd_same, rfl, _, _, rfl, _, _, rfl, rfl, rfl, ?_⟩
      refine ⟨_, rfl, _, rfl, b, n, rfl, rfl, _, 0, rfl, rfl, _, rfl, ?_⟩
      cases c : decide (b &&& n ≠ 0) with
      | true => exact iteT ⟨_, rfl, yes _ (Same.new hT) (by rw [eb]; exact c)⟩
      | false => exact iteF (no _ (Same.new hT) (by rw [eb]; exact c))
    · intro H2 S h
      refine ⟨D, (List.range rows.length).filter fun i => decide (rows.getD i 0 &&& n ≠ 0), rfl, SqL.of h, fun i hi => ?_, ?_, fun H' S' => q H' (S.trans S')⟩
      · have := List.mem_range.mp (List.mem_filter.mp hi).1
        omega
      · refine Nat.le_trans (List.length_filter_le _ _) ?_
        rw [List.length_range]
        omega
end
end Lw

set_option Elab.async false
set_option linter.all false
set_option maxRecDepth 100000
set_option maxHeartbeats 4000000
namespace Lw
open PySem PySem.Spec PyProof.Rows L2 Np TL
local macro_rules | `(tactic| walk_at "np_h") => `(tactic| first | assumption | exact upd_same | (refine (upd_ne ?_).trans ?_; (walk_at "np_ne"); (walk_at "np_h")) | exact SqL.of (by walk_at "np_h") | exact SqT.of (by walk_at "np_h"))
local macro_rules | `(tactic| walk_at "np_ne") => `(tactic| first | assumption | exact Ne.symm (by assumption))
local macro_rules | `(tactic| walk_at "np_r") => `(tactic| first
  | refine ⟨_, rfl, ?_⟩
  | refine ⟨_, _, rfl, rfl, ?_⟩
  | refine ⟨(.inl ⟨by decide, by decide⟩ : CMul _ _), ?_⟩
  | refine ⟨(.inr ⟨by decide, by decide⟩ : CMul _ _), ?_⟩
  | refine ⟨(by first | decide | omega : (0 : Int) < _), ?_⟩
  | refine ⟨(⟨by decide, by decide⟩ : CDiv _ _), ?_⟩
  | (refine' ⟨_, _, _, _, rfl, rfl, ?np1, ?np2, ?_⟩; (case np1 => walk_at "np_h"); (case np2 => rfl)))

section
variable {P : Program} {w : World} {K : PySem.W.Frag} {mg : Str → Option Value} {base : Heap}
/-! ### what needs and bars mean -/
/-- pairs of places, each a tuple -/
def PlsAt (K : PySem.W.Frag) (H : Hp) (ts : List Addr) (W : List (Nat × Nat)) : Prop := Paired (fun T w => SqT K H T [vN w.1, vN w.2]) ts W
theorem PlsAt.same {H H' : Hp} {ts : List Addr} {W : List (Nat × Nat)} (h : PlsAt K H ts W) (s : Same H H') : PlsAt K H' ts W := Paired.mapP h fun _ _ q => Same.sqT s q
theorem rl2 {rows : List Nat} {q : Nat} (h : q < rows.length) : atI (rows.map vN) (q : Int) = some (vN (rows.getD q 0)) := atI_vN h
theorem rowsAfter_len {n : Nat} {W : List (Nat × Nat)} : (rowsAfter n W).length = n := by
  unfold rowsAfter
  have gen : ∀ (W : List (Nat × Nat)) (rows : List Nat), (W.foldl (fun rows w => stpRow w.1 w.2 rows) rows).length = rows.length := by
    intro W
    induction W with
    | nil => intro rows; rfl
    | cons w W ih => intro rows; rw [List.foldl_cons, ih]; simp [stpRow]
  rw [gen]
  simp [idr]
theorem rowsAfter_take {n : Nat} {W : List (Nat × Nat)} {i : Nat} {w : Nat × Nat} (h : W[i]? = some w) : rowsAfter n (W.take (i + 1)) = stpRow w.1 w.2 (rowsAfter n (W.take i)) := by
  rw [take_succ_of h, rowsAfter_snoc]
def spBelow (K : PySem.W.Frag) : Sp := fun vs H Q _ => ∃ (n : Nat) (p : Addr) (ts : List Addr) (W : List (Nat × Nat)), vs = [vN n, .ref p] ∧ SqL K H p (ts.map V.ref) ∧ PlsAt K H ts W ∧ (∀ w ∈ W, w.1 < n ∧ w.2 < n) ∧ RankedN W ∧ n ≤ 900 ∧
  ∀ r H', Same H H' → H r = none → H' r = some (.lst ((rowsAfter n W).map vN)) → Q (.ref r) H'
theorem scBelowMasks : FnScope ["many", "needs", "place", "below", "at", "peg", "needed", "row"] ["many", "needs"] (defScope sBelowMasks) := ⟨rfl, rfl, rfl, by decide +kernel, rfl, by decide +kernel, by decide +kernel⟩
theorem ok_below_masks {f : Addr} {fd : FuncData} (F : FnT K "below_masks" sBelowMasks f fd) (m : Bl mg) : FnOk P w K mg base CX0 1 f fd ["many", "needs"] (spBelow K) := by
  have nd := scBelowMasks.nd
  refine F.ok scBelowMasks (fun vs H Q E h => ?_) (fun cdv A outer s H vs Q E hr h => ?_)
  · obtain ⟨n, p, ts, W, rfl, _⟩ := h
    rfl
  · obtain ⟨n, p, ts, W, rfl, hp, hts, hW, hR, hn, q⟩ := h
    refine ⟨_, PSs.nox (pss_cons (ps_set (i := 3) nd rfl (.inr rfl) (pe_lc (own := [("place", 2)]) (g := gName 2) (tt := tYes) rfl nd (pi_range1 (by rfl) m.range (pa_cons (pv 0) pa_nil)) (blkOk_by (N := ["many", "needs", "place", "below", "at", "peg", "needed", "row"]) (sc := defScope sBelowMasks) (by decide +kernel)) (fun _ _ _ _ _ => (pg_name (i := 2) nd rfl (.inl rfl))) (fun _ _ _ _ _ => pts_nil) (fun _ _ _ _ _ => (pe_op op_bshlM pe_int (pv 2)))))
  (pss_cons (ps_for PassesOwn.never rfl (pi_enum (by rfl) m.enumerate (pa_cons (pv 1) pa_nil)) (pg_tup (by rfl) (pgs_cons (pg_name (i := 4) nd rfl (.inl rfl)) (pgs_cons (pg_tup (by rfl) (pgs_cons (pg_name (i := 5) nd rfl (.inr rfl)) (pgs_cons (pg_name (i := 6) nd rfl (.inr rfl)) pgs_nil))) pgs_nil)))
   (pss_cons (ps_if (pt_truthI (pe_op op_bandM (pe_op op_bshrM (pe_ix ix_list (pv 3) (pv 6) (fun _ _ => rfl)) (pv 5)) pe_int) (by intro _; rfl)) (pss_one (ps_never)) pss_nil)
  (pss_one (ps_set (i := 3) nd rfl (.inr rfl) (pe_lc (own := [("row", 7)]) (g := gName 7) (tt := tYes) rfl nd (pi_list (pv 3)) (blkOk_by (N := ["many", "needs", "place", "below", "at", "peg", "needed", "row"]) (sc := defScope sBelowMasks) (by decide +kernel)) (fun _ _ _ _ _ => (pg_name (i := 7) nd rfl (.inl rfl))) (fun _ _ _ _ _ => pts_nil) (fun _ _ _ _ _ => (pe_ifExp (pt_truthI (pe_op op_bandM (pe_op op_bshrM (pv 7) (pv 5)) pe_int) (by intro _; rfl)) (pe_op op_borM (pv 7) (pe_ix (ix_listK (K := K) rfl) (pv 3) (pv 6) (fun _ _ => rfl))) (pv 7))))))))
  (pss_one (ps_ret (pv 3))))), ?_⟩
    refine ⟨_, rfl, _, rfl, by have : (0 : Int) ≤ (n : Int) := Int.natCast_nonneg _; omega, by omega, fun D hD => ?_⟩
    refine lc_map walk_range hD (List.range n) (fun i => vN (2 ^ i)) (by rw [List.length_range]; rfl) (by show n ≤ 1000; omega) (fun _ _ => trivial) ?_ ?_
    · rintro i a x H2 H3 ha S nD ⟨rfl, rfl⟩ NT yes
      obtain ⟨h1, h2⟩ := List.getElem?_eq_some_iff.mp ha
      rw [List.getElem_range] at h2
      subst h2
      rw [List.length_range] at h1
      exact ⟨rfl, _, rfl, i, rfl, v0 i, by omega, yes _ (Same.refl _)⟩
    · intro H2 S2 hD2
      have hlW : ts.length = W.length := paired_len hts
      refine ⟨_, rfl, p, _, rfl, S2.seq hp, for_it (walk_enum (xs := ts.map V.ref)) (fun i σ H3 => ∃ (r : Addr) (s2 s4 s5 s6 s7 : Option V), σ = [some (vN n), some (.ref p), s2, some (.ref r), s4, s5, s6, s7] ∧ Same H H3 ∧ H r = none ∧ H3 r = some (.lst ((rowsAfter n (W.take i)).map vN))) ?_ ?_ ?_ ?_⟩
      · refine ⟨D, _, _, _, _, _, rfl, S2, hD, ?_⟩
        rw [hD2, List.take_zero]
        unfold rowsAfter idr
        rw [List.foldl_nil, List.map_map]
        rfl
      · rintro i σ H3 hi ⟨r, s2, s4, s5, s6, s7, rfl, S3, hr0, hr3⟩
        exact S3.seq hp
      · rintro i x σ H3 H4 hi ⟨r, s2, s4, s5, s6, s7, rfl, S3, hr0, hr3⟩ ⟨T, x1, x2, rfl, hT, rfl, e1, e2⟩
        obtain ⟨a, rfl, ha⟩ := ref_at e2
        obtain ⟨⟨pp, qq⟩, hw, hTa⟩ := paired_at hts ha
        obtain ⟨l1, l2⟩ := hW _ (mem_of_at hw)
        simp only at l1 l2 hTa
        have S4 : Same H (upd H3 T (.tup [V.int (i : Nat), V.ref a])) := S3.trans (Same.new hT)
        cases e1
        have B : Bits n (RN (W.take i)) (rowsAfter n (W.take i)) := rowsAfter_bits fun v hv => hW v (List.mem_of_mem_take hv)
        have hlen : (rowsAfter n (W.take i)).length = n := B.1
        have hr4 := Same.new (o := .tup [V.int (i : Nat), V.ref a]) hT _ _ hr3
        have nc : ((rowsAfter n (W.take i)).getD qq 0).testBit pp = false := by
          cases c : ((rowsAfter n (W.take i)).getD qq 0).testBit pp with
          | false => rfl
          | true => exact absurd (((B.2 qq l2 pp).mp c).mono fun v hv => List.mem_of_mem_take hv) (hR.no_circle (mem_of_at hw))
        refine ⟨T, _, rfl, SqT.of upd_same, rfl, _, _, rfl, _, _, rfl, a, _, rfl, Same.sqT S4 hTa, rfl, _, _, rfl, _, _, rfl, rfl, rfl, ?_⟩
        refine ⟨_, rfl, _, rfl, r, _, _, _, rfl, rfl, SqL.of hr4, rl2 (by rw [hlen]; exact l2), _, rfl, _, pp, rfl, rfl, _, 1, rfl, rfl, _, rfl, ?_⟩
        show if (((((rowsAfter n (W.take i)).getD qq 0 / 2 ^ pp &&& 1 : Nat) : Int)) != 0) = true then _ else _
        rw [bitM, nc]
        refine iteF ?_
        refine ⟨_, rfl, r, rfl, ⟨_, SqL.of hr4⟩, fun D2 hD2 => ?_⟩
        refine lc_map (walk_list (xs := (rowsAfter n (W.take i)).map vN)) hD2 (rowsAfter n (W.take i)) (fun row => vN (if row.testBit pp then row ||| (rowsAfter n (W.take i)).getD qq 0 else row)) (by rw [List.length_map]) (by rw [List.length_map, hlen]; omega) (fun H5 S5 => S5.seq (SqL.of hr4)) ?_ ?_
        · rintro j row x H5 H6 hj S5 nD ⟨rfl, hx⟩ NT yes
          obtain ⟨b, rfl, hb⟩ := natInt_at hx
          rw [hj] at hb
          cases hb
          refine ⟨rfl, ?_⟩
          refine ⟨_, rfl, _, rfl, _, pp, rfl, rfl, _, 1, rfl, rfl, _, rfl, ?_⟩
          show if ((((row / 2 ^ pp &&& 1 : Nat) : Int)) != 0) = true then _ else _
          rw [bitM]
          have y := yes H6 (Same.refl _)
          cases c : row.testBit pp with
          | true =>
            rw [c] at y
            exact iteT ⟨_, rfl, _, rfl, _, rfl, r, _, _, _, rfl, rfl, SqL.of (S5 _ _ hr4), rl2 (by rw [hlen]; exact l2), _, _, rfl, rfl, y⟩
          | false =>
            rw [c] at y
            exact iteF ⟨_, rfl, y⟩
        · intro H5 S5 h5
          refine ⟨D2, _, _, _, _, _, rfl, S4.trans S5, S4.free hD2, ?_⟩
          rw [h5, rowsAfter_take hw]
          unfold stpRow
          rw [List.map_map]
          rfl
      · rintro σ H3 ⟨r, s2, s4, s5, s6, s7, rfl, S3, hr0, hr3⟩
        have e : W.take (ts.map V.ref).length = W := by rw [List.length_map, hlW, List.take_length]
        rw [e] at hr3
        exact ⟨_, rfl, q r H3 S3 hr0 hr3⟩
def spAbove (K : PySem.W.Frag) : Sp := fun vs H Q _ => ∃ (r : Addr) (rows : List Nat), vs = [.ref r] ∧ SqL K H r (rows.map vN) ∧ rows.length ≤ 900 ∧ ∀ p H', Same H H' → H p = none → H' p = some (.lst ((aboveR rows).map vN)) → Q (.ref p) H'
theorem scAboveMasks : FnScope ["below", "place"] ["below"] (defScope sAboveMasks) := ⟨rfl, rfl, rfl, by decide +kernel, rfl, by decide +kernel, by decide +kernel⟩
theorem ok_above_masks {f : Addr} {fd : FuncData} (F : FnT K "above_masks" sAboveMasks f fd) (m : Bl mg) (c_rows_that_meet : Callee P w K mg base 2 "rows_that_meet" ["rows", "mask"] (spMeet K)) : FnOk P w K mg base CX0 3 f fd ["below"] (spAbove K) := by
  have nd := scAboveMasks.nd
  refine F.ok scAboveMasks (fun vs H Q E h => ?_) (fun cdv A outer s H vs Q E hr h => ?_)
  · obtain ⟨r, rows, rfl, _⟩ := h
    rfl
  · obtain ⟨r, rows, rfl, hr2, hl, q⟩ := h
    refine ⟨_, PSs.nox (pss_one (ps_ret (pe_lc (own := [("place", 1)]) (g := gName 1) (tt := tYes) rfl nd (pi_range1 (by rfl) m.range (pa_cons (pe_callB call_len_seq (by rfl) m.len (by decide +kernel) (pa_cons (pv 0) pa_nil)) pa_nil)) (blkOk_by (N := ["below", "place"]) (sc := defScope sAboveMasks) (by decide +kernel)) (fun _ _ _ _ _ => (pg_name (i := 1) nd rfl (.inl rfl))) (fun _ _ _ _ _ => pts_nil) (fun _ _ _ _ _ => (pe_callC c_rows_that_meet (hr.mono (by decide)) (pa_cons (pv 0) (pa_cons (pe_op op_bshlM pe_int (pv 1)) pa_nil))))))), ?_⟩
    refine ⟨_, rfl, r, _, rfl, .inl hr2, _, rfl, by have := rows.length; rw [List.length_map]; omega, by rw [List.length_map]; omega, fun D hD => ?_⟩
    refine lc_map walk_range hD (List.range rows.length) (fun i => vN (meet rows (2 ^ i))) (by rw [List.length_range, List.length_map]; rfl) (by rw [List.length_map]; show rows.length ≤ 1000; omega) (fun _ _ => trivial) ?_ ?_
    · rintro i a x H2 H3 ha S nD ⟨rfl, rfl⟩ NT yes
      obtain ⟨h1, h2⟩ := List.getElem?_eq_some_iff.mp ha
      rw [List.getElem_range] at h2
      subst h2
      rw [List.length_range] at h1
      exact ⟨rfl, _, rfl, _, rfl, i, rfl, v0 i, by omega, r, rows, 2 ^ i, rfl, S.seq hr2, hl, fun H' S' => yes H' S'⟩
    · intro H2 S2 h2
      refine q D H2 S2 hD ?_
      rw [h2]
      unfold aboveR
      rw [List.map_map]
      rfl
def spBarred (K : PySem.W.Frag) : Sp := fun vs H Q _ => ∃ (n : Nat) (p : Addr) (ts : List Addr) (B : List (Nat × Nat)), vs = [vN n, .ref p] ∧ SqL K H p (ts.map V.ref) ∧ PlsAt K H ts B ∧ (∀ w ∈ B, w.1 < n ∧ w.2 < n) ∧ n ≤ 900 ∧
  ∀ r H', Same H H' → H r = none → H' r = some (.lst ((barR n B).map vN)) → Q (.ref r) H'
theorem barR_take {n : Nat} {W : List (Nat × Nat)} {i : Nat} {w : Nat × Nat} (h : W[i]? = some w) : barR n (W.take (i + 1)) = barStep (barR n (W.take i)) w := by
  unfold barR
  rw [take_succ_of h, List.foldl_append]
  rfl
theorem barR_len {n : Nat} {W : List (Nat × Nat)} : (barR n W).length = n := by
  have gen : ∀ (W : List (Nat × Nat)) (rows : List Nat), (W.foldl barStep rows).length = rows.length := by
    intro W
    induction W with
    | nil => intro rows; rfl
    | cons w W ih => intro rows; rw [List.foldl_cons, ih]; simp [barStep]
  unfold barR
  rw [gen]
  simp
theorem rep_flat : ∀ n : Nat, (List.replicate n [V.int 0]).flatten = List.replicate n (vN 0)
  | 0 => rfl
  | n + 1 => by
    rw [List.replicate_succ, List.flatten_cons, List.replicate_succ, rep_flat n]
    rfl
theorem ixN_nat {j n : Nat} (h : j < n) : ixN n (j : Int) = some j := by
  unfold ixN
  simp
  omega
theorem map_set_vN {rows : List Nat} {i v : Nat} : (rows.map vN).set i (vN v) = (rows.set i v).map vN := by rw [List.map_set]
theorem scBarredMasks : FnScope ["many", "bars", "barred", "one", "other"] ["many", "bars"] (defScope sBarredMasks) := ⟨rfl, rfl, rfl, by decide +kernel, rfl, by decide +kernel, by decide +kernel⟩
theorem ok_barred_masks {f : Addr} {fd : FuncData} (F : FnT K "barred_masks" sBarredMasks f fd) : FnOk P w K mg base CX0 1 f fd ["many", "bars"] (spBarred K) := by
  have nd := scBarredMasks.nd
  refine F.ok scBarredMasks (fun vs H Q E h => ?_) (fun cdv A outer s H vs Q E hr h => ?_)
  · obtain ⟨n, p, ts, W, rfl, _⟩ := h
    rfl
  · obtain ⟨n, p, ts, W, rfl, hp, hts, hW, hn, q⟩ := h
    refine ⟨_, PSs.nox (pss_cons (ps_set (i := 2) nd rfl (.inl rfl) (pe_op op_rep (pe_lst (pa_cons pe_int pa_nil)) (pv 0)))
  (pss_cons (ps_for PassesOwn.never rfl (pi_list (pv 1)) (pg_tup (by rfl) (pgs_cons (pg_name (i := 3) nd rfl (.inl rfl)) (pgs_cons (pg_name (i := 4) nd rfl (.inl rfl)) pgs_nil)))
   (pss_cons (ps_asg (pe_op op_borM (pe_ix ix_list (pv 2) (pv 3) (fun _ _ => rfl)) (pe_op op_bshlM pe_int (pv 4))) (pg_sub (pv 2) (pv 3) set_list))
  (pss_one (ps_asg (pe_op op_borM (pe_ix ix_list (pv 2) (pv 4) (fun _ _ => rfl)) (pe_op op_bshlM pe_int (pv 3))) (pg_sub (pv 2) (pv 4) set_list)))))
  (pss_one (ps_ret (pv 2))))), ?_⟩
    refine ⟨by show 1 ≤ sizeLine; decide, fun L hL => ?_⟩
    refine ⟨_, rfl, L, (n : Int), _, rfl, rfl, upd_same, by omega, by omega, ?_, fun r hr0 => ?_⟩
    · show 1 * ((n : Nat) : Int).toNat ≤ sizeLine
      rw [Int.toNat_natCast, Nat.one_mul]
      exact Nat.le_of_lt (small1000 (by omega))
    obtain ⟨nrL, hr1⟩ := upd_none hr0
    have S0 : Same H (upd H L (.lst [V.int 0])) := Same.new hL
    have hlW : ts.length = W.length := paired_len hts
    have eq0 : (List.replicate ((n : Nat) : Int).toNat [V.int 0]).flatten = (barR n []).map vN := by
      rw [Int.toNat_natCast]
      show _ = (List.replicate n 0).map vN
      rw [List.map_replicate]
      exact rep_flat n
    refine ⟨_, rfl, p, rfl, ⟨_, (S0.trans (Same.new hr0)).seq hp⟩, for_list (xs := ts.map V.ref) (fun i σ H3 => ∃ (s3 s4 : Option V), σ = [some (vN n), some (.ref p), some (.ref r), s3, s4] ∧ Same H H3 ∧ H3 r = some (.lst ((barR n (W.take i)).map vN))) ?_ ?_ ?_ ?_⟩
    · refine ⟨_, _, rfl, S0.trans (Same.new hr0), ?_⟩
      rw [upd_same, eq0, List.take_zero]
    · rintro i σ H3 hi ⟨s3, s4, rfl, S3, hr3⟩
      exact S3.seq hp
    · rintro i x σ H3 hx ⟨s3, s4, rfl, S3, hr3⟩
      obtain ⟨a, rfl, ha⟩ := ref_at hx
      obtain ⟨⟨u, v⟩, hw, hTa⟩ := paired_at hts ha
      obtain ⟨l1, l2⟩ := hW _ (mem_of_at hw)
      simp only at l1 l2 hTa
      have hlen : (barR n (W.take i)).length = n := barR_len
      refine ⟨a, _, rfl, Same.sqT S3 hTa, rfl, _, _, rfl, _, _, rfl, rfl, ?_⟩
      refine ⟨_, rfl, _, rfl, r, _, _, _, rfl, rfl, SqL.of hr3, rl2 (by rw [hlen]; exact l1), _, rfl, v, rfl, rfl, by omega, _, _, rfl, rfl, ?_⟩
      refine ⟨_, rfl, _, rfl, r, _, _, u, rfl, rfl, hr3, ixN_nat (by rw [List.length_map, hlen]; exact l1), ?_⟩
      rw [map_set_vN]
      refine ⟨_, rfl, _, rfl, r, _, _, _, rfl, rfl, SqL.of upd_same, rl2 (by rw [List.length_set, hlen]; exact l2), _, rfl, u, rfl, rfl, by omega, _, _, rfl, rfl, ?_⟩
      refine ⟨_, rfl, _, rfl, r, _, _, v, rfl, rfl, upd_same, ixN_nat (by rw [List.length_map, List.length_set, hlen]; exact l2), ?_⟩
      rw [map_set_vN, upd_upd]
      refine ⟨_, _, rfl, fun b o hb => ?_, ?_⟩
      · rw [upd_ne (ne_of_none hb hr1)]
        exact S3 b o hb
      · rw [upd_same, barR_take hw]
        rfl
    · rintro σ H3 ⟨s3, s4, rfl, S3, hr3⟩
      have e : W.take (ts.map V.ref).length = W := by rw [List.length_map, hlW, List.take_length]
      rw [e] at hr3
      exact ⟨_, rfl, q r H3 S3 hr1 hr3⟩
def spClash (K : PySem.W.Frag) : Sp := fun vs H Q _ => ∃ (n : Nat) (b p : Addr) (rows : List Nat) (ts : List Addr) (B : List (Nat × Nat)), vs = [.ref b, .ref p] ∧ SqL K H b (rows.map vN) ∧ rows.length = n ∧ (∀ i, i < n → rows.getD i 0 < 2 ^ n) ∧ SqL K H p (ts.map V.ref) ∧ PlsAt K H ts B ∧ (∀ w ∈ B, w.1 < n ∧ w.2 < n) ∧ n ≤ 900 ∧
  (∀ i, i < n → (reachR (barR n B) rows).getD i 0 &&& rows.getD i 0 = 0) ∧
  ∀ r H', Same H H' → H r = none → H' r = some (.lst ((clashR (reachR (barR n B) rows) rows).map vN)) → Q (.ref r) H'
theorem scClashMasks : FnScope ["below", "bars", "barred", "row", "reach", "at", "mask"] ["below", "bars"] (defScope sClashMasks) := ⟨rfl, rfl, rfl, by decide +kernel, rfl, by decide +kernel, by decide +kernel⟩
theorem ok_clash_masks {f : Addr} {fd : FuncData} (F : FnT K "clash_masks" sClashMasks f fd) (m : Bl mg) (c_barred_masks : Callee P w K mg base 1 "barred_masks" ["many", "bars"] (spBarred K)) (c_joined : Callee P w K mg base 2 "joined" ["rows", "mask"] (spJoined K)) (c_rows_that_meet : Callee P w K mg base 2 "rows_that_meet" ["rows", "mask"] (spMeet K)) : FnOk P w K mg base CX0 3 f fd ["below", "bars"] (spClash K) := by
  have nd := scClashMasks.nd
  refine F.ok scClashMasks (fun vs H Q E h => ?_) (fun cdv A outer s H vs Q E hr h => ?_)
  · obtain ⟨n, b, p, rows, ts, W, rfl, _⟩ := h
    rfl
  · obtain ⟨n, b, p, rows, ts, W, rfl, hb, hlr, hbd, hp, hts, hW, hn, hdead, q⟩ := h
    refine ⟨_, PSs.nox (pss_cons (ps_set (i := 2) nd rfl (.inr rfl) (pe_callC c_barred_masks (hr.mono (by decide)) (pa_cons (pe_callB call_len_seq (by rfl) m.len (by decide +kernel) (pa_cons (pv 0) pa_nil)) (pa_cons (pv 1) pa_nil))))
  (pss_cons (ps_setLc (i := 4) (own := [("row", 3)]) (g := gName 3) (tt := tYes) rfl nd rfl rfl (sw_true rfl rfl rfl (by decide +kernel)) (pi_list (pv 0)) (blkOk_by (N := ["below", "bars", "barred", "row", "reach", "at", "mask"]) (sc := defScope sClashMasks) (by decide +kernel)) (fun _ _ _ _ _ => (pg_name (i := 3) nd rfl (.inl rfl))) (fun _ _ _ _ _ => pts_nil) (fun _ _ _ _ _ => (pe_callC c_joined (hr.mono (by decide)) (pa_cons (pv 2) (pa_cons (pv 3) pa_nil)))))
  (pss_cons (ps_for PassesOwn.never rfl (pi_enum (by rfl) m.enumerate (pa_cons (pv 0) pa_nil)) (pg_tup (by rfl) (pgs_cons (pg_name (i := 5) nd rfl (.inl rfl)) (pgs_cons (pg_name (i := 3) nd rfl (.inl rfl)) pgs_nil)))
   (pss_one (ps_if (pt_cmpR op_neM (pe_op op_bandM (pe_ix ix_list (pv 4) (pv 5) (fun _ _ => rfl)) (pv 3)) pe_int (nomark _)) (pss_one (ps_never)) pss_nil)))
  (pss_one (ps_ret (pe_lc (own := [("mask", 6)]) (g := gName 6) (tt := tYes) rfl nd (pi_list (pv 4)) (blkOk_by (N := ["below", "bars", "barred", "row", "reach", "at", "mask"]) (sc := defScope sClashMasks) (by decide +kernel)) (fun _ _ _ _ _ => (pg_name (i := 6) nd rfl (.inl rfl))) (fun _ _ _ _ _ => pts_nil) (fun _ _ _ _ _ => (pe_callC c_rows_that_meet (hr.mono (by decide)) (pa_cons (pv 0) (pa_cons (pv 6) pa_nil)))))))))), ?_⟩
    refine ⟨_, rfl, b, _, rfl, .inl hb, _, rfl, n, p, ts, W, by rw [List.length_map, hlr]; rfl, hp, hts, hW, hn, fun g H2 S2 hg hg2 => ?_⟩
    have rowb : ∀ {i row : Nat}, rows[i]? = some row → row < 2 ^ n := fun {i row} h => by
      obtain ⟨h1, h2⟩ := List.getElem?_eq_some_iff.mp h
      rw [← getD_at h]
      exact hbd i (by omega)
    refine ⟨_, rfl, b, rfl, ⟨_, S2.seq hb⟩, fun D hD => ?_⟩
    refine lc_map (walk_list (xs := rows.map vN)) hD rows (fun row => vN (orl (barR n W) (plc row))) (by rw [List.length_map]) (by rw [List.length_map]; omega) (fun H5 S5 => (S2.trans S5).seq hb) ?_ ?_
    · rintro j row x H5 H6 hj S5 nD ⟨rfl, hx⟩ NT yes
      obtain ⟨c, rfl, hc⟩ := natInt_at hx
      rw [hj] at hc
      cases hc
      have lt := rowb hj
      refine ⟨rfl, _, rfl, _, rfl, g, barR n W, row, rfl, SqL.of (S5 _ _ hg2), Nat.le_trans (bits_le lt) (by omega), fun i hi => ?_, fun H' S' => yes H' S'⟩
      rw [barR_len]
      have : i < bits row := lt_bits hi
      have := bits_le lt
      omega
    · intro H3 S3 h3
      have h3' : H3 D = some (.lst ((reachR (barR n W) rows).map vN)) := by
        rw [h3]
        unfold reachR
        rw [List.map_map]
        rfl
      have rl : (reachR (barR n W) rows).length = n := by simp [reachR, hlr]
      have S03 : Same H H3 := S2.trans S3
      refine ⟨_, rfl, b, _, rfl, S03.seq hb, for_it (walk_enum (xs := rows.map vN)) (fun i σ H4 => ∃ (s3 s5 s6 : Option V), σ = [some (.ref b), some (.ref p), some (.ref g), s3, some (.ref D), s5, s6] ∧ Same H3 H4) ?_ ?_ ?_ ?_⟩
      · exact ⟨_, _, _, rfl, Same.refl _⟩
      · rintro i σ H4 hi ⟨s3, s5, s6, rfl, S4⟩
        exact (S03.trans S4).seq hb
      · rintro i x σ H4 H5 hi ⟨s3, s5, s6, rfl, S4⟩ ⟨T, x1, x2, rfl, hT, rfl, e1, e2⟩
        obtain ⟨c, rfl, hc⟩ := natInt_at e2
        cases e1
        rw [List.length_map, hlr] at hi
        have S5 : Same H3 (upd H4 T (.tup [V.int (i : Nat), vN c])) := S4.trans (Same.new hT)
        refine ⟨T, _, rfl, SqT.of upd_same, rfl, _, _, rfl, _, _, rfl, rfl, ?_⟩
        refine ⟨_, rfl, _, rfl, D, _, _, _, rfl, rfl, SqL.of (S5 _ _ h3'), rl2 (by rw [rl]; exact hi), _, rfl, _, c, rfl, rfl, _, 0, rfl, rfl, _, rfl, ?_⟩
        have z := hdead i hi
        rw [getD_at hc] at z
        have e : decide ((reachR (barR n W) rows).getD i 0 &&& c ≠ 0) = false := by rw [z]; rfl
        rw [e]
        exact iteF ⟨_, _, _, rfl, S5⟩
      · rintro σ H4 ⟨s3, s5, s6, rfl, S4⟩
        have S04 := S03.trans S4
        refine ⟨_, rfl, D, rfl, ⟨_, SqL.of (S4 _ _ h3')⟩, fun D2 hD2 => ?_⟩
        refine lc_map (walk_list (xs := (reachR (barR n W) rows).map vN)) hD2 (reachR (barR n W) rows) (fun k => vN (meet rows k)) (by rw [List.length_map]) (by rw [List.length_map, rl]; omega) (fun H5 S5 => SqL.of (S5 _ _ (S4 _ _ h3'))) ?_ ?_
        · rintro j k x H5 H6 hj S5 nD ⟨rfl, hx⟩ NT yes
          obtain ⟨c, rfl, hc⟩ := natInt_at hx
          rw [hj] at hc
          cases hc
          exact ⟨rfl, _, rfl, _, rfl, b, rows, k, rfl, (S04.trans S5).seq hb, by omega, fun H' S' => yes H' S'⟩
        · intro H5 S5 h5
          refine q D2 H5 (S04.trans S5) (S04.free hD2) ?_
          rw [h5]
          unfold clashR
          rw [List.map_map]
          rfl
end
end Lw

set_option Elab.async false
set_option linter.all false
set_option maxRecDepth 100000
set_option maxHeartbeats 4000000
namespace Lw
open PySem PySem.Spec PyProof.Rows L2 Np TL
local macro_rules | `(tactic| walk_at "np_h") => `(tactic| first | assumption | exact upd_same | (refine (upd_ne ?_).trans ?_; (walk_at "np_ne"); (walk_at "np_h")) | exact SqL.of (by walk_at "np_h") | exact SqT.of (by walk_at "np_h"))
local macro_rules | `(tactic| walk_at "np_ne") => `(tactic| first | assumption | exact Ne.symm (by assumption))
local macro_rules | `(tactic| walk_at "np_r") => `(tactic| first
  | refine ⟨_, rfl, ?_⟩
  | refine ⟨_, _, rfl, rfl, ?_⟩
  | refine ⟨(.inl ⟨by decide, by decide⟩ : CMul _ _), ?_⟩
  | refine ⟨(.inr ⟨by decide, by decide⟩ : CMul _ _), ?_⟩
  | refine ⟨(by first | decide | omega : (0 : Int) < _), ?_⟩
  | refine ⟨(⟨by decide, by decide⟩ : CDiv _ _), ?_⟩
  | (refine' ⟨_, _, _, _, rfl, rfl, ?np1, ?np2, ?_⟩; (case np1 => walk_at "np_h"); (case np2 => rfl)))

theorem letters_mem : ∀ c : Nat, c ∈ lettersS.cps.toList ↔ (97 ≤ c ∧ c < 123) := by
  intro c
  have e : lettersS.cps.toList = (List.range 26).map (97 + ·) := by decide +kernel
  rw [e, List.mem_map]
  constructor
  · rintro ⟨k, hk, rfl⟩
    have := List.mem_range.mp hk
    omega
  · intro h
    exact ⟨c - 97, List.mem_range.mpr (by omega), by omega⟩
theorem all_bl (f : Nat → Bool) (l : List Nat) : (l.map f).all id = l.all f := by
  induction l with
  | nil => rfl
  | cons a l ih => rw [List.map_cons, List.all_cons, List.all_cons, ih]; rfl
theorem all_true {α : Type} (l : List α) : (l.map fun _ => true).all id = true := by
  induction l with
  | nil => rfl
  | cons a l ih => rw [List.map_cons, List.all_cons, ih]; rfl
theorem bls_true {α : Type} (l : List α) : (l.map fun _ => V.bl true) = (l.map fun _ => true).map V.bl := by rw [List.map_map]; rfl
section
variable {P : Program} {w : World} {K : PySem.W.Frag} {mg : Str → Option Value} {base : Heap}
/-! ### the checks, of what is right -/
def spRight : Sp := fun vs H Q _ => ∃ t : Str, vs = [.str t] ∧ t.length ≤ 100000 ∧ ∀ H', Same H H' → Q (.bl (rightB t)) H'
theorem scRightName : FnScope ["text", "letter"] ["text"] (defScope sRightName) := ⟨rfl, rfl, rfl, by decide +kernel, rfl, by decide +kernel, by decide +kernel⟩
theorem ok_right_name {f : Addr} {fd : FuncData} {tL : Tok} (F : FnT K "right_name" sRightName f fd) (m : Bl mg) (hLETTERS : mg "LETTERS" = some (.str lettersS tL)) : FnOk P w K mg base CX0 1 f fd ["text"] spRight := by
  have nd := scRightName.nd
  refine F.ok scRightName (fun vs H Q E h => ?_) (fun cdv A outer s H vs Q E hr h => ?_)
  · obtain ⟨t, rfl, _⟩ := h
    rfl
  · obtain ⟨t, rfl, hl, q⟩ := h
    refine ⟨_, PSs.nox (pss_one (ps_ret (pe_and (pe_chain op_le op_le pe_int (pe_callB call_len_str (by rfl) m.len (by decide +kernel) (pa_cons (pv 0) pa_nil)) pe_int) (pe_one (pe_callB (cr_all rfl) (by rfl) m.all (by decide +kernel) (pa_cons (pe_lc (own := [("letter", 1)]) (g := gName 1) (tt := tYes) rfl nd (pi_str (pv 0)) (blkOk_by (N := ["text", "letter"]) (sc := defScope sRightName) (by decide +kernel)) (fun _ _ _ _ _ => (pg_name (i := 1) nd rfl (.inl rfl))) (fun _ _ _ _ _ => pts_nil) (fun _ _ _ _ _ => (pe_cmpR op_in_sign (pv 1) (pe_glob (v := .str lettersS) (by rfl) hLETTERS ⟨_, rfl⟩) (by rfl)))) pa_nil)))))), ?_⟩
    have ls : t.length ≤ sizeLine := Nat.le_trans hl (by decide)
    refine ⟨_, rfl, _, rfl, ls, _, _, rfl, rfl, _, rfl, ?_⟩
    have e1 : decide ((1 : Int) ≤ ((t.length : Nat) : Int)) = decide (1 ≤ t.length) := decide_eq_decide.mpr (by omega)
    have e2 : decide (((t.length : Nat) : Int) ≤ 6) = decide (t.length ≤ 6) := decide_eq_decide.mpr (by omega)
    show if decide ((1 : Int) ≤ ((t.length : Nat) : Int)) = true then _ else _
    rw [e1]
    have q' := q
    unfold rightB at q'
    cases c1 : decide (1 ≤ t.length) with
    | false =>
      refine iteF ?_
      refine ⟨_, rfl, iteF ?_⟩
      rw [c1, Bool.false_and, Bool.false_and] at q'
      exact q' H (Same.refl _)
    | true =>
      refine iteT ?_
      refine ⟨_, _, rfl, rfl, ?_⟩
      refine ⟨_, rfl, ?_⟩
      show if decide (((t.length : Nat) : Int) ≤ 6) = true then _ else _
      rw [e2]
      rw [c1] at q'
      cases c2 : decide (t.length ≤ 6) with
      | false =>
        refine iteF ?_
        rw [c2] at q'
        exact q' H (Same.refl _)
      | true =>
        refine iteT ?_
        rw [c2] at q'
        have l6 : t.length ≤ 6 := of_decide_eq_true c2
        have ltl : (tl t).length = t.length := rfl
        refine ⟨_, rfl, t, rfl, fun D hD => ?_⟩
        refine lc_map (walk_str (z := t)) hD (tl t) (fun c => V.bl (decide (97 ≤ c) && decide (c < 123))) ltl (Nat.le_trans l6 (by decide)) (fun _ _ => trivial) ?_ ?_
        · rintro i c x H2 H3 ha S nD ⟨rfl, c', hc, rfl⟩ NT yes
          have ec : c' = c := by
            have : t.cps[i]? = (tl t)[i]? := by rw [show tl t = t.cps.toList from rfl, Array.getElem?_toList]
            rw [this, ha] at hc
            exact (Option.some.inj hc).symm
          subst ec
          refine ⟨rfl, _, rfl, c', lettersS, rfl, rfl, ?_⟩
          have e : decide (c' ∈ lettersS.cps.toList) = (decide (97 ≤ c') && decide (c' < 123)) := by
            rw [Bool.eq_iff_iff, decide_eq_true_eq, letters_mem, Bool.and_eq_true, decide_eq_true_eq, decide_eq_true_eq]
          rw [e]
          exact yes _ (Same.refl _)
        · intro H2 S h2
          refine ⟨D, (tl t).map fun c => decide (97 ≤ c) && decide (c < 123), rfl, SqL.of ?_, ?_⟩
          · rw [h2, List.map_map]
            rfl
          · rw [all_bl]
            exact q' H2 S
/-- a row: a tuple or a list -/
def spIsRow (K : PySem.W.Frag) : Sp := fun vs H Q _ => ∃ (a : Addr) (t : Bool) (xs : List V), vs = [.ref a] ∧ SqB K t H a xs ∧ ∀ H', Same H H' → Q (.bl true) H'
theorem scIsRow : FnScope ["value"] ["value"] (defScope sIsRow) := ⟨rfl, rfl, rfl, by decide +kernel, rfl, by decide +kernel, by decide +kernel⟩
theorem ok_is_row {f : Addr} {fd : FuncData} (F : FnT K "is_row" sIsRow f fd) (m : Bl mg) : FnOk P w K mg base CX0 1 f fd ["value"] (spIsRow K) := by
  have nd := scIsRow.nd
  refine F.ok scIsRow (fun vs H Q E h => ?_) (fun cdv A outer s H vs Q E hr h => ?_)
  · obtain ⟨a, t, xs, rfl, _⟩ := h
    rfl
  · obtain ⟨a, t, xs, rfl, ha, q⟩ := h
    refine ⟨_, PSs.nox (pss_one (ps_ret (pe_callB (call_isBT (K := K) rfl) (by rfl) m.isinstance (by decide +kernel) (pa_cons (pv 0) (pa_cons (pe_tup (pa_cons (pe_bltn (v := .ty "tuple") (by rfl) m.tuple (by decide +kernel) rfl) (pa_cons (pe_bltn (v := .ty "list") (by rfl) m.list (by decide +kernel) rfl) pa_nil))) pa_nil))))), ?_⟩
    refine ⟨_, rfl, by show 2 ≤ sizeLine; decide, fun T hT => ?_⟩
    refine ⟨.ref a, sqName t, T, ["tuple", "list"], true, rfl, upd_same, TyX.same (tyx_sq ha) (Same.new hT), ?_, q _ (Same.new hT)⟩
    cases t <;> decide +kernel
def spIsPair (K : PySem.W.Frag) : Sp := fun vs H Q _ => ∃ (a : Addr) (x y : Str), vs = [.ref a] ∧ SqT K H a [.str x, .str y] ∧ ∀ H', Same H H' → Q (.bl true) H'
theorem scIsPair : FnScope ["value", "item"] ["value"] (defScope sIsPair) := ⟨rfl, rfl, rfl, by decide +kernel, rfl, by decide +kernel, by decide +kernel⟩
theorem ok_is_pair {f : Addr} {fd : FuncData} (F : FnT K "is_pair" sIsPair f fd) (m : Bl mg) : FnOk P w K mg base CX0 1 f fd ["value"] (spIsPair K) := by
  have nd := scIsPair.nd
  refine F.ok scIsPair (fun vs H Q E h => ?_) (fun cdv A outer s H vs Q E hr h => ?_)
  · obtain ⟨a, x, y, rfl, _⟩ := h
    rfl
  · obtain ⟨a, x, y, rfl, ha, q⟩ := h
    refine ⟨_, PSs.nox (pss_one (ps_ret (pe_and (pe_callB (call_isB (K := K) rfl) (by rfl) m.isinstance (by decide +kernel) (pa_cons (pv 0) (pa_cons (pe_bltn (v := .ty "tuple") (by rfl) m.tuple (by decide +kernel) rfl) pa_nil))) (pe_and (pe_cmpR op_eq (pe_callB call_len_seq (by rfl) m.len (by decide +kernel) (pa_cons (pv 0) pa_nil)) pe_int (nomark _)) (pe_one (pe_callB (cr_all rfl) (by rfl) m.all (by decide +kernel) (pa_cons (pe_lc (own := [("item", 1)]) (g := gName 1) (tt := tYes) rfl nd (pi_tup (pv 0)) (blkOk_by (N := ["value", "item"]) (sc := defScope sIsPair) (by decide +kernel)) (fun _ _ _ _ _ => (pg_name (i := 1) nd rfl (.inl rfl))) (fun _ _ _ _ _ => pts_nil) (fun _ _ _ _ _ => (pe_callB (call_isB (K := K) rfl) (by rfl) m.isinstance (by decide +kernel) (pa_cons (pv 1) (pa_cons (pe_bltn (v := .ty "str") (by rfl) m.str (by decide +kernel) rfl) pa_nil))))) pa_nil))))))), ?_⟩
    refine ⟨_, rfl, .ref a, "tuple", "tuple", true, rfl, tyx_sqT ha, by decide +kernel, ?_⟩
    refine ⟨_, rfl, iteT ?_⟩
    refine ⟨_, rfl, a, _, rfl, .inr ha, rfl, ?_⟩
    refine ⟨_, rfl, iteT ?_⟩
    refine ⟨_, rfl, a, rfl, ⟨_, ha⟩, fun D hD => ?_⟩
    refine lc_map (walk_tup (xs := [V.str x, V.str y])) hD [x, y] (fun _ => V.bl true) rfl (by show 2 ≤ 1000; decide) (fun H2 S => Same.sqT S ha) ?_ ?_
    · rintro i c z H2 H3 hi S nD ⟨rfl, hx⟩ NT yes
      obtain ⟨u, rfl, hu⟩ := str_at (xs := [x, y]) hx
      refine ⟨rfl, _, rfl, .str u, "str", "str", true, rfl, .base (.str u), by decide +kernel, yes _ (Same.refl _)⟩
    · intro H2 S h2
      rw [bls_true] at h2
      refine ⟨D, _, rfl, SqL.of h2, ?_⟩
      rw [all_true]
      exact q H2 S
def spIsPairs (K : PySem.W.Frag) : Sp := fun vs H Q _ => ∃ (a : Addr) (t : Bool) (ts : List Addr) (W : List (Str × Str)), vs = [.ref a] ∧ SqB K t H a (ts.map V.ref) ∧ PairsAt K H ts W ∧ W.length ≤ 900 ∧ ∀ H', Same H H' → Q (.bl true) H'
theorem scIsRowOfPairs : FnScope ["value", "item"] ["value"] (defScope sIsRowOfPairs) := ⟨rfl, rfl, rfl, by decide +kernel, rfl, by decide +kernel, by decide +kernel⟩
theorem ok_is_row_of_pairs {f : Addr} {fd : FuncData} (F : FnT K "is_row_of_pairs" sIsRowOfPairs f fd) (m : Bl mg) (c_is_row : Callee P w K mg base 1 "is_row" ["value"] (spIsRow K)) (c_is_pair : Callee P w K mg base 1 "is_pair" ["value"] (spIsPair K)) : FnOk P w K mg base CX0 2 f fd ["value"] (spIsPairs K) := by
  have nd := scIsRowOfPairs.nd
  refine F.ok scIsRowOfPairs (fun vs H Q E h => ?_) (fun cdv A outer s H vs Q E hr h => ?_)
  · obtain ⟨a, t, ts, W, rfl, _⟩ := h
    rfl
  · obtain ⟨a, t, ts, W, rfl, ha, hts, hl, q⟩ := h
    refine ⟨_, PSs.nox (pss_one (ps_ret (pe_and (pe_callC c_is_row (hr.mono (by decide)) (pa_cons (pv 0) pa_nil)) (pe_one (pe_callB (cr_all rfl) (by rfl) m.all (by decide +kernel) (pa_cons (pe_lc (own := [("item", 1)]) (g := gName 1) (tt := tYes) rfl nd (pi_sq (pv 0)) (blkOk_by (N := ["value", "item"]) (sc := defScope sIsRowOfPairs) (by decide +kernel)) (fun _ _ _ _ _ => (pg_name (i := 1) nd rfl (.inl rfl))) (fun _ _ _ _ _ => pts_nil) (fun _ _ _ _ _ => (pe_callC c_is_pair (hr.mono (by decide)) (pa_cons (pv 1) pa_nil)))) pa_nil)))))), ?_⟩
    have hlW : ts.length = W.length := paired_len hts
    refine ⟨_, rfl, a, t, _, rfl, ha, fun H1 S1 => ?_⟩
    refine ⟨_, rfl, iteT ?_⟩
    refine ⟨_, rfl, t, a, _, rfl, SqB.same ha S1, fun D hD => ?_⟩
    refine lc_map (walk_sq (xs := ts.map V.ref)) hD ts (fun _ => V.bl true) (by rw [List.length_map]) (by rw [List.length_map]; omega) (fun H2 S => SqB.same ha (S1.trans S)) ?_ ?_
    · rintro i c z H2 H3 hi S nD ⟨rfl, hx⟩ NT yes
      obtain ⟨u, rfl, hu⟩ := ref_at hx
      obtain ⟨wp, hw, hT⟩ := paired_at hts hu
      refine ⟨rfl, _, rfl, u, _, _, rfl, Same.sqT (S1.trans S) hT, fun H' S' => yes _ S'⟩
    · intro H2 S h2
      rw [bls_true] at h2
      refine ⟨D, _, rfl, SqL.of h2, ?_⟩
      rw [all_true]
      exact q H2 (S1.trans S)
theorem int_at {xs : List Int} {i : Nat} {x : V} (h : (xs.map V.int)[i]? = some x) : ∃ s, x = .int s ∧ xs[i]? = some s := by
  rw [List.getElem?_map] at h
  cases e : xs[i]? with
  | none => rw [e] at h; cases h
  | some s => rw [e] at h; cases h; exact ⟨s, rfl, rfl⟩
def spIsInts (K : PySem.W.Frag) : Sp := fun vs H Q _ => ∃ (a : Addr) (t : Bool) (ns : List Int), vs = [.ref a] ∧ SqB K t H a (ns.map V.int) ∧ ns.length ≤ 900 ∧ ∀ H', Same H H' → Q (.bl true) H'
theorem scIsRowOfIntegers : FnScope ["value", "item"] ["value"] (defScope sIsRowOfIntegers) := ⟨rfl, rfl, rfl, by decide +kernel, rfl, by decide +kernel, by decide +kernel⟩
theorem ok_is_row_of_integers {f : Addr} {fd : FuncData} (F : FnT K "is_row_of_integers" sIsRowOfIntegers f fd) (m : Bl mg) (c_is_row : Callee P w K mg base 1 "is_row" ["value"] (spIsRow K)) : FnOk P w K mg base CX0 2 f fd ["value"] (spIsInts K) := by
  have nd := scIsRowOfIntegers.nd
  refine F.ok scIsRowOfIntegers (fun vs H Q E h => ?_) (fun cdv A outer s H vs Q E hr h => ?_)
  · obtain ⟨a, t, ns, rfl, _⟩ := h
    rfl
  · obtain ⟨a, t, ns, rfl, ha, hl, q⟩ := h
    refine ⟨_, PSs.nox (pss_one (ps_ret (pe_and (pe_callC c_is_row (hr.mono (by decide)) (pa_cons (pv 0) pa_nil)) (pe_one (pe_callB (cr_all rfl) (by rfl) m.all (by decide +kernel) (pa_cons (pe_lc (own := [("item", 1)]) (g := gName 1) (tt := tYes) rfl nd (pi_sq (pv 0)) (blkOk_by (N := ["value", "item"]) (sc := defScope sIsRowOfIntegers) (by decide +kernel)) (fun _ _ _ _ _ => (pg_name (i := 1) nd rfl (.inl rfl))) (fun _ _ _ _ _ => pts_nil) (fun _ _ _ _ _ => (pe_and (pe_callB (call_isB (K := K) rfl) (by rfl) m.isinstance (by decide +kernel) (pa_cons (pv 1) (pa_cons (pe_bltn (v := .ty "int") (by rfl) m.int (by decide +kernel) rfl) pa_nil))) (pe_one (pe_not (pe_callB (call_isB (K := K) rfl) (by rfl) m.isinstance (by decide +kernel) (pa_cons (pv 1) (pa_cons (pe_bltn (v := .ty "bool") (by rfl) m.bool (by decide +kernel) rfl) pa_nil)))))))) pa_nil)))))), ?_⟩
    refine ⟨_, rfl, a, t, _, rfl, ha, fun H1 S1 => ?_⟩
    refine ⟨_, rfl, iteT ?_⟩
    refine ⟨_, rfl, t, a, _, rfl, SqB.same ha S1, fun D hD => ?_⟩
    refine lc_map (walk_sq (xs := ns.map V.int)) hD ns (fun _ => V.bl true) (by rw [List.length_map]) (by rw [List.length_map]; omega) (fun H2 S => SqB.same ha (S1.trans S)) ?_ ?_
    · rintro i c z H2 H3 hi S nD ⟨rfl, hx⟩ NT yes
      obtain ⟨u, rfl, hu⟩ := int_at hx
      refine ⟨rfl, _, rfl, .int u, "int", "int", true, rfl, .base (.int u), by decide +kernel, ?_⟩
      refine ⟨_, rfl, iteT ?_⟩
      refine ⟨_, rfl, .int u, "int", "bool", false, rfl, .base (.int u), by decide +kernel, _, rfl, yes _ (Same.refl _)⟩
    · intro H2 S h2
      rw [bls_true] at h2
      refine ⟨D, _, rfl, SqL.of h2, ?_⟩
      rw [all_true]
      exact q H2 (S1.trans S)
/-- the costs: None, or a row of integers -/
def CostsAt (K : PySem.W.Frag) (H : Hp) (c : V) (cs : Option (List Int)) : Prop := match cs with
  | none => c = .non
  | some ns => ∃ (a : Addr) (t : Bool), c = .ref a ∧ SqB K t H a (ns.map V.int)
theorem CostsAt.same {H H' : Hp} {c : V} {cs : Option (List Int)} (h : CostsAt K H c cs) (s : Same H H') : CostsAt K H' c cs := by
  cases cs with
  | none => exact h
  | some ns =>
    obtain ⟨a, t, h1, h2⟩ := h
    exact ⟨a, t, h1, SqB.same h2 s⟩
def spCheckForm (K : PySem.W.Frag) : Sp := fun vs H Q _ => ∃ (p n b : Addr) (c : V) (tp tn tb : Bool) (pegs : List Str) (ns bs : List Addr) (W B : List (Str × Str)) (cs : Option (List Int)), vs = [.ref p, .ref n, .ref b, c] ∧ SqB K tp H p (pegs.map V.str) ∧ pegs.length ≤ 900 ∧
  SqB K tn H n (ns.map V.ref) ∧ PairsAt K H ns W ∧ W.length ≤ 900 ∧ SqB K tb H b (bs.map V.ref) ∧ PairsAt K H bs B ∧ B.length ≤ 900 ∧ CostsAt K H c cs ∧ (∀ ns, cs = some ns → ns.length ≤ 900) ∧ ∀ H', Same H H' → Q .non H'
theorem scCheckForm : FnScope ["pegs", "needs", "bars", "costs", "peg"] ["pegs", "needs", "bars", "costs"] (defScope sCheckForm) := ⟨rfl, rfl, rfl, by decide +kernel, rfl, by decide +kernel, by decide +kernel⟩
theorem ok_check_form {f : Addr} {fd : FuncData} (F : FnT K "check_form" sCheckForm f fd) (m : Bl mg) (c_is_row : Callee P w K mg base 1 "is_row" ["value"] (spIsRow K)) (c_is_row_of_pairs : Callee P w K mg base 2 "is_row_of_pairs" ["value"] (spIsPairs K))
    (c_is_row_of_integers : Callee P w K mg base 2 "is_row_of_integers" ["value"] (spIsInts K)) : FnOk P w K mg base CX0 3 f fd ["pegs", "needs", "bars", "costs"] (spCheckForm K) := by
  have nd := scCheckForm.nd
  refine F.ok scCheckForm (fun vs H Q E h => ?_) (fun cdv A outer s H vs Q E hr h => ?_)
  · obtain ⟨p, n, b, c, tp, tn, tb, pegs, ns, bs, W, B, cs, rfl, _⟩ := h
    rfl
  · obtain ⟨p, n, b, c, tp, tn, tb, pegs, ns, bs, W, B, cs, rfl, hp, lp, hn, hns, lW, hb, hbs, lB, hc, lc, q⟩ := h
    refine ⟨_, PSs.nox (pss_cons (ps_if (PW.pt (pw_or (pt_not (pt_val (pe_callC c_is_row (hr.mono (by decide)) (pa_cons (pv 0) pa_nil)))) (pw_or1 (pt_not (pt_val (pe_callB (cr_all rfl) (by rfl) m.all (by decide +kernel) (pa_cons (pe_lc (own := [("peg", 4)]) (g := gName 4) (tt := tYes) rfl nd (pi_sq (pv 0)) (blkOk_by (N := ["pegs", "needs", "bars", "costs", "peg"]) (sc := defScope sCheckForm) (by decide +kernel)) (fun _ _ _ _ _ => (pg_name (i := 4) nd rfl (.inl rfl))) (fun _ _ _ _ _ => pts_nil) (fun _ _ _ _ _ => (pe_callB (call_isB (K := K) rfl) (by rfl) m.isinstance (by decide +kernel) (pa_cons (pv 4) (pa_cons (pe_bltn (v := .ty "str") (by rfl) m.str (by decide +kernel) rfl) pa_nil))))) pa_nil))))))) (pss_one (ps_never)) pss_nil)
  (pss_cons (ps_if (PW.pt (pw_or (pt_not (pt_val (pe_callC c_is_row_of_pairs (hr.mono (by decide)) (pa_cons (pv 1) pa_nil)))) (pw_or1 (pt_not (pt_val (pe_callC c_is_row_of_pairs (hr.mono (by decide)) (pa_cons (pv 2) pa_nil))))))) (pss_one (ps_never)) pss_nil)
  (pss_one (ps_if (PW.pt (pw_and (pt_cmpR op_notN (pv 3) pe_non (nomark _)) (pw_and1 (pt_not (pt_val (pe_callC c_is_row_of_integers (hr.mono (by decide)) (pa_cons (pv 3) pa_nil))))))) (pss_one (ps_never)) pss_nil)))), ?_⟩
    refine ⟨_, rfl, p, tp, _, rfl, hp, fun H1 S1 => ?_⟩
    refine ⟨_, rfl, iteF ?_⟩
    refine ⟨_, rfl, tp, p, _, rfl, SqB.same hp S1, fun D hD => ?_⟩
    refine lc_map (walk_sq (xs := pegs.map V.str)) hD pegs (fun _ => V.bl true) (by rw [List.length_map]) (by rw [List.length_map]; omega) (fun H2 S => SqB.same hp (S1.trans S)) ?_ ?_
    · rintro i x z H2 H3 hi S nD ⟨rfl, hx⟩ NT yes
      obtain ⟨u, rfl, hu⟩ := str_at hx
      exact ⟨rfl, _, rfl, .str u, "str", "str", true, rfl, .base (.str u), by decide +kernel, yes _ (Same.refl _)⟩
    · intro H2 S h2
      have S2 := S1.trans S
      rw [bls_true] at h2
      refine ⟨D, _, rfl, SqL.of h2, ?_⟩
      rw [all_true]
      refine ⟨_, rfl, iteF ?_⟩
      refine ⟨_, rfl, n, tn, ns, W, rfl, SqB.same hn S2, PairsAt.same hns S2, lW, fun H3 S3 => ?_⟩
      refine ⟨_, rfl, iteF ?_⟩
      have S03 := S2.trans S3
      refine ⟨_, rfl, b, tb, bs, B, rfl, SqB.same hb S03, PairsAt.same hbs S03, lB, fun H4 S4 => ?_⟩
      refine ⟨_, rfl, iteF ?_⟩
      have S04 := S03.trans S4
      refine ⟨_, rfl, rfl, _, rfl, ?_⟩
      cases cs with
      | none =>
        cases (show c = V.non from hc)
        exact iteF (q H4 S04)
      | some cs =>
        obtain ⟨a, t, rfl, ha⟩ := hc
        refine iteT ?_
        refine ⟨_, rfl, a, t, cs, rfl, SqB.same ha S04, lc cs rfl, fun H5 S5 => ?_⟩
        exact ⟨_, rfl, iteF (q H5 (S04.trans S5))⟩
def spCheckPegs (K : PySem.W.Frag) : Sp := fun vs H Q _ => ∃ (p : Addr) (t : Bool) (pegs : List Str) (most : Nat), vs = [.ref p, vN most] ∧ SqB K t H p (pegs.map V.str) ∧ pegs.length ≤ 900 ∧ pegs.length ≤ most ∧ pegs.Nodup ∧ (∀ s ∈ pegs, RightName s) ∧ ∀ H', Same H H' → Q .non H'
theorem scCheckPegs : FnScope ["pegs", "most", "at", "peg"] ["pegs", "most"] (defScope sCheckPegs) := ⟨rfl, rfl, rfl, by decide +kernel, rfl, by decide +kernel, by decide +kernel⟩
theorem right_true {s : Str} (h : RightName s) : rightB s = true := by
  unfold rightB
  rw [decide_eq_true h.pos, decide_eq_true h.le, Bool.true_and, Bool.true_and, List.all_eq_true]
  intro c hc
  have := h.low c hc
  rw [decide_eq_true this.1, decide_eq_true this.2]
  rfl
theorem ok_check_pegs {f : Addr} {fd : FuncData} (F : FnT K "check_pegs" sCheckPegs f fd) (m : Bl mg) (c_right_name : Callee P w K mg base 1 "right_name" ["text"] spRight) : FnOk P w K mg base CX0 2 f fd ["pegs", "most"] (spCheckPegs K) := by
  have nd := scCheckPegs.nd
  refine F.ok scCheckPegs (fun vs H Q E h => ?_) (fun cdv A outer s H vs Q E hr h => ?_)
  · obtain ⟨p, t, pegs, most, rfl, _⟩ := h
    rfl
  · obtain ⟨p, t, pegs, most, rfl, hp, l9, lm, hnd, hR, q⟩ := h
    refine ⟨_, PSs.nox (pss_cons (ps_if (pt_cmpR op_gt (pe_callB call_len_seq (by rfl) m.len (by decide +kernel) (pa_cons (pv 0) pa_nil)) (pv 1) (nomark _)) (pss_one (ps_never)) pss_nil)
  (pss_one (ps_for PassesOwn.never rfl (pi_enumB (by rfl) m.enumerate (pa_cons (pv 0) pa_nil)) (pg_tup (by rfl) (pgs_cons (pg_name (i := 2) nd rfl (.inl rfl)) (pgs_cons (pg_name (i := 3) nd rfl (.inl rfl)) pgs_nil)))
   (pss_one (ps_if (PW.pt (pw_or (pt_not (pt_val (pe_callC c_right_name (hr.mono (by decide)) (pa_cons (pv 3) pa_nil)))) (pw_or1 (pt_cmpR op_in_seq (pv 3) (pe_slice sl_sq (pv 0) po_none (po_some (pv 2))) (by rfl))))) (pss_one (ps_never)) pss_nil))))), ?_⟩
    refine ⟨_, rfl, p, _, rfl, hp.or, _, rfl, _, _, rfl, rfl, _, rfl, ?_⟩
    have e : decide ((((pegs.map V.str).length : Nat) : Int) > (most : Int)) = false := decide_eq_false (by rw [List.length_map]; omega)
    rw [e]
    refine iteF ?_
    refine ⟨_, rfl, t, p, _, rfl, hp, for_it (walk_enumB (xs := pegs.map V.str)) (fun i σ H2 => ∃ s2 s3, σ = [some (.ref p), some (vN most), s2, s3] ∧ Same H H2) ?_ ?_ ?_ ?_⟩
    · exact ⟨_, _, rfl, Same.refl _⟩
    · rintro i σ H2 hi ⟨s2, s3, rfl, S⟩
      exact SqB.same hp S
    · rintro i x σ H2 H3 hi ⟨s2, s3, rfl, S⟩ ⟨T, x1, x2, rfl, hT, rfl, e1, e2⟩
      obtain ⟨u, rfl, hu⟩ := str_at e2
      cases e1
      have S3 : Same H (upd H2 T (.tup [V.int (i : Nat), V.str u])) := S.trans (Same.new hT)
      refine ⟨T, _, rfl, SqT.of upd_same, rfl, _, _, rfl, _, _, rfl, rfl, ?_⟩
      have hru := hR u (mem_of_at hu)
      refine ⟨_, rfl, u, rfl, by have := hru.le; omega, fun H4 S4 => ?_⟩
      rw [right_true hru]
      refine ⟨_, rfl, iteF ?_⟩
      have S04 := S3.trans S4
      refine ⟨_, rfl, _, rfl, _, rfl, _, rfl, t, p, _, rfl, SqB.same hp S04, fun z H5 S5 h5 => ?_⟩
      rw [cutV_take, ← List.map_take] at h5
      refine ⟨z, _, rfl, h5.or, rfl, Np.flat_strs _, _, rfl, ?_⟩
      rw [if_neg (by decide), inV_strs, decide_eq_false (not_in_take hnd hu)]
      exact iteF ⟨_, _, rfl, S04.trans S5⟩
    · rintro σ H2 ⟨s2, s3, rfl, S⟩
      exact q H2 S
def spCheckCosts (K : PySem.W.Frag) : Sp := fun vs H Q _ => ∃ (c : V) (n : Nat) (cs : Option (List Int)), vs = [c, vN n] ∧ CostsAt K H c cs ∧ (∀ ns, cs = some ns → ns.length = n ∧ ∀ i ∈ ns, 1 ≤ i ∧ i ≤ 1000) ∧ ∀ H', Same H H' → Q .non H'
def spRightCost : Sp := fun vs H Q _ => ∃ u : Int, vs = [.int u] ∧ Q (.bl (decide (1 ≤ u) && decide (u ≤ 1000))) H
theorem scRightCost : FnScope ["cost"] ["cost"] (defScope sRightCost) := ⟨rfl, rfl, rfl, by decide +kernel, rfl, by decide +kernel, by decide +kernel⟩
theorem ok_right_cost {f : Addr} {fd : FuncData} {t1 t2 : Tok} (F : FnT K "right_cost" sRightCost f fd) (m : Bl mg) (hLEAST : mg "LEAST_COST" = some (.int 1 t1)) (hMOST : mg "MOST_COST" = some (.int 1000 t2)) : FnOk P w K mg base CX0 1 f fd ["cost"] spRightCost := by
  have nd := scRightCost.nd
  refine F.ok scRightCost (fun vs H Q E h => ?_) (fun cdv A outer s H vs Q E hr h => ?_)
  · obtain ⟨u, rfl, _⟩ := h
    rfl
  · obtain ⟨u, rfl, q⟩ := h
    refine ⟨_, PSs.nox (pss_one (ps_ret (pe_chain op_le op_le (pe_glob (v := .int 1) (by rfl) hLEAST ⟨_, rfl⟩) (pv 0) (pe_glob (v := .int 1000) (by rfl) hMOST ⟨_, rfl⟩)))), ?_⟩
    refine ⟨_, rfl, _, _, rfl, rfl, _, rfl, ?_⟩
    show if decide ((1 : Int) ≤ u) = true then _ else _
    cases c1 : decide ((1 : Int) ≤ u) with
    | false =>
      refine iteF ?_
      rw [c1] at q
      exact q
    | true =>
      refine iteT ?_
      rw [c1] at q
      exact ⟨_, _, rfl, rfl, q⟩
theorem scCheckCosts : FnScope ["costs", "many", "at", "cost"] ["costs", "many"] (defScope sCheckCosts) := ⟨rfl, rfl, rfl, by decide +kernel, rfl, by decide +kernel, by decide +kernel⟩
theorem ok_check_costs {f : Addr} {fd : FuncData} (F : FnT K "check_costs" sCheckCosts f fd) (m : Bl mg) (c_right_cost : Callee P w K mg base 1 "right_cost" ["cost"] spRightCost) : FnOk P w K mg base CX0 2 f fd ["costs", "many"] (spCheckCosts K) := by
  have nd := scCheckCosts.nd
  refine F.ok scCheckCosts (fun vs H Q E h => ?_) (fun cdv A outer s H vs Q E hr h => ?_)
  · obtain ⟨c, n, cs, rfl, _⟩ := h
    rfl
  · obtain ⟨c, n, cs, rfl, hc, hok, q⟩ := h
    refine ⟨_, PSs.nox (pss_cons (ps_if (pt_cmpR op_isN (pv 0) pe_non (nomark _)) (pss_one ps_retN) pss_nil)
  (pss_cons (ps_if (pt_cmpR op_ne (pe_callB call_len_seq (by rfl) m.len (by decide +kernel) (pa_cons (pv 0) pa_nil)) (pv 1) (nomark _)) (pss_one (ps_never)) pss_nil)
  (pss_one (ps_for PassesOwn.never rfl (pi_enumB (by rfl) m.enumerate (pa_cons (pv 0) pa_nil)) (pg_tup (by rfl) (pgs_cons (pg_name (i := 2) nd rfl (.inl rfl)) (pgs_cons (pg_name (i := 3) nd rfl (.inl rfl)) pgs_nil)))
   (pss_one (ps_if (pt_not (pt_val (pe_callC c_right_cost (hr.mono (by decide)) (pa_cons (pv 3) pa_nil)))) (pss_one (ps_never)) pss_nil)))))), ?_⟩
    refine ⟨_, rfl, rfl, _, rfl, ?_⟩
    cases cs with
    | none =>
      cases (show c = V.non from hc)
      exact iteT (q H (Same.refl _))
    | some cs =>
      obtain ⟨a, t, rfl, ha⟩ := hc
      obtain ⟨hl, hin⟩ := hok cs rfl
      refine iteF ?_
      refine ⟨_, rfl, a, _, rfl, ha.or, _, rfl, rfl, _, rfl, ?_⟩
      have e : decide (V.int ((((cs.map V.int).length : Nat) : Int)) = vN n) = true := decide_eq_true (by rw [List.length_map, hl])
      rw [e]
      refine iteF ?_
      refine ⟨_, rfl, t, a, _, rfl, ha, for_it (walk_enumB (xs := cs.map V.int)) (fun i σ H2 => ∃ s2 s3, σ = [some (.ref a), some (vN n), s2, s3] ∧ Same H H2) ?_ ?_ ?_ ?_⟩
      · exact ⟨_, _, rfl, Same.refl _⟩
      · rintro i σ H2 hi ⟨s2, s3, rfl, S⟩
        exact SqB.same ha S
      · rintro i x σ H2 H3 hi ⟨s2, s3, rfl, S⟩ ⟨T, x1, x2, rfl, hT, rfl, e1, e2⟩
        obtain ⟨u, rfl, hu⟩ := int_at e2
        cases e1
        have S3 : Same H (upd H2 T (.tup [V.int (i : Nat), V.int u])) := S.trans (Same.new hT)
        obtain ⟨h1, h2⟩ := hin u (mem_of_at hu)
        refine ⟨T, _, rfl, SqT.of upd_same, rfl, _, _, rfl, _, _, rfl, rfl, ?_⟩
        refine ⟨_, rfl, u, rfl, ?_⟩
        rw [decide_eq_true h1, decide_eq_true h2]
        exact ⟨_, rfl, iteF ⟨_, _, rfl, S3⟩⟩
      · rintro σ H2 ⟨s2, s3, rfl, S⟩
        exact q H2 S
def idxP (pegs : List Str) (w : Str × Str) : Nat × Nat := (pegs.idxOf w.1, pegs.idxOf w.2)
/-- the places of the pegs -/
abbrev plD (pegs : List Str) : HO := .dK (byPeg pegs fun p => vN (pegs.idxOf p))
def spPairPlaces (K : PySem.W.Frag) : Sp := fun vs H Q _ => ∃ (wd : Str) (p d : Addr) (t : Bool) (ts : List Addr) (W : List (Str × Str)) (pegs : List Str), vs = [.str wd, .ref p, .ref d] ∧ SqB K t H p (ts.map V.ref) ∧ PairsAt K H ts W ∧ H d = some (plD pegs) ∧
  (∀ w ∈ W, w.1 ∈ pegs ∧ w.2 ∈ pegs ∧ w.1 ≠ w.2) ∧ W.length ≤ 900 ∧ ∀ r H' ts', Same H H' → H r = none → H' r = some (.lst (ts'.map V.ref)) → PlsAt K H' ts' (W.map (idxP pegs)) → Q (.ref r) H'
theorem scPairPlaces : FnScope ["word", "pairs", "places", "found", "at", "one", "other"] ["word", "pairs", "places"] (defScope sPairPlaces) := ⟨rfl, rfl, rfl, by decide +kernel, rfl, by decide +kernel, by decide +kernel⟩
theorem ok_pair_places {f : Addr} {fd : FuncData} (F : FnT K "pair_places" sPairPlaces f fd) (m : Bl mg) : FnOk P w K mg base CX0 1 f fd ["word", "pairs", "places"] (spPairPlaces K) := by
  have nd := scPairPlaces.nd
  refine F.ok scPairPlaces (fun vs H Q E h => ?_) (fun cdv A outer s H vs Q E hr h => ?_)
  · obtain ⟨wd, p, d, t, ts, W, pegs, rfl, _⟩ := h
    rfl
  · obtain ⟨wd, p, d, t, ts, W, pegs, rfl, hp, hts, hd, hW, lW, q⟩ := h
    refine ⟨_, PSs.nox (pss_cons (ps_set (i := 3) nd rfl (.inl rfl) (pe_lst pa_nil))
  (pss_cons (ps_for PassesOwn.never rfl (pi_enumB (by rfl) m.enumerate (pa_cons (pv 1) pa_nil)) (pg_tup (by rfl) (pgs_cons (pg_name (i := 4) nd rfl (.inl rfl)) (pgs_cons (pg_tup (by rfl) (pgs_cons (pg_name (i := 5) nd rfl (.inl rfl)) (pgs_cons (pg_name (i := 6) nd rfl (.inl rfl)) pgs_nil))) pgs_nil)))
   (pss_cons (ps_if (PW.pt (pw_or (pt_cmp (pc_dnotin (hu_of hr) (pv 5) (pv 2)) (by rfl)) (pw_or (pt_cmp (pc_dnotin (hu_of hr) (pv 6) (pv 2)) (by rfl)) (pw_or1 (pt_cmpR op_eq (pv 5) (pv 6) (nomark _)))))) (pss_one (ps_never)) pss_nil)
  (pss_one (ps_expr (pe_bm PySem.F.plainAttrs_list PySem.F.slot_list_append PySem.F.type_list_append mt_append (pv 3) (pa_cons (pe_tup (pa_cons (pe_dget (hu_of hr) (pv 2) (pv 5) (fun _ _ => rfl)) (pa_cons (pe_dget (hu_of hr) (pv 2) (pv 6) (fun _ _ => rfl)) pa_nil))) pa_nil))))))
  (pss_one (ps_ret (pv 3))))), ?_⟩
    have hlW : ts.length = W.length := paired_len hts
    refine ⟨by show 0 ≤ sizeLine; decide, fun r hr0 => ?_⟩
    refine ⟨_, rfl, t, p, _, rfl, SqB.same hp (Same.new hr0), for_it (walk_enumB (xs := ts.map V.ref)) (fun i σ H2 => ∃ s4 s5 s6 ts', σ = [some (.str wd), some (.ref p), some (.ref d), some (.ref r), s4, s5, s6] ∧ Same H (hide r H2) ∧ H2 r = some (.lst (ts'.map V.ref)) ∧ PlsAt K (hide r H2) ts' ((W.take i).map (idxP pegs)) ∧ ts'.length = i) ?_ ?_ ?_ ?_⟩
    · exact ⟨_, _, _, [], rfl, hide_start hr0, upd_same, .nil, rfl⟩
    · rintro i σ H2 hi ⟨s4, s5, s6, ts', rfl, S, h1, h2, h3⟩
      exact SqB.same hp (S.trans (hide_same r H2))
    · rintro i x σ H2 H3 hi ⟨s4, s5, s6, ts', rfl, S, h1, h2, h3⟩ ⟨T, x1, x2, rfl, hT, rfl, e1, e2⟩
      obtain ⟨a, rfl, ha⟩ := ref_at e2
      obtain ⟨⟨u, v⟩, hw, hTa⟩ := paired_at hts ha
      obtain ⟨m1, m2, ne⟩ := hW _ (mem_of_at hw)
      simp only at m1 m2 ne hTa
      cases e1
      rw [List.length_map, hlW] at hi
      have S2 := S.trans (hide_same r H2)
      have S3 : Same H (upd H2 T (.tup [V.int (i : Nat), V.ref a])) := S2.trans (Same.new hT)
      have nTr : T ≠ r := (ne_of_none h1 hT).symm
      refine ⟨T, _, rfl, SqT.of upd_same, rfl, _, _, rfl, _, _, rfl, a, _, rfl, Same.sqT S3 hTa, rfl, _, _, rfl, _, _, rfl, rfl, rfl, ?_⟩
      have g1 : DGet (upd H2 T (.tup [V.int (i : Nat), V.ref a])) d (.str u) (some (vN (pegs.idxOf u))) := .inl ⟨_, kS u, .inl (S3 _ _ hd), rfl, (valV_byPeg (f := fun p => vN (pegs.idxOf p)) m1).symm⟩
      have g2 : DGet (upd H2 T (.tup [V.int (i : Nat), V.ref a])) d (.str v) (some (vN (pegs.idxOf v))) := .inl ⟨_, kS v, .inl (S3 _ _ hd), rfl, (valV_byPeg (f := fun p => vN (pegs.idxOf p)) m2).symm⟩
      refine ⟨_, rfl, _, rfl, d, _, rfl, g1, _, rfl, iteF ?_⟩
      refine ⟨_, rfl, _, rfl, d, _, rfl, g2, _, rfl, iteF ?_⟩
      refine ⟨_, rfl, _, rfl, rfl, _, rfl, ?_⟩
      have e : decide (V.str u = V.str v) = false := decide_eq_false fun z => ne (V.str.inj z)
      rw [e]
      refine iteF ?_
      refine ⟨_, rfl, .inl ⟨rfl, _, SqL.of (Same.new hT _ _ h1)⟩, ?_⟩
      refine ⟨_, rfl, _, rfl, d, _, rfl, g1, _, rfl, _, rfl, d, _, rfl, g2, by show 2 ≤ sizeLine; decide, fun U hU => ?_⟩
      obtain ⟨nUT, hU2⟩ := upd_none hU
      have nUr : U ≠ r := (ne_of_none h1 hU2).symm
      refine ⟨r, _, _, rfl, rfl, Same.new hU _ _ (Same.new hT _ _ h1), by rw [List.length_map, h3]; exact small1000 (by omega), ?_⟩
      have M : Same (hide r H2) (hide r (upd (upd (upd H2 T (.tup [V.int (i : Nat), V.ref a])) U (.tup [vN (pegs.idxOf u), vN (pegs.idxOf v)])) r (.lst (ts'.map V.ref ++ [V.ref U])))) := hide_mono (((But.of (Same.new hT)).trans (But.of (Same.new hU))).trans But.upd)
      refine ⟨_, _, _, ts' ++ [U], rfl, S.trans M, by rw [upd_same, List.map_append]; rfl, ?_, by rw [List.length_append, h3]; rfl⟩
      rw [take_succ_of hw, List.map_append]
      refine Paired.snoc (PlsAt.same h2 M) (SqT.of ?_)
      rw [hide_ne nUr, upd_ne nUr, upd_same]
      rfl
    · rintro σ H2 ⟨s4, s5, s6, ts', rfl, S, h1, h2, h3⟩
      have e : W.take (ts.map V.ref).length = W := by rw [List.length_map, hlW, List.take_length]
      rw [e] at h2
      exact ⟨_, rfl, q r H2 ts' (S.trans (hide_same r H2)) hr0 h1 (PlsAt.same h2 (hide_same r H2))⟩
end
end Lw

set_option Elab.async false
set_option linter.all false
set_option maxRecDepth 100000
set_option maxHeartbeats 4000000
namespace Lw
open PySem PySem.Spec PyProof.Rows L2 Np TL
local macro_rules | `(tactic| walk_at "np_h") => `(tactic| first | assumption | exact upd_same | (refine (upd_ne ?_).trans ?_; (walk_at "np_ne"); (walk_at "np_h")) | exact SqL.of (by walk_at "np_h") | exact SqT.of (by walk_at "np_h"))
local macro_rules | `(tactic| walk_at "np_ne") => `(tactic| first | assumption | exact Ne.symm (by assumption))
local macro_rules | `(tactic| walk_at "np_r") => `(tactic| first
  | refine ⟨_, rfl, ?_⟩
  | refine ⟨_, _, rfl, rfl, ?_⟩
  | refine ⟨(.inl ⟨by decide, by decide⟩ : CMul _ _), ?_⟩
  | refine ⟨(.inr ⟨by decide, by decide⟩ : CMul _ _), ?_⟩
  | refine ⟨(by first | decide | omega : (0 : Int) < _), ?_⟩
  | refine ⟨(⟨by decide, by decide⟩ : CDiv _ _), ?_⟩
  | (refine' ⟨_, _, _, _, rfl, rfl, ?np1, ?np2, ?_⟩; (case np1 => walk_at "np_h"); (case np2 => rfl)))

/-- a method's text -/
abbrev FnM (K : PySem.W.Frag) (x q : Str) (st : Stmt) (f : Addr) (fd : FuncData) : Prop := FunD K x q (defArgs st) (defBody st) (defScope st) [] [] f fd
section
variable (K : PySem.W.Frag)
abbrev cB : Addr := He.ga K "Board"
abbrev cS : Addr := He.ga K "Stand"
abbrev cN : Value := .ref (He.ga K "NoPeg")
def fB : List Str := ["_pegs", "_places", "_costs", "_below", "_above", "_clash", "_order"]
def fS : List Str := ["_board", "_mask", "_pegs"]
end
/-- what a board is -/
structure Bd where
  pegs : List Str
  costs : List Int
  below : List Nat
  above : List Nat
  clash : List Nat
structure Bd.Ok (B : Bd) : Prop where
  nd : B.pegs.Nodup
  lp : B.pegs.length ≤ 900
  lc : B.costs.length = B.pegs.length
  lb : B.below.length = B.pegs.length
  la : B.above.length = B.pegs.length
  lx : B.clash.length = B.pegs.length
  bb : ∀ i, i < B.pegs.length → B.below.getD i 0 < 2 ^ B.pegs.length
  ba : ∀ i, i < B.pegs.length → B.above.getD i 0 < 2 ^ B.pegs.length
  bx : ∀ i, i < B.pegs.length → B.clash.getD i 0 < 2 ^ B.pegs.length
def fsB (pg pl co be ab cl od : Addr) : List (Str × V) := [("_pegs", .ref pg), ("_places", .ref pl), ("_costs", .ref co), ("_below", .ref be), ("_above", .ref ab), ("_clash", .ref cl), ("_order", .ref od)]
/-- the places, each behind those that it needs -/
def ordR (rows : List Nat) : List (Nat × Nat) := rows.mapIdx fun i r => ((plc r).length, i)
def ordEnc (x : Nat × Nat) : PyData := .tuple ([(x.1 : Int), (x.2 : Int)].map PyData.int)
noncomputable def orderOf (rows : List Nat) : List Nat := ((ordR rows).mergeSort (PySem.W.dataLe false ordEnc)).map Prod.snd
theorem ord_alike (b b' : Nat × Nat) : PySem.W.alike (ordEnc b) (ordEnc b') = true := by
  unfold ordEnc
  rw [PySem.W.alike, PySem.W.alike_ints]
theorem ord_depth (b : Nat × Nat) : (ordEnc b).depth ≤ 20 := by
  unfold ordEnc
  rw [PyData.depth, PySem.W.depth_ints]
  decide
structure BrdAt (K : PySem.W.Frag) (H : Hp) (b dx pg pl co be ab cl od : Addr) (B : Bd) : Prop where
  ins : H b = some (.ins (cB K) dx (fsB pg pl co be ab cl od))
  pg : SqT K H pg (B.pegs.map V.str)
  pl : H pl = some (plD B.pegs)
  co : SqT K H co (B.costs.map V.int)
  be : SqT K H be (B.below.map vN)
  ab : SqT K H ab (B.above.map vN)
  cl : SqT K H cl (B.clash.map vN)
  od : SqT K H od ((orderOf B.below).map vN)
/-- the board B at b -/
def BoardAt (K : PySem.W.Frag) (H : Hp) (b : Addr) (B : Bd) : Prop := B.Ok ∧ ∃ dx pg pl co be ab cl od, BrdAt K H b dx pg pl co be ab cl od B
theorem BoardAt.same {K : PySem.W.Frag} {H H' : Hp} {b : Addr} {B : Bd} (h : BoardAt K H b B) (s : Same H H') : BoardAt K H' b B := by
  obtain ⟨o, dx, pg, pl, co, be, ab, cl, od, h⟩ := h
  exact ⟨o, dx, pg, pl, co, be, ab, cl, od, s _ _ h.ins, Same.sqT s h.pg, s _ _ h.pl, Same.sqT s h.co, Same.sqT s h.be, Same.sqT s h.ab, Same.sqT s h.cl, Same.sqT s h.od⟩
/-- the pegs in a mask -/
def pegsIn (pegs : List Str) (m : Nat) : List Str := (plc m).map fun i => pegs.getD i ""
theorem getD_str {pegs : List Str} {i : Nat} (h : i < pegs.length) : pegs[i]? = some (pegs.getD i "") := by
  rw [List.getD_eq_getElem?_getD, List.getElem?_eq_getElem h]
  rfl
theorem idx_getD {pegs : List Str} (h : pegs.Nodup) {i : Nat} (hi : i < pegs.length) : pegs.idxOf (pegs.getD i "") = i := by
  have e : pegs.getD i "" = pegs[i] := by rw [List.getD_eq_getElem?_getD, List.getElem?_eq_getElem hi]; rfl
  rw [e]
  exact h.idxOf_getElem i hi
theorem getD_idx {pegs : List Str} {p : Str} (h : p ∈ pegs) : pegs.getD (pegs.idxOf p) "" = p := by
  have hl := List.idxOf_lt_length_of_mem h
  rw [List.getD_eq_getElem?_getD, List.getElem?_eq_getElem hl]
  exact List.getElem_idxOf hl
/-- the mask of a row of pegs -/
def maskOf (pegs : List Str) (row : List Str) : Nat := row.foldl (fun m s => m ||| 2 ^ pegs.idxOf s) 0
theorem maskOf_snoc (pegs row : List Str) (s : Str) : maskOf pegs (row ++ [s]) = maskOf pegs row ||| 2 ^ pegs.idxOf s := by
  unfold maskOf
  rw [List.foldl_append]
  rfl
theorem maskOf_bit (pegs row : List Str) (i : Nat) : (maskOf pegs row).testBit i = row.any fun s => decide (pegs.idxOf s = i) := by
  have gen : ∀ (row : List Str) (m : Nat), (row.foldl (fun m s => m ||| 2 ^ pegs.idxOf s) m).testBit i = (m.testBit i || row.any fun s => decide (pegs.idxOf s = i)) := by
    intro row
    induction row with
    | nil => intro m; simp
    | cons s row ih => intro m; rw [List.foldl_cons, ih, Nat.testBit_or, List.any_cons, Nat.testBit_two_pow, Bool.or_assoc]
  rw [maskOf, gen, Nat.zero_testBit, Bool.false_or]
theorem maskOf_lt {pegs row : List Str} (h : ∀ s ∈ row, s ∈ pegs) : maskOf pegs row < 2 ^ pegs.length := by
  refine Nat.lt_pow_two_of_testBit _ fun i hi => ?_
  rw [maskOf_bit, List.any_eq_false]
  intro s hs
  have := List.idxOf_lt_length_of_mem (h s hs)
  simp
  omega
section
variable {P : Program} {w : World} {K : PySem.W.Frag} {mg : Str → Option Value} {base : Heap}
/-- an error of the class x with these fields leaves -/
def Leaves (K : PySem.W.Frag) (H : Hp) (E : XK) (x : Str) (fs : List (Str × V)) : Prop := ∀ d H', Same H H' → H d = none → H' d = some (.xd fs) → E (.ref (He.ga K x)) (some d) H'
def spPlaceOf (K : PySem.W.Frag) : Sp := fun vs H Q E => ∃ (b : Addr) (p : Str) (B : Bd), vs = [.ref b, .str p] ∧ BoardAt K H b B ∧ (p ∈ B.pegs → ∀ H', Same H H' → Q (vN (B.pegs.idxOf p)) H') ∧ (p ∉ B.pegs → Leaves K H E "NoPeg" [("peg", .str p)])
theorem scBoardPlaceOf : FnScope ["self", "peg"] ["self", "peg"] (defScope sBoardPlaceOf) := ⟨rfl, rfl, rfl, by decide +kernel, rfl, by decide +kernel, by decide +kernel⟩
theorem ok_place_of {f : Addr} {fd : FuncData} {q : Str} {st : Stmt} (F : FnM K "place_of" "Board.place_of" sBoardPlaceOf f fd) (cls_Board : Cls K (cB K)) (na_Board : ∀ f ∈ fB, NoAttr K (cB K) f) (e_NoPeg : ErrC P w K mg base "NoPeg" q st ["peg"]) :
    FnOk P w K mg base (L2.CX P w) 3 f fd ["self", "peg"] (spPlaceOf K) := by
  have nd := scBoardPlaceOf.nd
  refine F.ok scBoardPlaceOf (fun vs H Q E h => ?_) (fun cdv A outer s H vs Q E hr h => ?_)
  · obtain ⟨b, p, B, rfl, _⟩ := h
    rfl
  · obtain ⟨b, p, B, rfl, hB, h1, h2⟩ := h
    refine ⟨_, (pss_cons (ps_if (pt_cmp (pc_dnotin (hu_of hr) (pv 1) (pe_A (pv 0) cls_Board (na_Board _ (by decide)))) (by rfl)) (pss_one (ps_raise rfl (takes_of rfl rfl rfl rfl) (pmk_err e_NoPeg (hr.mono (by decide)) (pa_cons (pv 1) pa_nil)))) pss_nil)
  (pss_one (ps_ret (pe_dget (hu_of hr) (pe_A (pv 0) cls_Board (na_Board _ (by decide))) (pv 1) (fun _ _ => rfl))))), ?_⟩
    obtain ⟨ok, dx, pg, pl, co, be, ab, cl, od, hb⟩ := id hB
    refine ⟨_, rfl, _, rfl, b, dx, _, _, rfl, hb.ins, rfl, pl, ?_⟩
    by_cases c : p ∈ B.pegs
    · refine ⟨some (vN (B.pegs.idxOf p)), rfl, .inl ⟨_, kS p, .inl hb.pl, rfl, (valV_byPeg (f := fun p => vN (B.pegs.idxOf p)) c).symm⟩, _, rfl, iteF ?_⟩
      exact ⟨_, rfl, b, dx, _, _, rfl, hb.ins, rfl, _, rfl, pl, _, rfl, .inl ⟨_, kS p, .inl hb.pl, rfl, (valV_byPeg (f := fun p => vN (B.pegs.idxOf p)) c).symm⟩, h1 c _ (Same.refl _)⟩
    · refine ⟨none, rfl, .inl ⟨_, kS p, .inl hb.pl, rfl, (valV_byPeg_none c).symm⟩, _, rfl, iteT ?_⟩
      exact ⟨_, rfl, rfl, fun d H' n S hd => h2 c d H' S n hd⟩
/-- the first string that is no peg -/
def outP (pegs row : List Str) : Option Str := row.find? fun s => decide (s ∉ pegs)
theorem outP_none {pegs row : List Str} : outP pegs row = none ↔ ∀ s ∈ row, s ∈ pegs := by
  unfold outP
  rw [List.find?_eq_none]
  refine forall_congr' fun s => forall_congr' fun _ => ?_
  simp
theorem outP_take {pegs row : List Str} {i : Nat} {s : Str} (h : ∀ t ∈ row.take i, t ∈ pegs) (hs : row[i]? = some s) (c : s ∉ pegs) : outP pegs row = some s := by
  unfold outP
  obtain ⟨h1, h2⟩ := List.getElem?_eq_some_iff.mp hs
  have e : row = row.take i ++ s :: row.drop (i + 1) := by rw [← h2, ← List.drop_eq_getElem_cons h1, List.take_append_drop]
  rw [e, List.find?_append]
  have n : (row.take i).find? (fun s => decide (s ∉ pegs)) = none := by
    rw [List.find?_eq_none]
    intro t ht
    simpa using h t ht
  rw [n, List.find?_cons, decide_eq_true c]
  rfl
def spMaskOf (K : PySem.W.Frag) : Sp := fun vs H Q E => ∃ (b r : Addr) (t : Bool) (row : List Str) (B : Bd), vs = [.ref b, .ref r] ∧ BoardAt K H b B ∧ SqB K t H r (row.map V.str) ∧ (outP B.pegs row = none → ∀ H', Same H H' → Q (vN (maskOf B.pegs row)) H') ∧
  (∀ s, outP B.pegs row = some s → Leaves K H E "NoPeg" [("peg", .str s)])
theorem scBoardMaskOf : FnScope ["self", "pegs", "mask", "peg"] ["self", "pegs"] (defScope sBoardMaskOf) := ⟨rfl, rfl, rfl, by decide +kernel, rfl, by decide +kernel, by decide +kernel⟩
theorem ok_mask_of {f : Addr} {fd : FuncData} (F : FnM K "mask_of" "Board.mask_of" sBoardMaskOf f fd) (cls_Board : Cls K (cB K)) (cM_Board_place_of : CalM P w K mg base (L2.CX P w) 3 (cB K) "place_of" (spPlaceOf K)) :
    FnOk P w K mg base (L2.CX P w) 4 f fd ["self", "pegs"] (spMaskOf K) := by
  have nd := scBoardMaskOf.nd
  refine F.ok scBoardMaskOf (fun vs H Q E h => ?_) (fun cdv A outer s H vs Q E hr h => ?_)
  · obtain ⟨b, r, t, row, B, rfl, _⟩ := h
    rfl
  · obtain ⟨b, r, t, row, B, rfl, hB, hrow, h1, h2⟩ := h
    refine ⟨_, (pss_cons (ps_set (i := 2) nd rfl (.inl rfl) pe_int)
  (pss_cons (ps_for (passes_of rfl) rfl (pi_sq (pv 1)) (pg_name (i := 3) nd rfl (.inl rfl))
   (pss_one (ps_set (i := 2) nd rfl (.inl rfl) (pe_op op_borM (pv 2) (pe_op op_bshlM pe_int (pe_M (pv 0) cls_Board cM_Board_place_of (hr.mono (by decide)) (thru (takes_of rfl rfl rfl rfl)) (pa_cons (pv 3) pa_nil)))))))
  (pss_one (ps_ret (pv 2))))), ?_⟩
    refine ⟨_, rfl, t, r, _, rfl, hrow, for_it (walk_sq (xs := row.map V.str)) (fun i σ H2 => ∃ s3, σ = [some (.ref b), some (.ref r), some (vN (maskOf B.pegs (row.take i))), s3] ∧ Same H H2 ∧ ∀ s ∈ row.take i, s ∈ B.pegs) ?_ ?_ ?_ ?_⟩
    · exact ⟨_, rfl, Same.refl _, fun s hs => by simp at hs⟩
    · rintro i σ H2 hi ⟨s3, rfl, S, hin⟩
      exact SqB.same hrow S
    · rintro i x σ H2 H3 hi ⟨s3, rfl, S, hin⟩ ⟨rfl, hx⟩
      obtain ⟨u, rfl, hu⟩ := str_at hx
      obtain ⟨ok, dx, pg, pl, co, be, ab, cl, od, hb⟩ := id (hB.same S)
      refine ⟨_, rfl, _, rfl, b, dx, _, rfl, hb.ins, rfl, _, rfl, b, u, B, rfl, hB.same S, fun c H4 S4 => ?_, fun c d H4 S4 n hd => ?_⟩
      · refine ⟨_, rfl, rfl, ?_, _, _, rfl, rfl, ?_⟩
        · have := List.idxOf_lt_length_of_mem c
          have := ok.lp
          omega
        · have e : maskOf B.pegs (row.take (i + 1)) = maskOf B.pegs (row.take i) ||| 2 ^ B.pegs.idxOf u := by rw [take_succ_of hu, maskOf_snoc]
          rw [e]
          refine ⟨_, rfl, S.trans S4, fun s hs => ?_⟩
          rw [take_succ_of hu] at hs
          rcases List.mem_append.mp hs with h | h
          · exact hin s h
          · cases List.mem_singleton.mp h
            exact c
      · exact h2 u (outP_take hin hu c) d H4 (S.trans S4) (S.free n) hd
    · rintro σ H2 ⟨s3, rfl, S, hin⟩
      have e : row.take (row.map V.str).length = row := by rw [List.length_map, List.take_length]
      rw [e] at hin ⊢
      exact ⟨_, rfl, h1 (outP_none.mpr hin) H2 S⟩
theorem plc_lt {m n i : Nat} (h : m < 2 ^ n) (hi : i ∈ plc m) : i < n := by
  have := lt_bits (mem_plc.mp hi)
  have := bits_le h
  omega
def spNamesIn (K : PySem.W.Frag) : Sp := fun vs H Q _ => ∃ (a : Addr) (t : Bool) (pegs : List Str) (m : Nat), vs = [.ref a, vN m] ∧ SqB K t H a (pegs.map V.str) ∧ pegs.length ≤ 900 ∧ m < 2 ^ pegs.length ∧ ∀ q H', Same H H' → SqT K H' q ((pegsIn pegs m).map V.str) → Q (.ref q) H'
theorem scNamesIn : FnScope ["names", "mask", "place"] ["names", "mask"] (defScope sNamesIn) := ⟨rfl, rfl, rfl, by decide +kernel, rfl, by decide +kernel, by decide +kernel⟩
theorem ok_names_in {f : Addr} {fd : FuncData} (F : FnT K "names_in" sNamesIn f fd) (m : Bl mg) (c_places_in : Callee P w K mg base 1 "places_in" ["mask"] (spPlaces K)) :
    FnOk P w K mg base CX0 2 f fd ["names", "mask"] (spNamesIn K) := by
  have nd := scNamesIn.nd
  refine F.ok scNamesIn (fun vs H Q E h => ?_) (fun cdv A outer s H vs Q E hr h => ?_)
  · obtain ⟨a, t, pegs, n, rfl, _⟩ := h
    rfl
  · obtain ⟨a, t, pegs, n, rfl, ha, lp, hn, q⟩ := h
    refine ⟨_, PSs.nox (pss_one (ps_ret (pe_callTy call_tuple_of (by rfl) m.tuple (by decide +kernel) (pa_cons (pe_lc (own := [("place", 2)]) (g := gName 2) (tt := tYes) rfl nd (pi_list (pe_callC c_places_in (hr.mono (by decide)) (pa_cons (pv 1) pa_nil))) (blkOk_by (N := ["names", "mask", "place"]) (sc := defScope sNamesIn) (by decide +kernel)) (fun _ _ _ _ _ => (pg_name (i := 2) nd rfl (.inl rfl))) (fun _ _ _ _ _ => pts_nil) (fun _ _ _ _ _ => (pe_ix (ix_sqK (K := K) rfl) (pv 0) (pv 2) (fun _ _ => rfl)))) pa_nil)))), ?_⟩
    refine ⟨_, rfl, n, rfl, Nat.le_trans (bits_le hn) (by omega), fun p H2 S2 np hp => ?_⟩
    refine ⟨p, rfl, ⟨_, SqL.of hp⟩, fun D hD => ?_⟩
    refine lc_map (walk_list (xs := (plc n).map vN)) hD (plc n) (fun i => V.str (pegs.getD i "")) (by rw [List.length_map]) (by rw [List.length_map]; have := plc_len hn; omega) (fun H3 S3 => SqL.of (S3 _ _ hp)) ?_ ?_
    · rintro i b x H3 H4 hb S3 nD ⟨rfl, hx⟩ NT yes
      obtain ⟨c, rfl, hc⟩ := natInt_at hx
      rw [hb] at hc
      cases hc
      have la := plc_lt hn (mem_of_at hb)
      exact ⟨rfl, _, rfl, _, rfl, t, a, _, _, _, rfl, rfl, SqB.same ha (S2.trans S3), atI_nat (by rw [List.getElem?_map, getD_str la]; rfl), yes _ (Same.refl _)⟩
    · intro H3 S3 h3
      refine ⟨D, _, rfl, .inl ⟨SqL.of h3, fun l hl => q l _ ((S2.trans S3).trans (Same.new hl)) (SqT.of ?_)⟩⟩
      rw [upd_same]
      unfold pegsIn
      rw [List.map_map]
      rfl
def spPegsOf (K : PySem.W.Frag) : Sp := fun vs H Q _ => ∃ (b : Addr) (m : Nat) (B : Bd), vs = [.ref b, vN m] ∧ BoardAt K H b B ∧ m < 2 ^ B.pegs.length ∧ ∀ q H', Same H H' → SqT K H' q ((pegsIn B.pegs m).map V.str) → Q (.ref q) H'
theorem scBoardPegsOf : FnScope ["self", "mask"] ["self", "mask"] (defScope sBoardPegsOf) := ⟨rfl, rfl, rfl, by decide +kernel, rfl, by decide +kernel, by decide +kernel⟩
theorem ok_pegs_of {f : Addr} {fd : FuncData} (F : FnM K "pegs_of" "Board.pegs_of" sBoardPegsOf f fd) (m : Bl mg) (cls_Board : Cls K (cB K)) (na_Board : ∀ f ∈ fB, NoAttr K (cB K) f) (c_names_in : Callee P w K mg base 2 "names_in" ["names", "mask"] (spNamesIn K)) :
    FnOk P w K mg base CX0 3 f fd ["self", "mask"] (spPegsOf K) := by
  have nd := scBoardPegsOf.nd
  refine F.ok scBoardPegsOf (fun vs H Q E h => ?_) (fun cdv A outer s H vs Q E hr h => ?_)
  · obtain ⟨b, n, B, rfl, _⟩ := h
    rfl
  · obtain ⟨b, n, B, rfl, hB, hn, q⟩ := h
    refine ⟨_, PSs.nox (pss_one (ps_ret (pe_callC c_names_in (hr.mono (by decide)) (pa_cons (pe_A (pv 0) cls_Board (na_Board _ (by decide))) (pa_cons (pv 1) pa_nil))))), ?_⟩
    have lp := hB.1.lp
    obtain ⟨_, dx, pg, pl, co, be, ab, cl, od, hb⟩ := id hB
    exact ⟨_, rfl, b, dx, _, _, rfl, hb.ins, rfl, _, rfl, pg, false, B.pegs, n, rfl, hb.pg, lp, hn, fun q1 H1 S1 h1 => q q1 H1 S1 h1⟩
def spRowAt (rows : Bd → List Nat) (K : PySem.W.Frag) : Sp := fun vs H Q _ => ∃ (b : Addr) (i : Nat) (B : Bd), vs = [.ref b, vN i] ∧ BoardAt K H b B ∧ i < B.pegs.length ∧ Q (vN ((rows B).getD i 0)) H
theorem scBoardBelowMask : FnScope ["self", "place"] ["self", "place"] (defScope sBoardBelowMask) := ⟨rfl, rfl, rfl, by decide +kernel, rfl, by decide +kernel, by decide +kernel⟩
theorem ok_below_mask {f : Addr} {fd : FuncData} (F : FnM K "below_mask" "Board.below_mask" sBoardBelowMask f fd) (cls_Board : Cls K (cB K)) (na_Board : ∀ f ∈ fB, NoAttr K (cB K) f) : FnOk P w K mg base CX0 1 f fd ["self", "place"] (spRowAt Bd.below K) := by
  have nd := scBoardBelowMask.nd
  refine F.ok scBoardBelowMask (fun vs H Q E h => ?_) (fun cdv A outer s H vs Q E hr h => ?_)
  · obtain ⟨b, n, B, rfl, _⟩ := h
    rfl
  · obtain ⟨b, n, B, rfl, hB, hn, q⟩ := h
    refine ⟨_, PSs.nox (pss_one (ps_ret (pe_ix ix_tup (pe_A (pv 0) cls_Board (na_Board _ (by decide))) (pv 1) (fun _ _ => rfl)))), ?_⟩
    obtain ⟨ok, dx, pg, pl, co, be, ab, cl, od, hb⟩ := id hB
    exact ⟨_, rfl, b, dx, _, _, rfl, hb.ins, rfl, _, rfl, be, _, _, _, rfl, rfl, hb.be, atI_vN (by rw [ok.lb]; exact hn), q⟩
theorem scBoardClashMask : FnScope ["self", "place"] ["self", "place"] (defScope sBoardClashMask) := ⟨rfl, rfl, rfl, by decide +kernel, rfl, by decide +kernel, by decide +kernel⟩
theorem ok_clash_mask {f : Addr} {fd : FuncData} (F : FnM K "clash_mask" "Board.clash_mask" sBoardClashMask f fd) (cls_Board : Cls K (cB K)) (na_Board : ∀ f ∈ fB, NoAttr K (cB K) f) : FnOk P w K mg base CX0 1 f fd ["self", "place"] (spRowAt Bd.clash K) := by
  have nd := scBoardClashMask.nd
  refine F.ok scBoardClashMask (fun vs H Q E h => ?_) (fun cdv A outer s H vs Q E hr h => ?_)
  · obtain ⟨b, n, B, rfl, _⟩ := h
    rfl
  · obtain ⟨b, n, B, rfl, hB, hn, q⟩ := h
    refine ⟨_, PSs.nox (pss_one (ps_ret (pe_ix ix_tup (pe_A (pv 0) cls_Board (na_Board _ (by decide))) (pv 1) (fun _ _ => rfl)))), ?_⟩
    obtain ⟨ok, dx, pg, pl, co, be, ab, cl, od, hb⟩ := id hB
    exact ⟨_, rfl, b, dx, _, _, rfl, hb.ins, rfl, _, rfl, cl, _, _, _, rfl, rfl, hb.cl, atI_vN (by rw [ok.lx]; exact hn), q⟩
/-- the pegs of the board -/
def spPegsB (K : PySem.W.Frag) : Sp := fun vs H Q _ => ∃ (b : Addr) (B : Bd), vs = [.ref b] ∧ BoardAt K H b B ∧ ∀ q, SqT K H q (B.pegs.map V.str) → Q (.ref q) H
theorem scBoardPegs : FnScope ["self"] ["self"] (defScope sBoardPegs) := ⟨rfl, rfl, rfl, by decide +kernel, rfl, by decide +kernel, by decide +kernel⟩
theorem ok_pegsB {f : Addr} {fd : FuncData} (F : FnM K "pegs" "Board.pegs" sBoardPegs f fd) (cls_Board : Cls K (cB K)) (na_Board : ∀ f ∈ fB, NoAttr K (cB K) f) : FnOk P w K mg base CX0 1 f fd ["self"] (spPegsB K) := by
  have nd := scBoardPegs.nd
  refine F.ok scBoardPegs (fun vs H Q E h => ?_) (fun cdv A outer s H vs Q E hr h => ?_)
  · obtain ⟨b, B, rfl, _⟩ := h
    rfl
  · obtain ⟨b, B, rfl, hB, q⟩ := h
    refine ⟨_, PSs.nox (pss_one (ps_ret (pe_A (pv 0) cls_Board (na_Board _ (by decide))))), ?_⟩
    obtain ⟨ok, dx, pg, pl, co, be, ab, cl, od, hb⟩ := id hB
    exact ⟨_, rfl, b, dx, _, _, rfl, hb.ins, rfl, q pg hb.pg⟩
/-- what lacks, what clashes: the error of a peg with the first of them -/
def spCheck (x f2 : Str) (lack : Bd → Nat → Nat → Nat) (K : PySem.W.Frag) : Sp := fun vs H Q E => ∃ (b : Addr) (i m : Nat) (B : Bd), vs = [.ref b, vN i, vN m] ∧ BoardAt K H b B ∧ i < B.pegs.length ∧ (lack B i m = 0 → ∀ H', Same H H' → Q .non H') ∧
  (∀ j, (plc (lack B i m))[0]? = some j → Leaves K H E x [(f2, .str (B.pegs.getD j "")), ("peg", .str (B.pegs.getD i ""))])
def lackN (B : Bd) (i m : Nat) : Nat := nd (B.below.getD i 0) m
def lackB (B : Bd) (i m : Nat) : Nat := B.clash.getD i 0 &&& m
theorem scCheckNeeds : FnScope ["board", "place", "mask", "missing"] ["board", "place", "mask"] (defScope sCheckNeeds) := ⟨rfl, rfl, rfl, by decide +kernel, rfl, by decide +kernel, by decide +kernel⟩
theorem plc_zero : plc 0 = [] := by
  rw [List.eq_nil_iff_forall_not_mem]
  intro i hi
  have := mem_plc.mp hi
  rw [Nat.zero_testBit] at this
  cases this
theorem nd_lt {a m n : Nat} (h : a < 2 ^ n) : nd a m < 2 ^ n := by
  refine Nat.lt_pow_two_of_testBit _ fun i hi => ?_
  rw [nd_bit, Nat.testBit_lt_two_pow (Nat.lt_of_lt_of_le h (Nat.pow_le_pow_right (by decide) hi)), Bool.false_and]
theorem and_lt {a m n : Nat} (h : a < 2 ^ n) : a &&& m < 2 ^ n := Nat.lt_of_le_of_lt Nat.and_le_left h
theorem ok_check_needs {f : Addr} {fd : FuncData} {q : Str} {st : Stmt} (F : FnT K "check_needs" sCheckNeeds f fd) (cls_Board : Cls K (cB K)) (e_Missing : ErrC P w K mg base "Missing" q st ["peg", "needed"]) (cM_Board_below_mask : CalM P w K mg base CX0 1 (cB K) "below_mask" (spRowAt Bd.below K))
    (cP_Board_pegs : CalP P w K mg base CX0 1 (cB K) "pegs" (spPegsB K)) (c_first_place : Callee P w K mg base 2 "first_place" ["mask"] spFirst) :
    FnOk P w K mg base (L2.CX P w) 4 f fd ["board", "place", "mask"] (spCheck "Missing" "needed" lackN K) := by
  have nd := scCheckNeeds.nd
  refine F.ok scCheckNeeds (fun vs H Q E h => ?_) (fun cdv A outer s H vs Q E hr h => ?_)
  · obtain ⟨b, i, m, B, rfl, _⟩ := h
    rfl
  · obtain ⟨b, i, m, B, rfl, hB, hi, h1, h2⟩ := h
    refine ⟨_, (pss_cons (ps_set (i := 3) nd rfl (.inl rfl) (pe_op op_bandN (pe_M (pv 0) cls_Board cM_Board_below_mask (hr.mono (by decide)) no0 (pa_cons (pv 1) pa_nil)) (pe_un un_invM (pv 2))))
  (pss_one (ps_if (pt_cmpR op_neM (pv 3) pe_int (nomark _)) (pss_one (ps_raise rfl (takes_of rfl rfl rfl rfl) (pmk_err e_Missing (hr.mono (by decide)) (pa_cons (pe_ix ix_tup (pe_P (pv 0) cls_Board cP_Board_pegs (hr.mono (by decide))) (pv 1) (fun _ _ => rfl)) (pa_cons (pe_ix ix_tup (pe_P (pv 0) cls_Board cP_Board_pegs (hr.mono (by decide))) (pe_callC c_first_place (hr.mono (by decide)) (pa_cons (pv 3) pa_nil)) (fun _ _ => rfl)) pa_nil))))) pss_nil))), ?_⟩
    obtain ⟨ok, dx, pg, pl, co, be, ab, cl, od, hb⟩ := id hB
    refine ⟨_, rfl, b, dx, _, rfl, hb.ins, rfl, _, rfl, b, i, B, rfl, hB, hi, ?_⟩
    refine ⟨_, rfl, _, rfl, _, _, rfl, rfl, ?_⟩
    refine ⟨_, rfl, _, 0, rfl, rfl, _, rfl, ?_⟩
    show if decide (lackN B i m ≠ 0) = true then _ else _
    by_cases c : lackN B i m = 0
    · rw [decide_eq_false (fun z => z c)]
      exact iteF (h1 c H (Same.refl _))
    · rw [decide_eq_true c]
      refine iteT ?_
      have lt : lackN B i m < 2 ^ B.pegs.length := nd_lt (ok.bb i hi)
      have lp := ok.lp
      refine ⟨_, rfl, b, dx, _, rfl, hb.ins, b, B, rfl, hB, fun p1 hp1 => ?_⟩
      refine ⟨_, rfl, p1, _, _, _, rfl, rfl, hp1, atI_nat (by rw [List.getElem?_map, getD_str hi]; rfl), ?_⟩
      refine ⟨_, rfl, b, dx, _, rfl, hb.ins, b, B, rfl, hB, fun p2 hp2 => ?_⟩
      refine ⟨_, rfl, _, rfl, Nat.le_trans (bits_le lt) (by omega), c, fun k H' S hk => ?_⟩
      have lk := plc_lt lt (mem_of_at hk)
      refine ⟨p2, _, _, _, rfl, rfl, Same.sqT S hp2, atI_nat (by rw [List.getElem?_map, getD_str lk]; rfl), rfl, fun d H2 n S2 hd => ?_⟩
      exact h2 k hk d H2 (S.trans S2) (S.free n) hd
theorem scCheckBars : FnScope ["board", "place", "mask", "clashing"] ["board", "place", "mask"] (defScope sCheckBars) := ⟨rfl, rfl, rfl, by decide +kernel, rfl, by decide +kernel, by decide +kernel⟩
theorem ok_check_bars {f : Addr} {fd : FuncData} {q : Str} {st : Stmt} (F : FnT K "check_bars" sCheckBars f fd) (cls_Board : Cls K (cB K)) (e_Barred : ErrC P w K mg base "Barred" q st ["peg", "other"]) (cM_Board_clash_mask : CalM P w K mg base CX0 1 (cB K) "clash_mask" (spRowAt Bd.clash K))
    (cP_Board_pegs : CalP P w K mg base CX0 1 (cB K) "pegs" (spPegsB K)) (c_first_place : Callee P w K mg base 2 "first_place" ["mask"] spFirst) :
    FnOk P w K mg base (L2.CX P w) 4 f fd ["board", "place", "mask"] (spCheck "Barred" "other" lackB K) := by
  have nd := scCheckBars.nd
  refine F.ok scCheckBars (fun vs H Q E h => ?_) (fun cdv A outer s H vs Q E hr h => ?_)
  · obtain ⟨b, i, m, B, rfl, _⟩ := h
    rfl
  · obtain ⟨b, i, m, B, rfl, hB, hi, h1, h2⟩ := h
    refine ⟨_, (pss_cons (ps_set (i := 3) nd rfl (.inl rfl) (pe_op op_bandM (pe_M (pv 0) cls_Board cM_Board_clash_mask (hr.mono (by decide)) no0 (pa_cons (pv 1) pa_nil)) (pv 2)))
  (pss_one (ps_if (pt_cmpR op_neM (pv 3) pe_int (nomark _)) (pss_one (ps_raise rfl (takes_of rfl rfl rfl rfl) (pmk_err e_Barred (hr.mono (by decide)) (pa_cons (pe_ix ix_tup (pe_P (pv 0) cls_Board cP_Board_pegs (hr.mono (by decide))) (pv 1) (fun _ _ => rfl)) (pa_cons (pe_ix ix_tup (pe_P (pv 0) cls_Board cP_Board_pegs (hr.mono (by decide))) (pe_callC c_first_place (hr.mono (by decide)) (pa_cons (pv 3) pa_nil)) (fun _ _ => rfl)) pa_nil))))) pss_nil))), ?_⟩
    obtain ⟨ok, dx, pg, pl, co, be, ab, cl, od, hb⟩ := id hB
    refine ⟨_, rfl, b, dx, _, rfl, hb.ins, rfl, _, rfl, b, i, B, rfl, hB, hi, ?_⟩
    refine ⟨_, rfl, _, _, rfl, rfl, ?_⟩
    refine ⟨_, rfl, _, 0, rfl, rfl, _, rfl, ?_⟩
    show if decide (lackB B i m ≠ 0) = true then _ else _
    by_cases c : lackB B i m = 0
    · rw [decide_eq_false (fun z => z c)]
      exact iteF (h1 c H (Same.refl _))
    · rw [decide_eq_true c]
      refine iteT ?_
      have lt : lackB B i m < 2 ^ B.pegs.length := and_lt (ok.bx i hi)
      have lp := ok.lp
      refine ⟨_, rfl, b, dx, _, rfl, hb.ins, b, B, rfl, hB, fun p1 hp1 => ?_⟩
      refine ⟨_, rfl, p1, _, _, _, rfl, rfl, hp1, atI_nat (by rw [List.getElem?_map, getD_str hi]; rfl), ?_⟩
      refine ⟨_, rfl, b, dx, _, rfl, hb.ins, b, B, rfl, hB, fun p2 hp2 => ?_⟩
      refine ⟨_, rfl, _, rfl, Nat.le_trans (bits_le lt) (by omega), c, fun k H' S hk => ?_⟩
      have lk := plc_lt lt (mem_of_at hk)
      refine ⟨p2, _, _, _, rfl, rfl, Same.sqT S hp2, atI_nat (by rw [List.getElem?_map, getD_str lk]; rfl), rfl, fun d H2 n S2 hd => ?_⟩
      exact h2 k hk d H2 (S.trans S2) (S.free n) hd
end
end Lw

set_option Elab.async false
set_option linter.all false
set_option maxRecDepth 100000
set_option maxHeartbeats 4000000
namespace Lw
open PySem PySem.Spec PyProof.Rows L2 Np TL
local macro_rules | `(tactic| walk_at "np_h") => `(tactic| first | assumption | exact upd_same | (refine (upd_ne ?_).trans ?_; (walk_at "np_ne"); (walk_at "np_h")) | exact SqL.of (by walk_at "np_h") | exact SqT.of (by walk_at "np_h"))
local macro_rules | `(tactic| walk_at "np_ne") => `(tactic| first | assumption | exact Ne.symm (by assumption))
local macro_rules | `(tactic| walk_at "np_r") => `(tactic| first
  | refine ⟨_, rfl, ?_⟩
  | refine ⟨_, _, rfl, rfl, ?_⟩
  | refine ⟨(.inl ⟨by decide, by decide⟩ : CMul _ _), ?_⟩
  | refine ⟨(.inr ⟨by decide, by decide⟩ : CMul _ _), ?_⟩
  | refine ⟨(by first | decide | omega : (0 : Int) < _), ?_⟩
  | refine ⟨(⟨by decide, by decide⟩ : CDiv _ _), ?_⟩
  | (refine' ⟨_, _, _, _, rfl, rfl, ?np1, ?np2, ?_⟩; (case np1 => walk_at "np_h"); (case np2 => rfl)))

/-- the board that the arguments make -/
def mkBd (pegs : List Str) (W B : List (Str × Str)) (cs : List Int) : Bd := ⟨pegs, cs, belowOf pegs W, aboveR (belowOf pegs W), clashOf pegs W B⟩
theorem mkBd_ok {pegs : List Str} {W B : List (Str × Str)} {cs : List Int} (h : Parts pegs W B cs) : (mkBd pegs W B cs).Ok := by
  have b1 := below_ok h
  have b2 := above_bits b1
  have b3 := clash_ok h
  refine ⟨h.nd, Nat.le_trans h.le (by decide), h.cl, b1.1, b2.1, b3.1, fun i hi => b1.lt (RN_lt h) hi, fun i hi => b2.lt (fun i j _ q => q.1) hi, fun i hi => b3.lt (fun i j _ q => q.1) hi⟩
section
variable {P : Program} {w : World} {K : PySem.W.Frag} {mg : Str → Option Value} {base : Heap}
def spBoardInit (K : PySem.W.Frag) : Sp := fun vs H Q _ => ∃ (x dx p n b c : Addr) (tp tn tb tc : Bool) (pegs : List Str) (ns bs : List Addr) (W B : List (Str × Str)) (cs : List Int), vs = [.ref x, .ref p, .ref n, .ref b, .ref c] ∧ H x = some (.ins (cB K) dx []) ∧
  SqB K tp H p (pegs.map V.str) ∧ SqB K tn H n (ns.map V.ref) ∧ PairsAt K H ns W ∧ SqB K tb H b (bs.map V.ref) ∧ PairsAt K H bs B ∧ SqB K tc H c (cs.map V.int) ∧ Parts pegs W B cs ∧
  ∀ H', But x H H' → BoardAt K H' x (mkBd pegs W B cs) → Q .non H'
theorem ordR_len (rows : List Nat) : (ordR rows).length = rows.length := List.length_mapIdx
theorem ordR_at {rows : List Nat} {i c : Nat} {sp : Nat × Nat} (h : (ordR rows)[i]? = some sp) (hc : rows[i]? = some c) : sp = ((plc c).length, i) := by
  unfold ordR at h
  rw [List.getElem?_mapIdx, hc] at h
  exact (Option.some.inj h).symm
theorem tYes_of {σ : L2.St} {H : Hp} {F G : Hp → Prop} (h : F H) : tYes σ H fun b H3 => if b = true then F H3 else G H3 := by
  show if true = true then F H else G H
  rw [if_pos rfl]
  exact h
def spOrder (K : PySem.W.Frag) : Sp := fun vs H Q _ => ∃ (r : Addr) (rows : List Nat), vs = [.ref r] ∧ SqL K H r (rows.map vN) ∧ rows.length ≤ 900 ∧ (∀ i ∈ rows, bits i ≤ 900) ∧ ∀ p H', Same H H' → H p = none → H' p = some (.lst ((orderOf rows).map vN)) → Q (.ref p) H'
theorem scNeedsOrder : FnScope ["below", "place", "row", "many"] ["below"] (defScope sNeedsOrder) := ⟨rfl, rfl, rfl, by decide +kernel, rfl, by decide +kernel, by decide +kernel⟩
theorem ok_needs_order {f : Addr} {fd : FuncData} (F : FnT K "needs_order" sNeedsOrder f fd) (m : Bl mg) (c_places_in : Callee P w K mg base 1 "places_in" ["mask"] (spPlaces K)) : FnOk P w K mg base CX0 2 f fd ["below"] (spOrder K) := by
  have nd := scNeedsOrder.nd
  refine F.ok scNeedsOrder (fun vs H Q E h => ?_) (fun cdv A outer s H vs Q E hr h => ?_)
  · obtain ⟨r, rows, rfl, _⟩ := h
    rfl
  · obtain ⟨r, rows, rfl, hr0, lr, lb, q⟩ := h
    refine ⟨_, PSs.nox (pss_one (ps_ret (pe_lc (own := [("many", 3), ("place", 1)]) (g := gTup K 2 (gCons (gName 3) (gCons (gName 1) gNil))) (tt := tYes) rfl nd (pi_list (pe_callB (cr_sortedD (K := K) rfl hr.units) (by rfl) m.sorted (by decide +kernel) (pa_cons (pe_lc (own := [("place", 1), ("row", 2)]) (g := gTup K 2 (gCons (gName 1) (gCons (gName 2) gNil))) (tt := tYes) rfl nd (pi_enum (by rfl) m.enumerate (pa_cons (pv 0) pa_nil)) (blkOk_by (N := ["below", "place", "row", "many"]) (sc := defScope sNeedsOrder) (by decide +kernel)) (fun _ _ _ _ _ => (pg_tupK (K := K) rfl (by rfl) (pgs_cons (pg_name (i := 1) nd rfl (.inl rfl)) (pgs_cons (pg_name (i := 2) nd rfl (.inl rfl)) pgs_nil)))) (fun _ _ _ _ _ => pts_nil) (fun _ _ _ _ _ => (pe_tup (pa_cons (pe_callB (call_len_seqK (K := K) rfl) (by rfl) m.len (by decide +kernel) (pa_cons (pe_callC c_places_in (hr.mono (by decide)) (pa_cons (pv 2) pa_nil)) pa_nil)) (pa_cons (pv 1) pa_nil))))) pa_nil))) (blkOk_by (N := ["below", "place", "row", "many"]) (sc := defScope sNeedsOrder) (by decide +kernel)) (fun _ _ _ _ _ => (pg_tupK (K := K) rfl (by rfl) (pgs_cons (pg_name (i := 3) nd rfl (.inl rfl)) (pgs_cons (pg_name (i := 1) nd rfl (.inl rfl)) pgs_nil)))) (fun _ _ _ _ _ => pts_nil) (fun _ _ _ _ _ => (pv 1))))), ?_⟩
    refine ⟨_, rfl, r, _, rfl, hr0, fun D hD => ?_⟩
    have lr2 : (rows.map vN).length = rows.length := List.length_map _
    refine lc_rel (walk_enum (xs := rows.map vN)) hD (ordR rows) (fun _ => true) (fun H v sp => ∃ T : Addr, v = .ref T ∧ SqT K H T [vN sp.1, vN sp.2]) (fun s ⟨T, e, h⟩ => ⟨T, e, Same.sqT s h⟩) (by rw [ordR_len, lr2]) (by rw [lr2]; omega) (fun H8 S8 => S8.seq hr0) ?_ ?_
    · rintro i sp x H8 H9 ha S8 nD ⟨T, x1, x2, rfl, hT, rfl, e1, e2⟩ NT NF yes no
      obtain ⟨c, rfl, hc⟩ := natInt_at e2
      cases e1
      have hsp := ordR_at ha hc
      subst hsp
      have S9 : Same H8 (upd H8 T (.tup [V.int (i : Nat), vN c])) := Same.new hT
      refine ⟨T, _, rfl, SqT.of upd_same, rfl, _, _, rfl, _, _, rfl, rfl, rfl, ?_⟩
      refine tYes_of ?_
      refine ⟨_, rfl, c, rfl, ?_, fun p H10 S10 np hp => ?_⟩
      · have := lb c (mem_of_at hc)
        omega
      · refine ⟨p, _, rfl, .inl (SqL.of hp), ?_⟩
        refine ⟨_, rfl, by show 2 ≤ sizeLine; decide, fun T2 hT2 => ?_⟩
        refine yes _ _ (S9.trans (S10.trans (Same.new hT2))) ⟨T2, rfl, SqT.of ?_⟩ rfl
        have nT : T2 ≠ D := fun z => by
          rw [z] at hT2
          exact nD (S9.free (S10.free hT2))
        rw [hide_ne nT, upd_same, List.length_map]
    · intro H2 ys S2 hD2 hys
      rw [filter_yes] at hys
      obtain ⟨ts, rfl, hts⟩ := paired_refs hys
      refine ⟨Nat × Nat, ordEnc, fun T sp => SqT K H2 T [vN sp.1, vN sp.2], D, ts, ordR rows, rfl, SqL.of hD2, Paired.mapP hts fun T sp e => ⟨e, ?_⟩, ord_alike, fun b => ⟨_, _, rfl⟩, ord_depth, fun p H3 ts' np S3 hp3 hpr => ?_⟩
      · exact .tup e (.cons (.int _) (.cons (.int _) .nil))
      have lts := paired_len hpr
      rw [List.length_mergeSort, ordR_len] at lts
      refine ⟨p, rfl, ⟨_, SqL.of hp3⟩, fun D2 hD2 => ?_⟩
      refine lc_map (walk_list (xs := ts'.map V.ref)) hD2 ((ordR rows).mergeSort (PySem.W.dataLe false ordEnc)) (fun sp => vN sp.2) (by rw [List.length_map, lts, List.length_mergeSort, ordR_len]) (by rw [List.length_map, lts]; omega) (fun H4 S4 => SqL.of (S4 _ _ hp3)) ?_ ?_
      · rintro i sp x H4 H5 ha S4 nD ⟨rfl, hx⟩ NT yes
        obtain ⟨T, rfl, hT⟩ := ref_at hx
        obtain ⟨sp', hsp, e1⟩ := paired_at hpr hT
        rw [ha] at hsp
        cases hsp
        refine ⟨T, _, rfl, Same.sqT (S3.trans S4) e1, rfl, _, _, rfl, _, _, rfl, rfl, rfl, ?_⟩
        exact ⟨_, rfl, yes _ (Same.refl _)⟩
      · intro H4 S4 h4
        refine q D2 H4 (S2.trans (S3.trans S4)) (S2.free (S3.free hD2)) ?_
        rw [h4]
        unfold orderOf
        rw [List.map_map]
        rfl
theorem scBoardInit : FnScope ["self", "pegs", "needs", "bars", "costs", "place", "peg", "places", "below", "clash"] ["self", "pegs", "needs", "bars", "costs"] (defScope sBoardInit) := ⟨rfl, rfl, rfl, by decide +kernel, rfl, by decide +kernel, by decide +kernel⟩
theorem sqB_but {t : Bool} {H H' : Hp} {x a : Addr} {xs : List V} {o : HO} (h : SqB K t H a xs) (hx : H x = some o) (no : ∀ zs, o ≠ .lst zs ∧ o ≠ .tup zs) (nf : ∀ ob zs, o ≠ .frz ob zs) (s : But x H H') : SqB K t H' a xs := by
  have ne : ∀ {u : HO}, H a = some u → o ≠ u → a ≠ x := fun {u} h1 h2 z => by
    rw [z, hx] at h1
    exact h2 (Option.some.inj h1)
  cases t
  · rcases (show SqT K H a xs from h) with (h | ⟨ob, h⟩) | ⟨ob, its, n, h⟩
    · exact .inl (.inl (s _ _ (ne h (no xs).2) h))
    · exact .inl (.inr ⟨ob, s _ _ (ne h (nf ob _)) h⟩)
    · exact .inr ⟨ob, its, n, h⟩
  · rcases (show SqL K H a xs from h) with (h | ⟨ob, h⟩) | h
    · exact .inl (.inl (s _ _ (ne h (no xs).1) h))
    · exact .inl (.inr ⟨ob, s _ _ (ne h (nf ob _)) h⟩)
    · exact .inr h
theorem ok_board_init {f : Addr} {fd : FuncData} {kws : List (Str × V)} {mcB u12 : Value} (F : FunD K "__init__" "Board.__init__" (defArgs sBoardInit) (defBody sBoardInit) (defScope sBoardInit) [] kws f fd) (m : Bl mg) (cls_Board : Cls K (cB K)) (na_Board : ∀ f ∈ fB, NoAttr K (cB K) f)
    (g_Board : mg "Board" = some (.ref (cB K))) (r_Board : ClX.CRead K (cB K) mcB) (v_MOST : ClX.CVal K (cB K) mcB "MOST" (.int 12) u12)
    (c_check_form : Callee P w K mg base 3 "check_form" ["pegs", "needs", "bars", "costs"] (spCheckForm K)) (c_check_pegs : Callee P w K mg base 2 "check_pegs" ["pegs", "most"] (spCheckPegs K)) (c_check_costs : Callee P w K mg base 2 "check_costs" ["costs", "many"] (spCheckCosts K))
    (c_pair_places : Callee P w K mg base 1 "pair_places" ["word", "pairs", "places"] (spPairPlaces K)) (c_below_masks : Callee P w K mg base 1 "below_masks" ["many", "needs"] (spBelow K)) (c_above_masks : Callee P w K mg base 3 "above_masks" ["below"] (spAbove K)) (c_clash_masks : Callee P w K mg base 3 "clash_masks" ["below", "bars"] (spClash K)) (c_needs_order : Callee P w K mg base 2 "needs_order" ["below"] (spOrder K)) :
    FnOk P w K mg base CX0 4 f fd ["self", "pegs", "needs", "bars", "costs"] (spBoardInit K) := by
  have nd := scBoardInit.nd
  refine F.ok scBoardInit (fun vs H Q E h => ?_) (fun cdv A outer s H vs Q E hr h => ?_)
  · obtain ⟨x, dx, p, n, b, c, tp, tn, tb, tc, pegs, ns, bs, W, B, cs, rfl, _⟩ := h
    rfl
  · obtain ⟨x, dx, p, n, b, c, tp, tn, tb, tc, pegs, ns, bs, W, B, cs, rfl, hx, hp, hn, hns, hb, hbs, hc, ok, q⟩ := h
    refine ⟨_, PSs.nox (pss_cons (ps_expr (pe_callC c_check_form (hr.mono (by decide)) (pa_cons (pv 1) (pa_cons (pv 2) (pa_cons (pv 3) (pa_cons (pv 4) pa_nil))))))
  (pss_cons (ps_expr (pe_callC c_check_pegs (hr.mono (by decide)) (pa_cons (pv 1) (pa_cons (PE.imp (ClX.pe_cval (pe_glob (v := .ref (cB K)) (by rfl) g_Board rfl)) (fun _ _ _ q => ⟨_, _, _, _, rfl, r_Board, v_MOST, q⟩) : PE _ _ (tConC (.int 12))) pa_nil))))
  (pss_cons (ps_expr (pe_callC c_check_costs (hr.mono (by decide)) (pa_cons (pv 4) (pa_cons (pe_callB call_len_seq (by rfl) m.len (by decide +kernel) (pa_cons (pv 1) pa_nil)) pa_nil))))
  (pss_cons (ps_setDc (i := 7) (own := [("place", 5), ("peg", 6)]) (g := gTup K 2 (gCons (gName 5) (gCons (gName 6) gNil))) (tt := tYes) rfl nd rfl rfl (sw_trueD rfl rfl rfl (by decide +kernel)) (pi_enumB (by rfl) m.enumerate (pa_cons (pv 1) pa_nil)) (blkOk_by (N := ["self", "pegs", "needs", "bars", "costs", "place", "peg", "places", "below", "clash"]) (sc := defScope sBoardInit) (by decide +kernel)) (fun _ _ _ _ _ => (pg_tupK (K := K) rfl (by rfl) (pgs_cons (pg_name (i := 5) nd rfl (.inl rfl)) (pgs_cons (pg_name (i := 6) nd rfl (.inl rfl)) pgs_nil)))) (fun _ _ _ _ _ => pts_nil) (fun _ _ _ _ _ => (pv 6)) (fun _ _ _ _ _ => (pv 5)))
  (pss_cons (ps_set (i := 8) nd rfl (.inl rfl) (pe_callC c_below_masks (hr.mono (by decide)) (pa_cons (pe_callB call_len_seq (by rfl) m.len (by decide +kernel) (pa_cons (pv 1) pa_nil)) (pa_cons (pe_callC c_pair_places (hr.mono (by decide)) (pa_cons pe_str (pa_cons (pv 2) (pa_cons (pv 7) pa_nil)))) pa_nil))))
  (pss_cons (ps_set (i := 9) nd rfl (.inl rfl) (pe_callC c_clash_masks (hr.mono (by decide)) (pa_cons (pv 8) (pa_cons (pe_callC c_pair_places (hr.mono (by decide)) (pa_cons pe_str (pa_cons (pv 3) (pa_cons (pv 7) pa_nil)))) pa_nil))))
  (pss_cons (ps_A (pv 0) (pe_callTy (call_tupQ (K := K) rfl) (by rfl) m.tuple (by decide +kernel) (pa_cons (pv 1) pa_nil)) cls_Board (na_Board _ (by decide)))
  (pss_cons (ps_A (pv 0) (pv 7) cls_Board (na_Board _ (by decide)))
  (pss_cons (ps_A (pv 0) (pe_ifExp (pt_cmpR op_isN (pv 4) pe_non (nomark _)) (pe_op (op_repU (K := K) rfl) (pe_tup (pa_cons pe_int pa_nil)) (pe_callB call_len_seq (by rfl) m.len (by decide +kernel) (pa_cons (pv 1) pa_nil))) (pe_callTy (call_tupQ (K := K) rfl) (by rfl) m.tuple (by decide +kernel) (pa_cons (pv 4) pa_nil))) cls_Board (na_Board _ (by decide)))
  (pss_cons (ps_A (pv 0) (pe_callTy (call_tupQ (K := K) rfl) (by rfl) m.tuple (by decide +kernel) (pa_cons (pv 8) pa_nil)) cls_Board (na_Board _ (by decide)))
  (pss_cons (ps_A (pv 0) (pe_callTy (call_tupQ (K := K) rfl) (by rfl) m.tuple (by decide +kernel) (pa_cons (pe_callC c_above_masks (hr.mono (by decide)) (pa_cons (pv 8) pa_nil)) pa_nil)) cls_Board (na_Board _ (by decide)))
  (pss_cons (ps_A (pv 0) (pe_callTy (call_tupQ (K := K) rfl) (by rfl) m.tuple (by decide +kernel) (pa_cons (pv 9) pa_nil)) cls_Board (na_Board _ (by decide)))
  (pss_one (ps_A (pv 0) (pe_callTy (call_tupQ (K := K) rfl) (by rfl) m.tuple (by decide +kernel) (pa_cons (pe_callC c_needs_order (hr.mono (by decide)) (pa_cons (pv 8) pa_nil)) pa_nil)) cls_Board (na_Board _ (by decide)))))))))))))))), ?_⟩
    have lp : pegs.length ≤ 900 := Nat.le_trans ok.le (by decide)
    refine ⟨_, rfl, _, rfl, _, rfl, _, rfl, p, n, b, _, tp, tn, tb, pegs, ns, bs, W, B, some cs, rfl, hp, lp, hn, hns, ok.wl, hb, hbs, ok.bl, ⟨c, tc, rfl, hc⟩, fun l hl => by cases hl; rw [ok.cl]; exact lp, fun H1 S1 => ?_⟩
    refine ⟨_, rfl, ?_⟩
    refine ⟨p, tp, pegs, 12, rfl, SqB.same hp S1, lp, ok.le, ok.nd, ok.nm, fun H2 S2 => ?_⟩
    have S02 := S1.trans S2
    refine ⟨_, rfl, _, rfl, p, _, rfl, (SqB.same hp S02).or, ?_⟩
    refine ⟨.ref c, pegs.length, some cs, by rw [List.length_map]; rfl, ⟨c, tc, rfl, SqB.same hc S02⟩, fun l hl => by cases hl; exact ⟨ok.cl, ok.cr⟩, fun H3 S3 => ?_⟩
    have S03 := S02.trans S3
    refine ⟨_, rfl, tp, p, _, rfl, SqB.same hp S03, fun D hD => ?_⟩
    refine dc_it (walk_enumB (xs := pegs.map V.str)) (fun i H4 => H4 D = some (.dK (byPeg (pegs.take i) fun s => vN (pegs.idxOf s))) ∧ Same H (hide D H4)) ?_ ?_ ?_ ?_
    · exact ⟨upd_same, hide_of (S03.free hD) (S03.trans (Same.new hD))⟩
    · rintro i H4 hi ⟨h1, h2⟩
      exact SqB.same hp (h2.trans (hide_same D H4))
    · rintro i z H4 H5 hi ⟨h1, h2⟩ ⟨T, x1, x2, rfl, hT, rfl, e1, e2⟩
      obtain ⟨u, rfl, hu⟩ := str_at e2
      cases e1
      have nTD : T ≠ D := (ne_of_none h1 hT).symm
      refine ⟨T, _, rfl, SqT.of upd_same, rfl, _, _, rfl, _, _, rfl, rfl, rfl, ?_⟩
      refine ⟨_, rfl, _, rfl, _, kS u, rfl, Same.new hT _ _ h1, ?_, ?_, ?_⟩
      · rw [byPeg_len, List.length_take]
        exact small1000 (by omega)
      · have ni := not_in_take ok.nd hu
        have hi2 : i < pegs.length := by rw [List.length_map] at hi; exact hi
        have ei : pegs.idxOf u = i := by
          obtain ⟨h5, h6⟩ := List.getElem?_eq_some_iff.mp hu
          rw [← h6]
          exact ok.nd.idxOf_getElem i h5
        rw [upd_same, take_succ_of hu, putK_new _ (valV_byPeg_none ni)]
        unfold byPeg
        rw [List.map_append, List.map_singleton]
        show _ = some (HO.dK (_ ++ [(kS u, vN (pegs.idxOf u))]))
        rw [ei]
      · exact h2.trans (hide_mono ((But.of (Same.new hT)).trans But.upd))
    · rintro H4 ⟨h1, h2⟩
      have et : pegs.take (pegs.map V.str).length = pegs := by rw [List.length_map, List.take_length]
      rw [et] at h1
      have S04 : Same H H4 := h2.trans (hide_same D H4)
      -- below
      refine ⟨_, rfl, p, _, rfl, (SqB.same hp S04).or, _, rfl, _, rfl, ?_⟩
      refine ⟨"need", n, D, tn, ns, W, pegs, rfl, SqB.same hn S04, PairsAt.same hns S04, h1, ok.wi, ok.wl, fun r1 H5 ts1 S5 nr1 hr1 ht1 => ?_⟩
      have S05 := S04.trans S5
      refine ⟨pegs.length, r1, ts1, W.map (idxP pegs), by rw [List.length_map]; rfl, SqL.of hr1, ht1, map_lt ok.w2, rankedN_of ok.w2 ok.rk, lp, fun be H6 S6 nbe hbe => ?_⟩
      have S06 := S05.trans S6
      -- clash
      refine ⟨_, rfl, ?_⟩
      refine ⟨_, rfl, _, rfl, "bar", b, D, tb, bs, B, pegs, rfl, SqB.same hb S06, PairsAt.same hbs S06, S6 _ _ (S5 _ _ h1), ok.bi, ok.bl, fun r2 H7 ts2 S7 nr2 hr2 ht2 => ?_⟩
      have S07 := S06.trans S7
      have bok := below_ok ok
      refine ⟨pegs.length, be, r2, belowOf pegs W, ts2, B.map (idxP pegs), rfl, SqL.of (S7 _ _ hbe), bok.1, fun i hi => bok.lt (RN_lt ok) hi, SqL.of hr2, ht2, map_lt ok.b2, lp, no_dead ok, fun cl H8 S8 ncl hcl => ?_⟩
      have S08 := S07.trans S8
      -- the fields
      have hx8 := S08 _ _ hx
      have hp8 := SqB.same hp S08
      have hc8 := SqB.same hc S08
      have hD8 := S8 _ _ (S7 _ _ (S6 _ _ (S5 _ _ h1)))
      have hbe8 : SqL K H8 be ((belowOf pegs W).map vN) := SqL.of (S8 _ _ (S7 _ _ hbe))
      have hcl8 : SqL K H8 cl ((clashOf pegs W B).map vN) := SqL.of hcl
      have keepB : ∀ {t : Bool} {a : Addr} {xs : List V} {Hk : Hp}, SqB K t H8 a xs → But x H8 Hk → SqB K t Hk a xs := fun h s => sqB_but h hx8 (fun zs => ⟨(fun z => nomatch z), (fun z => nomatch z)⟩) (fun ob zs z => nomatch z) s
      have keepT : ∀ {a : Addr} {xs : List V} {Ha Hk : Hp} {fs : List (Str × V)}, SqT K Ha a xs → Ha x = some (.ins (cB K) dx fs) → But x Ha Hk → SqT K Hk a xs := fun h hx s => sqB_but (t := false) h hx (fun zs => ⟨(fun z => nomatch z), (fun z => nomatch z)⟩) (fun ob zs z => nomatch z) s
      have keepL : ∀ {a : Addr} {xs : List V} {Ha Hk : Hp} {fs : List (Str × V)}, SqL K Ha a xs → Ha x = some (.ins (cB K) dx fs) → But x Ha Hk → SqL K Hk a xs := fun h hx s => sqB_but (t := true) h hx (fun zs => ⟨(fun z => nomatch z), (fun z => nomatch z)⟩) (fun ob zs z => nomatch z) s
      have nDx : D ≠ x := ne_of hD8 hx8 (fun z => nomatch z)
      -- _pegs
      refine ⟨_, rfl, tp, p, _, rfl, hp8, fun pg H9 S9 hpg => ?_⟩
      refine ⟨_, rfl, x, dx, _, rfl, S9 _ _ hx8, by decide, ?_⟩
      have B9 : But x H8 (upd H9 x (.ins (cB K) dx (putF "_pegs" (V.ref pg) []))) := (But.of S9).trans But.upd
      have pg9 : SqT K (upd H9 x (.ins (cB K) dx (putF "_pegs" (V.ref pg) []))) pg (pegs.map V.str) := keepT hpg (S9 _ _ hx8) But.upd
      -- _places
      refine ⟨_, rfl, _, rfl, x, dx, _, rfl, upd_same, by show 1 < 1000; decide, ?_⟩
      rw [upd_upd]
      have B10 : But x H8 (upd H9 x (.ins (cB K) dx (putF "_places" (V.ref D) (putF "_pegs" (V.ref pg) [])))) := (But.of S9).trans But.upd
      have pg10 : SqT K (upd H9 x (.ins (cB K) dx (putF "_places" (V.ref D) (putF "_pegs" (V.ref pg) [])))) pg (pegs.map V.str) := keepT hpg (S9 _ _ hx8) But.upd
      -- _costs
      refine ⟨_, rfl, rfl, _, rfl, iteF ?_⟩
      refine ⟨_, rfl, tc, c, _, rfl, keepB hc8 B10, fun co H11 S11 hco => ?_⟩
      refine ⟨_, rfl, x, dx, _, rfl, S11 _ _ upd_same, by show 2 < 1000; decide, ?_⟩
      have B11 : But x H8 (upd H11 x (.ins (cB K) dx (putF "_costs" (V.ref co) (putF "_places" (V.ref D) (putF "_pegs" (V.ref pg) []))))) := (B10.trans (But.of S11)).trans But.upd
      have co11 : SqT K (upd H11 x (.ins (cB K) dx (putF "_costs" (V.ref co) (putF "_places" (V.ref D) (putF "_pegs" (V.ref pg) []))))) co (cs.map V.int) := keepT hco (S11 _ _ upd_same) But.upd
      -- _below
      refine ⟨_, rfl, true, be, _, rfl, keepL hbe8 hx8 B11, fun bt H12 S12 hbt => ?_⟩
      refine ⟨_, rfl, x, dx, _, rfl, S12 _ _ upd_same, by show 3 < 1000; decide, ?_⟩
      have B12 : But x H8 (upd H12 x (.ins (cB K) dx (putF "_below" (V.ref bt) (putF "_costs" (V.ref co) (putF "_places" (V.ref D) (putF "_pegs" (V.ref pg) [])))))) := (B11.trans (But.of S12)).trans But.upd
      have bt12 : SqT K (upd H12 x (.ins (cB K) dx (putF "_below" (V.ref bt) (putF "_costs" (V.ref co) (putF "_places" (V.ref D) (putF "_pegs" (V.ref pg) [])))))) bt ((belowOf pegs W).map vN) := keepT hbt (S12 _ _ upd_same) But.upd
      -- _above
      refine ⟨_, rfl, be, belowOf pegs W, rfl, keepL hbe8 hx8 B12, by rw [bok.1]; exact lp, fun am H13 S13 nam ham => ?_⟩
      refine ⟨true, am, _, rfl, SqL.of ham, fun at' H14 S14 hat => ?_⟩
      refine ⟨_, rfl, x, dx, _, rfl, S14 _ _ (S13 _ _ upd_same), by show 4 < 1000; decide, ?_⟩
      have B14 : But x H8 (upd H14 x (.ins (cB K) dx (putF "_above" (V.ref at') (putF "_below" (V.ref bt) (putF "_costs" (V.ref co) (putF "_places" (V.ref D) (putF "_pegs" (V.ref pg) []))))))) := ((B12.trans (But.of S13)).trans (But.of S14)).trans But.upd
      have at14 : SqT K (upd H14 x (.ins (cB K) dx (putF "_above" (V.ref at') (putF "_below" (V.ref bt) (putF "_costs" (V.ref co) (putF "_places" (V.ref D) (putF "_pegs" (V.ref pg) []))))))) at' ((aboveR (belowOf pegs W)).map vN) := keepT hat (S14 _ _ (S13 _ _ upd_same)) But.upd
      -- _clash
      refine ⟨_, rfl, true, cl, _, rfl, keepL hcl8 hx8 B14, fun ct H15 S15 hct => ?_⟩
      refine ⟨_, rfl, x, dx, _, rfl, S15 _ _ upd_same, by show 5 < 1000; decide, ?_⟩
      -- _order
      have B16 : But x H8 (upd H15 x (.ins (cB K) dx [("_pegs", .ref pg), ("_places", .ref D), ("_costs", .ref co), ("_below", .ref bt), ("_above", .ref at'), ("_clash", .ref ct)])) := (B14.trans (But.of S15)).trans But.upd
      refine ⟨_, rfl, be, belowOf pegs W, rfl, keepL hbe8 hx8 B16, by rw [bok.1]; exact lp, fun i hi => ?_, fun om H17 S17 nom hom => ?_⟩
      · obtain ⟨j, hj, rfl⟩ := List.mem_iff_getElem.mp hi
        have := bits_le (bok.lt (RN_lt ok) (show j < pegs.length by rw [← bok.1]; exact hj))
        rw [List.getD_eq_getElem?_getD, List.getElem?_eq_getElem hj] at this
        exact Nat.le_trans this lp
      refine ⟨true, om, _, rfl, SqL.of hom, fun ot H18 S18 hot => ?_⟩
      refine ⟨_, rfl, x, dx, _, rfl, S18 _ _ (S17 _ _ upd_same), by show 6 < 1000; decide, ?_⟩
      have B18 : But x H8 (upd H18 x (.ins (cB K) dx (fsB pg D co bt at' ct ot))) := ((B16.trans (But.of S17)).trans (But.of S18)).trans But.upd
      have S78 := ((But.of S17).trans (But.of S18)).trans (But.upd (H := H18) (p := x) (o := .ins (cB K) dx (fsB pg D co bt at' ct ot)))
      refine q _ ((But.of S08).trans B18) ⟨mkBd_ok ok, dx, pg, D, co, bt, at', ct, ot, upd_same, ?_, ?_, ?_, ?_, ?_, ?_, ?_⟩
      · exact keepT (keepT (keepT (keepT (keepT pg10 upd_same ((But.of S11).trans But.upd)) upd_same ((But.of S12).trans But.upd)) upd_same (((But.of S13).trans (But.of S14)).trans But.upd)) upd_same ((But.of S15).trans But.upd)) upd_same S78
      · exact B18 _ _ nDx hD8
      · exact keepT (keepT (keepT (keepT co11 upd_same ((But.of S12).trans But.upd)) upd_same (((But.of S13).trans (But.of S14)).trans But.upd)) upd_same ((But.of S15).trans But.upd)) upd_same S78
      · exact keepT (keepT (keepT bt12 upd_same (((But.of S13).trans (But.of S14)).trans But.upd)) upd_same ((But.of S15).trans But.upd)) upd_same S78
      · exact keepT (keepT at14 upd_same ((But.of S15).trans But.upd)) upd_same S78
      · exact keepT (keepT hct (S15 _ _ upd_same) But.upd) upd_same S78
      · exact keepT hot (S18 _ _ (S17 _ _ upd_same)) But.upd
end
end Lw

set_option Elab.async false
set_option linter.all false
set_option maxRecDepth 100000
set_option maxHeartbeats 4000000
namespace Lw
open PySem PySem.Spec PyProof.Rows L2 Np TL
local macro_rules | `(tactic| walk_at "np_h") => `(tactic| first | assumption | exact upd_same | (refine (upd_ne ?_).trans ?_; (walk_at "np_ne"); (walk_at "np_h")) | exact SqL.of (by walk_at "np_h") | exact SqT.of (by walk_at "np_h"))
local macro_rules | `(tactic| walk_at "np_ne") => `(tactic| first | assumption | exact Ne.symm (by assumption))
local macro_rules | `(tactic| walk_at "np_r") => `(tactic| first
  | refine ⟨_, rfl, ?_⟩
  | refine ⟨_, _, rfl, rfl, ?_⟩
  | refine ⟨(.inl ⟨by decide, by decide⟩ : CMul _ _), ?_⟩
  | refine ⟨(.inr ⟨by decide, by decide⟩ : CMul _ _), ?_⟩
  | refine ⟨(by first | decide | omega : (0 : Int) < _), ?_⟩
  | refine ⟨(⟨by decide, by decide⟩ : CDiv _ _), ?_⟩
  | (refine' ⟨_, _, _, _, rfl, rfl, ?np1, ?np2, ?_⟩; (case np1 => walk_at "np_h"); (case np2 => rfl)))

/-! ### stands -/
def fsS (b : Addr) (m : Nat) (q : Addr) : List (Str × V) := [("_board", .ref b), ("_mask", vN m), ("_pegs", .ref q)]
/-- a mask that is a stand -/
def StOk (B : Bd) (m : Nat) : Prop := m < 2 ^ B.pegs.length ∧ ∀ i ∈ plc m, lackN B i m = 0 ∧ lackB B i m = 0
/-- the stand of the mask m at s, on the board B at b -/
def StandAt (K : PySem.W.Frag) (H : Hp) (s b : Addr) (B : Bd) (m : Nat) : Prop := StOk B m ∧ BoardAt K H b B ∧ ∃ dx q, H s = some (.ins (cS K) dx (fsS b m q)) ∧ SqT K H q ((pegsIn B.pegs m).map V.str)
theorem StandAt.same {K : PySem.W.Frag} {H H' : Hp} {s b : Addr} {B : Bd} {m : Nat} (h : StandAt K H s b B m) (S : Same H H') : StandAt K H' s b B m := by
  obtain ⟨h1, h2, dx, q, h3, h4⟩ := h
  exact ⟨h1, h2.same S, dx, q, S _ _ h3, Same.sqT S h4⟩
/-- the first place at which something lacks -/
def firstL (lack : Bd → Nat → Nat → Nat) (B : Bd) (m : Nat) : Option Nat := (plc m).find? fun i => decide (lack B i m ≠ 0)
theorem firstL_none {lack : Bd → Nat → Nat → Nat} {B : Bd} {m : Nat} : firstL lack B m = none ↔ ∀ i ∈ plc m, lack B i m = 0 := by
  unfold firstL
  rw [List.find?_eq_none]
  refine forall_congr' fun i => forall_congr' fun _ => ?_
  simp
theorem firstL_take {lack : Bd → Nat → Nat → Nat} {B : Bd} {m k i : Nat} (h : ∀ j ∈ (plc m).take k, lack B j m = 0) (hi : (plc m)[k]? = some i) (c : lack B i m ≠ 0) : firstL lack B m = some i := by
  unfold firstL
  obtain ⟨h1, h2⟩ := List.getElem?_eq_some_iff.mp hi
  have e : plc m = (plc m).take k ++ i :: (plc m).drop (k + 1) := by rw [← h2, ← List.drop_eq_getElem_cons h1, List.take_append_drop]
  rw [e, List.find?_append]
  have n : ((plc m).take k).find? (fun i => decide (lack B i m ≠ 0)) = none := by
    rw [List.find?_eq_none]
    intro j hj
    simpa using h j hj
  rw [n, List.find?_cons, decide_eq_true c]
  rfl
/-- what making a stand of a row comes to: the errors in their order, else ok -/
def Outcome (K : PySem.W.Frag) (H : Hp) (E : XK) (B : Bd) (row : List Str) (ok : Prop) : Prop :=
  match outP B.pegs row with
  | some s => Leaves K H E "NoPeg" [("peg", .str s)]
  | none => match firstL lackN B (maskOf B.pegs row) with
    | some i => ∀ j, (plc (lackN B i (maskOf B.pegs row)))[0]? = some j → Leaves K H E "Missing" [("needed", .str (B.pegs.getD j "")), ("peg", .str (B.pegs.getD i ""))]
    | none => match firstL lackB B (maskOf B.pegs row) with
      | some i => ∀ j, (plc (lackB B i (maskOf B.pegs row)))[0]? = some j → Leaves K H E "Barred" [("other", .str (B.pegs.getD j "")), ("peg", .str (B.pegs.getD i ""))]
      | none => ok
theorem Leaves.same {K : PySem.W.Frag} {H H1 : Hp} {E : XK} {x : Str} {fs : List (Str × V)} (h : Leaves K H E x fs) (S : Same H H1) : Leaves K H1 E x fs := fun d H' S' n hd => h d H' (S.trans S') (S.free n) hd
theorem Outcome.imp {K : PySem.W.Frag} {H H1 : Hp} {E : XK} {B : Bd} {row : List Str} {p q : Prop} (h : Outcome K H E B row p) (S : Same H H1) (i : p → q) : Outcome K H1 E B row q := by
  unfold Outcome at h ⊢
  cases e : outP B.pegs row with
  | some s => rw [e] at h; exact Leaves.same h S
  | none =>
    rw [e] at h
    simp only at h ⊢
    cases e2 : firstL lackN B (maskOf B.pegs row) with
    | some s => rw [e2] at h; exact fun j hj => Leaves.same (h j hj) S
    | none =>
      rw [e2] at h
      simp only at h ⊢
      cases e3 : firstL lackB B (maskOf B.pegs row) with
      | some s => rw [e3] at h; exact fun j hj => Leaves.same (h j hj) S
      | none => rw [e3] at h; exact i h
section
variable {P : Program} {w : World} {K : PySem.W.Frag} {mg : Str → Option Value} {base : Heap}
def spStandInit (K : PySem.W.Frag) : Sp := fun vs H Q E => ∃ (x dx b r : Addr) (t : Bool) (row : List Str) (B : Bd), vs = [.ref x, .ref b, .ref r] ∧ H x = some (.ins (cS K) dx []) ∧ BoardAt K H b B ∧ SqB K t H r (row.map V.str) ∧
  Outcome K H E B row (∀ H', But x H H' → StandAt K H' x b B (maskOf B.pegs row) → Q .non H')
theorem scStandInit : FnScope ["self", "board", "pegs", "mask", "place"] ["self", "board", "pegs"] (defScope sStandInit) := ⟨rfl, rfl, rfl, by decide +kernel, rfl, by decide +kernel, by decide +kernel⟩
theorem board_but {H H' : Hp} {x b dx : Addr} {fs : List (Str × V)} {B : Bd} (h : BoardAt K H b B) (hx : H x = some (.ins (cS K) dx fs)) (hne : cS K ≠ cB K) (s : But x H H') : BoardAt K H' b B := by
  obtain ⟨ok, dy, pg, pl, co, be, ab, cl, od, h⟩ := h
  have kT : ∀ {a : Addr} {xs : List V}, SqT K H a xs → SqT K H' a xs := fun h => sqB_but (t := false) h hx (fun zs => ⟨(fun z => nomatch z), (fun z => nomatch z)⟩) (fun ob zs z => nomatch z) s
  refine ⟨ok, dy, pg, pl, co, be, ab, cl, od, s _ _ (ne_of h.ins hx fun z => ?_) h.ins, kT h.pg, s _ _ (ne_of h.pl hx fun z => nomatch z) h.pl, kT h.co, kT h.be, kT h.ab, kT h.cl, kT h.od⟩
  have z := HO.ins.inj z
  exact hne z.1.symm
theorem ok_stand_init {f : Addr} {fd : FuncData} (F : FnM K "__init__" "Stand.__init__" sStandInit f fd) (hne : cS K ≠ cB K) (cls_Board : Cls K (cB K)) (cls_Stand : Cls K (cS K)) (na_Stand : ∀ f ∈ fS, NoAttr K (cS K) f)
    (cM_Board_mask_of : CalM P w K mg base (L2.CX P w) 4 (cB K) "mask_of" (spMaskOf K)) (cM_Board_pegs_of : CalM P w K mg base CX0 3 (cB K) "pegs_of" (spPegsOf K)) (c_places_in : Callee P w K mg base 1 "places_in" ["mask"] (spPlaces K))
    (cF_check_needs : CalF P w K mg base (L2.CX P w) 4 "check_needs" (spCheck "Missing" "needed" lackN K)) (cF_check_bars : CalF P w K mg base (L2.CX P w) 4 "check_bars" (spCheck "Barred" "other" lackB K)) :
    FnOk P w K mg base (L2.CX P w) 5 f fd ["self", "board", "pegs"] (spStandInit K) := by
  have nd := scStandInit.nd
  refine F.ok scStandInit (fun vs H Q E h => ?_) (fun cdv A outer s H vs Q E hr h => ?_)
  · obtain ⟨x, dx, b, r, t, row, B, rfl, _⟩ := h
    rfl
  · obtain ⟨x, dx, b, r, t, row, B, rfl, hx, hB, hrow, out⟩ := h
    refine ⟨_, (pss_cons (ps_set (i := 3) nd rfl (.inl rfl) (pe_M (pv 1) cls_Board cM_Board_mask_of (hr.mono (by decide)) (thru (takes_of rfl rfl rfl rfl)) (pa_cons (pv 2) pa_nil)))
  (pss_cons (ps_for (passes_of rfl) rfl (pi_list (pe_callC c_places_in (hr.mono (by decide)) (pa_cons (pv 3) pa_nil))) (pg_name (i := 4) nd rfl (.inl rfl))
   (pss_one (ps_expr (pe_F cF_check_needs (hr.mono (by decide)) (thru (takes_of rfl rfl rfl rfl)) (pa_cons (pv 1) (pa_cons (pv 4) (pa_cons (pv 3) pa_nil)))))))
  (pss_cons (ps_for (passes_of rfl) rfl (pi_list (pe_callC c_places_in (hr.mono (by decide)) (pa_cons (pv 3) pa_nil))) (pg_name (i := 4) nd rfl (.inl rfl))
   (pss_one (ps_expr (pe_F cF_check_bars (hr.mono (by decide)) (thru (takes_of rfl rfl rfl rfl)) (pa_cons (pv 1) (pa_cons (pv 4) (pa_cons (pv 3) pa_nil)))))))
  (pss_cons (ps_A (pv 0) (pv 1) cls_Stand (na_Stand _ (by decide)))
  (pss_cons (ps_A (pv 0) (pv 3) cls_Stand (na_Stand _ (by decide)))
  (pss_one (ps_A (pv 0) (pe_M (pv 1) cls_Board cM_Board_pegs_of (hr.mono (by decide)) no0 (pa_cons (pv 3) pa_nil)) cls_Stand (na_Stand _ (by decide))))))))), ?_⟩
    obtain ⟨ok, dy, pg, pl, co, be, ab, cl, od, hb⟩ := id hB
    have lp := ok.lp
    unfold Outcome at out
    refine ⟨_, rfl, b, dy, _, rfl, hb.ins, rfl, _, rfl, b, r, t, row, B, rfl, hB, hrow, fun o1 H1 S1 => ?_, fun u o1 => by rw [o1] at out; exact out⟩
    rw [o1] at out
    simp only at out
    have mlt : maskOf B.pegs row < 2 ^ B.pegs.length := maskOf_lt (outP_none.mp o1)
    have mb : bits (maskOf B.pegs row) ≤ 1000 := Nat.le_trans (bits_le mlt) (by omega)
    refine ⟨_, rfl, _, rfl, mb, fun p2 H2 S2 n2 hp2 => ?_⟩
    have S02 := S1.trans S2
    refine ⟨p2, rfl, ⟨_, SqL.of hp2⟩, for_list (xs := (plc (maskOf B.pegs row)).map vN) (fun k σ H3 => ∃ s4, σ = [some (.ref x), some (.ref b), some (.ref r), some (vN (maskOf B.pegs row)), s4] ∧ Same H2 H3 ∧ ∀ j ∈ (plc (maskOf B.pegs row)).take k, lackN B j (maskOf B.pegs row) = 0) ?_ ?_ ?_ ?_⟩
    · exact ⟨_, rfl, Same.refl _, fun j hj => by simp at hj⟩
    · rintro k σ H3 hk ⟨s4, rfl, S, hin⟩
      exact SqL.of (S _ _ hp2)
    · rintro k z σ H3 hz ⟨s4, rfl, S, hin⟩
      obtain ⟨i, rfl, hi⟩ := natInt_at hz
      have li := plc_lt mlt (mem_of_at hi)
      refine ⟨_, rfl, _, rfl, _, rfl, b, i, _, B, rfl, hB.same (S02.trans S), li, fun c H4 S4 => ?_, fun j hj => ?_⟩
      · refine ⟨_, rfl, S.trans S4, fun j hj => ?_⟩
        rw [take_succ_of hi] at hj
        rcases List.mem_append.mp hj with h | h
        · exact hin j h
        · cases List.mem_singleton.mp h
          exact c
      · have c : lackN B i (maskOf B.pegs row) ≠ 0 := fun z => by rw [z, plc_zero] at hj; cases hj
        rw [firstL_take hin hi c] at out
        exact Leaves.same (out j hj) (S02.trans S)
    · rintro σ H3 ⟨s4, rfl, S, hin⟩
      have e : (plc (maskOf B.pegs row)).take ((plc (maskOf B.pegs row)).map vN).length = plc (maskOf B.pegs row) := by rw [List.length_map, List.take_length]
      rw [e] at hin
      rw [firstL_none.mpr hin] at out
      simp only at out
      have S03 := S02.trans S
      refine ⟨_, rfl, _, rfl, mb, fun p4 H4 S4 n4 hp4 => ?_⟩
      have S04 := S03.trans S4
      refine ⟨p4, rfl, ⟨_, SqL.of hp4⟩, for_list (xs := (plc (maskOf B.pegs row)).map vN) (fun k σ H5 => ∃ s4, σ = [some (.ref x), some (.ref b), some (.ref r), some (vN (maskOf B.pegs row)), s4] ∧ Same H4 H5 ∧ ∀ j ∈ (plc (maskOf B.pegs row)).take k, lackB B j (maskOf B.pegs row) = 0) ?_ ?_ ?_ ?_⟩
      · exact ⟨_, rfl, Same.refl _, fun j hj => by simp at hj⟩
      · rintro k σ H5 hk ⟨s4, rfl, S5, hin2⟩
        exact SqL.of (S5 _ _ hp4)
      · rintro k z σ H5 hz ⟨s4, rfl, S5, hin2⟩
        obtain ⟨i, rfl, hi⟩ := natInt_at hz
        have li := plc_lt mlt (mem_of_at hi)
        refine ⟨_, rfl, _, rfl, _, rfl, b, i, _, B, rfl, hB.same (S04.trans S5), li, fun c H6 S6 => ?_, fun j hj => ?_⟩
        · refine ⟨_, rfl, S5.trans S6, fun j hj => ?_⟩
          rw [take_succ_of hi] at hj
          rcases List.mem_append.mp hj with h | h
          · exact hin2 j h
          · cases List.mem_singleton.mp h
            exact c
        · have c : lackB B i (maskOf B.pegs row) ≠ 0 := fun z => by rw [z, plc_zero] at hj; cases hj
          rw [firstL_take hin2 hi c] at out
          exact Leaves.same (out j hj) (S04.trans S5)
      · rintro σ H5 ⟨s4, rfl, S5, hin2⟩
        rw [e] at hin2
        rw [firstL_none.mpr hin2] at out
        simp only at out
        have S05 := S04.trans S5
        have hx5 := S05 _ _ hx
        refine ⟨_, rfl, _, rfl, x, dx, _, rfl, hx5, by decide, ?_⟩
        refine ⟨_, rfl, _, rfl, x, dx, _, rfl, upd_same, by show 1 < 1000; decide, ?_⟩
        rw [upd_upd]
        have B6 : But x H5 (upd H5 x (.ins (cS K) dx (putF "_mask" (vN (maskOf B.pegs row)) (putF "_board" (V.ref b) [])))) := But.upd
        have hB6 := board_but (hB.same S05) hx5 hne B6
        obtain ⟨_, dy6, pg6, pl6, co6, be6, ab6, cl6, od6, hb6⟩ := id hB6
        refine ⟨_, rfl, b, dy6, _, rfl, hb6.ins, rfl, _, rfl, b, _, B, rfl, hB6, mlt, fun q7 H7 S7 hq7 => ?_⟩
        refine ⟨_, rfl, x, dx, _, rfl, S7 _ _ upd_same, by show 2 < 1000; decide, ?_⟩
        have B7 : But x (upd H5 x (.ins (cS K) dx (putF "_mask" (vN (maskOf B.pegs row)) (putF "_board" (V.ref b) [])))) (upd H7 x (.ins (cS K) dx (fsS b (maskOf B.pegs row) q7))) := (But.of S7).trans But.upd
        refine out _ (((But.of S05).trans B6).trans B7) ⟨⟨mlt, fun i hi => ⟨hin i hi, hin2 i hi⟩⟩, board_but hB6 upd_same hne B7, dx, q7, upd_same, ?_⟩
        exact sqB_but (t := false) hq7 (S7 _ _ upd_same) (fun zs => ⟨(fun z => nomatch z), (fun z => nomatch z)⟩) (fun ob zs z => nomatch z) But.upd
/-- a new stand of a row -/
def spMakeS (K : PySem.W.Frag) : Sp := fun vs H Q E => ∃ (b r : Addr) (t : Bool) (row : List Str) (B : Bd), vs = [.ref b, .ref r] ∧ BoardAt K H b B ∧ SqB K t H r (row.map V.str) ∧
  Outcome K H E B row (∀ s H', H s = none → Same H H' → StandAt K H' s b B (maskOf B.pegs row) → Q (.ref s) H')
/-- Stand(board, row) -/
theorem make_step {H : Hp} {Q : VK} {E : XK} {b r : Addr} {t : Bool} {row : List Str} {B : Bd} (hB : BoardAt K H b B) (hr : SqB K t H r (row.map V.str)) (out : Outcome K H E B row (∀ s H', H s = none → Same H H' → StandAt K H' s b B (maskOf B.pegs row) → Q (.ref s) H')) :
    ∀ x dx, H x = none → H dx = none → dx ≠ x → spStandInit K [.ref x, .ref b, .ref r] (upd (upd H dx (.own x)) x (.ins (cS K) dx [])) (fun v H2 => v = .non ∧ Q (.ref x) H2) E := by
  intro x dx nx ndx ne
  have S : Same H (upd (upd H dx (.own x)) x (.ins (cS K) dx [])) := (Same.new ndx).trans (Same.new (by rw [upd_ne ne.symm]; exact nx))
  refine ⟨x, dx, b, r, t, row, B, rfl, upd_same, hB.same S, SqB.same hr S, Outcome.imp out S fun k H' bu hs => ⟨rfl, k x H' nx (fun c o hc => ?_) hs⟩⟩
  exact bu c o (ne_of_none hc nx) (S _ _ hc)
theorem scBoardCall : FnScope ["self", "pegs"] ["self", "pegs"] (defScope sBoardCall) := ⟨rfl, rfl, rfl, by decide +kernel, rfl, by decide +kernel, by decide +kernel⟩
theorem ok_board_call {f : Addr} {fd : FuncData} (F : FnM K "__call__" "Board.__call__" sBoardCall f fd) (cI_Stand : CalI P w K mg base (L2.CX P w) 5 "Stand" (cS K) (spStandInit K)) : FnOk P w K mg base (L2.CX P w) 7 f fd ["self", "pegs"] (spMakeS K) := by
  have nd := scBoardCall.nd
  refine F.ok scBoardCall (fun vs H Q E h => ?_) (fun cdv A outer s H vs Q E hr h => ?_)
  · obtain ⟨b, r, t, row, B, rfl, _⟩ := h
    rfl
  · obtain ⟨b, r, t, row, B, rfl, hB, hrow, out⟩ := h
    refine ⟨_, (pss_one (ps_ret (pe_I cI_Stand (hr.mono (by decide)) (thru (takes_of rfl rfl rfl rfl)) (pa_cons (pv 0) (pa_cons (pv 1) pa_nil))))), ?_⟩
    exact ⟨_, rfl, _, rfl, make_step hB hrow out⟩
/-- board.stand(peg, ..) -/
def spStand (K : PySem.W.Frag) : Sp := fun vs H Q E => ∃ (b : Addr) (row : List Str) (B : Bd), vs = .ref b :: row.map V.str ∧ row.length ≤ 1000 ∧ BoardAt K H b B ∧ Outcome K H E B row (∀ s H', H s = none → Same H H' → StandAt K H' s b B (maskOf B.pegs row) → Q (.ref s) H')
theorem scBoardStand : FnScope ["self", "pegs"] ([("self" : Str)] ++ [("pegs" : Str)]) (defScope sBoardStand) := ⟨rfl, rfl, rfl, by decide +kernel, rfl, by decide +kernel, by decide +kernel⟩
theorem ok_board_stand {f : Addr} {fd : FuncData} (F : FnM K "stand" "Board.stand" sBoardStand f fd) (cI_Stand : CalI P w K mg base (L2.CX P w) 5 "Stand" (cS K) (spStandInit K)) : FnR P w K mg base (L2.CX P w) 7 f (spStand K) := by
  have nd := scBoardStand.nd
  obtain ⟨oc, od, dV, kV, doc, pm, an, cdv, ct, osl, rfl, lk, hcd, hD, hK⟩ := F.ex
  rcases hD with ⟨_, rfl⟩ | ⟨z, _⟩
  · skip
    have h := StX.fn_star (k := 6) (ps := ["self"]) (pv := "pegs") (N := ["self", "pegs"]) (P := P) (w := w) (mg := mg) (base := base) (sp := fun vs H Q E => ∃ (b r : Addr) (row : List Str) (B : Bd), vs = [.ref b, .ref r] ∧ BoardAt K H b B ∧ SqT K H r (row.map V.str) ∧ Outcome K H E B row (∀ s H', H s = none → Same H H' → StandAt K H' s b B (maskOf B.pegs row) → Q (.ref s) H')) lk hcd scBoardStand StX.cxUp (StX.bind_star1 (B := fun us => bindArgs (PySem.W.fnOf "stand" "Board.stand" (defArgs sBoardStand) (defBody sBoardStand) (defScope sBoardStand) .none kV doc pm an cdv ct) ⟨us, []⟩) (fun a => rfl) (fun a r rs => rfl)) (fun A outer s H vs Q E hr h => by
      obtain ⟨b, r, row, B, rfl, hB, hrow, out⟩ := h
      refine ⟨_, (pss_one (ps_ret (pe_I cI_Stand (hr.mono (by decide)) (thru (takes_of rfl rfl rfl rfl)) (pa_cons (pv 0) (pa_cons (pv 1) pa_nil))))), ?_⟩
      exact ⟨_, rfl, _, rfl, make_step (t := false) hB hrow out⟩)
    refine FnR.imp h fun vs H Q E h => ?_
    obtain ⟨b, row, B, rfl, hl, hB, out⟩ := h
    refine ⟨[.ref b], row.map V.str, rfl, rfl, by rw [List.length_map]; exact Nat.le_of_lt (small1000 hl), fun p hp => ?_⟩
    have S : Same H (upd H p (.tup (row.map V.str))) := Same.new hp
    exact ⟨b, p, row, B, rfl, hB.same S, SqT.of upd_same, Outcome.imp out S fun k s H' ns S' hs => k s H' (S.free ns) (S.trans S') hs⟩
  · exact absurd rfl z
theorem scStandPegs : FnScope ["self"] ["self"] (defScope sStandPegs) := ⟨rfl, rfl, rfl, by decide +kernel, rfl, by decide +kernel, by decide +kernel⟩
/-- the pegs of the stand -/
def spPegsS (K : PySem.W.Frag) : Sp := fun vs H Q _ => ∃ (s b : Addr) (B : Bd) (m : Nat), vs = [.ref s] ∧ StandAt K H s b B m ∧ ∀ q, SqT K H q ((pegsIn B.pegs m).map V.str) → Q (.ref q) H
theorem ok_pegsS {f : Addr} {fd : FuncData} (F : FnM K "pegs" "Stand.pegs" sStandPegs f fd) (cls_Stand : Cls K (cS K)) (na_Stand : ∀ f ∈ fS, NoAttr K (cS K) f) : FnOk P w K mg base CX0 1 f fd ["self"] (spPegsS K) := by
  have nd := scStandPegs.nd
  refine F.ok scStandPegs (fun vs H Q E h => ?_) (fun cdv A outer s H vs Q E hr h => ?_)
  · obtain ⟨s, b, B, m, rfl, _⟩ := h
    rfl
  · obtain ⟨s, b, B, m, rfl, hS, q⟩ := h
    refine ⟨_, PSs.nox (pss_one (ps_ret (pe_A (pv 0) cls_Stand (na_Stand _ (by decide))))), ?_⟩
    obtain ⟨ok, hB, dx, q2, hs, hq⟩ := id hS
    exact ⟨_, rfl, s, dx, _, _, rfl, hs, rfl, q q2 hq⟩
end
end Lw

set_option Elab.async false
set_option linter.all false
set_option maxRecDepth 100000
set_option maxHeartbeats 4000000
namespace Lw
open PySem PySem.Spec PyProof.Rows L2 Np TL
local macro_rules | `(tactic| walk_at "np_h") => `(tactic| first | assumption | exact upd_same | (refine (upd_ne ?_).trans ?_; (walk_at "np_ne"); (walk_at "np_h")) | exact SqL.of (by walk_at "np_h") | exact SqT.of (by walk_at "np_h"))
local macro_rules | `(tactic| walk_at "np_ne") => `(tactic| first | assumption | exact Ne.symm (by assumption))
local macro_rules | `(tactic| walk_at "np_r") => `(tactic| first
  | refine ⟨_, rfl, ?_⟩
  | refine ⟨_, _, rfl, rfl, ?_⟩
  | refine ⟨(.inl ⟨by decide, by decide⟩ : CMul _ _), ?_⟩
  | refine ⟨(.inr ⟨by decide, by decide⟩ : CMul _ _), ?_⟩
  | refine ⟨(by first | decide | omega : (0 : Int) < _), ?_⟩
  | refine ⟨(⟨by decide, by decide⟩ : CDiv _ _), ?_⟩
  | (refine' ⟨_, _, _, _, rfl, rfl, ?np1, ?np2, ?_⟩; (case np1 => walk_at "np_h"); (case np2 => rfl)))

section
variable {P : Program} {w : World} {K : PySem.W.Frag} {mg : Str → Option Value} {base : Heap}
theorem pick2 {r : Int} (r0 : 0 ≤ r) (r1 : r < 2) : ∃ k : Nat, atI [V.int 1, V.int 2] r = some (vN k) ∧ 1 ≤ k ∧ k ≤ 2 := by
  obtain ⟨k, rfl⟩ : ∃ k : Nat, r = (k : Int) := ⟨r.toNat, by omega⟩
  match k, r1 with
  | 0, _ => exact ⟨1, rfl, by decide, by decide⟩
  | 1, _ => exact ⟨2, rfl, by decide, by decide⟩
  | n + 2, h => omega
theorem pick3 {r : Int} (r0 : 0 ≤ r) (r1 : r < 3) : ∃ k : Nat, atI [V.int 1, V.int 3, V.int 1000] r = some (vN k) ∧ 1 ≤ k ∧ k ≤ 1000 := by
  obtain ⟨k, rfl⟩ : ∃ k : Nat, r = (k : Int) := ⟨r.toNat, by omega⟩
  match k, r1 with
  | 0, _ => exact ⟨1, rfl, by decide, by decide⟩
  | 1, _ => exact ⟨3, rfl, by decide, by decide⟩
  | 2, _ => exact ⟨1000, rfl, by decide, by decide⟩
  | n + 3, h => omega
/-- a peg of the order, another before it or the same -/
def Late (order : List Str) (w : Str × Str) : Prop := ∃ i j : Nat, order[i]? = some w.1 ∧ order[j]? = some w.2 ∧ j ≤ i
def spParts (K : PySem.W.Frag) : Sp := fun vs H Q _ => ∃ (b : Addr) (x y z : Int) (most : Nat), vs = [.ref b, vN most] ∧ H b = some (bx x y z) ∧ most ≤ 12 ∧
  ∀ (q : Addr) (H' : Hp) (x' y' z' : Int) (pegs : List Str) (W B : List (Str × Str)) (cs : List Int), But b H H' → H' b = some (bx x' y' z') → PartsAt K H' q pegs W B cs → Parts pegs W B cs → pegs.length ≤ most → W.length ≤ 24 → B.length ≤ 24 → Q (.ref q) H'
theorem scParts : FnScope ["_law_box_here", "_law_most", "_law_pegs", "_law_order", "_law_wants", "_law_blocks", "_law_turn", "_law_late", "_law_peg", "_law_needed", "_law_rows_here", "_law_pair", "_law_dead", "_law_prices"] ["_law_box_here", "_law_most"] (defScope sParts) := ⟨rfl, rfl, rfl, by decide +kernel, rfl, by decide +kernel, by decide +kernel⟩
theorem ok_parts {f : Addr} {fd : FuncData} (F : FnT K "_law_parts" sParts f fd) (m : Bl mg) (c_take : Callee P w K mg base 1 "_law_take" ["_law_box_here", "_law_many"] spTake) (c_mixed : Callee P w K mg base 2 "_law_mixed" ["_law_box_here", "_law_things"] (spMixed K)) (c_names : Callee P w K mg base 3 "_law_names" ["_law_box_here", "_law_many"] spNames)
    (c_rows : Callee P w K mg base 1 "_law_rows" ["_law_pegs", "_law_wants"] (spRows K)) (c_is_barred : Callee P w K mg base 1 "_law_is_barred" ["_law_row", "_law_other", "_law_blocks"] (spIsBarred K)) : FnOk P w K mg base CX0 4 f fd ["_law_box_here", "_law_most"] (spParts K) := by
  have nd := scParts.nd
  refine F.ok scParts (fun vs H Q E h => ?_) (fun cdv A outer s H vs Q E hr h => ?_)
  · obtain ⟨b, x, y, z, n, rfl, _⟩ := h
    rfl
  · obtain ⟨b, x, y, z, most, rfl, hb, hm, q⟩ := h
    refine ⟨_, PSs.nox (pss_cons (ps_set (i := 2) nd rfl (.inl rfl) (pe_callC c_names (hr.mono (by decide)) (pa_cons (pv 0) (pa_cons (pe_callC c_take (hr.mono (by decide)) (pa_cons (pv 0) (pa_cons (pe_op op_add (pv 1) pe_int) pa_nil))) pa_nil))))
  (pss_cons (ps_asg (pe_tup (pa_cons (pe_callC c_mixed (hr.mono (by decide)) (pa_cons (pv 0) (pa_cons (pv 2) pa_nil))) (pa_cons (pe_lst pa_nil) (pa_cons (pe_lst pa_nil) pa_nil)))) (pg_tup (by rfl) (pgs_cons (pg_name (i := 3) nd rfl (.inl rfl)) (pgs_cons (pg_name (i := 4) nd rfl (.inl rfl)) (pgs_cons (pg_name (i := 5) nd rfl (.inr rfl)) pgs_nil)))))
  (pss_cons (ps_for PassesOwn.never rfl (pi_range1 (by rfl) m.range (pa_cons (pe_callC c_take (hr.mono (by decide)) (pa_cons (pv 0) (pa_cons (pe_op op_add (pe_op op_mul (pe_ix ix_list (pe_lst (pa_cons pe_int (pa_cons pe_int pa_nil))) (pe_callC c_take (hr.mono (by decide)) (pa_cons (pv 0) (pa_cons pe_int pa_nil))) (fun _ _ => rfl)) (pe_callB call_len_seq (by rfl) m.len (by decide +kernel) (pa_cons (pv 2) pa_nil))) pe_int) pa_nil))) pa_nil)) (pg_name (i := 6) nd rfl (.inl rfl))
   (pss_cons (ps_set (i := 7) nd rfl (.inl rfl) (pe_callC c_take (hr.mono (by decide)) (pa_cons (pv 0) (pa_cons (pe_callB call_len_seq (by rfl) m.len (by decide +kernel) (pa_cons (pv 3) pa_nil)) pa_nil))))
  (pss_one (ps_expr (pe_bm PySem.F.plainAttrs_list PySem.F.slot_list_extend PySem.F.type_list_extend mt_extend (pv 4) (pa_cons (pe_lst (pa_cons (pe_tup (pa_cons (pe_ix ix_list (pv 3) (pv 7) (fun _ _ => rfl)) (pa_cons (pe_ix ix_list (pv 3) (pe_callC c_take (hr.mono (by decide)) (pa_cons (pv 0) (pa_cons (pe_op op_add (pv 7) pe_int) pa_nil))) (fun _ _ => rfl)) pa_nil))) pa_nil)) pa_nil))))))
  (pss_cons (ps_setLc (i := 4) (own := [("_law_peg", 8), ("_law_needed", 9)]) (g := gTup K 2 (gCons (gName 8) (gCons (gName 9) gNil))) rfl nd rfl rfl (sw_true rfl rfl rfl (by decide +kernel)) (pi_list (pv 4)) (blkOk_by (N := ["_law_box_here", "_law_most", "_law_pegs", "_law_order", "_law_wants", "_law_blocks", "_law_turn", "_law_late", "_law_peg", "_law_needed", "_law_rows_here", "_law_pair", "_law_dead", "_law_prices"]) (sc := defScope sParts) (by decide +kernel)) (fun _ _ _ _ _ => (pg_tupK (K := K) rfl (by rfl) (pgs_cons (pg_name (i := 8) nd rfl (.inl rfl)) (pgs_cons (pg_name (i := 9) nd rfl (.inl rfl)) pgs_nil)))) (fun _ _ _ _ _ => pts_one (pt_cmpR op_ne (pv 8) (pv 9) (nomark _))) (fun _ _ _ _ _ => (pe_tup (pa_cons (pv 8) (pa_cons (pv 9) pa_nil)))))
  (pss_cons (ps_set (i := 10) nd rfl (.inr rfl) (pe_callC c_rows (hr.mono (by decide)) (pa_cons (pv 2) (pa_cons (pv 4) pa_nil))))
  (pss_cons (ps_for PassesOwn.never rfl (pi_range1 (by rfl) m.range (pa_cons (pe_callC c_take (hr.mono (by decide)) (pa_cons (pv 0) (pa_cons (pe_op op_add (pe_op op_mul (pe_ix ix_list (pe_lst (pa_cons pe_int (pa_cons pe_int pa_nil))) (pe_callC c_take (hr.mono (by decide)) (pa_cons (pv 0) (pa_cons pe_int pa_nil))) (fun _ _ => rfl)) (pe_callB call_len_seq (by rfl) m.len (by decide +kernel) (pa_cons (pv 2) pa_nil))) pe_int) pa_nil))) pa_nil)) (pg_name (i := 6) nd rfl (.inl rfl))
   (pss_cons (ps_set (i := 11) nd rfl (.inr rfl) (pe_tup (pa_cons (pe_ix ix_list (pv 2) (pe_callC c_take (hr.mono (by decide)) (pa_cons (pv 0) (pa_cons (pe_callB call_len_seq (by rfl) m.len (by decide +kernel) (pa_cons (pv 2) pa_nil)) pa_nil))) (fun _ _ => rfl)) (pa_cons (pe_ix ix_list (pv 2) (pe_callC c_take (hr.mono (by decide)) (pa_cons (pv 0) (pa_cons (pe_callB call_len_seq (by rfl) m.len (by decide +kernel) (pa_cons (pv 2) pa_nil)) pa_nil))) (fun _ _ => rfl)) pa_nil))))
  (pss_cons (ps_setLc (i := 12) (own := [("_law_peg", 8)]) (g := gName 8) rfl nd rfl rfl (sw_true rfl rfl rfl (by decide +kernel)) (pi_list (pv 2)) (blkOk_by (N := ["_law_box_here", "_law_most", "_law_pegs", "_law_order", "_law_wants", "_law_blocks", "_law_turn", "_law_late", "_law_peg", "_law_needed", "_law_rows_here", "_law_pair", "_law_dead", "_law_prices"]) (sc := defScope sParts) (by decide +kernel)) (fun _ _ _ _ _ => (pg_name (i := 8) nd rfl (.inl rfl))) (fun _ _ _ _ _ => pts_one (pt_val (pe_callC c_is_barred (hr.mono (by decide)) (pa_cons (pe_dget (hu_of hr) (pv 10) (pv 8) (fun _ _ => rfl)) (pa_cons (pe_dget (hu_of hr) (pv 10) (pv 8) (fun _ _ => rfl)) (pa_cons (pe_op op_cat (pv 5) (pe_lst (pa_cons (pv 11) pa_nil))) pa_nil)))))) (fun _ _ _ _ _ => (pv 8)))
  (pss_one (ps_if (PW.pt (pw_and (pt_cmpR op_ne (pe_ix ix_tup (pv 11) pe_int (fun _ _ => rfl)) (pe_ix ix_tup (pv 11) pe_int (fun _ _ => rfl)) (nomark _)) (pw_and1 (pt_cmpR (op_eqE hr.units) (pv 12) (pe_lst pa_nil) (nomark _))))) (pss_one (ps_expr (pe_bm PySem.F.plainAttrs_list PySem.F.slot_list_append PySem.F.type_list_append mt_append (pv 5) (pa_cons (pv 11) pa_nil)))) pss_nil)))))
  (pss_cons (ps_setLc (i := 13) (own := [("_law_peg", 8)]) (g := gName 8) (tt := tYes) rfl nd rfl rfl (sw_true rfl rfl rfl (by decide +kernel)) (pi_list (pv 2)) (blkOk_by (N := ["_law_box_here", "_law_most", "_law_pegs", "_law_order", "_law_wants", "_law_blocks", "_law_turn", "_law_late", "_law_peg", "_law_needed", "_law_rows_here", "_law_pair", "_law_dead", "_law_prices"]) (sc := defScope sParts) (by decide +kernel)) (fun _ _ _ _ _ => (pg_name (i := 8) nd rfl (.inl rfl))) (fun _ _ _ _ _ => pts_nil) (fun _ _ _ _ _ => (pe_op op_add pe_int (pe_callC c_take (hr.mono (by decide)) (pa_cons (pv 0) (pa_cons (pe_ix (ix_listK (K := K) rfl) (pe_lst (pa_cons pe_int (pa_cons pe_int (pa_cons pe_int pa_nil)))) (pe_callC c_take (hr.mono (by decide)) (pa_cons (pv 0) (pa_cons pe_int pa_nil))) (fun _ _ => rfl)) pa_nil))))))
  (pss_one (ps_ret (pe_tup (pa_cons (pe_callTy call_tuple_of (by rfl) m.tuple (by decide +kernel) (pa_cons (pv 2) pa_nil)) (pa_cons (pe_callTy call_tuple_of (by rfl) m.tuple (by decide +kernel) (pa_cons (pv 4) pa_nil)) (pa_cons (pe_callTy call_tuple_of (by rfl) m.tuple (by decide +kernel) (pa_cons (pv 5) pa_nil)) (pa_cons (pe_callTy call_tuple_of (by rfl) m.tuple (by decide +kernel) (pa_cons (pv 13) pa_nil)) pa_nil)))))))))))))), ?_⟩
    -- pegs
    have pw : (13 : Int) < 2 ^ 100 := by decide
    refine ⟨_, rfl, _, rfl, _, rfl, _, _, rfl, rfl, b, x, y, z, (most : Int) + 1, rfl, hb, by omega, by omega, fun r x1 y1 z1 r0 r1 => ?_⟩
    obtain ⟨k, rfl⟩ : ∃ k : Nat, r = (k : Int) := ⟨r.toNat, by omega⟩
    refine ⟨b, x1, y1, z1, k, rfl, upd_same, by omega, fun pa H1 x2 y2 z2 pegs nP B1 hb1 hP hnd hnm hlen _ => ?_⟩
    have BU1 : But b H H1 := But.upd.trans B1
    have nPb : pa ≠ b := fun z => by rw [z, upd_same] at nP; cases nP
    have HP : H pa = none := by rw [upd_ne nPb] at nP; exact nP
    -- order
    refine ⟨_, rfl, _, rfl, b, pa, x2, y2, z2, pegs.map V.str, rfl, hb1, .inl (SqL.of hP), by rw [List.length_map]; omega, fun O H2 x3 y3 z3 zs nO B2 hb2 hO hperm => ?_⟩
    obtain ⟨order, rfl, hord⟩ := perm_strs hperm
    have nOb : O ≠ b := (ne_of_none hb1 nO).symm
    have nOP : O ≠ pa := (ne_of_none hP nO).symm
    have BU2 : But b H H2 := BU1.trans B2
    have hP2 := B2 _ _ nPb hP
    have lo : order.length = pegs.length := hord.length_eq
    refine ⟨by show 0 ≤ sizeLine; decide, fun Wn hWn => ⟨by show 0 ≤ sizeLine; decide, fun Bl hBl => ⟨by show 3 ≤ sizeLine; decide, fun T hT => ?_⟩⟩⟩
    obtain ⟨nTB, hT2⟩ := upd_none hT
    obtain ⟨nTW, hT3⟩ := upd_none hT2
    obtain ⟨nBW, hBl2⟩ := upd_none hBl
    refine ⟨T, _, rfl, SqT.of upd_same, rfl, _, _, rfl, _, _, rfl, _, _, rfl, rfl, ?_⟩
    -- the loop of wants
    have nWb : Wn ≠ b := (ne_of_none hb2 hWn).symm
    have nBb : Bl ≠ b := (ne_of_none hb2 hBl2).symm
    have nWP : Wn ≠ pa := (ne_of_none hP2 hWn).symm
    have nBP : Bl ≠ pa := (ne_of_none hP2 hBl2).symm
    have nWO : Wn ≠ O := (ne_of_none hO hWn).symm
    have nBO : Bl ≠ O := (ne_of_none hO hBl2).symm
    refine ⟨_, rfl, by show 2 ≤ sizeLine; decide, fun L1 hL1 => ?_⟩
    obtain ⟨nL1T, hL1a⟩ := upd_none hL1
    have g : ∀ {a : Addr} {o : HO}, H2 a = some o → upd (upd (upd (upd H2 Wn (.lst [])) Bl (.lst [])) T (.tup [V.ref O, V.ref Wn, V.ref Bl])) L1 (.lst [V.int 1, V.int 2]) a = some o := fun {a o} h => Same.new hL1 _ _ (Same.new hT _ _ (Same.new hBl _ _ (Same.new hWn _ _ h)))
    refine ⟨_, rfl, b, x3, y3, z3, 2, rfl, g hb2, by decide, by decide, fun r1 x4 y4 z4 r10 r11 => ?_⟩
    obtain ⟨k1, e1, k1a, k1b⟩ := pick2 r10 r11
    have nL1b : L1 ≠ b := (ne_of_none (Same.new hT _ _ (Same.new hBl _ _ (Same.new hWn _ _ hb2))) hL1).symm
    refine ⟨L1, _, _, _, rfl, rfl, SqL.of ((upd_ne nL1b).trans upd_same), e1, ?_⟩
    refine ⟨_, rfl, pa, _, rfl, .inl (SqL.of ((upd_ne nPb).trans (g hP2))), ?_⟩
    refine ⟨_, _, rfl, rfl, .inl ⟨by omega, by omega⟩, ?_⟩
    refine ⟨_, _, rfl, rfl, ?_⟩
    have len1 : (pegs.map V.str).length = pegs.length := List.length_map _
    have kl : k1 * pegs.length ≤ 24 := Nat.le_trans (Nat.mul_le_mul k1b (show pegs.length ≤ 12 by omega)) (by decide)
    have em : (k1 : Int) * ((pegs.map V.str).length : Int) + 1 = ((k1 * pegs.length + 1 : Nat) : Int) := by rw [len1]; push_cast; rfl
    have p25 : (25 : Int) < 2 ^ 100 := by decide
    refine ⟨b, x4, y4, z4, ((k1 * pegs.length + 1 : Nat) : Int), by show [V.ref b, V.int ((k1 : Int) * ((pegs.map V.str).length : Int) + 1)] = _; rw [em], upd_same, by omega, by omega, fun r2 x5 y5 z5 r20 r21 => ?_⟩
    obtain ⟨n2, rfl⟩ : ∃ k : Nat, r2 = (k : Int) := ⟨r2.toNat, by omega⟩
    have n2l : n2 ≤ k1 * pegs.length := by omega
    refine ⟨_, rfl, by omega, by omega, for_range (n := ((n2 : Nat) : Int).toNat) (fun t σ H' => ∃ (x y z : Int) (W0 : List (Str × Str)) (wa : List Addr) (s6 s7 : Option V), σ = [some (.ref b), some (vN most), some (.ref pa), some (.ref O), some (.ref Wn), some (.ref Bl), s6, s7, none, none, none, none, none, none] ∧
      H' b = some (bx x y z) ∧ But b H H' ∧ H' pa = some (.lst (pegs.map V.str)) ∧ H' O = some (.lst (order.map V.str)) ∧ H' Wn = some (.lst (wa.map V.ref)) ∧ PairsAt K H' wa W0 ∧ H' Bl = some (.lst []) ∧ W0.length = t ∧ ∀ w ∈ W0, Late order w) ?_ ?_ ?_⟩
    · refine ⟨x5, y5, z5, [], [], _, _, rfl, upd_same, ?_, ?_, ?_, ?_, .nil, ?_, rfl, fun w hw => by cases hw⟩
      · exact ((((((BU2.trans (But.of (Same.new hWn))).trans (But.of (Same.new hBl))).trans (But.of (Same.new hT))).trans (But.of (Same.new hL1))).trans But.upd)).trans But.upd
      · rw [upd_ne nPb, upd_ne nPb]; exact g hP2
      · rw [upd_ne nOb, upd_ne nOb]; exact g hO
      · rw [upd_ne nWb, upd_ne nWb]; exact Same.new hL1 _ _ (Same.new hT _ _ (Same.new hBl _ _ upd_same))
      · rw [upd_ne nBb, upd_ne nBb]; exact Same.new hL1 _ _ (Same.new hT _ _ upd_same)
    · rintro t σ H3 ht ⟨x6, y6, z6, W0, wa, s6, s7, rfl, hb3, BU3, hP3, hO3, hW3, hw3, hB3, hl3, hL3⟩
      have t2 : t < n2 := by simpa using ht
      have lpos : 1 ≤ order.length := by
        rcases Nat.eq_zero_or_pos order.length with z | z
        · rw [lo] at z
          rw [z] at n2l
          omega
        · exact z
      have l12 : order.length ≤ 12 := by omega
      have lenO : (order.map V.str).length = order.length := List.length_map _
      have p12 : (12 : Int) < 2 ^ 100 := by decide
      refine ⟨_, rfl, _, rfl, O, _, rfl, .inl (SqL.of hO3), b, x6, y6, z6, ((order.length : Nat) : Int), by rw [lenO]; rfl, hb3, by omega, by omega, fun r3 x7 y7 z7 r30 r31 => ?_⟩
      obtain ⟨i, rfl⟩ : ∃ k : Nat, r3 = (k : Int) := ⟨r3.toNat, by omega⟩
      have hi : i < order.length := by omega
      refine ⟨_, rfl, .inl ⟨rfl, _, SqL.of ((upd_ne nWb).trans hW3)⟩, ?_⟩
      refine ⟨_, rfl, _, rfl, O, _, _, .str order[i], rfl, rfl, SqL.of ((upd_ne nOb).trans hO3), atI_nat (by rw [List.getElem?_map, List.getElem?_eq_getElem hi]; rfl), ?_⟩
      refine ⟨_, rfl, _, rfl, _, rfl, _, _, rfl, rfl, b, x7, y7, z7, ((i + 1 : Nat) : Int), rfl, upd_same, by omega, by omega, fun r4 x8 y8 z8 r40 r41 => ?_⟩
      obtain ⟨k, rfl⟩ : ∃ k : Nat, r4 = (k : Int) := ⟨r4.toNat, by omega⟩
      have hk : k < order.length := by omega
      rw [upd_upd]
      refine ⟨O, _, _, .str order[k], rfl, rfl, SqL.of ((upd_ne nOb).trans hO3), atI_nat (by rw [List.getElem?_map, List.getElem?_eq_getElem hk]; rfl), by show 2 ≤ sizeLine; decide, fun T2 hT2' => ?_⟩
      refine ⟨by show 1 ≤ sizeLine; decide, fun L2 hL2 => ?_⟩
      obtain ⟨nT2b, hT2a⟩ := upd_none hT2'
      obtain ⟨nLT, hL2a⟩ := upd_none hL2
      obtain ⟨nL2b, hL2b⟩ := upd_none hL2a
      have nT2W : T2 ≠ Wn := (ne_of_none hW3 hT2a).symm
      have nL2W : L2 ≠ Wn := (ne_of_none hW3 hL2b).symm
      have S5 : Same (upd H3 b (bx x8 y8 z8)) (upd (upd (upd H3 b (bx x8 y8 z8)) T2 (.tup [.str order[i], .str order[k]])) L2 (.lst [.ref T2])) := (Same.new hT2').trans (Same.new hL2)
      have hW5 := S5 _ _ ((upd_ne nWb).trans hW3)
      have wl : wa.length = t := (paired_len hw3).trans hl3
      refine ⟨Wn, L2, _, _, rfl, rfl, hW5, upd_same, ?_, ?_⟩
      · rw [List.length_map, wl]
        exact Nat.le_of_lt (small1000 (by show t + 1 ≤ 1000; omega))
      have F5 : Fr H3 (upd (upd (upd (upd H3 b (bx x8 y8 z8)) T2 (.tup [.str order[i], .str order[k]])) L2 (.lst [.ref T2])) Wn (.lst (wa.map V.ref ++ [.ref T2]))) := ((Fr.lst hb3).trans (Fr.of S5)).trans (Fr.lst hW5)
      refine ⟨x8, y8, z8, W0 ++ [(order[i], order[k])], wa ++ [T2], _, _, rfl, ?_, ?_, ?_, ?_, ?_, ?_, ?_, ?_, ?_⟩
      · rw [upd_ne nWb.symm]; exact S5 _ _ upd_same
      · exact But.fresh ((BU3.trans But.upd).trans (But.of S5)) (by
          cases e : H Wn with
          | none => rfl
          | some o =>
            have := BU2 _ _ nWb e
            rw [hWn] at this
            cases this)
      · rw [upd_ne nWP.symm]; exact S5 _ _ ((upd_ne nPb).trans hP3)
      · rw [upd_ne nWO.symm]; exact S5 _ _ ((upd_ne nOb).trans hO3)
      · rw [upd_same, List.map_append]; rfl
      · refine Paired.snoc (F5.pairs hw3) (SqT.of ?_)
        rw [upd_ne nT2W, upd_ne nLT.symm, upd_same]
      · rw [upd_ne nBW]; exact S5 _ _ ((upd_ne nBb).trans hB3)
      · rw [List.length_append, hl3]; rfl
      · intro w hw
        rcases List.mem_append.mp hw with h | h
        · exact hL3 w h
        · cases List.mem_singleton.mp h
          exact ⟨i, k, List.getElem?_eq_getElem hi, List.getElem?_eq_getElem hk, by omega⟩
    · rintro σ H3 ⟨x6, y6, z6, W0, wa, s6, s7, rfl, hb3, BU3, hP3, hO3, hW3, hw3, hB3, hl3, hL3⟩
      have wl : wa.length = W0.length := paired_len hw3
      refine ⟨_, rfl, Wn, rfl, ⟨_, SqL.of hW3⟩, fun D hD => ?_⟩
      have nDb : D ≠ b := (ne_of_none hb3 hD).symm
      have nDP : D ≠ pa := (ne_of_none hP3 hD).symm
      have nDB : D ≠ Bl := (ne_of_none hB3 hD).symm
      refine lc_rel (walk_list (xs := wa.map V.ref)) hD W0 (fun w => decide (w.1 ≠ w.2)) (fun H v w => ∃ T : Addr, v = .ref T ∧ SqT K H T [.str w.1, .str w.2]) (fun s ⟨T, e, h⟩ => ⟨T, e, Same.sqT s h⟩) (by rw [List.length_map, wl]) (by rw [List.length_map, wl, hl3]; show n2 ≤ 1000; omega) (fun H4 S => S.seq (SqL.of hW3)) ?_ ?_
      · rintro i w0 x H4 H5 hi S nD ⟨rfl, hx⟩ NT NF yes no
        obtain ⟨T', rfl, hT'⟩ := ref_at hx
        obtain ⟨w1, hw1, hTw⟩ := paired_at hw3 hT'
        rw [hi] at hw1
        cases hw1
        refine ⟨T', _, rfl, Same.sqT S hTw, rfl, _, _, rfl, _, _, rfl, rfl, rfl, ?_⟩
        refine ⟨_, rfl, _, rfl, rfl, _, rfl, ?_⟩
        by_cases c : w0.1 = w0.2
        · rw [decide_eq_true (show V.str w0.1 = V.str w0.2 by rw [c])]
          exact iteF (no _ (Same.refl _) (decide_eq_false fun z => z c))
        · rw [decide_eq_false (show ¬ V.str w0.1 = V.str w0.2 from fun z => c (V.str.inj z))]
          refine iteT ⟨_, rfl, _, rfl, by show 2 ≤ sizeLine; decide, fun T3 hT3 => ?_⟩
          refine yes _ _ (Same.new hT3) ⟨T3, rfl, SqT.of ?_⟩ (decide_eq_true c)
          rw [hide_ne (fun z => by rw [z] at hT3; exact nD hT3), upd_same]
      · intro H4 ys S4 hD4 hys
        obtain ⟨ns, rfl, hns⟩ := paired_refs hys
        have hWp : ∀ w ∈ W0.filter (fun w => decide (w.1 ≠ w.2)), w.1 ∈ pegs ∧ w.2 ∈ pegs ∧ w.1 ≠ w.2 := fun w hw => by
          obtain ⟨h1, h2⟩ := List.mem_filter.mp hw
          obtain ⟨i, j, e1, e2, _⟩ := hL3 w h1
          exact ⟨hord.subset (mem_of_at e1), hord.subset (mem_of_at e2), of_decide_eq_true h2⟩
        have hRk : Ranked (W0.filter fun w => decide (w.1 ≠ w.2)) pegs := ranked_of_order hord hnd fun w hw => by
          obtain ⟨h1, h2⟩ := List.mem_filter.mp hw
          obtain ⟨i, j, e1, e2, h3⟩ := hL3 w h1
          refine ⟨i, j, e1, e2, Nat.lt_of_le_of_ne h3 fun z => ?_⟩
          rw [z, e1] at e2
          exact of_decide_eq_true h2 (Option.some.inj e2)
        have lW : (W0.filter fun w => decide (w.1 ≠ w.2)).length ≤ 24 := Nat.le_trans (List.length_filter_le _ _) (by rw [hl3]; show n2 ≤ 24; omega)
        generalize W0.filter (fun w => decide (w.1 ≠ w.2)) = W at hns hWp hRk lW
        have hW2 : ∀ w ∈ W, w.1 ∈ pegs ∧ w.2 ∈ pegs := fun w hw => ⟨(hWp w hw).1, (hWp w hw).2.1⟩
        have hb4 := S4 _ _ hb3
        have hP4 := S4 _ _ hP3
        have hB4 := S4 _ _ hB3
        have BU4 : But b H H4 := BU3.trans (But.of S4)
        -- the rows
        refine ⟨_, rfl, _, rfl, pa, D, true, true, pegs, W, ns, rfl, SqL.of hP4, SqL.of hD4, hns, hnd, by omega, by omega, hW2, hRk, fun R H5 ad S5 nR hR hrw => ?_⟩
        have hb5 := S5 _ _ hb4
        have hP5 := S5 _ _ hP4
        have hB5 := S5 _ _ hB4
        have hD5 := S5 _ _ hD4
        have hns5 := PairsAt.same hns S5
        have BU5 : But b H H5 := BU4.trans (But.of S5)
        -- the loop of bars
        refine ⟨_, rfl, by show 2 ≤ sizeLine; decide, fun L3 hL3' => ?_⟩
        have nL3b : L3 ≠ b := (ne_of_none hb5 hL3').symm
        refine ⟨_, rfl, b, x6, y6, z6, 2, rfl, Same.new hL3' _ _ hb5, by decide, by decide, fun r1 x7 y7 z7 r10 r11 => ?_⟩
        obtain ⟨k2, e2, k2a, k2b⟩ := pick2 r10 r11
        refine ⟨L3, _, _, _, rfl, rfl, SqL.of ((upd_ne nL3b).trans upd_same), e2, ?_⟩
        refine ⟨_, rfl, pa, _, rfl, .inl (SqL.of ((upd_ne nPb).trans (Same.new hL3' _ _ hP5))), ?_⟩
        refine ⟨_, _, rfl, rfl, .inl ⟨by omega, by omega⟩, ?_⟩
        refine ⟨_, _, rfl, rfl, ?_⟩
        have kl2 : k2 * pegs.length ≤ 24 := Nat.le_trans (Nat.mul_le_mul k2b (show pegs.length ≤ 12 by omega)) (by decide)
        have em2 : (k2 : Int) * ((pegs.map V.str).length : Int) + 1 = ((k2 * pegs.length + 1 : Nat) : Int) := by rw [len1]; push_cast; rfl
        refine ⟨b, x7, y7, z7, ((k2 * pegs.length + 1 : Nat) : Int), by show [V.ref b, V.int ((k2 : Int) * ((pegs.map V.str).length : Int) + 1)] = _; rw [em2], upd_same, by omega, by omega, fun r2 x8 y8 z8 r20 r21 => ?_⟩
        obtain ⟨n4, rfl⟩ : ∃ k : Nat, r2 = (k : Int) := ⟨r2.toNat, by omega⟩
        have n4l : n4 ≤ k2 * pegs.length := by omega
        have F5 : Fr H5 (upd (upd (upd H5 L3 (.lst [V.int 1, V.int 2])) b (bx x7 y7 z7)) b (bx x8 y8 z8)) := ((Fr.new hL3').trans (Fr.lst (Same.new hL3' _ _ hb5))).trans (Fr.lst upd_same)
        refine ⟨_, rfl, by omega, by omega, for_range (n := ((n4 : Nat) : Int).toNat) (fun t σ H' => ∃ (x y z : Int) (B0 : List (Str × Str)) (ba : List Addr) (s6 s7 s11 s12 : Option V), σ = [some (.ref b), some (vN most), some (.ref pa), some (.ref O), some (.ref D), some (.ref Bl), s6, s7, none, none, some (.ref R), s11, s12, none] ∧
          H' b = some (bx x y z) ∧ But b H H' ∧ Fr H5 H' ∧ H' pa = some (.lst (pegs.map V.str)) ∧ H' D = some (.lst (ns.map V.ref)) ∧ H' Bl = some (.lst (ba.map V.ref)) ∧ PairsAt K H' ba B0 ∧ B0.length ≤ t ∧ (∀ w ∈ B0, w.1 ∈ pegs ∧ w.2 ∈ pegs ∧ w.1 ≠ w.2) ∧
          ∀ p a c, Reach W p a → Reach W p c → (a, c) ∈ B0 → False) ?_ ?_ ?_⟩
        · refine ⟨x8, y8, z8, [], [], _, _, _, _, rfl, upd_same, ?_, F5, ?_, ?_, ?_, .nil, Nat.zero_le _, (fun w hw => by cases hw), (fun _ _ _ _ _ h => by cases h)⟩
          · exact ((BU5.trans (But.of (Same.new hL3'))).trans But.upd).trans But.upd
          · rw [upd_ne nPb, upd_ne nPb]; exact Same.new hL3' _ _ hP5
          · rw [upd_ne nDb, upd_ne nDb]; exact Same.new hL3' _ _ hD5
          · rw [upd_ne nBb, upd_ne nBb]; exact Same.new hL3' _ _ hB5
        · rintro t σ H6 ht ⟨x9, y9, z9, B0, ba, s6, s7, s11, s12, rfl, hb6, BU6, F6, hP6, hD6, hB6, hba6, hl6, hin6, hal6⟩
          have t4 : t < n4 := by simpa using ht
          have lpos : 1 ≤ pegs.length := by
            rcases Nat.eq_zero_or_pos pegs.length with z | z
            · rw [z] at n4l
              omega
            · exact z
          have p12 : (12 : Int) < 2 ^ 100 := by decide
          -- the pair
          refine ⟨_, rfl, _, rfl, _, rfl, pa, _, rfl, .inl (SqL.of hP6), b, x9, y9, z9, ((pegs.length : Nat) : Int), by rw [len1]; rfl, hb6, by omega, by omega, fun r3 xa ya za r30 r31 => ?_⟩
          obtain ⟨i, rfl⟩ : ∃ k : Nat, r3 = (k : Int) := ⟨r3.toNat, by omega⟩
          have hi : i < pegs.length := by omega
          refine ⟨pa, _, _, .str pegs[i], rfl, rfl, SqL.of ((upd_ne nPb).trans hP6), atI_nat (by rw [List.getElem?_map, List.getElem?_eq_getElem hi]; rfl), ?_⟩
          refine ⟨_, rfl, _, rfl, _, rfl, pa, _, rfl, .inl (SqL.of ((upd_ne nPb).trans hP6)), b, xa, ya, za, ((pegs.length : Nat) : Int), by rw [len1]; rfl, upd_same, by omega, by omega, fun r4 xb yb zb r40 r41 => ?_⟩
          obtain ⟨j, rfl⟩ : ∃ k : Nat, r4 = (k : Int) := ⟨r4.toNat, by omega⟩
          have hj : j < pegs.length := by omega
          rw [upd_upd]
          refine ⟨pa, _, _, .str pegs[j], rfl, rfl, SqL.of ((upd_ne nPb).trans hP6), atI_nat (by rw [List.getElem?_map, List.getElem?_eq_getElem hj]; rfl), by show 2 ≤ sizeLine; decide, fun Tp hTp => ?_⟩
          obtain ⟨nTb, hTa⟩ := upd_none hTp
          have S7 : Same (upd H6 b (bx xb yb zb)) (upd (upd H6 b (bx xb yb zb)) Tp (.tup [.str pegs[i], .str pegs[j]])) := Same.new hTp
          have hb7 : (upd (upd H6 b (bx xb yb zb)) Tp (.tup [.str pegs[i], .str pegs[j]])) b = some (bx xb yb zb) := S7 _ _ upd_same
          have hP7 := S7 _ _ ((upd_ne nPb).trans hP6)
          have hD7 := S7 _ _ ((upd_ne nDb).trans hD6)
          have hB7 := S7 _ _ ((upd_ne nBb).trans hB6)
          have F67 : Fr H6 (upd (upd H6 b (bx xb yb zb)) Tp (.tup [.str pegs[i], .str pegs[j]])) := (Fr.lst hb6).trans (Fr.of S7)
          have F7 := F6.trans F67
          have hba7 := F67.pairs hba6
          have BU7 : But b H (upd (upd H6 b (bx xb yb zb)) Tp (.tup [.str pegs[i], .str pegs[j]])) := (BU6.trans But.upd).trans (But.of S7)
          have hT7 : (upd (upd H6 b (bx xb yb zb)) Tp (.tup [.str pegs[i], .str pegs[j]])) Tp = some (.tup [.str pegs[i], .str pegs[j]]) := upd_same
          generalize upd (upd H6 b (bx xb yb zb)) Tp (.tup [.str pegs[i], .str pegs[j]]) = H7 at S7 hb7 hP7 hD7 hB7 F67 F7 hba7 BU7 hT7
          have hR7 := F7 _ _ hR (fun _ z => nomatch z)
          have hrw7 : ∀ p ∈ pegs, H7 (ad p) = some (.tup ((rowOf W pegs p).map V.str)) := fun p hp => F7 _ _ (hrw p hp) (fun _ z => nomatch z)
          have bl6 : ba.length = B0.length := paired_len hba6
          have lB : B0.length ≤ 24 := by omega
          -- dead
          refine ⟨_, rfl, pa, rfl, ⟨_, SqL.of hP7⟩, fun Dd hDd => ?_⟩
          refine lc_val (walk_list (xs := pegs.map V.str)) hDd pegs (fun s => barB (rowOf W pegs s) (rowOf W pegs s) (B0 ++ [(pegs[i], pegs[j])])) V.str (by rw [List.length_map]) (by rw [List.length_map]; omega) (fun H8 S8 => S8.seq (SqL.of hP7)) ?_ ?_
          · rintro k s x H8 H9 hk S8 nD ⟨rfl, hx⟩ NT NF yes no
            obtain ⟨u, rfl, hu⟩ := str_at hx
            rw [hk] at hu
            cases hu
            have ms := mem_of_at hk
            have g : DGet H9 R (.str s) (some (.ref (ad s))) := .inl ⟨_, kS s, .inl (S8 _ _ hR7), rfl, (valV_byPeg (f := fun p => V.ref (ad p)) ms).symm⟩
            refine ⟨rfl, _, rfl, _, rfl, R, _, rfl, g, _, rfl, _, rfl, R, _, rfl, g, ?_⟩
            refine ⟨_, rfl, _, rfl, by show 1 ≤ sizeLine; decide, fun L4 hL4 => ?_⟩
            refine ⟨Bl, L4, _, _, rfl, rfl, Same.new hL4 _ _ (S8 _ _ hB7), upd_same, ?_, fun L5 hL5 => ?_⟩
            · rw [List.length_map, bl6]
              exact Nat.le_of_lt (small1000 (by show B0.length + 1 ≤ 1000; omega))
            have S10 : Same H7 (upd (upd H9 L4 (.lst [.ref Tp])) L5 (.lst (ba.map V.ref ++ [.ref Tp]))) := (S8.trans (Same.new hL4)).trans (Same.new hL5)
            have S9 : Same H9 (upd (upd H9 L4 (.lst [.ref Tp])) L5 (.lst (ba.map V.ref ++ [.ref Tp]))) := (Same.new hL4).trans (Same.new hL5)
            refine ⟨ad s, ad s, L5, false, false, true, rowOf W pegs s, rowOf W pegs s, B0 ++ [(pegs[i], pegs[j])], ba ++ [Tp], rfl, SqT.of (S10 _ _ (hrw7 s ms)), SqT.of (S10 _ _ (hrw7 s ms)), SqL.of (by rw [upd_same, List.map_append]; rfl), ?_, ?_, fun H11 S11 => ?_⟩
            · exact Paired.snoc (PairsAt.same hba7 S10) (SqT.of (S10 _ _ hT7))
            · rw [List.length_append]
              show B0.length + 1 ≤ 900
              omega
            · refine ⟨_, rfl, ?_⟩
              cases c : barB (rowOf W pegs s) (rowOf W pegs s) (B0 ++ [(pegs[i], pegs[j])]) with
              | true => exact iteT ⟨_, rfl, yes _ (S9.trans S11) c⟩
              | false => exact iteF (no _ (S9.trans S11) c)
          · intro H8 S8 hd8
            have hD8 : Dd ≠ b := (ne_of_none hb7 hDd).symm
            refine ⟨_, rfl, Tp, _, _, .str pegs[i], rfl, rfl, SqT.of (S8 _ _ hT7), atI_nat (j := 0) rfl, ?_⟩
            refine ⟨_, rfl, Tp, _, _, .str pegs[j], rfl, rfl, SqT.of (S8 _ _ hT7), atI_nat (j := 1) rfl, rfl, _, rfl, ?_⟩
            -- what stays without the new bar
            have stay : ∀ (s11 s12 : Option V) (H9 : Hp), Same H8 H9 → ∃ (x y z : Int) (B1 : List (Str × Str)) (ba1 : List Addr) (s6' s7' s11' s12' : Option V), [some (.ref b), some (vN most), some (.ref pa), some (.ref O), some (.ref D), some (.ref Bl), some (V.int (0 + (t : Int))), s7, none, none, some (.ref R), s11, s12, none] = [some (.ref b), some (vN most), some (.ref pa), some (.ref O), some (.ref D), some (.ref Bl), s6', s7', none, none, some (.ref R), s11', s12', none] ∧
                H9 b = some (bx x y z) ∧ But b H H9 ∧ Fr H5 H9 ∧ H9 pa = some (.lst (pegs.map V.str)) ∧ H9 D = some (.lst (ns.map V.ref)) ∧ H9 Bl = some (.lst (ba1.map V.ref)) ∧ PairsAt K H9 ba1 B1 ∧ B1.length ≤ t + 1 ∧ (∀ w ∈ B1, w.1 ∈ pegs ∧ w.2 ∈ pegs ∧ w.1 ≠ w.2) ∧
                ∀ p a c, Reach W p a → Reach W p c → (a, c) ∈ B1 → False := fun s11 s12 H9 S9 => by
              have S := S8.trans S9
              exact ⟨xb, yb, zb, B0, ba, _, _, _, _, rfl, S _ _ hb7, BU7.trans (But.of S), F7.trans (Fr.of S), S _ _ hP7, S _ _ hD7, S _ _ hB7, PairsAt.same hba7 S, by omega, hin6, hal6⟩
            by_cases c : pegs[i] = pegs[j]
            · rw [decide_eq_true (show V.str pegs[i] = V.str pegs[j] by rw [c])]
              exact iteF (stay _ _ H8 (Same.refl _))
            · rw [decide_eq_false (show ¬ V.str pegs[i] = V.str pegs[j] from fun z => c (V.str.inj z))]
              refine iteT ?_
              refine ⟨_, rfl, by show 0 ≤ sizeLine; decide, fun L6 hL6 => ?_⟩
              refine ⟨Dd, L6, _, rfl, rfl, SqL.of (Same.new hL6 _ _ hd8), SqL.of upd_same, _, rfl, ?_⟩
              have S6 : Same H8 (upd H8 L6 (.lst [])) := Same.new hL6
              cases hdead : pegs.filter (fun s => barB (rowOf W pegs s) (rowOf W pegs s) (B0 ++ [(pegs[i], pegs[j])])) with
              | cons s ss => exact iteF (stay _ _ _ S6)
              | nil =>
                refine iteT ?_
                have S := S8.trans S6
                refine ⟨_, rfl, .inl ⟨rfl, _, SqL.of (S _ _ hB7)⟩, ?_⟩
                refine ⟨_, rfl, Bl, _, _, rfl, rfl, S _ _ hB7, by rw [List.length_map, bl6]; exact small1000 (by omega), ?_⟩
                have F9 : Fr H7 (upd (upd H8 L6 (.lst [])) Bl (.lst (ba.map V.ref ++ [.ref Tp]))) := (Fr.of S).trans (Fr.lst (S _ _ hB7))
                have HBl : H Bl = none := by
                  cases e : H Bl with
                  | none => rfl
                  | some o =>
                    have := BU2 _ _ nBb e
                    rw [hBl2] at this
                    cases this
                refine ⟨xb, yb, zb, B0 ++ [(pegs[i], pegs[j])], ba ++ [Tp], _, _, _, _, rfl, ?_, But.fresh (BU7.trans (But.of S)) HBl, F7.trans F9, ?_, ?_, ?_, ?_, ?_, ?_, ?_⟩
                · rw [upd_ne nBb.symm]; exact S _ _ hb7
                · rw [upd_ne nBP.symm]; exact S _ _ hP7
                · rw [upd_ne nDB]; exact S _ _ hD7
                · rw [upd_same, List.map_append]; rfl
                · exact Paired.snoc (F9.pairs hba7) (F9.sqT (SqT.of hT7))
                · rw [List.length_append]; show B0.length + 1 ≤ t + 1; omega
                · intro w hw
                  rcases List.mem_append.mp hw with h | h
                  · exact hin6 w h
                  · cases List.mem_singleton.mp h
                    exact ⟨List.getElem_mem hi, List.getElem_mem hj, c⟩
                · intro p a c' ra rc h
                  rcases List.mem_append.mp h with h | h
                  · exact hal6 p a c' ra rc h
                  · have h := List.mem_singleton.mp h
                    obtain ⟨rfl, rfl⟩ := Prod.mk.inj h
                    have hp : p ∈ pegs := by
                      cases ra with
                      | refl => exact List.getElem_mem hi
                      | step h _ => exact (hW2 _ h).1
                    have : p ∈ pegs.filter (fun s => barB (rowOf W pegs s) (rowOf W pegs s) (B0 ++ [(pegs[i], pegs[j])])) := by
                      refine List.mem_filter.mpr ⟨hp, ?_⟩
                      unfold barB
                      rw [List.any_eq_true]
                      refine ⟨(pegs[i], pegs[j]), List.mem_append_right _ (List.mem_singleton.mpr rfl), ?_⟩
                      unfold barP
                      rw [decide_eq_true (mem_rowOf.mpr ⟨List.getElem_mem hi, ra⟩), decide_eq_true (mem_rowOf.mpr ⟨List.getElem_mem hj, rc⟩)]
                      rfl
                    rw [hdead] at this
                    cases this
        · rintro σ H6 ⟨x9, y9, z9, B0, ba, s6, s7, s11, s12, rfl, hb6, BU6, F6, hP6, hD6, hB6, hba6, hl6, hin6, hal6⟩
          have lB : B0.length ≤ 24 := by
            have : ((n4 : Nat) : Int).toNat = n4 := by simp
            rw [this] at hl6
            omega
          -- prices
          refine ⟨_, rfl, pa, rfl, ⟨_, SqL.of hP6⟩, fun D4 hD4' => ?_⟩
          have nD4b : D4 ≠ b := (ne_of_none hb6 hD4').symm
          refine lc_it (walk_list (xs := pegs.map V.str)) (fun i H7 => ∃ (x y z : Int) (cs : List Int), H7 b = some (bx x y z) ∧ (∀ a o, a ≠ b → H6 a = some o → H7 a = some o) ∧ H7 D4 = some (.lst (cs.map V.int)) ∧ cs.length = i ∧ ∀ c ∈ cs, 1 ≤ c ∧ c ≤ 1000) ?_ ?_ ?_ ?_
          · exact ⟨x9, y9, z9, [], (upd_ne nD4b.symm).trans hb6, fun a o na h => (upd_ne (ne_of_none h hD4')).trans h, upd_same, rfl, fun c hc => by cases hc⟩
          · rintro i H7 hi ⟨x, y, z, cs, h1, h2, h3, h4, h5⟩
            exact SqL.of (h2 _ _ nPb hP6)
          · rintro i v H7 H8 hi ⟨x, y, z, cs, h1, h2, h3, h4, h5⟩ ⟨rfl, hv⟩
            rw [List.length_map] at hi
            refine ⟨rfl, ?_⟩
            refine ⟨_, rfl, by show 3 ≤ sizeLine; decide, fun L7 hL7 => ?_⟩
            have nL7b : L7 ≠ b := (ne_of_none h1 hL7).symm
            refine ⟨_, rfl, b, x, y, z, 3, rfl, Same.new hL7 _ _ h1, by decide, by decide, fun r1 xa ya za r10 r11 => ?_⟩
            obtain ⟨k3, e3, k3a, k3b⟩ := pick3 r10 r11
            refine ⟨L7, _, _, _, rfl, rfl, SqL.of ((upd_ne nL7b).trans upd_same), e3, ?_⟩
            have p1000 : (1000 : Int) < 2 ^ 100 := by decide
            refine ⟨b, xa, ya, za, (k3 : Int), rfl, upd_same, by omega, by omega, fun r2 xb yb zb r20 r21 => ?_⟩
            refine ⟨_, _, rfl, rfl, ?_⟩
            have nD4L : D4 ≠ L7 := ne_of_none h3 hL7
            refine ⟨_, (upd_ne nD4b).trans ((upd_ne nD4b).trans ((upd_ne nD4L).trans h3)), by rw [List.length_map, h4]; exact small1000 (by omega), xb, yb, zb, cs ++ [1 + r2], ?_, fun a o na h => ?_, ?_, ?_, ?_⟩
            · rw [upd_ne nD4b.symm, upd_same]
            · have h8 := h2 a o na h
              have na4 : a ≠ D4 := ne_of_none h hD4'
              rw [upd_ne na4, upd_ne na, upd_ne na, upd_ne (ne_of_none h8 hL7)]
              exact h8
            · rw [upd_same, List.map_append]; rfl
            · rw [List.length_append, h4]; rfl
            · intro c hc
              rcases List.mem_append.mp hc with h | h
              · exact h5 c h
              · cases List.mem_singleton.mp h
                omega
          · rintro H7 ⟨x, y, z, cs, h1, h2, h3, h4, h5⟩
            rw [List.length_map] at h4
            have BU7 : But b H H7 := fun a o na h => h2 a o na (BU6 a o na h)
            have F67 : Fr H6 H7 := fun a o h n => h2 a o (ne_of h hb6 (n _)) h
            have hP7 := h2 _ _ nPb hP6
            have hD7 := h2 _ _ nDb hD6
            have hB7 := h2 _ _ nBb hB6
            have hba7 := F67.pairs hba6
            have hns7 := (F6.trans F67).pairs hns5
            -- the tuples
            refine ⟨_, rfl, pa, _, rfl, .inl ⟨SqL.of hP7, fun q1 hq1 => ?_⟩⟩
            have S1 := Same.new (o := .tup (pegs.map V.str)) hq1
            refine ⟨_, rfl, D, _, rfl, .inl ⟨SqL.of (S1 _ _ hD7), fun q2 hq2 => ?_⟩⟩
            have S2 := Same.new (o := .tup (ns.map V.ref)) hq2
            refine ⟨_, rfl, Bl, _, rfl, .inl ⟨SqL.of (S2 _ _ (S1 _ _ hB7)), fun q3 hq3 => ?_⟩⟩
            have S3 := Same.new (o := .tup (ba.map V.ref)) hq3
            refine ⟨_, rfl, D4, _, rfl, .inl ⟨SqL.of (S3 _ _ (S2 _ _ (S1 _ _ h3))), fun q4 hq4 => ?_⟩⟩
            have S4' := Same.new (o := .tup (cs.map V.int)) hq4
            refine ⟨by show 4 ≤ sizeLine; decide, fun q5 hq5 => ?_⟩
            have S5' := Same.new (o := .tup [V.ref q1, V.ref q2, V.ref q3, V.ref q4]) hq5
            have S15 := (((S1.trans S2).trans S3).trans S4').trans S5'
            have pok : Parts pegs W B0 cs := ⟨hnd, by omega, hnm, hWp, by omega, hRk, hin6, by omega, hal6, h4, h5⟩
            refine q q5 _ x y z pegs W B0 cs (BU7.trans (But.of S15)) (S15 _ _ h1) ⟨q1, q2, q3, q4, ns, ba, SqT.of upd_same, ?_, ?_, PairsAt.same hns7 S15, ?_, PairsAt.same hba7 S15, ?_⟩ pok (by omega) lW lB
            · exact SqT.of (S5' _ _ (S4' _ _ (S3 _ _ (S2 _ _ upd_same))))
            · exact SqT.of (S5' _ _ (S4' _ _ (S3 _ _ upd_same)))
            · exact SqT.of (S5' _ _ (S4' _ _ upd_same))
            · exact SqT.of (S5' _ _ upd_same)
end
end Lw

set_option Elab.async false
set_option linter.all false
set_option maxRecDepth 100000
set_option maxHeartbeats 4000000
namespace Lw
open PySem PySem.Spec PyProof.Rows L2 Np TL
local macro_rules | `(tactic| walk_at "np_h") => `(tactic| first | assumption | exact upd_same | (refine (upd_ne ?_).trans ?_; (walk_at "np_ne"); (walk_at "np_h")) | exact SqL.of (by walk_at "np_h") | exact SqT.of (by walk_at "np_h"))
local macro_rules | `(tactic| walk_at "np_ne") => `(tactic| first | assumption | exact Ne.symm (by assumption))
local macro_rules | `(tactic| walk_at "np_r") => `(tactic| first
  | refine ⟨_, rfl, ?_⟩
  | refine ⟨_, _, rfl, rfl, ?_⟩
  | refine ⟨(.inl ⟨by decide, by decide⟩ : CMul _ _), ?_⟩
  | refine ⟨(.inr ⟨by decide, by decide⟩ : CMul _ _), ?_⟩
  | refine ⟨(by first | decide | omega : (0 : Int) < _), ?_⟩
  | refine ⟨(⟨by decide, by decide⟩ : CDiv _ _), ?_⟩
  | (refine' ⟨_, _, _, _, rfl, rfl, ?np1, ?np2, ?_⟩; (case np1 => walk_at "np_h"); (case np2 => rfl)))

/-- the clashing pairs found by the places below n -/
def clashTo (cl : Str → Str → Bool) (pegs : List Str) (n : Nat) : List (Str × Str) := (List.range n).flatMap fun i => ((pegs.drop (i + 1)).filter (cl (pegs.getD i ""))).map fun y => (pegs.getD i "", y)
theorem clashTo_succ (cl : Str → Str → Bool) (pegs : List Str) (n : Nat) : clashTo cl pegs (n + 1) = clashTo cl pegs n ++ ((pegs.drop (n + 1)).filter (cl (pegs.getD n ""))).map fun y => (pegs.getD n "", y) := by
  unfold clashTo
  rw [List.range_succ, List.flatMap_append]
  simp
noncomputable def clB (W B : List (Str × Str)) (pegs : List Str) (x y : Str) : Bool := barB (rowOf W pegs x) (rowOf W pegs y) B
theorem clashTo_len (cl : Str → Str → Bool) (pegs : List Str) (hl : pegs.length ≤ 30) : ∀ n, n ≤ 30 → (clashTo cl pegs n).length ≤ 30 * n
  | 0, _ => Nat.zero_le _
  | n + 1, h => by
    have ih := clashTo_len cl pegs hl n (by omega)
    rw [clashTo_succ, List.length_append, List.length_map]
    have a := List.length_filter_le (cl (pegs.getD n "")) (pegs.drop (n + 1))
    rw [List.length_drop] at a
    omega
section
variable {P : Program} {w : World} {K : PySem.W.Frag} {mg : Str → Option Value} {base : Heap}
/-- the rows of the pegs at R -/
def RowsAt (K : PySem.W.Frag) (H : Hp) (R : Addr) (pegs : List Str) (W : List (Str × Str)) : Prop := ∃ ad : Str → Addr, H R = some (.dK (byPeg pegs fun p => .ref (ad p))) ∧ ∀ p ∈ pegs, H (ad p) = some (.tup ((rowOf W pegs p).map V.str))
theorem RowsAt.fr {H H' : Hp} {R : Addr} {pegs : List Str} {W : List (Str × Str)} (h : RowsAt K H R pegs W) (s : Fr H H') : RowsAt K H' R pegs W := by
  obtain ⟨ad, h1, h2⟩ := h
  exact ⟨ad, s _ _ h1 (fun _ z => nomatch z), fun p hp => s _ _ (h2 p hp) (fun _ z => nomatch z)⟩
theorem RowsAt.get {H : Hp} {R : Addr} {pegs : List Str} {W : List (Str × Str)} (h : RowsAt K H R pegs W) {p : Str} (hp : p ∈ pegs) : ∃ a, DGet H R (.str p) (some (.ref a)) ∧ H a = some (.tup ((rowOf W pegs p).map V.str)) := by
  obtain ⟨ad, h1, h2⟩ := h
  exact ⟨ad p, .inl ⟨_, kS p, .inl h1, rfl, (valV_byPeg (f := fun p => V.ref (ad p)) hp).symm⟩, h2 p hp⟩
def spClashes (K : PySem.W.Frag) : Sp := fun vs H Q _ => ∃ (p R bl : Addr) (tp tb : Bool) (pegs : List Str) (W B : List (Str × Str)) (bs : List Addr), vs = [.ref p, .ref R, .ref bl] ∧ SqB K tp H p (pegs.map V.str) ∧ RowsAt K H R pegs W ∧ SqB K tb H bl (bs.map V.ref) ∧ PairsAt K H bs B ∧ pegs.length ≤ 30 ∧ B.length ≤ 900 ∧
  ∀ q H' ts, Same H H' → H q = none → H' q = some (.lst (ts.map V.ref)) → PairsAt K H' ts (clashTo (clB W B pegs) pegs pegs.length) → Q (.ref q) H'
theorem drop_at {pegs : List Str} {i : Nat} : cutV (pegs.map V.str) (some ((i : Int) + 1)) none = (pegs.drop (i + 1)).map V.str := by
  have e : (i : Int) + 1 = ((i + 1 : Nat) : Int) := rfl
  rw [e, cutV_drop, List.map_drop]
/-- the board of the parts -/
def spKB (K : PySem.W.Frag) : List V → List V → Hp → VK → Prop := fun vs zs H Q => ∃ (x dx p n b c : Addr) (tp tn tb tc : Bool) (pegs : List Str) (ns bs : List Addr) (W B : List (Str × Str)) (cs : List Int), vs = [.ref x, .ref p] ∧ zs = [.ref n, .ref b, .ref c] ∧ H x = some (.ins (cB K) dx []) ∧
  SqB K tp H p (pegs.map V.str) ∧ SqB K tn H n (ns.map V.ref) ∧ PairsAt K H ns W ∧ SqB K tb H b (bs.map V.ref) ∧ PairsAt K H bs B ∧ SqB K tc H c (cs.map V.int) ∧ Parts pegs W B cs ∧ ∀ H', But x H H' → BoardAt K H' x (mkBd pegs W B cs) → Q .non H'
def spBoard (K : PySem.W.Frag) : Sp := fun vs H Q _ => ∃ (q : Addr) (pegs : List Str) (W B : List (Str × Str)) (cs : List Int), vs = [.ref q] ∧ PartsAt K H q pegs W B cs ∧ Parts pegs W B cs ∧ ∀ x H', H x = none → Same H H' → BoardAt K H' x (mkBd pegs W B cs) → Q (.ref x) H'
theorem scBoard : FnScope ["_law_parts_here"] ["_law_parts_here"] (defScope sBoard) := ⟨rfl, rfl, rfl, by decide +kernel, rfl, by decide +kernel, by decide +kernel⟩
theorem ok_board {f : Addr} {fd : FuncData} (F : FnT K "_law_board" sBoard f fd) (cK_Board_needs_bars_costs : CalK P w K mg base 4 "Board" (cB K) 1 ["needs", "bars", "costs"] (spKB K)) : FnOk P w K mg base CX0 6 f fd ["_law_parts_here"] (spBoard K) := by
  have nd := scBoard.nd
  refine F.ok scBoard (fun vs H Q E h => ?_) (fun cdv A outer s H vs Q E hr h => ?_)
  · obtain ⟨q, pegs, W, B, cs, rfl, _⟩ := h
    rfl
  · obtain ⟨q, pegs, W, B, cs, rfl, hq, ok, k⟩ := h
    refine ⟨_, PSs.nox (pss_one (ps_ret (pe_KI cK_Board_needs_bars_costs (hr.mono (by decide)) no0 (pa_cons (pe_ix ix_tup (pv 0) pe_int (fun _ _ => rfl)) pa_nil) (pk_cons (pe_ix ix_tup (pv 0) pe_int (fun _ _ => rfl)) (pk_cons (pe_ix ix_tup (pv 0) pe_int (fun _ _ => rfl)) (pk_cons (pe_ix ix_tup (pv 0) pe_int (fun _ _ => rfl)) pk_nil)))))), ?_⟩
    obtain ⟨p, n, bl, c, ns, bs, h1, h2, h3, h4, h5, h6, h7⟩ := id hq
    refine ⟨_, rfl, q, _, _, _, rfl, rfl, h1, atI_nat (j := 0) rfl, ?_⟩
    refine ⟨_, rfl, q, _, _, _, rfl, rfl, h1, atI_nat (j := 1) rfl, ?_⟩
    refine ⟨_, rfl, q, _, _, _, rfl, rfl, h1, atI_nat (j := 2) rfl, ?_⟩
    refine ⟨_, rfl, q, _, _, _, rfl, rfl, h1, atI_nat (j := 3) rfl, rfl, rfl, fun x dx nx ndx ne => ?_⟩
    have S : Same H (upd (upd H dx (.own x)) x (.ins (cB K) dx [])) := (Same.new ndx).trans (Same.new (by rw [upd_ne ne.symm]; exact nx))
    refine ⟨x, dx, p, n, bl, c, false, false, false, false, pegs, ns, bs, W, B, cs, rfl, rfl, upd_same, Same.sqT S h2, Same.sqT S h3, PairsAt.same h4 S, Same.sqT S h5, PairsAt.same h6 S, Same.sqT S h7, ok, fun H' bu hB => ⟨rfl, k x H' nx (fun a o ha => ?_) hB⟩⟩
    exact bu a o (ne_of_none ha nx) (S _ _ ha)
end
end Lw

set_option Elab.async false
set_option linter.all false
set_option maxRecDepth 100000
set_option maxHeartbeats 4000000
namespace Lw
open PySem PySem.Spec PyProof.Rows L2 Np TL
local macro_rules | `(tactic| walk_at "np_h") => `(tactic| first | assumption | exact upd_same | (refine (upd_ne ?_).trans ?_; (walk_at "np_ne"); (walk_at "np_h")) | exact SqL.of (by walk_at "np_h") | exact SqT.of (by walk_at "np_h"))
local macro_rules | `(tactic| walk_at "np_ne") => `(tactic| first | assumption | exact Ne.symm (by assumption))
local macro_rules | `(tactic| walk_at "np_r") => `(tactic| first
  | refine ⟨_, rfl, ?_⟩
  | refine ⟨_, _, rfl, rfl, ?_⟩
  | refine ⟨(.inl ⟨by decide, by decide⟩ : CMul _ _), ?_⟩
  | refine ⟨(.inr ⟨by decide, by decide⟩ : CMul _ _), ?_⟩
  | refine ⟨(by first | decide | omega : (0 : Int) < _), ?_⟩
  | refine ⟨(⟨by decide, by decide⟩ : CDiv _ _), ?_⟩
  | (refine' ⟨_, _, _, _, rfl, rfl, ?np1, ?np2, ?_⟩; (case np1 => walk_at "np_h"); (case np2 => rfl)))

def lackW (row : List Str) (w : Str × Str) : Bool := decide (w.1 ∈ row) && !decide (w.2 ∈ row)
def bothB (row : List Str) (w : Str × Str) : Bool := decide (w.1 ∈ row) && decide (w.2 ∈ row)
/-- a row is a stand, by the pairs -/
def isStB (W B : List (Str × Str)) (row : List Str) : Bool := (W.filter (lackW row)).isEmpty && (B.filter (bothB row)).isEmpty
theorem isStB_congr {W B : List (Str × Str)} {r1 r2 : List Str} (h : ∀ s, s ∈ r1 ↔ s ∈ r2) : isStB W B r1 = isStB W B r2 := by
  have e1 : lackW r1 = lackW r2 := funext fun w => by
    unfold lackW
    rw [decide_eq_decide.mpr (h w.1), decide_eq_decide.mpr (h w.2)]
  have e2 : bothB r1 = bothB r2 := funext fun w => by
    unfold bothB
    rw [decide_eq_decide.mpr (h w.1), decide_eq_decide.mpr (h w.2)]
  unfold isStB
  rw [e1, e2]
theorem map_empty {α : Type} (l : List α) (f : α → V) : (l.map f).isEmpty = l.isEmpty := by cases l <;> rfl
section
variable {P : Program} {w : World} {K : PySem.W.Frag} {mg : Str → Option Value} {base : Heap}
def spIsStand (K : PySem.W.Frag) : Sp := fun vs H Q _ => ∃ (q r : Addr) (t : Bool) (pegs : List Str) (W B : List (Str × Str)) (cs : List Int) (row : List Str), vs = [.ref q, .ref r] ∧ PartsAt K H q pegs W B cs ∧ W.length ≤ 900 ∧ B.length ≤ 900 ∧ SqB K t H r (row.map V.str) ∧ ∀ H', Same H H' → Q (.bl (isStB W B row)) H'
theorem scIsStand : FnScope ["_law_parts_here", "_law_row", "_law_peg", "_law_needed", "_law_a", "_law_b"] ["_law_parts_here", "_law_row"] (defScope sIsStand) := ⟨rfl, rfl, rfl, by decide +kernel, rfl, by decide +kernel, by decide +kernel⟩
theorem ok_is_stand {f : Addr} {fd : FuncData} (F : FnT K "_law_is_stand" sIsStand f fd) (m : Bl mg) : FnOk P w K mg base CX0 1 f fd ["_law_parts_here", "_law_row"] (spIsStand K) := by
  have nd := scIsStand.nd
  refine F.ok scIsStand (fun vs H Q E h => ?_) (fun cdv A outer s H vs Q E hr h => ?_)
  · obtain ⟨q, r, t, pegs, W, B, cs, row, rfl, _⟩ := h
    rfl
  · obtain ⟨q, r, t, pegs, W, B, cs, row, rfl, hq, lW, lB, hrow, k⟩ := h
    refine ⟨_, PSs.nox (pss_cons (ps_if (pt_cmpR (op_neE hr.units) (pe_lc (own := [("_law_peg", 2), ("_law_needed", 3)]) (g := gTup K 2 (gCons (gName 2) (gCons (gName 3) gNil))) rfl nd (pi_tup (pe_ix ix_tup (pv 0) pe_int (fun _ _ => rfl))) (blkOk_by (N := ["_law_parts_here", "_law_row", "_law_peg", "_law_needed", "_law_a", "_law_b"]) (sc := defScope sIsStand) (by decide +kernel)) (fun _ _ _ _ _ => (pg_tupK (K := K) rfl (by rfl) (pgs_cons (pg_name (i := 2) nd rfl (.inl rfl)) (pgs_cons (pg_name (i := 3) nd rfl (.inl rfl)) pgs_nil)))) (fun _ _ _ _ _ => pts_one (PW.pt (pw_and (pt_cmpR (op_in_seqK (K := K) rfl) (pv 2) (pv 1) (by rfl)) (pw_and1 (pt_cmpR (op_notIn_seqK (K := K) rfl) (pv 3) (pv 1) (by rfl)))))) (fun _ _ _ _ _ => pe_int)) (pe_lst pa_nil) (nomark _)) (pss_one (ps_ret pe_bl)) pss_nil)
  (pss_one (ps_ret (pe_cmpR (op_eqE hr.units) (pe_lc (own := [("_law_a", 4), ("_law_b", 5)]) (g := gTup K 2 (gCons (gName 4) (gCons (gName 5) gNil))) rfl nd (pi_tup (pe_ix ix_tup (pv 0) pe_int (fun _ _ => rfl))) (blkOk_by (N := ["_law_parts_here", "_law_row", "_law_peg", "_law_needed", "_law_a", "_law_b"]) (sc := defScope sIsStand) (by decide +kernel)) (fun _ _ _ _ _ => (pg_tupK (K := K) rfl (by rfl) (pgs_cons (pg_name (i := 4) nd rfl (.inl rfl)) (pgs_cons (pg_name (i := 5) nd rfl (.inl rfl)) pgs_nil)))) (fun _ _ _ _ _ => pts_one (PW.pt (pw_and (pt_cmpR (op_in_seqK (K := K) rfl) (pv 4) (pv 1) (by rfl)) (pw_and1 (pt_cmpR (op_in_seqK (K := K) rfl) (pv 5) (pv 1) (by rfl)))))) (fun _ _ _ _ _ => pe_int)) (pe_lst pa_nil) (nomark _))))), ?_⟩
    obtain ⟨p, n, bl, c, ns, bs, h1, h2, h3, h4, h5, h6, h7⟩ := id hq
    have iv : ∀ (u : Str), (if false = true then !inV (V.str u) (row.map V.str) else inV (V.str u) (row.map V.str)) = decide (u ∈ row) := fun u => by rw [if_neg (by decide), inV_strs]
    have iv2 : ∀ (u : Str), (if true = true then !inV (V.str u) (row.map V.str) else inV (V.str u) (row.map V.str)) = !decide (u ∈ row) := fun u => by rw [if_pos rfl, inV_strs]
    have l4 : ns.length = W.length := paired_len h4
    have l6 : bs.length = B.length := paired_len h6
    refine ⟨_, rfl, q, _, _, _, rfl, rfl, h1, atI_nat (j := 1) rfl, n, rfl, ⟨_, h3⟩, fun D hD => ?_⟩
    refine lc_val (walk_tup (xs := ns.map V.ref)) hD W (lackW row) (fun _ => .int 1) (by rw [List.length_map, l4]) (by rw [List.length_map]; omega) (fun H5 S5 => Same.sqT S5 h3) ?_ ?_
    · rintro j v x H5 H6 hj S5 nD ⟨rfl, hv⟩ NT NF yes no
      obtain ⟨T, rfl, hT⟩ := ref_at hv
      obtain ⟨v', hv', hTv⟩ := paired_at h4 hT
      rw [hj] at hv'
      cases hv'
      have g := (SqB.same hrow S5).or
      refine ⟨T, _, rfl, Same.sqT S5 hTv, rfl, _, _, rfl, _, _, rfl, rfl, rfl, ?_⟩
      refine ⟨_, rfl, _, rfl, r, _, rfl, g, rfl, Np.flat_strs _, _, rfl, ?_⟩
      rw [iv]
      cases c1 : decide (v.1 ∈ row) with
      | false => exact iteF (no _ (Same.refl _) (by unfold lackW; rw [c1, Bool.false_and]))
      | true =>
        refine iteT ⟨_, rfl, _, rfl, r, _, rfl, g, rfl, Np.flat_strs _, _, rfl, ?_⟩
        rw [iv2]
        cases c2 : decide (v.2 ∈ row) with
        | true => exact iteF (no _ (Same.refl _) (by unfold lackW; rw [c2, Bool.not_true, Bool.and_false]))
        | false => exact iteT (yes _ (Same.refl _) (by unfold lackW; rw [c1, c2]; rfl))
    · intro H5 S5 h5'
      refine ⟨by show 0 ≤ sizeLine; decide, fun N hN => ?_⟩
      refine ⟨D, N, _, rfl, rfl, SqL.of (Same.new hN _ _ h5'), SqL.of upd_same, _, rfl, ?_⟩
      rw [map_empty]
      have S6 := S5.trans (Same.new (o := .lst []) hN)
      cases e : (W.filter (lackW row)).isEmpty with
      | false =>
        refine iteT ?_
        have := k _ S6
        unfold isStB at this
        rw [e, Bool.false_and] at this
        exact this
      | true =>
        refine iteF ?_
        refine ⟨_, rfl, q, _, _, _, rfl, rfl, Same.sqT S6 h1, atI_nat (j := 2) rfl, bl, rfl, ⟨_, Same.sqT S6 h5⟩, fun D2 hD2 => ?_⟩
        refine lc_val (walk_tup (xs := bs.map V.ref)) hD2 B (bothB row) (fun _ => .int 1) (by rw [List.length_map, l6]) (by rw [List.length_map]; omega) (fun H7 S7 => Same.sqT (S6.trans S7) h5) ?_ ?_
        · rintro j v x H7 H8 hj S7 nD ⟨rfl, hv⟩ NT NF yes no
          obtain ⟨T, rfl, hT⟩ := ref_at hv
          obtain ⟨v', hv', hTv⟩ := paired_at h6 hT
          rw [hj] at hv'
          cases hv'
          have g := (SqB.same hrow (S6.trans S7)).or
          refine ⟨T, _, rfl, Same.sqT (S6.trans S7) hTv, rfl, _, _, rfl, _, _, rfl, rfl, rfl, ?_⟩
          refine ⟨_, rfl, _, rfl, r, _, rfl, g, rfl, Np.flat_strs _, _, rfl, ?_⟩
          rw [iv]
          cases c1 : decide (v.1 ∈ row) with
          | false => exact iteF (no _ (Same.refl _) (by unfold bothB; rw [c1, Bool.false_and]))
          | true =>
            refine iteT ⟨_, rfl, _, rfl, r, _, rfl, g, rfl, Np.flat_strs _, _, rfl, ?_⟩
            rw [iv]
            cases c2 : decide (v.2 ∈ row) with
            | false => exact iteF (no _ (Same.refl _) (by unfold bothB; rw [c2, Bool.and_false]))
            | true => exact iteT (yes _ (Same.refl _) (by unfold bothB; rw [c1, c2]; rfl))
        · intro H7 S7 h7'
          refine ⟨by show 0 ≤ sizeLine; decide, fun N2 hN2 => ?_⟩
          refine ⟨D2, N2, _, rfl, rfl, SqL.of (Same.new hN2 _ _ h7'), SqL.of upd_same, ?_⟩
          rw [map_empty]
          have := k _ ((S6.trans S7).trans (Same.new (o := .lst []) hN2))
          unfold isStB at this
          rw [e, Bool.true_and] at this
          exact this
def spSomeStand (K : PySem.W.Frag) : Sp := fun vs H Q _ => ∃ (b q : Addr) (x y z : Int) (pegs : List Str) (W B : List (Str × Str)) (cs : List Int), vs = [.ref b, .ref q] ∧ H b = some (bx x y z) ∧ PartsAt K H q pegs W B cs ∧ Parts pegs W B cs ∧
  ∀ (s : Addr) (H' : Hp) (x' y' z' : Int) (row : List Str), But b H H' → H' b = some (bx x' y' z') → SqT K H' s (row.map V.str) → row.Sublist pegs → isStB W B row = true → Q (.ref s) H'
theorem scSomeStand : FnScope ["_law_box_here", "_law_parts_here", "_law_pegs", "_law_rows_here", "_law_found", "_law_peg", "_law_one", "_law_more"] ["_law_box_here", "_law_parts_here"] (defScope sSomeStand) := ⟨rfl, rfl, rfl, by decide +kernel, rfl, by decide +kernel, by decide +kernel⟩
theorem ok_some_stand {f : Addr} {fd : FuncData} (F : FnT K "_law_some_stand" sSomeStand f fd) (m : Bl mg) (c_take : Callee P w K mg base 1 "_law_take" ["_law_box_here", "_law_many"] spTake) (c_mixed : Callee P w K mg base 2 "_law_mixed" ["_law_box_here", "_law_things"] (spMixed K)) (c_rows : Callee P w K mg base 1 "_law_rows" ["_law_pegs", "_law_wants"] (spRows K))
    (c_is_stand : Callee P w K mg base 1 "_law_is_stand" ["_law_parts_here", "_law_row"] (spIsStand K)) : FnOk P w K mg base CX0 3 f fd ["_law_box_here", "_law_parts_here"] (spSomeStand K) := by
  have nd := scSomeStand.nd
  refine F.ok scSomeStand (fun vs H Q E h => ?_) (fun cdv A outer s H vs Q E hr h => ?_)
  · obtain ⟨b, q, x, y, z, pegs, W, B, cs, rfl, _⟩ := h
    rfl
  · obtain ⟨b, q, x, y, z, pegs, W, B, cs, rfl, hb, hq, ok, k⟩ := h
    refine ⟨_, PSs.nox (pss_cons (ps_asg (pe_tup (pa_cons (pe_ix ix_tup (pv 1) pe_int (fun _ _ => rfl)) (pa_cons (pe_callC c_rows (hr.mono (by decide)) (pa_cons (pe_ix ix_tup (pv 1) pe_int (fun _ _ => rfl)) (pa_cons (pe_ix ix_tup (pv 1) pe_int (fun _ _ => rfl)) pa_nil))) (pa_cons (pe_lst pa_nil) pa_nil)))) (pg_tup (by rfl) (pgs_cons (pg_name (i := 2) nd rfl (.inl rfl)) (pgs_cons (pg_name (i := 3) nd rfl (.inl rfl)) (pgs_cons (pg_name (i := 4) nd rfl (.inr rfl)) pgs_nil)))))
  (pss_cons (ps_for PassesOwn.never rfl (pi_list (pe_slice sl_list (pe_callC c_mixed (hr.mono (by decide)) (pa_cons (pv 0) (pa_cons (pv 2) pa_nil))) po_none (po_some (pe_callC c_take (hr.mono (by decide)) (pa_cons (pv 0) (pa_cons (pe_op op_add (pe_callB call_len_seq (by rfl) m.len (by decide +kernel) (pa_cons (pv 2) pa_nil)) pe_int) pa_nil)))))) (pg_name (i := 5) nd rfl (.inl rfl))
   (pss_cons (ps_set (i := 7) nd rfl (.inl rfl) (pe_op op_cat (pv 4) (pe_lc (own := [("_law_one", 6)]) (g := gName 6) rfl nd (pi_tup (pe_dget (hu_of hr) (pv 3) (pv 5) (fun _ _ => rfl))) (blkOk_by (N := ["_law_box_here", "_law_parts_here", "_law_pegs", "_law_rows_here", "_law_found", "_law_peg", "_law_one", "_law_more"]) (sc := defScope sSomeStand) (by decide +kernel)) (fun _ _ _ _ _ => (pg_name (i := 6) nd rfl (.inl rfl))) (fun _ _ _ _ _ => pts_one (pt_cmpR (op_notIn_seqK (K := K) rfl) (pv 6) (pv 4) (by rfl))) (fun _ _ _ _ _ => (pv 6)))))
  (pss_one (ps_if (pt_val (pe_callC c_is_stand (hr.mono (by decide)) (pa_cons (pv 1) (pa_cons (pv 7) pa_nil)))) (pss_one (ps_set (i := 4) nd rfl (.inr rfl) (pv 7))) pss_nil))))
  (pss_one (ps_ret (pe_callTy call_tuple_of (by rfl) m.tuple (by decide +kernel) (pa_cons (pe_lc (own := [("_law_peg", 5)]) (g := gName 5) rfl nd (pi_tup (pv 2)) (blkOk_by (N := ["_law_box_here", "_law_parts_here", "_law_pegs", "_law_rows_here", "_law_found", "_law_peg", "_law_one", "_law_more"]) (sc := defScope sSomeStand) (by decide +kernel)) (fun _ _ _ _ _ => (pg_name (i := 5) nd rfl (.inl rfl))) (fun _ _ _ _ _ => pts_one (pt_cmpR (op_in_seqK (K := K) rfl) (pv 5) (pv 4) (by rfl))) (fun _ _ _ _ _ => (pv 5))) pa_nil)))))), ?_⟩
    obtain ⟨p, n, bl, c, ns, bs, h1, h2, h3, h4, h5, h6, h7⟩ := id hq
    have lp : pegs.length ≤ 12 := ok.le
    have lenp : (pegs.map V.str).length = pegs.length := List.length_map _
    refine ⟨_, rfl, q, _, _, _, rfl, rfl, h1, atI_nat (j := 0) rfl, ?_⟩
    refine ⟨_, rfl, q, _, _, _, rfl, rfl, h1, atI_nat (j := 0) rfl, ?_⟩
    refine ⟨_, rfl, q, _, _, _, rfl, rfl, h1, atI_nat (j := 1) rfl, ?_⟩
    refine ⟨p, n, false, false, pegs, W, ns, rfl, h2, h3, h4, ok.nd, by omega, ok.wl, ok.w2, ok.rk, fun R H1 ad S1 nR hR hrw => ?_⟩
    have hRA : RowsAt K H1 R pegs W := ⟨ad, hR, hrw⟩
    refine ⟨by show 0 ≤ sizeLine; decide, fun g0 hg0 => ⟨by show 3 ≤ sizeLine; decide, fun T hT => ?_⟩⟩
    have S2 : Same H1 (upd (upd H1 g0 (.lst [])) T (.tup [.ref p, .ref R, .ref g0])) := (Same.new hg0).trans (Same.new hT)
    have hg2 : (upd (upd H1 g0 (.lst [])) T (.tup [.ref p, .ref R, .ref g0])) g0 = some (.lst []) := Same.new hT _ _ upd_same
    refine ⟨T, _, rfl, SqT.of upd_same, rfl, _, _, rfl, _, _, rfl, _, _, rfl, rfl, ?_⟩
    have S02 := S1.trans S2
    have nH : H g0 = none := S1.free hg0
    generalize upd (upd H1 g0 (.lst [])) T (.tup [.ref p, .ref R, .ref g0]) = H2 at S2 hg2 S02
    have hb2 := S02 _ _ hb
    have ngb : g0 ≠ b := fun z => by rw [z, hb] at nH; cases nH
    -- the order drawn
    refine ⟨_, rfl, _, rfl, b, p, x, y, z, pegs.map V.str, rfl, hb2, .inr (Same.sqT S02 h2), by rw [lenp]; omega, fun o H3 x3 y3 z3 zs no B3 hb3 ho hperm => ?_⟩
    obtain ⟨order, rfl, hord⟩ := perm_strs hperm
    have nob : o ≠ b := (ne_of_none hb2 no).symm
    have F3 : Fr H2 H3 := Fr.but B3 hb2
    refine ⟨_, rfl, _, rfl, p, _, rfl, .inr (F3.sqT (Same.sqT S02 h2)), _, _, rfl, rfl, ?_⟩
    have p13 : (13 : Int) < 2 ^ 100 := by decide
    refine ⟨b, x3, y3, z3, ((pegs.length + 1 : Nat) : Int), by rw [lenp]; rfl, hb3, by omega, by omega, fun r x4 y4 z4 r0 r1 => ?_⟩
    refine ⟨r, rfl, o, _, rfl, SqL.of ((upd_ne nob).trans ho), fun c4 hc4 => ?_⟩
    have F4 : Fr H3 (upd (upd H3 b (bx x4 y4 z4)) c4 (.lst (cutV (order.map V.str) none (some r)))) := (Fr.lst hb3).trans (Fr.new hc4)
    have BU4 : But b H (upd (upd H3 b (bx x4 y4 z4)) c4 (.lst (cutV (order.map V.str) none (some r)))) := (((But.of S02).trans B3).trans But.upd).trans (But.of (Same.new hc4))
    have hb4 : (upd (upd H3 b (bx x4 y4 z4)) c4 (.lst (cutV (order.map V.str) none (some r)))) b = some (bx x4 y4 z4) := Same.new hc4 _ _ upd_same
    have hg4 : (upd (upd H3 b (bx x4 y4 z4)) c4 (.lst (cutV (order.map V.str) none (some r)))) g0 = some (.lst []) := Same.new hc4 _ _ ((upd_ne ngb).trans (B3 _ _ ngb hg2))
    obtain ⟨k4, rfl⟩ : ∃ k : Nat, r = (k : Int) := ⟨r.toNat, by omega⟩
    rw [cutV_take, ← List.map_take] at F4 BU4 hb4 hg4 ⊢
    have hc4' : (upd (upd H3 b (bx x4 y4 z4)) c4 (.lst ((order.take k4).map V.str))) c4 = some (.lst ((order.take k4).map V.str)) := upd_same
    generalize upd (upd H3 b (bx x4 y4 z4)) c4 (.lst ((order.take k4).map V.str)) = H4 at F4 BU4 hb4 hg4 hc4' ⊢
    have FH4 : Fr H H4 := (Fr.of S02).trans (F3.trans F4)
    have hq4 := hq.fr FH4
    have hR4 : RowsAt K H4 R pegs W := hRA.fr ((Fr.of S2).trans (F3.trans F4))
    have h24 := FH4.sqT h2
    refine ⟨c4, rfl, ⟨_, SqL.of hc4'⟩, for_list (xs := (order.take k4).map V.str) (fun i σ H5 => ∃ (g : Addr) (fl : List Str) (s5 s6 s7 : Option V), σ = [some (.ref b), some (.ref q), some (.ref p), some (.ref R), some (.ref g), s5, s6, s7] ∧ Same H4 H5 ∧ H5 g = some (.lst (fl.map V.str)) ∧ (∀ s ∈ fl, s ∈ pegs) ∧ fl.Nodup ∧ isStB W B fl = true) ?_ ?_ ?_ ?_⟩
    · refine ⟨g0, [], _, _, _, rfl, Same.refl _, hg4, (fun s hs => by cases hs), List.nodup_nil, ?_⟩
      unfold isStB
      have e1 : W.filter (lackW []) = [] := List.filter_eq_nil_iff.mpr fun w _ => by simp [lackW]
      have e2 : B.filter (bothB []) = [] := List.filter_eq_nil_iff.mpr fun w _ => by simp [bothB]
      rw [e1, e2]
      rfl
    · rintro i σ H5 hi ⟨g, fl, s5, s6, s7, rfl, S5, hg, hin, hnd, hst⟩
      exact SqL.of (S5 _ _ hc4')
    · rintro i v σ H5 hv ⟨g, fl, s5, s6, s7, rfl, S5, hg, hin, hnd, hst⟩
      obtain ⟨u, rfl, hu⟩ := str_at hv
      have mu : u ∈ pegs := hord.subset (List.mem_of_mem_take (mem_of_at hu))
      obtain ⟨a, ga, ta⟩ := (hR4.fr (Fr.of S5)).get mu
      have lfl : fl.length ≤ 12 := Nat.le_trans (nodup_len_le hnd hin) lp
      have lrow : (rowOf W pegs u).length ≤ 12 := Nat.le_trans (rowOf_len W pegs u) lp
      refine ⟨_, rfl, _, rfl, _, rfl, R, _, rfl, ga, a, rfl, ⟨_, SqT.of ta⟩, fun D hD => ?_⟩
      refine lc_val (walk_tup (xs := (rowOf W pegs u).map V.str)) hD (rowOf W pegs u) (fun s => !decide (s ∈ fl)) V.str (by rw [List.length_map]) (by rw [List.length_map]; omega) (fun H6 S6 => SqT.of (S6 _ _ ta)) ?_ ?_
      · rintro j y v H6 H7 hj S6 nD ⟨rfl, hv⟩ NT NF yes no
        obtain ⟨y', rfl, hy'⟩ := str_at hv
        rw [hj] at hy'
        cases hy'
        refine ⟨rfl, _, rfl, _, rfl, g, _, rfl, .inl (SqL.of (S6 _ _ hg)), rfl, Np.flat_strs _, _, rfl, ?_⟩
        rw [if_pos rfl, inV_strs]
        cases c : !decide (y ∈ fl) with
        | true => exact iteT ⟨_, rfl, yes _ (Same.refl _) c⟩
        | false => exact iteF (no _ (Same.refl _) c)
      · intro H6 S6 hD6
        have lf2 := List.length_filter_le (fun s => !decide (s ∈ fl)) (rowOf W pegs u)
        refine ⟨g, D, _, _, rfl, rfl, S6 _ _ hg, hD6, by rw [List.length_map, List.length_map]; exact Nat.le_of_lt (small1000 (by omega)), fun g2 hg2' => ?_⟩
        have S56 : Same H5 (upd H6 g2 (.lst (fl.map V.str ++ ((rowOf W pegs u).filter fun s => !decide (s ∈ fl)).map V.str))) := S6.trans (Same.new hg2')
        have S46 := S5.trans S56
        rw [← List.map_append] at S56 S46 ⊢
        refine ⟨_, rfl, _, rfl, q, g2, true, pegs, W, B, cs, fl ++ (rowOf W pegs u).filter (fun s => !decide (s ∈ fl)), rfl, hq4.fr (Fr.of S46), ok.wl, ok.bl, SqL.of upd_same, fun H7 S7 => ⟨_, rfl, ?_⟩⟩
        have hg2'' : H7 g2 = some (.lst ((fl ++ (rowOf W pegs u).filter (fun s => !decide (s ∈ fl))).map V.str)) := S7 _ _ upd_same
        cases c : isStB W B (fl ++ (rowOf W pegs u).filter (fun s => !decide (s ∈ fl))) with
        | false => exact iteF ⟨g, fl, _, _, _, rfl, S46.trans S7, S7 _ _ (S56 _ _ hg), hin, hnd, hst⟩
        | true =>
          refine iteT ⟨_, rfl, g2, _, _, _, _, rfl, S46.trans S7, hg2'', fun s hs => ?_, ?_, c⟩
          · rcases List.mem_append.mp hs with h | h
            · exact hin s h
            · exact (mem_rowOf.mp (List.mem_filter.mp h).1).1
          · refine List.nodup_append.mpr ⟨hnd, ((ok.nd.filter _).filter _), fun a ha b hb' e => ?_⟩
            subst e
            have := (List.mem_filter.mp hb').2
            simp at this
            exact this ha
    · rintro σ H5 ⟨g, fl, s5, s6, s7, rfl, S5, hg, hin, hnd, hst⟩
      refine ⟨_, rfl, p, rfl, ⟨_, Same.sqT S5 h24⟩, fun D hD => ?_⟩
      refine lc_val (walk_tup (xs := pegs.map V.str)) hD pegs (fun s => decide (s ∈ fl)) V.str (by rw [List.length_map]) (by rw [List.length_map]; omega) (fun H6 S6 => Same.sqT (S5.trans S6) h24) ?_ ?_
      · rintro j y v H6 H7 hj S6 nD ⟨rfl, hv⟩ NT NF yes no
        obtain ⟨y', rfl, hy'⟩ := str_at hv
        rw [hj] at hy'
        cases hy'
        refine ⟨rfl, _, rfl, _, rfl, g, _, rfl, .inl (SqL.of (S6 _ _ hg)), rfl, Np.flat_strs _, _, rfl, ?_⟩
        rw [if_neg (by decide), inV_strs]
        cases c : decide (y ∈ fl) with
        | true => exact iteT ⟨_, rfl, yes _ (Same.refl _) c⟩
        | false => exact iteF (no _ (Same.refl _) c)
      · intro H6 S6 hD6
        refine ⟨D, _, rfl, .inl ⟨SqL.of hD6, fun t ht => ?_⟩⟩
        have S46 := (S5.trans S6).trans (Same.new (o := .tup ((pegs.filter fun s => decide (s ∈ fl)).map V.str)) ht)
        refine k t _ x4 y4 z4 (pegs.filter fun s => decide (s ∈ fl)) (BU4.trans (But.of S46)) (S46 _ _ hb4) (SqT.of upd_same) List.filter_sublist ?_
        rw [← hst]
        refine isStB_congr fun s => ?_
        rw [List.mem_filter, decide_eq_true_eq]
        exact ⟨fun h => h.2, fun h => ⟨hin s h, h⟩⟩
end
end Lw

set_option Elab.async false
set_option linter.all false
set_option maxRecDepth 100000
set_option maxHeartbeats 4000000
namespace Lw
open PySem PySem.Spec PyProof.Rows L2 Np TL
local macro_rules | `(tactic| walk_at "np_h") => `(tactic| first | assumption | exact upd_same | (refine (upd_ne ?_).trans ?_; (walk_at "np_ne"); (walk_at "np_h")) | exact SqL.of (by walk_at "np_h") | exact SqT.of (by walk_at "np_h"))
local macro_rules | `(tactic| walk_at "np_ne") => `(tactic| first | assumption | exact Ne.symm (by assumption))
local macro_rules | `(tactic| walk_at "np_r") => `(tactic| first
  | refine ⟨_, rfl, ?_⟩
  | refine ⟨_, _, rfl, rfl, ?_⟩
  | refine ⟨(.inl ⟨by decide, by decide⟩ : CMul _ _), ?_⟩
  | refine ⟨(.inr ⟨by decide, by decide⟩ : CMul _ _), ?_⟩
  | refine ⟨(by first | decide | omega : (0 : Int) < _), ?_⟩
  | refine ⟨(⟨by decide, by decide⟩ : CDiv _ _), ?_⟩
  | (refine' ⟨_, _, _, _, rfl, rfl, ?np1, ?np2, ?_⟩; (case np1 => walk_at "np_h"); (case np2 => rfl)))

/-! ### turns of a stand -/
/-- what putting and taking come to -/
inductive TD
  | peg (s : Str)
  | turn (s : Str)
  | missing (p n : Str)
  | barred (x y : Str)
  | needed (x y : Str)
  | stand (m : Nat)
/-- a board whose rows belong together -/
structure Bd.Gd (B : Bd) : Prop where
  sy : ∀ i j, i < B.pegs.length → j < B.pegs.length → (B.clash.getD i 0).testBit j = (B.clash.getD j 0).testBit i
  ir : ∀ i, i < B.pegs.length → (B.clash.getD i 0).testBit i = false
  ab : ∀ i j, i < B.pegs.length → j < B.pegs.length → (B.above.getD i 0).testBit j = (B.below.getD j 0).testBit i
  rf : ∀ i, i < B.pegs.length → (B.below.getD i 0).testBit i = true
def fstP (B : Bd) (m : Nat) : Str := B.pegs.getD ((plc m).headD 0) ""
def putD (B : Bd) (m : Nat) (p : Str) : TD :=
  if p ∈ B.pegs then
    if m.testBit (B.pegs.idxOf p) = true then .turn p
    else if lackN B (B.pegs.idxOf p) (m ||| 2 ^ B.pegs.idxOf p) ≠ 0 then .missing p (fstP B (lackN B (B.pegs.idxOf p) (m ||| 2 ^ B.pegs.idxOf p)))
    else if lackB B (B.pegs.idxOf p) m ≠ 0 then .barred p (fstP B (lackB B (B.pegs.idxOf p) m))
    else .stand (m ||| 2 ^ B.pegs.idxOf p)
  else .peg p
def takeD (B : Bd) (m : Nat) (p : Str) : TD :=
  if p ∈ B.pegs then
    if m.testBit (B.pegs.idxOf p) = true then
      if B.above.getD (B.pegs.idxOf p) 0 &&& (m ^^^ 2 ^ B.pegs.idxOf p) ≠ 0 then .needed p (fstP B (B.above.getD (B.pegs.idxOf p) 0 &&& (m ^^^ 2 ^ B.pegs.idxOf p)))
      else .stand (m ^^^ 2 ^ B.pegs.idxOf p)
    else .turn p
  else .peg p
def TOut (K : PySem.W.Frag) (H : Hp) (E : XK) (d : TD) (ok : Nat → Prop) : Prop :=
  match d with
  | .peg s => Leaves K H E "NoPeg" [("peg", .str s)]
  | .turn s => Leaves K H E "NoTurn" [("peg", .str s)]
  | .missing p n => Leaves K H E "Missing" [("needed", .str n), ("peg", .str p)]
  | .barred x y => Leaves K H E "Barred" [("other", .str y), ("peg", .str x)]
  | .needed x y => Leaves K H E "Needed" [("by", .str y), ("peg", .str x)]
  | .stand m => ok m
theorem mem_pegsIn {pegs : List Str} (hn : pegs.Nodup) {m : Nat} (hm : m < 2 ^ pegs.length) {p : Str} (hp : p ∈ pegs) : p ∈ pegsIn pegs m ↔ m.testBit (pegs.idxOf p) = true := by
  unfold pegsIn
  rw [List.mem_map]
  constructor
  · rintro ⟨i, hi, rfl⟩
    have li := plc_lt hm hi
    rw [idx_getD hn li]
    exact mem_plc.mp hi
  · intro h
    exact ⟨pegs.idxOf p, mem_plc.mpr h, getD_idx hp⟩
theorem pegsIn_mem {pegs : List Str} {m : Nat} (hm : m < 2 ^ pegs.length) {s : Str} (h : s ∈ pegsIn pegs m) : s ∈ pegs := by
  unfold pegsIn at h
  obtain ⟨i, hi, rfl⟩ := List.mem_map.mp h
  have := plc_lt hm hi
  rw [List.getD_eq_getElem?_getD, List.getElem?_eq_getElem this]
  exact List.getElem_mem this
theorem maskOf_pegsIn {pegs : List Str} (hn : pegs.Nodup) {m : Nat} (hm : m < 2 ^ pegs.length) : maskOf pegs (pegsIn pegs m) = m := by
  refine Nat.eq_of_testBit_eq fun i => ?_
  rw [maskOf_bit, Bool.eq_iff_iff, List.any_eq_true]
  constructor
  · rintro ⟨s, hs, e⟩
    have e := of_decide_eq_true e
    rw [← e]
    exact (mem_pegsIn hn hm (pegsIn_mem hm hs)).mp hs
  · intro h
    have li := plc_lt hm (mem_plc.mpr h)
    refine ⟨pegs.getD i "", ?_, decide_eq_true (idx_getD hn li)⟩
    unfold pegsIn
    exact List.mem_map.mpr ⟨i, mem_plc.mpr h, rfl⟩
theorem Outcome.ok {K : PySem.W.Frag} {H : Hp} {E : XK} {B : Bd} {m : Nat} {p : Prop} (ok : B.Ok) (h : StOk B m) (q : p) : Outcome K H E B (pegsIn B.pegs m) p := by
  unfold Outcome
  rw [outP_none.mpr fun s hs => pegsIn_mem h.1 hs]
  simp only
  rw [maskOf_pegsIn ok.nd h.1, firstL_none.mpr fun i hi => (h.2 i hi).1]
  simp only
  rw [firstL_none.mpr fun i hi => (h.2 i hi).2]
  exact q
theorem head_some {m : Nat} (h : m ≠ 0) : (plc m)[0]? = some ((plc m).headD 0) := by
  cases e : plc m with
  | nil =>
    obtain ⟨j, hj⟩ := Nat.exists_testBit_of_ne_zero h
    have := mem_plc.mpr hj
    rw [e] at this
    cases this
  | cons a l => rfl
theorem zero_bit {m : Nat} : m = 0 ↔ ∀ j, m.testBit j = false := ⟨fun h j => by rw [h]; exact Nat.zero_testBit j, fun h => Nat.eq_of_testBit_eq fun j => by rw [h, Nat.zero_testBit]⟩
theorem pow_bit (i j : Nat) : (2 ^ i).testBit j = decide (i = j) := Nat.testBit_two_pow
theorem put_ok {B : Bd} {m i : Nat} (ok : B.Ok) (g : B.Gd) (h : StOk B m) (hi : i < B.pegs.length) (h1 : lackN B i (m ||| 2 ^ i) = 0) (h2 : lackB B i m = 0) : StOk B (m ||| 2 ^ i) := by
  have lt : m ||| 2 ^ i < 2 ^ B.pegs.length := Nat.or_lt_two_pow h.1 (Nat.pow_lt_pow_right (by decide) hi)
  refine ⟨lt, fun j hj => ?_⟩
  have lj := plc_lt lt hj
  have hj := mem_plc.mp hj
  rw [Nat.testBit_or, pow_bit, Bool.or_eq_true, decide_eq_true_eq] at hj
  have z1 := zero_bit.mp h1
  have z2 := zero_bit.mp h2
  rcases hj with hj | rfl
  · obtain ⟨a, b⟩ := h.2 j (mem_plc.mpr hj)
    have a := zero_bit.mp a
    have b := zero_bit.mp b
    constructor
    · refine zero_bit.mpr fun k => ?_
      have := a k
      unfold lackN at this ⊢
      rw [nd_bit] at this ⊢
      rw [Nat.testBit_or]
      cases e1 : (B.below.getD j 0).testBit k <;> cases e2 : m.testBit k <;> simp_all
    · refine zero_bit.mpr fun k => ?_
      have bk := b k
      unfold lackB at bk ⊢
      rw [Nat.testBit_and] at bk ⊢
      rw [Nat.testBit_or, pow_bit]
      by_cases e : i = k
      · subst e
        have c := z2 j
        unfold lackB at c
        rw [Nat.testBit_and, hj, Bool.and_true] at c
        rw [g.sy j i lj hi, c, Bool.false_and]
      · rw [decide_eq_false e, Bool.or_false]
        exact bk
  · refine ⟨h1, zero_bit.mpr fun k => ?_⟩
    have c := z2 k
    unfold lackB at c ⊢
    rw [Nat.testBit_and] at c ⊢
    rw [Nat.testBit_or, pow_bit]
    by_cases e : i = k
    · subst e
      rw [g.ir i hi, Bool.false_and]
    · rw [decide_eq_false e, Bool.or_false]
      exact c
theorem take_ok {B : Bd} {m i : Nat} (ok : B.Ok) (g : B.Gd) (h : StOk B m) (hi : i < B.pegs.length) (hb : m.testBit i = true) (h1 : B.above.getD i 0 &&& (m ^^^ 2 ^ i) = 0) : StOk B (m ^^^ 2 ^ i) := by
  have lt : m ^^^ 2 ^ i < 2 ^ B.pegs.length := Nat.xor_lt_two_pow h.1 (Nat.pow_lt_pow_right (by decide) hi)
  have bit : ∀ k, (m ^^^ 2 ^ i).testBit k = (m.testBit k && !decide (i = k)) := fun k => by
    rw [Nat.testBit_xor, pow_bit]
    by_cases e : i = k
    · subst e; rw [hb, decide_eq_true rfl]; rfl
    · rw [decide_eq_false e]; simp
  refine ⟨lt, fun j hj => ?_⟩
  have lj := plc_lt lt hj
  have hj := mem_plc.mp hj
  have z1 := zero_bit.mp h1 j
  rw [Nat.testBit_and, hj, Bool.and_true, g.ab i j hi lj] at z1
  rw [bit, Bool.and_eq_true] at hj
  obtain ⟨a, b⟩ := h.2 j (mem_plc.mpr hj.1)
  have a := zero_bit.mp a
  have b := zero_bit.mp b
  constructor
  · refine zero_bit.mpr fun k => ?_
    have := a k
    unfold lackN at this ⊢
    rw [nd_bit] at this ⊢
    rw [bit]
    by_cases e : i = k
    · subst e; rw [z1, Bool.false_and]
    · rw [decide_eq_false e, Bool.not_false, Bool.and_true]; exact this
  · refine zero_bit.mpr fun k => ?_
    have bk := b k
    unfold lackB at bk ⊢
    rw [Nat.testBit_and] at bk ⊢
    rw [bit]
    cases e1 : (B.clash.getD j 0).testBit k <;> cases e2 : m.testBit k <;> simp_all
section
variable {P : Program} {w : World} {K : PySem.W.Frag} {mg : Str → Option Value} {base : Heap}
theorem scBoardAboveMask : FnScope ["self", "place"] ["self", "place"] (defScope sBoardAboveMask) := ⟨rfl, rfl, rfl, by decide +kernel, rfl, by decide +kernel, by decide +kernel⟩
theorem ok_above_mask {f : Addr} {fd : FuncData} (F : FnM K "above_mask" "Board.above_mask" sBoardAboveMask f fd) (cls_Board : Cls K (cB K)) (na_Board : ∀ f ∈ fB, NoAttr K (cB K) f) : FnOk P w K mg base CX0 1 f fd ["self", "place"] (spRowAt Bd.above K) := by
  have nd := scBoardAboveMask.nd
  refine F.ok scBoardAboveMask (fun vs H Q E h => ?_) (fun cdv A outer s H vs Q E hr h => ?_)
  · obtain ⟨b, n, B, rfl, _⟩ := h
    rfl
  · obtain ⟨b, n, B, rfl, hB, hn, q⟩ := h
    refine ⟨_, PSs.nox (pss_one (ps_ret (pe_ix ix_tup (pe_A (pv 0) cls_Board (na_Board _ (by decide))) (pv 1) (fun _ _ => rfl)))), ?_⟩
    obtain ⟨ok, dx, pg, pl, co, be, ab, cl, od, hb⟩ := id hB
    exact ⟨_, rfl, b, dx, _, _, rfl, hb.ins, rfl, _, rfl, ab, _, _, _, rfl, rfl, hb.ab, atI_vN (by rw [ok.la]; exact hn), q⟩
/-- the stand of the same board with the pegs in a mask -/
def spBeside (K : PySem.W.Frag) : Sp := fun vs H Q _ => ∃ (s b : Addr) (B : Bd) (m m' : Nat), vs = [.ref s, vN m'] ∧ StandAt K H s b B m ∧ StOk B m' ∧ ∀ s' H', H s' = none → Same H H' → StandAt K H' s' b B m' → Q (.ref s') H'
theorem scStandBeside : FnScope ["self", "mask"] ["self", "mask"] (defScope sStandBeside) := ⟨rfl, rfl, rfl, by decide +kernel, rfl, by decide +kernel, by decide +kernel⟩
theorem ok_beside {f : Addr} {fd : FuncData} (F : FnM K "beside" "Stand.beside" sStandBeside f fd) (cls_Board : Cls K (cB K)) (cls_Stand : Cls K (cS K)) (na_Stand : ∀ f ∈ fS, NoAttr K (cS K) f) (cI_Stand : CalI P w K mg base (L2.CX P w) 5 "Stand" (cS K) (spStandInit K))
    (cM_Board_pegs_of : CalM P w K mg base CX0 3 (cB K) "pegs_of" (spPegsOf K)) : FnOk P w K mg base (L2.CX P w) 7 f fd ["self", "mask"] (spBeside K) := by
  have nd := scStandBeside.nd
  refine F.ok scStandBeside (fun vs H Q E h => ?_) (fun cdv A outer s H vs Q E hr h => ?_)
  · obtain ⟨s, b, B, m, m', rfl, _⟩ := h
    rfl
  · obtain ⟨s, b, B, m, m', rfl, hS, h', k⟩ := h
    refine ⟨_, (pss_one (ps_ret (pe_I cI_Stand (hr.mono (by decide)) (thru (takes_of rfl rfl rfl rfl)) (pa_cons (pe_A (pv 0) cls_Stand (na_Stand _ (by decide))) (pa_cons (pe_M (pe_A (pv 0) cls_Stand (na_Stand _ (by decide))) cls_Board cM_Board_pegs_of (hr.mono (by decide)) no0 (pa_cons (pv 1) pa_nil)) pa_nil))))), ?_⟩
    obtain ⟨_, hB, dx, q, hs, hq⟩ := id hS
    obtain ⟨ok, dy, pg, pl, co, be, ab, cl, od, hb⟩ := id hB
    refine ⟨_, rfl, s, dx, _, _, rfl, hs, rfl, ?_⟩
    refine ⟨_, rfl, s, dx, _, _, rfl, hs, rfl, b, dy, _, rfl, hb.ins, rfl, _, rfl, b, m', B, rfl, hB, h'.1, fun q1 H1 S1 hq1 => ?_⟩
    refine make_step (t := false) (hB.same S1) hq1 (Outcome.ok ok h' fun s' H' n S' hs' => ?_)
    rw [maskOf_pegsIn ok.nd h'.1] at hs'
    exact k s' H' (S1.free n) (S1.trans S') hs'
def spPut (K : PySem.W.Frag) : Sp := fun vs H Q E => ∃ (s b : Addr) (B : Bd) (m : Nat) (p : Str), vs = [.ref s, .str p] ∧ StandAt K H s b B m ∧ B.Gd ∧ TOut K H E (putD B m p) fun m' => ∀ s' H', H s' = none → Same H H' → StandAt K H' s' b B m' → Q (.ref s') H'
theorem scStandPut : FnScope ["self", "peg", "place"] ["self", "peg"] (defScope sStandPut) := ⟨rfl, rfl, rfl, by decide +kernel, rfl, by decide +kernel, by decide +kernel⟩
theorem ok_put {f : Addr} {fd : FuncData} {q : Str} {st : Stmt} (F : FnM K "put" "Stand.put" sStandPut f fd) (cls_Board : Cls K (cB K)) (cls_Stand : Cls K (cS K)) (na_Stand : ∀ f ∈ fS, NoAttr K (cS K) f) (e_NoTurn : ErrC P w K mg base "NoTurn" q st ["peg"])
    (cM_Board_place_of : CalM P w K mg base (L2.CX P w) 3 (cB K) "place_of" (spPlaceOf K)) (cF_check_needs : CalF P w K mg base (L2.CX P w) 4 "check_needs" (spCheck "Missing" "needed" lackN K)) (cF_check_bars : CalF P w K mg base (L2.CX P w) 4 "check_bars" (spCheck "Barred" "other" lackB K))
    (cM_Stand_beside : CalM P w K mg base (L2.CX P w) 7 (cS K) "beside" (spBeside K)) : FnOk P w K mg base (L2.CX P w) 8 f fd ["self", "peg"] (spPut K) := by
  have nd := scStandPut.nd
  refine F.ok scStandPut (fun vs H Q E h => ?_) (fun cdv A outer s H vs Q E hr h => ?_)
  · obtain ⟨s, b, B, m, p, rfl, _⟩ := h
    rfl
  · obtain ⟨s, b, B, m, p, rfl, hS, g, out⟩ := h
    refine ⟨_, (pss_cons (ps_set (i := 2) nd rfl (.inl rfl) (pe_M (pe_A (pv 0) cls_Stand (na_Stand _ (by decide))) cls_Board cM_Board_place_of (hr.mono (by decide)) (thru (takes_of rfl rfl rfl rfl)) (pa_cons (pv 1) pa_nil)))
  (pss_cons (ps_if (pt_cmpR op_in_seq (pv 1) (pe_A (pv 0) cls_Stand (na_Stand _ (by decide))) (by rfl)) (pss_one (ps_raise rfl (takes_of rfl rfl rfl rfl) (pmk_err e_NoTurn (hr.mono (by decide)) (pa_cons (pv 1) pa_nil)))) pss_nil)
  (pss_cons (ps_expr (pe_F cF_check_needs (hr.mono (by decide)) (thru (takes_of rfl rfl rfl rfl)) (pa_cons (pe_A (pv 0) cls_Stand (na_Stand _ (by decide))) (pa_cons (pv 2) (pa_cons (pe_op op_borM (pe_A (pv 0) cls_Stand (na_Stand _ (by decide))) (pe_op op_bshlM pe_int (pv 2))) pa_nil)))))
  (pss_cons (ps_expr (pe_F cF_check_bars (hr.mono (by decide)) (thru (takes_of rfl rfl rfl rfl)) (pa_cons (pe_A (pv 0) cls_Stand (na_Stand _ (by decide))) (pa_cons (pv 2) (pa_cons (pe_A (pv 0) cls_Stand (na_Stand _ (by decide))) pa_nil)))))
  (pss_one (ps_ret (pe_M (pv 0) cls_Stand cM_Stand_beside (hr.mono (by decide)) (thru (takes_of rfl rfl rfl rfl)) (pa_cons (pe_op op_borM (pe_A (pv 0) cls_Stand (na_Stand _ (by decide))) (pe_op op_bshlM pe_int (pv 2))) pa_nil)))))))), ?_⟩
    obtain ⟨stok, hB, dx, q, hs, hq⟩ := id hS
    obtain ⟨ok, dy, pg, pl, co, be, ab, cl, od, hb⟩ := id hB
    unfold putD at out
    refine ⟨_, rfl, s, dx, _, _, rfl, hs, rfl, b, dy, _, rfl, hb.ins, rfl, _, rfl, b, p, B, rfl, hB, fun c H1 S1 => ?_, fun c => ?_⟩
    · rw [if_pos c] at out
      have li := List.idxOf_lt_length_of_mem c
      have lp := ok.lp
      have hs1 := S1 _ _ hs
      have hb1 := S1 _ _ hb.ins
      have hm := mem_pegsIn ok.nd stok.1 c
      refine ⟨_, rfl, _, rfl, s, dx, _, _, rfl, hs1, rfl, q, _, rfl, (SqB.same (t := false) hq S1).or, rfl, Np.flat_strs _, _, rfl, ?_⟩
      rw [if_neg (by decide), inV_strs]
      by_cases c2 : m.testBit (B.pegs.idxOf p) = true
      · rw [if_pos c2] at out
        rw [decide_eq_true (hm.mpr c2)]
        refine iteT ⟨_, rfl, rfl, fun d H2 n S2 hd => ?_⟩
        exact out d H2 (S1.trans S2) (S1.free n) hd
      · rw [if_neg c2] at out
        rw [decide_eq_false fun z => c2 (hm.mp z)]
        refine iteF ?_
        have stok' := put_ok ok g stok li
        generalize hi : B.pegs.idxOf p = i at *
        refine ⟨_, rfl, s, dx, _, _, rfl, hs1, rfl, _, rfl, _, rfl, s, dx, _, _, rfl, hs1, rfl, _, rfl, i, rfl, rfl, by omega, _, _, rfl, rfl, ?_⟩
        refine ⟨b, i, m ||| 2 ^ i, B, rfl, hB.same S1, li, fun c3 H2 S2 => ?_, fun j hj => ?_⟩
        · rw [if_neg (not_not_intro c3)] at out
          have S12 := S1.trans S2
          have hs2 := S12 _ _ hs
          refine ⟨_, rfl, s, dx, _, _, rfl, hs2, rfl, _, rfl, _, rfl, s, dx, _, _, rfl, hs2, rfl, ?_⟩
          refine ⟨b, i, m, B, rfl, hB.same S12, li, fun c4 H3 S3 => ?_, fun j hj => ?_⟩
          · rw [if_neg (not_not_intro c4)] at out
            have S13 := S12.trans S3
            have hs3 := S13 _ _ hs
            refine ⟨_, rfl, s, dx, _, rfl, hs3, rfl, _, rfl, s, dx, _, _, rfl, hs3, rfl, _, rfl, i, rfl, rfl, by omega, _, _, rfl, rfl, ?_⟩
            exact ⟨s, b, B, m, m ||| 2 ^ i, rfl, hS.same S13, stok' c3 c4, fun s' H' n S' hs' => out s' H' (S13.free n) (S13.trans S') hs'⟩
          · have ne : lackB B i m ≠ 0 := fun z => by rw [z, plc_zero] at hj; cases hj
            rw [if_pos ne] at out
            have e : j = (plc (lackB B i m)).headD 0 := Option.some.inj (hj.symm.trans (head_some ne))
            have e2 : B.pegs.getD i "" = p := by rw [← hi]; exact getD_idx c
            rw [e2, e]
            exact Leaves.same out S12
        · have ne : lackN B i (m ||| 2 ^ i) ≠ 0 := fun z => by rw [z, plc_zero] at hj; cases hj
          rw [if_pos ne] at out
          have e : j = (plc (lackN B i (m ||| 2 ^ i))).headD 0 := Option.some.inj (hj.symm.trans (head_some ne))
          have e2 : B.pegs.getD i "" = p := by rw [← hi]; exact getD_idx c
          rw [e2, e]
          exact Leaves.same out S1
    · rw [if_neg c] at out
      exact out
end
end Lw

set_option Elab.async false
set_option linter.all false
set_option maxRecDepth 100000
set_option maxHeartbeats 4000000
namespace Lw
open PySem PySem.Spec PyProof.Rows L2 Np TL
local macro_rules | `(tactic| walk_at "np_h") => `(tactic| first | assumption | exact upd_same | (refine (upd_ne ?_).trans ?_; (walk_at "np_ne"); (walk_at "np_h")) | exact SqL.of (by walk_at "np_h") | exact SqT.of (by walk_at "np_h"))
local macro_rules | `(tactic| walk_at "np_ne") => `(tactic| first | assumption | exact Ne.symm (by assumption))
local macro_rules | `(tactic| walk_at "np_r") => `(tactic| first
  | refine ⟨_, rfl, ?_⟩
  | refine ⟨_, _, rfl, rfl, ?_⟩
  | refine ⟨(.inl ⟨by decide, by decide⟩ : CMul _ _), ?_⟩
  | refine ⟨(.inr ⟨by decide, by decide⟩ : CMul _ _), ?_⟩
  | refine ⟨(by first | decide | omega : (0 : Int) < _), ?_⟩
  | refine ⟨(⟨by decide, by decide⟩ : CDiv _ _), ?_⟩
  | (refine' ⟨_, _, _, _, rfl, rfl, ?np1, ?np2, ?_⟩; (case np1 => walk_at "np_h"); (case np2 => rfl)))

/-! ### two values are alike -/
mutual
def szD : PyData → Nat
  | .list ds => 1 + szL ds
  | .tuple ds => 1 + szL ds
  | _ => 1
def szL : List PyData → Nat
  | [] => 0
  | d :: ds => szD d + szL ds
end
def szP (ps : List (V × V × PyData)) : Nat := (ps.map fun p => szD p.2.2).sum
theorem szD_pos : ∀ d : PyData, 1 ≤ szD d := fun d => by
  cases d <;> simp only [szD] <;> omega
theorem szP_len : ∀ ps : List (V × V × PyData), ps.length ≤ szP ps
  | [] => Nat.le_refl _
  | p :: ps => by
    have h1 := szD_pos p.2.2
    have h2 := szP_len ps
    unfold szP at h2 ⊢
    rw [List.map_cons, List.sum_cons, List.length_cons]
    omega
theorem szP_app (ps qs : List (V × V × PyData)) : szP (ps ++ qs) = szP ps + szP qs := by
  unfold szP
  rw [List.map_append, List.sum_append]
/-- the items of two sequences with the same data -/
theorem items_alike {K : PySem.W.Frag} {H H1 : Hp} : ∀ {ds : List PyData} {xs ys : List V} {ts : List Addr}, DpAll K H xs ds → DpAll K H ys ds → Paired (fun T (p : V × V) => H1 T = some (.tup [p.1, p.2])) ts (xs.zip ys) →
    ∃ ps : List (V × V × PyData), Paired (fun T (p : V × V × PyData) => SqT K H1 T [p.1, p.2.1] ∧ Dp K H p.1 p.2.2 ∧ Dp K H p.2.1 p.2.2) ts ps ∧ szP ps = szL ds
  | [], _, _, _, .nil, .nil, h => by
    cases h
    exact ⟨[], .nil, rfl⟩
  | d :: ds, _, _, _, .cons h1 t1, .cons h2 t2, h => by
    cases h with
    | cons hT t =>
      obtain ⟨ps, a, b⟩ := items_alike t1 t2 t
      refine ⟨(_, _, d) :: ps, .cons ⟨SqT.of hT, h1, h2⟩ a, ?_⟩
      show (((_, _, d) :: ps).map fun p : V × V × PyData => szD p.2.2).sum = szD d + szL ds
      rw [List.map_cons, List.sum_cons, ← b]
      rfl
theorem dpAll_len {K : PySem.W.Frag} {H : Hp} : ∀ {ds : List PyData} {xs : List V}, DpAll K H xs ds → xs.length = ds.length
  | [], _, .nil => rfl
  | _ :: _, _, .cons _ t => congrArg Nat.succ (dpAll_len t)
theorem szL_len : ∀ ds : List PyData, ds.length ≤ szL ds
  | [] => Nat.le_refl _
  | d :: ds => by
    have h1 := szD_pos d
    have h2 := szL_len ds
    simp only [szL, List.length_cons]
    omega
theorem paired_last {α β : Type} {F : α → β → Prop} {l : List α} {m : List β} {b : β} (h : Paired F l (m ++ [b])) : ∃ l' a, l = l' ++ [a] ∧ Paired F l' m ∧ F a b := by
  induction m generalizing l with
  | nil =>
    cases h with
    | cons h t =>
      cases t
      exact ⟨[], _, rfl, .nil, h⟩
  | cons c m ih =>
    cases h with
    | cons h t =>
      obtain ⟨l', a, rfl, q, r⟩ := ih t
      exact ⟨_ :: l', a, rfl, .cons h q, r⟩
/-- what is left to compare -/
def AlS (K : PySem.W.Frag) (H : Hp) (v u : V) (L : Addr) (n : Nat) (σ : L2.St) (H1 : Hp) : Prop := ∃ (ts : List Addr) (ps : List (V × V × PyData)) (s3 s4 : Option V), n = szP ps ∧ σ = [some v, some u, some (.ref L), s3, s4] ∧ Same H H1 ∧ H1 L = some (.lst (ts.map V.ref)) ∧
  Paired (fun T (p : V × V × PyData) => SqT K H1 T [p.1, p.2.1] ∧ Dp K H p.1 p.2.2 ∧ Dp K H p.2.1 p.2.2) ts ps ∧ szP ps ≤ 1000
def tyD : PyData → String
  | .none => "NoneType"
  | .bool _ => "bool"
  | .int _ => "int"
  | .str _ => "str"
  | .list _ => "list"
  | .tuple _ => "tuple"
  | _ => ""
theorem tyx_dp {K : PySem.W.Frag} {H : Hp} {v : V} {d : PyData} (h : Dp K H v d) : TyX K H v (.type (tyD d)) := by
  cases h with
  | non => exact .base .non
  | bl b => exact .base (.bl b)
  | int i => exact .base (.int i)
  | str x => exact .base (.str x)
  | lst h _ => exact tyx_sqL h
  | tup h _ => exact tyx_sqT h
section
variable {P : Program} {w : World} {K : PySem.W.Frag} {mg : Str → Option Value} {base : Heap}
def spAlike (K : PySem.W.Frag) : Sp := fun vs H Q _ => ∃ (v u : V) (d : PyData), vs = [v, u] ∧ Dp K H v d ∧ Dp K H u d ∧ szD d ≤ 1000 ∧ ∀ H', Same H H' → Q (.bl true) H'
end
end Lw

set_option Elab.async false
set_option linter.all false
set_option maxRecDepth 100000
set_option maxHeartbeats 4000000
namespace Lw
open PySem PySem.Spec PyProof.Rows L2 Np TL
local macro_rules | `(tactic| walk_at "np_h") => `(tactic| first | assumption | exact upd_same | (refine (upd_ne ?_).trans ?_; (walk_at "np_ne"); (walk_at "np_h")) | exact SqL.of (by walk_at "np_h") | exact SqT.of (by walk_at "np_h"))
local macro_rules | `(tactic| walk_at "np_ne") => `(tactic| first | assumption | exact Ne.symm (by assumption))
local macro_rules | `(tactic| walk_at "np_r") => `(tactic| first
  | refine ⟨_, rfl, ?_⟩
  | refine ⟨_, _, rfl, rfl, ?_⟩
  | refine ⟨(.inl ⟨by decide, by decide⟩ : CMul _ _), ?_⟩
  | refine ⟨(.inr ⟨by decide, by decide⟩ : CMul _ _), ?_⟩
  | refine ⟨(by first | decide | omega : (0 : Int) < _), ?_⟩
  | refine ⟨(⟨by decide, by decide⟩ : CDiv _ _), ?_⟩
  | (refine' ⟨_, _, _, _, rfl, rfl, ?np1, ?np2, ?_⟩; (case np1 => walk_at "np_h"); (case np2 => rfl)))

/-! ### all stands, by going through all sets -/
def spEnc (sp : List Nat) : PyData := .tuple [.int (sp.length : Nat), .tuple ((sp.map fun (i : Nat) => (i : Int)).map PyData.int)]
def atP (pegs : List Str) (sp : List Nat) : List Str := sp.map fun i => pegs.getD i ""
/-- the places of all stands, mask by mask -/
def foundTo (pegs : List Str) (W B : List (Str × Str)) (n : Nat) : List (List Nat) := ((List.range n).map plc).filter fun sp => isStB W B (atP pegs sp)
theorem foundTo_succ (pegs : List Str) (W B : List (Str × Str)) (n : Nat) : foundTo pegs W B (n + 1) = foundTo pegs W B n ++ if isStB W B (atP pegs (plc n)) = true then [plc n] else [] := by
  unfold foundTo
  rw [List.range_succ, List.map_append, List.filter_append, List.map_singleton]
  congr 1
  cases c : isStB W B (atP pegs (plc n)) with
  | true => rw [List.filter_cons_of_pos (by exact c)]; rfl
  | false => rw [List.filter_cons_of_neg (by rw [c]; decide)]; rfl
theorem foundTo_len (pegs : List Str) (W B : List (Str × Str)) (n : Nat) : (foundTo pegs W B n).length ≤ n := by
  unfold foundTo
  refine Nat.le_trans (List.length_filter_le _ _) ?_
  rw [List.length_map, List.length_range]
  exact Nat.le_refl _
noncomputable def setsOf (pegs : List Str) (W B : List (Str × Str)) : List (List Nat) := (foundTo pegs W B (2 ^ pegs.length)).mergeSort (PySem.W.dataLe false spEnc)
theorem mem_setsOf {pegs : List Str} {W B : List (Str × Str)} {sp : List Nat} (h : sp ∈ setsOf pegs W B) : ∃ m, m < 2 ^ pegs.length ∧ sp = plc m ∧ isStB W B (atP pegs sp) = true := by
  unfold setsOf at h
  have h := (List.mergeSort_perm _ _).subset h
  unfold foundTo at h
  obtain ⟨h1, h2⟩ := List.mem_filter.mp h
  obtain ⟨m, hm, rfl⟩ := List.mem_map.mp h1
  exact ⟨m, List.mem_range.mp hm, rfl, h2⟩
theorem sp_alike (b b' : List Nat) : PySem.W.alike (spEnc b) (spEnc b') = true := by
  unfold spEnc
  rw [PySem.W.alike, PySem.W.alikeAll, PySem.W.alike, PySem.W.alikeAll, PySem.W.alike, PySem.W.alike_ints, PySem.W.alikeAll]
  rfl
theorem sp_depth (b : List Nat) : (spEnc b).depth ≤ 20 := by
  unfold spEnc
  rw [PyData.depth, PyData.depthAll, PyData.depthAll, PyData.depthAll, PyData.depth, PyData.depth, PySem.W.depth_ints]
  decide
theorem dp_ints {K : PySem.W.Frag} {H : Hp} : ∀ ns : List Int, DpAll K H (ns.map V.int) (ns.map PyData.int)
  | [] => .nil
  | x :: ns => .cons (.int x) (dp_ints ns)
section
variable {P : Program} {w : World} {K : PySem.W.Frag} {mg : Str → Option Value} {base : Heap}
theorem boundN {N : Nat} (h : N ≤ 4096) : -(2 ^ 62) ≤ (N : Int) ∧ (N : Int) < 2 ^ 62 := by omega
theorem bitN1 (m p : Nat) : decide ((m / 2 ^ p &&& 1) = 1) = m.testBit p := by
  rw [← bitM1]
  exact decide_eq_decide.mpr ⟨fun h => by rw [h]; rfl, fun h => Int.ofNat.inj h⟩
def spSets (K : PySem.W.Frag) : Sp := fun vs H Q _ => ∃ (q : Addr) (pegs : List Str) (W B : List (Str × Str)) (cs : List Int), vs = [.ref q] ∧ PartsAt K H q pegs W B cs ∧ pegs.length ≤ 9 ∧ W.length ≤ 900 ∧ B.length ≤ 900 ∧
  ∀ p H' (ts : List Addr), Same H H' → H p = none → H' p = some (.lst (ts.map V.ref)) → Paired (fun T (sp : List Nat) => SqT K H' T ((atP pegs sp).map V.str)) ts (setsOf pegs W B) → Q (.ref p) H'
end
end Lw

set_option Elab.async false
set_option linter.all false
set_option maxRecDepth 100000
set_option maxHeartbeats 4000000
namespace Lw
open PySem PySem.Spec PyProof.Rows L2 Np TL
/-! ### what is due of turns is what comes -/
theorem decS (a b : Str) : decide (V.str a = V.str b) = decide (a = b) := decide_eq_decide.mpr ⟨fun h => V.str.inj h, fun h => by rw [h]⟩
section
variable {pegs : List Str} {W B : List (Str × Str)} {cs : List Int}
theorem range_getD (pegs : List Str) : (List.range pegs.length).map (fun i => pegs.getD i "") = pegs := by
  refine List.ext_getElem (by simp) fun i h1 h2 => ?_
  rw [List.getElem_map, List.getElem_range, List.getD_eq_getElem?_getD, List.getElem?_eq_getElem h2]
  rfl
/-- the pegs in a mask are those whose bit is set -/
theorem pegsIn_filter (hn : pegs.Nodup) {m : Nat} (hm : m < 2 ^ pegs.length) : pegsIn pegs m = pegs.filter fun p => m.testBit (pegs.idxOf p) := by
  unfold pegsIn
  rw [plc_eq hm]
  conv => rhs; rw [← range_getD pegs]
  rw [List.filter_map, range_getD]
  congr 1
  refine List.filter_congr fun i hi => ?_
  have hi := List.mem_range.mp hi
  show m.testBit i = m.testBit (pegs.idxOf (pegs.getD i ""))
  rw [idx_of_getD hn hi]
theorem mask_bit (hn : pegs.Nodup) {row : List Str} (hrow : ∀ s ∈ row, s ∈ pegs) {p : Str} (hp : p ∈ pegs) : (maskOf pegs row).testBit (pegs.idxOf p) = decide (p ∈ row) := by
  rw [maskOf_bit, Bool.eq_iff_iff, List.any_eq_true, decide_eq_true_eq]
  constructor
  · rintro ⟨s, hs, e⟩
    rw [idx_inj hp (hrow s hs) (of_decide_eq_true e).symm]
    exact hs
  · intro h
    exact ⟨p, h, decide_eq_true rfl⟩
theorem pegsIn_row (hn : pegs.Nodup) {row : List Str} (hrow : ∀ s ∈ row, s ∈ pegs) : pegsIn pegs (maskOf pegs row) = pegs.filter fun s => decide (s ∈ row) := by
  rw [pegsIn_filter hn (maskOf_lt hrow)]
  exact List.filter_congr fun p hp => mask_bit hn hrow hp
theorem headD_map {α : Type} (f : Nat → α) (d : α) : ∀ {l : List Nat}, l ≠ [] → (l.map f).headD d = f (l.headD 0)
  | [], h => absurd rfl h
  | _ :: _, _ => rfl
theorem plc_ne {m : Nat} (h : m ≠ 0) : plc m ≠ [] := fun z => by
  obtain ⟨j, hj⟩ := Nat.exists_testBit_of_ne_zero h
  have := mem_plc.mpr hj
  rw [z] at this
  cases this
theorem clB_iff (h : Parts pegs W B cs) {x y : Str} (hx : x ∈ pegs) (hy : y ∈ pegs) : clB W B pegs x y = true ↔ Clash W B x y := by
  unfold clB barB Clash
  rw [List.any_eq_true]
  constructor
  · rintro ⟨⟨a, c⟩, hw, e⟩
    unfold barP at e
    simp only [Bool.or_eq_true, Bool.and_eq_true, decide_eq_true_eq, mem_rowOf] at e
    rcases e with ⟨⟨_, r1⟩, _, r2⟩ | ⟨⟨_, r1⟩, _, r2⟩
    · exact ⟨a, c, r1, r2, .inl hw⟩
    · exact ⟨c, a, r1, r2, .inr hw⟩
  · rintro ⟨a, c, r1, r2, hw⟩
    have ma := r1.inside h.w2 hx
    have mc := r2.inside h.w2 hy
    rcases hw with hw | hw
    · refine ⟨(a, c), hw, ?_⟩
      unfold barP
      rw [decide_eq_true (mem_rowOf.mpr ⟨ma, r1⟩), decide_eq_true (mem_rowOf.mpr ⟨mc, r2⟩)]
      rfl
    · refine ⟨(c, a), hw, ?_⟩
      unfold barP
      rw [decide_eq_true (mem_rowOf.mpr ⟨ma, r1⟩), decide_eq_true (mem_rowOf.mpr ⟨mc, r2⟩)]
      exact Bool.or_true _
theorem cl_symm {x y : Str} (h : Clash W B x y) : Clash W B y x := let ⟨a, c, r1, r2, hw⟩ := h; ⟨c, a, r2, r1, hw.symm⟩
theorem cl_irrefl (h : Parts pegs W B cs) {x : Str} : ¬ Clash W B x x := fun ⟨a, c, r1, r2, hw⟩ => hw.elim (fun z => h.alive _ _ _ r1 r2 z) fun z => h.alive _ _ _ r2 r1 z
theorem mk_below (h : Parts pegs W B cs) {x y : Str} (hx : x ∈ pegs) (hy : y ∈ pegs) : ((mkBd pegs W B cs).below.getD (pegs.idxOf x) 0).testBit (pegs.idxOf y) = decide (y ∈ rowOf W pegs x) := by
  rw [Bool.eq_iff_iff, decide_eq_true_eq, mem_rowOf]
  exact (below_bit h hx hy).trans ⟨fun z => ⟨hy, z⟩, fun z => z.2⟩
theorem mk_clash (h : Parts pegs W B cs) {x y : Str} (hx : x ∈ pegs) (hy : y ∈ pegs) : ((mkBd pegs W B cs).clash.getD (pegs.idxOf x) 0).testBit (pegs.idxOf y) = barB (rowOf W pegs x) (rowOf W pegs y) B := by
  rw [Bool.eq_iff_iff]
  exact (clash_bit h hx hy).trans (clB_iff h hx hy).symm
theorem mk_above (h : Parts pegs W B cs) {x y : Str} (hx : x ∈ pegs) (hy : y ∈ pegs) : ((mkBd pegs W B cs).above.getD (pegs.idxOf x) 0).testBit (pegs.idxOf y) = ((mkBd pegs W B cs).below.getD (pegs.idxOf y) 0).testBit (pegs.idxOf x) := by
  have b1 := below_ok h
  have b2 := above_bits b1
  have lx := List.idxOf_lt_length_of_mem hx
  have ly := List.idxOf_lt_length_of_mem hy
  rw [Bool.eq_iff_iff]
  refine (b2.2 _ lx _).trans ?_
  refine Iff.trans ?_ (b1.2 _ ly _).symm
  exact ⟨fun z => z.2, fun z => ⟨ly, z⟩⟩
theorem mk_gd (h : Parts pegs W B cs) : (mkBd pegs W B cs).Gd := by
  have get : ∀ {i}, i < pegs.length → ∃ x ∈ pegs, pegs.idxOf x = i := fun {i} hi => ⟨_, mem_getD hi, idx_of_getD h.nd hi⟩
  refine ⟨fun i j hi hj => ?_, fun i hi => ?_, fun i j hi hj => ?_, fun i hi => ?_⟩
  · obtain ⟨x, hx, rfl⟩ := get hi
    obtain ⟨y, hy, rfl⟩ := get hj
    rw [Bool.eq_iff_iff]
    exact (clash_bit h hx hy).trans (Iff.trans ⟨cl_symm, cl_symm⟩ (clash_bit h hy hx).symm)
  · obtain ⟨x, hx, rfl⟩ := get hi
    exact Bool.eq_false_iff.mpr fun z => cl_irrefl h ((clash_bit h hx hx).mp z)
  · obtain ⟨x, hx, rfl⟩ := get hi
    obtain ⟨y, hy, rfl⟩ := get hj
    exact mk_above h hx hy
  · obtain ⟨x, hx, rfl⟩ := get hi
    exact (below_bit h hx hx).mpr (.refl _)
theorem first_in {m : Nat} (hm : m ≠ 0) : ∃ ls, pegsIn pegs m = fstP (mkBd pegs W B cs) m :: ls := by
  unfold pegsIn fstP
  cases e : plc m with
  | nil => exact absurd e (plc_ne hm)
  | cons a l => exact ⟨_, rfl⟩
theorem none_in : pegsIn pegs 0 = [] := by
  unfold pegsIn
  rw [plc_zero]
  rfl
theorem or_lt {m i n : Nat} (h : m < 2 ^ n) (hi : i < n) : m ||| 2 ^ i < 2 ^ n := Nat.or_lt_two_pow h (Nat.pow_lt_pow_right (by decide) hi)
theorem xor_lt {m i n : Nat} (h : m < 2 ^ n) (hi : i < n) : m ^^^ 2 ^ i < 2 ^ n := Nat.xor_lt_two_pow h (Nat.pow_lt_pow_right (by decide) hi)
theorem idx_eq {x y : Str} (hx : x ∈ pegs) (hy : y ∈ pegs) : decide (pegs.idxOf x = pegs.idxOf y) = decide (y = x) := decide_eq_decide.mpr ⟨fun z => (idx_inj hx hy z).symm, fun z => by rw [z]⟩
theorem in_row (hn : pegs.Nodup) {m : Nat} (hm : m < 2 ^ pegs.length) {y : Str} (hy : y ∈ pegs) : decide (y ∈ pegsIn pegs m) = m.testBit (pegs.idxOf y) := by
  rw [Bool.eq_iff_iff, decide_eq_true_eq]
  exact mem_pegsIn hn hm hy
end
end Lw

set_option Elab.async false
set_option linter.all false
set_option maxRecDepth 100000
set_option maxHeartbeats 4000000
namespace Lw
open PySem PySem.Spec PyProof.Rows L2 Np TL
/-! ### other needs and bars for the same board -/
theorem rows_ext {a b : List Nat} {n : Nat} (ha : a.length = n) (hb : b.length = n) (la : ∀ i, i < n → a.getD i 0 < 2 ^ n) (lb : ∀ i, i < n → b.getD i 0 < 2 ^ n) (h : ∀ i j, i < n → j < n → (a.getD i 0).testBit j = (b.getD i 0).testBit j) : a = b := by
  refine List.ext_getElem (ha.trans hb.symm) fun i h1 h2 => ?_
  have hi : i < n := by omega
  have e : a.getD i 0 = b.getD i 0 := by
    refine Nat.eq_of_testBit_eq fun j => ?_
    by_cases hj : j < n
    · exact h i j hi hj
    · rw [Nat.testBit_lt_two_pow (Nat.lt_of_lt_of_le (la i hi) (Nat.pow_le_pow_right (by decide) (by omega))), Nat.testBit_lt_two_pow (Nat.lt_of_lt_of_le (lb i hi) (Nat.pow_le_pow_right (by decide) (by omega)))]
  rw [List.getD_eq_getElem?_getD, List.getElem?_eq_getElem h1, List.getD_eq_getElem?_getD, List.getElem?_eq_getElem h2] at e
  exact e
theorem reach_rk {W : List (Str × Str)} {rk : Str → Nat} (h : ∀ w ∈ W, rk w.2 < rk w.1) {a b : Str} (r : Reach W a b) : a = b ∨ rk b < rk a := by
  induction r with
  | refl => exact .inl rfl
  | step hw _ ih =>
    have := h _ hw
    rcases ih with rfl | ih
    · exact .inr this
    · exact .inr (Nat.lt_trans ih this)
/-- pairs that follow are added -/
structure Adds (pegs : List Str) (W B W' B' : List (Str × Str)) : Prop where
  w1 : ∀ w ∈ W, w ∈ W'
  w2 : ∀ w ∈ W', w ∈ W ∨ (w.1 ∈ pegs ∧ w.2 ∈ pegs ∧ w.1 ≠ w.2 ∧ Reach W w.1 w.2)
  b1 : ∀ w ∈ B, w ∈ B'
  b2 : ∀ w ∈ B', w ∈ B ∨ (w.1 ∈ pegs ∧ w.2 ∈ pegs ∧ w.1 ≠ w.2 ∧ Clash W B w.1 w.2)
section
variable {pegs : List Str} {W B W' B' : List (Str × Str)} {cs : List Int}
theorem Adds.reach (A : Adds pegs W B W' B') {a b : Str} : Reach W' a b ↔ Reach W a b := by
  constructor
  · intro r
    induction r with
    | refl => exact .refl _
    | step hw _ ih =>
      rcases A.w2 _ hw with h | h
      · exact .step h ih
      · exact h.2.2.2.trans ih
  · intro r
    induction r with
    | refl => exact .refl _
    | step hw _ ih => exact .step (A.w1 _ hw) ih
theorem clash_down {x y a b : Str} (h : Clash W B x y) (h1 : Reach W a x) (h2 : Reach W b y) : Clash W B a b := by
  obtain ⟨c, d, r1, r2, hw⟩ := h
  exact ⟨c, d, h1.trans r1, h2.trans r2, hw⟩
theorem Adds.clash (A : Adds pegs W B W' B') {x y : Str} : Clash W' B' x y ↔ Clash W B x y := by
  have one : ∀ {c d : Str}, (c, d) ∈ B' → Clash W B c d := fun {c d} h => by
    rcases A.b2 _ h with h | h
    · exact ⟨c, d, .refl _, .refl _, .inl h⟩
    · exact h.2.2.2
  constructor
  · rintro ⟨c, d, r1, r2, hw⟩
    rw [A.reach] at r1 r2
    rcases hw with hw | hw
    · exact clash_down (one hw) r1 r2
    · exact clash_down (cl_symm (one hw)) r1 r2
  · rintro ⟨c, d, r1, r2, hw⟩
    exact ⟨c, d, A.reach.mpr r1, A.reach.mpr r2, hw.imp (A.b1 _) (A.b1 _)⟩
theorem Adds.parts (A : Adds pegs W B W' B') (h : Parts pegs W B cs) (l1 : W'.length ≤ 900) (l2 : B'.length ≤ 900) : Parts pegs W' B' cs := by
  refine ⟨h.nd, h.le, h.nm, fun w hw => ?_, l1, ?_, fun w hw => ?_, l2, fun p a b r1 r2 hb => ?_, h.cl, h.cr⟩
  · rcases A.w2 w hw with q | q
    · exact h.wi w q
    · exact ⟨q.1, q.2.1, q.2.2.1⟩
  · obtain ⟨rk, h1, h2⟩ := h.rk
    refine ⟨rk, fun w hw => ?_, h2⟩
    rcases A.w2 w hw with q | q
    · exact h1 w q
    · exact (reach_rk h1 q.2.2.2).resolve_left q.2.2.1
  · rcases A.b2 w hw with q | q
    · exact h.bi w q
    · exact ⟨q.1, q.2.1, q.2.2.1⟩
  · rw [A.reach] at r1 r2
    rcases A.b2 _ hb with q | q
    · exact h.alive p a b r1 r2 q
    · exact cl_irrefl h (clash_down q.2.2.2 r1 r2)
theorem Adds.board (A : Adds pegs W B W' B') (h : Parts pegs W B cs) (l1 : W'.length ≤ 900) (l2 : B'.length ≤ 900) : mkBd pegs W' B' cs = mkBd pegs W B cs := by
  have h' := A.parts h l1 l2
  have ok := mkBd_ok h
  have ok' := mkBd_ok h'
  have get : ∀ {i}, i < pegs.length → ∃ x ∈ pegs, pegs.idxOf x = i := fun {i} hi => ⟨_, mem_getD hi, idx_of_getD h.nd hi⟩
  have e1 : belowOf pegs W' = belowOf pegs W := by
    refine rows_ext (n := pegs.length) ok'.lb ok.lb ok'.bb ok.bb fun i j hi hj => ?_
    obtain ⟨x, hx, rfl⟩ := get hi
    obtain ⟨y, hy, rfl⟩ := get hj
    rw [Bool.eq_iff_iff]
    exact (below_bit h' hx hy).trans (A.reach.trans (below_bit h hx hy).symm)
  have e2 : clashOf pegs W' B' = clashOf pegs W B := by
    refine rows_ext (n := pegs.length) ok'.lx ok.lx ok'.bx ok.bx fun i j hi hj => ?_
    obtain ⟨x, hx, rfl⟩ := get hi
    obtain ⟨y, hy, rfl⟩ := get hj
    rw [Bool.eq_iff_iff]
    exact (clash_bit h' hx hy).trans (A.clash.trans (clash_bit h hx hy).symm)
  unfold mkBd
  rw [e1, e2]
end
/-! ### drawn rows of pairs -/
theorem paired_perm {α β : Type} {F : α → β → Prop} {l l' : List α} (p : l'.Perm l) : ∀ {m : List β}, Paired F l m → ∃ m', m'.Perm m ∧ Paired F l' m' := by
  induction p with
  | nil => intro m h; cases h; exact ⟨[], .refl _, .nil⟩
  | cons a _ ih =>
    intro m h
    cases h with
    | cons h t =>
      obtain ⟨m', q, r⟩ := ih t
      exact ⟨_ :: m', q.cons _, .cons h r⟩
  | swap a b l =>
    intro m h
    cases h with
    | cons h1 t =>
      cases t with
      | cons h2 t => exact ⟨_, .swap _ _ _, .cons h2 (.cons h1 t)⟩
  | trans _ _ ih1 ih2 =>
    intro m h
    obtain ⟨m1, q1, r1⟩ := ih2 h
    obtain ⟨m2, q2, r2⟩ := ih1 r1
    exact ⟨m2, q2.trans q1, r2⟩
theorem perm_refs {zs : List V} {ts : List Addr} (h : zs.Perm (ts.map V.ref)) : ∃ us : List Addr, zs = us.map V.ref ∧ us.Perm ts := by
  let un : V → Addr := fun v => match v with | .ref s => s | _ => 0
  refine ⟨zs.map un, ?_, ?_⟩
  · rw [List.map_map]
    refine (List.map_id zs).symm.trans (List.map_congr_left fun v hv => ?_)
    obtain ⟨s, _, rfl⟩ := List.mem_map.mp (h.subset hv)
    rfl
  · have e := h.map un
    rw [List.map_map] at e
    have e2 : ts.map (un ∘ V.ref) = ts := List.map_id ts
    rw [e2] at e
    exact e
theorem paired_take {α β : Type} {F : α → β → Prop} : ∀ {l : List α} {m : List β} (n : Nat), Paired F l m → Paired F (l.take n) (m.take n)
  | _, _, 0, _ => by rw [List.take_zero, List.take_zero]; exact .nil
  | _, _, _ + 1, .nil => .nil
  | _, _, n + 1, .cons h t => .cons h (paired_take n t)
theorem paired_drop {α β : Type} {F : α → β → Prop} : ∀ {l : List α} {m : List β} (n : Nat), Paired F l m → Paired F (l.drop n) (m.drop n)
  | _, _, 0, h => h
  | _, _, _ + 1, .nil => .nil
  | _, _, n + 1, .cons _ t => paired_drop n t
theorem cut_refs {β : Type} {F : Addr → β → Prop} {ts : List Addr} {m : List β} (lo hi : Option Int) (h : Paired F ts m) : ∃ us m', cutV (ts.map V.ref) lo hi = us.map V.ref ∧ Paired F us m' ∧ (∀ x ∈ m', x ∈ m) ∧ us.length ≤ ts.length := by
  unfold cutV
  rw [← List.map_drop, ← List.map_take]
  refine ⟨_, _, rfl, paired_take _ (paired_drop _ h), fun x hx => List.mem_of_mem_drop (List.mem_of_mem_take hx), ?_⟩
  rw [List.length_take, List.length_drop]
  omega
end Lw

set_option Elab.async false
set_option linter.all false
set_option maxRecDepth 100000
set_option maxHeartbeats 4000000
namespace Lw
open PySem PySem.Spec PyProof.Rows L2 Np TL
local macro_rules | `(tactic| walk_at "np_h") => `(tactic| first | assumption | exact upd_same | (refine (upd_ne ?_).trans ?_; (walk_at "np_ne"); (walk_at "np_h")) | exact SqL.of (by walk_at "np_h") | exact SqT.of (by walk_at "np_h"))
local macro_rules | `(tactic| walk_at "np_ne") => `(tactic| first | assumption | exact Ne.symm (by assumption))
local macro_rules | `(tactic| walk_at "np_r") => `(tactic| first
  | refine ⟨_, rfl, ?_⟩
  | refine ⟨_, _, rfl, rfl, ?_⟩
  | refine ⟨(.inl ⟨by decide, by decide⟩ : CMul _ _), ?_⟩
  | refine ⟨(.inr ⟨by decide, by decide⟩ : CMul _ _), ?_⟩
  | refine ⟨(by first | decide | omega : (0 : Int) < _), ?_⟩
  | refine ⟨(⟨by decide, by decide⟩ : CDiv _ _), ?_⟩
  | (refine' ⟨_, _, _, _, rfl, rfl, ?np1, ?np2, ?_⟩; (case np1 => walk_at "np_h"); (case np2 => rfl)))

/-! ### the same board, made otherwise -/
theorem mem_clashTo {cl : Str → Str → Bool} {pegs : List Str} (hn : pegs.Nodup) : ∀ {n : Nat}, n ≤ pegs.length → ∀ {w : Str × Str}, w ∈ clashTo cl pegs n → w.1 ∈ pegs ∧ w.2 ∈ pegs ∧ w.1 ≠ w.2 ∧ cl w.1 w.2 = true
  | 0, _, w, h => by cases h
  | n + 1, hle, w, h => by
    rw [clashTo_succ] at h
    rcases List.mem_append.mp h with h | h
    · exact mem_clashTo hn (by omega) h
    · obtain ⟨y, hy, rfl⟩ := List.mem_map.mp h
      obtain ⟨h1, h2⟩ := List.mem_filter.mp hy
      have hlt : n < pegs.length := by omega
      have eg : pegs.getD n "" = pegs[n] := by rw [List.getD_eq_getElem?_getD, List.getElem?_eq_getElem hlt]; rfl
      have hd : pegs.drop n = pegs[n] :: pegs.drop (n + 1) := List.drop_eq_getElem_cons hlt
      have nd2 : (pegs.drop n).Nodup := hn.sublist (List.drop_sublist _ _)
      rw [hd] at nd2
      refine ⟨by show pegs.getD n "" ∈ pegs; rw [eg]; exact List.getElem_mem hlt, List.mem_of_mem_drop h1, ?_, h2⟩
      show pegs.getD n "" ≠ y
      rw [eg]
      exact fun z => (List.nodup_cons.mp nd2).1 (by rw [z]; exact h1)
theorem sqB_stay {K : PySem.W.Frag} {t : Bool} {H H' : Hp} {b q : Addr} {ys zs : List V} (h : SqB K t H q ys) (hq : t = true → q ≠ b ∧ H q = some (.lst ys)) (hb : H b = some (.lst zs)) (s : But b H H') : SqB K t H' q ys := by
  cases t
  · exact (Fr.but s hb).sqT h
  · exact SqL.of (s _ _ (hq rfl).1 (hq rfl).2)
section
variable {P : Program} {w : World} {K : PySem.W.Frag} {mg : Str → Option Value} {base : Heap}
def spSameBoard (K : PySem.W.Frag) : Sp := fun vs H Q _ => ∃ (b q : Addr) (x y z : Int) (pegs : List Str) (W B : List (Str × Str)) (cs : List Int), vs = [.ref b, .ref q] ∧ H b = some (bx x y z) ∧ PartsAt K H q pegs W B cs ∧ Parts pegs W B cs ∧ W.length ≤ 24 ∧ B.length ≤ 24 ∧
  ∀ (a : Addr) (H' : Hp) (x' y' z' : Int), H a = none → But b H H' → H' b = some (bx x' y' z') → BoardAt K H' a (mkBd pegs W B cs) → Q (.ref a) H'
end
end Lw

set_option Elab.async false
set_option linter.all false
set_option maxRecDepth 100000
set_option maxHeartbeats 4000000
namespace Lw
open PySem PySem.Spec PyProof.Rows L2 Np TL
local macro_rules | `(tactic| walk_at "np_h") => `(tactic| first | assumption | exact upd_same | (refine (upd_ne ?_).trans ?_; (walk_at "np_ne"); (walk_at "np_h")) | exact SqL.of (by walk_at "np_h") | exact SqT.of (by walk_at "np_h"))
local macro_rules | `(tactic| walk_at "np_ne") => `(tactic| first | assumption | exact Ne.symm (by assumption))
local macro_rules | `(tactic| walk_at "np_r") => `(tactic| first
  | refine ⟨_, rfl, ?_⟩
  | refine ⟨_, _, rfl, rfl, ?_⟩
  | refine ⟨(.inl ⟨by decide, by decide⟩ : CMul _ _), ?_⟩
  | refine ⟨(.inr ⟨by decide, by decide⟩ : CMul _ _), ?_⟩
  | refine ⟨(by first | decide | omega : (0 : Int) < _), ?_⟩
  | refine ⟨(⟨by decide, by decide⟩ : CDiv _ _), ?_⟩
  | (refine' ⟨_, _, _, _, rfl, rfl, ?np1, ?np2, ?_⟩; (case np1 => walk_at "np_h"); (case np2 => rfl)))

/-! ### boards and stands compared -/
theorem dpS {K : PySem.W.Frag} {H : Hp} : ∀ (row : List Str), DpAll K H (row.map V.str) (row.map PyData.str)
  | [] => .nil
  | x :: row => .cons (.str x) (dpS row)
theorem strOkS {s : Str} (h : RightName s) : PyData.strOk s = true := by
  unfold PyData.strOk
  rw [Array.all_eq_true_iff_forall_mem]
  intro c hc
  have := h.low c (Array.mem_def.mp hc)
  exact decide_eq_true (by omega)
theorem shapedS {row : List Str} (h : ∀ s ∈ row, RightName s) : SeqAt.shaped (.tuple (row.map PyData.str)) = true := by
  have e1 : ∀ row : List Str, (∀ s ∈ row, RightName s) → PyData.canLayAll0 (row.map PyData.str) = true := fun row => by
    induction row with
    | nil => intro _; rfl
    | cons x row ih =>
      intro h
      rw [List.map_cons, PyData.canLayAll0, ih fun s hs => h s (List.mem_cons_of_mem _ hs), Bool.and_true, PyData.canLay0]
      exact strOkS (h x List.mem_cons_self)
  have e2 : ∀ row : List Str, PyData.depthAll (row.map PyData.str) = 0 := fun row => by
    induction row with
    | nil => rfl
    | cons x row ih => rw [List.map_cons, PyData.depthAll, ih, PyData.depth]; rfl
  unfold SeqAt.shaped
  rw [PyData.canLay0, e1 row h, PyData.depth, e2]
  rfl
theorem eqvAll_strs2 : ∀ xs ys : List Str, PyData.eqvAll (xs.map PyData.str) (ys.map PyData.str) = decide (xs = ys)
  | [], [] => by rw [List.map_nil, PyData.eqvAll]; rfl
  | [], y :: ys => by rw [List.map_nil, List.map_cons, PyData.eqvAll]; rfl
  | x :: xs, [] => by rw [List.map_nil, List.map_cons, PyData.eqvAll]; rfl
  | x :: xs, y :: ys => by
    rw [List.map_cons, List.map_cons, PyData.eqvAll, eqvAll_strs2 xs ys, PyData.eqv]
    by_cases h1 : x = y <;> by_cases h2 : xs = ys <;> simp [h1, h2]
theorem eqvAll_ints : ∀ xs ys : List Int, PyData.eqvAll (xs.map PyData.int) (ys.map PyData.int) = decide (xs = ys)
  | [], [] => by rw [List.map_nil, PyData.eqvAll]; rfl
  | [], y :: ys => by rw [List.map_nil, List.map_cons, PyData.eqvAll]; rfl
  | x :: xs, [] => by rw [List.map_nil, List.map_cons, PyData.eqvAll]; rfl
  | x :: xs, y :: ys => by
    rw [List.map_cons, List.map_cons, PyData.eqvAll, eqvAll_ints xs ys, PyData.eqv]
    by_cases h1 : x = y <;> by_cases h2 : xs = ys <;> simp [h1, h2]
theorem shaped_ints (xs : List Int) : SeqAt.shaped (.tuple (xs.map PyData.int)) = true := by
  have e1 : ∀ xs : List Int, PyData.canLayAll0 (xs.map PyData.int) = true := fun xs => by
    induction xs with
    | nil => rfl
    | cons x xs ih => rw [List.map_cons, PyData.canLayAll0, ih, Bool.and_true, PyData.canLay0]
  have e2 : ∀ xs : List Int, PyData.depthAll (xs.map PyData.int) = 0 := fun xs => by
    induction xs with
    | nil => rfl
    | cons x xs ih => rw [List.map_cons, PyData.depthAll, ih, PyData.depth]; rfl
  unfold SeqAt.shaped
  rw [PyData.canLay0, e1, PyData.depth, e2]
  rfl
theorem dpL_ints {K : PySem.W.Frag} {H : Hp} : ∀ xs : List Int, DpAll K H (xs.map V.int) (xs.map PyData.int)
  | [] => .nil
  | x :: xs => .cons (.int x) (dpL_ints xs)
theorem dpL_nats {K : PySem.W.Frag} {H : Hp} (xs : List Nat) : DpAll K H (xs.map vN) ((xs.map Int.ofNat).map PyData.int) := by
  have e : xs.map vN = (xs.map Int.ofNat).map V.int := by rw [List.map_map]; rfl
  rw [e]
  exact dpL_ints _
theorem ofNat_inj {xs ys : List Nat} : xs.map Int.ofNat = ys.map Int.ofNat ↔ xs = ys :=
  ⟨fun h => by
    have := congrArg (List.map Int.toNat) h
    simpa [List.map_map, Function.comp_def] using this, fun h => by rw [h]⟩
/-- what makes two boards equal -/
def eqBd (B B2 : Bd) : Prop := B.pegs = B2.pegs ∧ B.costs = B2.costs ∧ B.below = B2.below ∧ B.clash = B2.clash
instance (B B2 : Bd) : Decidable (eqBd B B2) := by unfold eqBd; infer_instance
def Named (B : Bd) : Prop := ∀ s ∈ B.pegs, RightName s
theorem TyX.own {K : PySem.W.Frag} {H : Hp} {C a dx : Addr} {fs : List (Str × V)} (c : Cls K C) (i : IsiC K C) (h : H a = some (.ins C dx fs)) : TyX K H (.ref a) (.ref C) := .base (.ins h c i.ha i.hn i.htk i.hm)
section
variable {P : Program} {w : World} {K : PySem.W.Frag} {mg : Str → Option Value} {base : Heap}
/-- board == x: another board, or no board -/
def spEqB (K : PySem.W.Frag) : Sp := fun vs H Q _ => ∃ (b : Addr) (y : V) (B : Bd), vs = [.ref b, y] ∧ BoardAt K H b B ∧ Named B ∧
  ((∃ (b2 : Addr) (B2 : Bd), y = .ref b2 ∧ BoardAt K H b2 B2 ∧ Named B2 ∧ Q (.bl (decide (eqBd B B2))) H) ∨ ∃ t, TyX K H y t ∧ PySem.W.kitOne K t (.ref (cB K)) = some false ∧ Q (.bl false) H)
theorem scBoardEq : FnScope ["self", "other"] ["self", "other"] (defScope sBoardEq) := ⟨rfl, rfl, rfl, by decide +kernel, rfl, by decide +kernel, by decide +kernel⟩
theorem ok_board_eq {f : Addr} {fd : FuncData} (F : FnM K "__eq__" "Board.__eq__" sBoardEq f fd) (m : Bl mg) (cls_Board : Cls K (cB K)) (na_Board : ∀ f ∈ fB, NoAttr K (cB K) f) (isi_Board : IsiC K (cB K)) (g_Board : mg "Board" = some (.ref (cB K))) (ibb : PySem.W.kitOne K (.ref (cB K)) (.ref (cB K)) = some true) :
    FnOk P w K mg base CX0 1 f fd ["self", "other"] (spEqB K) := by
  have nd := scBoardEq.nd
  refine F.ok scBoardEq (fun vs H Q E h => ?_) (fun cdv A outer s H vs Q E hr h => ?_)
  · obtain ⟨b, y, B, rfl, _⟩ := h
    rfl
  · obtain ⟨b, y, B, rfl, hB, nB, h⟩ := h
    refine ⟨_, PSs.nox (pss_one (ps_ret (pe_and (pe_callB (call_isX (K := K) rfl) (by rfl) m.isinstance (by decide +kernel) (pa_cons (pv 1) (pa_cons (pe_glob (v := .ref (cB K)) (by rfl) g_Board rfl) pa_nil))) (pe_and (pe_cmpR (op_eqD hr.units) (pe_A (pv 0) cls_Board (na_Board _ (by decide))) (pe_A (pv 1) cls_Board (na_Board _ (by decide))) (nomark _)) (pe_and (pe_cmpR (op_eqD hr.units) (pe_A (pv 0) cls_Board (na_Board _ (by decide))) (pe_A (pv 1) cls_Board (na_Board _ (by decide))) (nomark _)) (pe_and (pe_cmpR (op_eqD hr.units) (pe_A (pv 0) cls_Board (na_Board _ (by decide))) (pe_A (pv 1) cls_Board (na_Board _ (by decide))) (nomark _)) (pe_one (pe_cmpR (op_eqD hr.units) (pe_A (pv 0) cls_Board (na_Board _ (by decide))) (pe_A (pv 1) cls_Board (na_Board _ (by decide))) (nomark _))))))))), ?_⟩
    rcases h with ⟨b2, B2, rfl, hB2, nB2, k⟩ | ⟨t, ty, e, k⟩
    · obtain ⟨ok, dx, pg, pl, co, be, ab, cl, od, hb⟩ := id hB
      obtain ⟨ok2, dx2, pg2, pl2, co2, be2, ab2, cl2, od2, hb2⟩ := id hB2
      refine ⟨_, rfl, _, _, _, _, true, rfl, .own _, TyX.own cls_Board isi_Board hb2.ins, ibb, ?_⟩
      have k' : ∀ c, c = decide (eqBd B B2) → Q (.bl c) H := fun c e => e ▸ k
      refine ⟨_, rfl, iteT ?_⟩
      refine ⟨_, rfl, b, dx, _, _, rfl, hb.ins, rfl, _, rfl, b2, dx2, _, _, rfl, hb2.ins, rfl, _, _, .tup hb.pg (dpS _), .tup hb2.pg (dpS _), shapedS nB, shapedS nB2, ?_⟩
      rw [PyData.eqv, eqvAll_strs2]
      by_cases h1 : B.pegs = B2.pegs
      rotate_left
      · rw [decide_eq_false h1]
        exact ⟨_, rfl, iteF (k' _ (decide_eq_false fun z => h1 z.1).symm)⟩
      rw [decide_eq_true h1]
      refine ⟨_, rfl, iteT ?_⟩
      refine ⟨_, rfl, b, dx, _, _, rfl, hb.ins, rfl, _, rfl, b2, dx2, _, _, rfl, hb2.ins, rfl, _, _, .tup hb.co (dpL_ints _), .tup hb2.co (dpL_ints _), shaped_ints _, shaped_ints _, ?_⟩
      rw [PyData.eqv, eqvAll_ints]
      by_cases h2 : B.costs = B2.costs
      rotate_left
      · rw [decide_eq_false h2]
        exact ⟨_, rfl, iteF (k' _ (decide_eq_false fun z => h2 z.2.1).symm)⟩
      rw [decide_eq_true h2]
      refine ⟨_, rfl, iteT ?_⟩
      refine ⟨_, rfl, b, dx, _, _, rfl, hb.ins, rfl, _, rfl, b2, dx2, _, _, rfl, hb2.ins, rfl, _, _, .tup hb.be (dpL_nats _), .tup hb2.be (dpL_nats _), shaped_ints _, shaped_ints _, ?_⟩
      rw [PyData.eqv, eqvAll_ints]
      by_cases h3 : B.below = B2.below
      rotate_left
      · rw [decide_eq_false fun z => h3 (ofNat_inj.mp z)]
        exact ⟨_, rfl, iteF (k' _ (decide_eq_false fun z => h3 z.2.2.1).symm)⟩
      rw [decide_eq_true (ofNat_inj.mpr h3)]
      refine ⟨_, rfl, iteT ?_⟩
      refine ⟨_, rfl, b, dx, _, _, rfl, hb.ins, rfl, _, rfl, b2, dx2, _, _, rfl, hb2.ins, rfl, _, _, .tup hb.cl (dpL_nats _), .tup hb2.cl (dpL_nats _), shaped_ints _, shaped_ints _, ?_⟩
      rw [PyData.eqv, eqvAll_ints]
      by_cases h4 : B.clash = B2.clash
      · rw [decide_eq_true (ofNat_inj.mpr h4)]
        exact k' _ (decide_eq_true ⟨h1, h2, h3, h4⟩).symm
      · rw [decide_eq_false fun z => h4 (ofNat_inj.mp z)]
        exact k' _ (decide_eq_false fun z => h4 z.2.2.2).symm
    · refine ⟨_, rfl, _, _, t, _, false, rfl, .own _, ty, e, ?_⟩
      exact ⟨_, rfl, iteF k⟩
end
end Lw

set_option Elab.async false
set_option linter.all false
set_option maxRecDepth 100000
set_option maxHeartbeats 4000000
namespace Lw
open PySem PySem.Spec PyProof.Rows L2 Np TL
local macro_rules | `(tactic| walk_at "np_h") => `(tactic| first | assumption | exact upd_same | (refine (upd_ne ?_).trans ?_; (walk_at "np_ne"); (walk_at "np_h")) | exact SqL.of (by walk_at "np_h") | exact SqT.of (by walk_at "np_h"))
local macro_rules | `(tactic| walk_at "np_ne") => `(tactic| first | assumption | exact Ne.symm (by assumption))
local macro_rules | `(tactic| walk_at "np_r") => `(tactic| first
  | refine ⟨_, rfl, ?_⟩
  | refine ⟨_, _, rfl, rfl, ?_⟩
  | refine ⟨(.inl ⟨by decide, by decide⟩ : CMul _ _), ?_⟩
  | refine ⟨(.inr ⟨by decide, by decide⟩ : CMul _ _), ?_⟩
  | refine ⟨(by first | decide | omega : (0 : Int) < _), ?_⟩
  | refine ⟨(⟨by decide, by decide⟩ : CDiv _ _), ?_⟩
  | (refine' ⟨_, _, _, _, rfl, rfl, ?np1, ?np2, ?_⟩; (case np1 => walk_at "np_h"); (case np2 => rfl)))

/-! ### stands as values -/
theorem nf_self {K : PySem.W.Frag} {C : Addr} : PySem.W.notFirst K C (.ref C) = true := by
  unfold PySem.W.notFirst
  rw [beq_iff_eq.mpr rfl]
  rfl
section
variable {P : Program} {w : World} {K : PySem.W.Frag} {mg : Str → Option Value} {base : Heap}
/-- stand == x: another stand, or no stand -/
def spEqS (K : PySem.W.Frag) : Sp := fun vs H Q _ => ∃ (a b : Addr) (y : V) (B : Bd) (m : Nat), vs = [.ref a, y] ∧ StandAt K H a b B m ∧ Named B ∧
  ((∃ (a2 b2 : Addr) (B2 : Bd) (m2 : Nat), y = .ref a2 ∧ StandAt K H a2 b2 B2 m2 ∧ Named B2 ∧ Q (.bl (decide (eqBd B B2 ∧ m = m2))) H) ∨ ∃ t, TyX K H y t ∧ PySem.W.kitOne K t (.ref (cS K)) = some false ∧ Q (.bl false) H)
theorem scStandEq : FnScope ["self", "other"] ["self", "other"] (defScope sStandEq) := ⟨rfl, rfl, rfl, by decide +kernel, rfl, by decide +kernel, by decide +kernel⟩
theorem ok_stand_eq {f : Addr} {fd : FuncData} (F : FnM K "__eq__" "Stand.__eq__" sStandEq f fd) (m : Bl mg) (cls_Board : Cls K (cB K)) (cls_Stand : Cls K (cS K)) (na_Stand : ∀ f ∈ fS, NoAttr K (cS K) f) (isi_Board : IsiC K (cB K)) (isi_Stand : IsiC K (cS K)) (g_Stand : mg "Stand" = some (.ref (cS K))) (iss : PySem.W.kitOne K (.ref (cS K)) (.ref (cS K)) = some true)
    (cM_Board___eq__ : CalM P w K mg base CX0 1 (cB K) "__eq__" (spEqB K)) : FnOk P w K mg base CX0 2 f fd ["self", "other"] (spEqS K) := by
  have nd := scStandEq.nd
  refine F.ok scStandEq (fun vs H Q E h => ?_) (fun cdv A outer s H vs Q E hr h => ?_)
  · obtain ⟨a, b, y, B, mm, rfl, _⟩ := h
    rfl
  · obtain ⟨a, b, y, B, mm, rfl, hS, nB, h⟩ := h
    refine ⟨_, PSs.nox (pss_one (ps_ret (pe_and (pe_callB (call_isX (K := K) rfl) (by rfl) m.isinstance (by decide +kernel) (pa_cons (pv 1) (pa_cons (pe_glob (v := .ref (cS K)) (by rfl) g_Stand rfl) pa_nil))) (pe_and (pe_cmpR (op_eqOK (K := K) rfl cM_Board___eq__ (hr.mono (by decide))) (pe_A (pv 0) cls_Stand (na_Stand _ (by decide))) (pe_A (pv 1) cls_Stand (na_Stand _ (by decide))) (nomark _)) (pe_one (pe_cmpR op_eq (pe_A (pv 0) cls_Stand (na_Stand _ (by decide))) (pe_A (pv 1) cls_Stand (na_Stand _ (by decide))) (nomark _))))))), ?_⟩
    rcases h with ⟨a2, b2, B2, m2, rfl, hS2, nB2, k⟩ | ⟨t, ty, e, k⟩
    · have k' : ∀ c, c = decide (eqBd B B2 ∧ mm = m2) → Q (.bl c) H := fun c e => e ▸ k
      obtain ⟨_, hB, dx, q1, hs, hq⟩ := id hS
      obtain ⟨_, hB2, dx2, q2, hs2, hq2⟩ := id hS2
      obtain ⟨ok, dy, pg, pl, co, be, ab, cl, od, hb⟩ := id hB
      obtain ⟨ok2, dy2, pg2, pl2, co2, be2, ab2, cl2, od2, hb2⟩ := id hB2
      refine ⟨_, rfl, _, _, _, _, true, rfl, .own _, TyX.own cls_Stand isi_Stand hs2, iss, ?_⟩
      refine ⟨_, rfl, iteT ?_⟩
      refine ⟨_, rfl, a, dx, _, _, rfl, hs, rfl, _, rfl, a2, dx2, _, _, rfl, hs2, rfl, b, dy, _, _, rfl, hb.ins, TyX.own cls_Board isi_Board hb2.ins, nf_self, b, .ref b2, B, rfl, hB, nB, .inl ⟨b2, B2, rfl, hB2, nB2, _, rfl, ?_⟩⟩
      by_cases c : eqBd B B2
      · rw [decide_eq_true c]
        refine ⟨_, rfl, iteT ?_⟩
        refine ⟨_, rfl, a, dx, _, _, rfl, hs, rfl, _, rfl, a2, dx2, _, _, rfl, hs2, rfl, rfl, ?_⟩
        refine k' _ ?_
        rw [Bool.eq_iff_iff, decide_eq_true_iff, decide_eq_true_iff]
        exact ⟨fun z => ⟨c, Int.ofNat.inj (V.int.inj z)⟩, fun z => by rw [z.2]⟩
      · rw [decide_eq_false c]
        exact ⟨_, rfl, iteF (k' _ (decide_eq_false fun z => c z.1).symm)⟩
    · refine ⟨_, rfl, _, _, t, _, false, rfl, .own _, ty, e, ?_⟩
      exact ⟨_, rfl, iteF k⟩
def spBoardOf (K : PySem.W.Frag) : Sp := fun vs H Q _ => ∃ (a b : Addr) (B : Bd) (m : Nat), vs = [.ref a] ∧ StandAt K H a b B m ∧ Q (.ref b) H
theorem scStandBoard : FnScope ["self"] ["self"] (defScope sStandBoard) := ⟨rfl, rfl, rfl, by decide +kernel, rfl, by decide +kernel, by decide +kernel⟩
theorem ok_stand_board {f : Addr} {fd : FuncData} (F : FnM K "board" "Stand.board" sStandBoard f fd) (cls_Stand : Cls K (cS K)) (na_Stand : ∀ f ∈ fS, NoAttr K (cS K) f) : FnOk P w K mg base CX0 1 f fd ["self"] (spBoardOf K) := by
  have nd := scStandBoard.nd
  refine F.ok scStandBoard (fun vs H Q E h => ?_) (fun cdv A outer s H vs Q E hr h => ?_)
  · obtain ⟨a, b, B, mm, rfl, _⟩ := h
    rfl
  · obtain ⟨a, b, B, mm, rfl, hS, k⟩ := h
    refine ⟨_, PSs.nox (pss_one (ps_ret (pe_A (pv 0) cls_Stand (na_Stand _ (by decide))))), ?_⟩
    obtain ⟨_, hB, dx, q1, hs, hq⟩ := id hS
    exact ⟨_, rfl, a, dx, _, _, rfl, hs, rfl, k⟩
/-- what is said of the row of the pegs that are in -/
def spOfPegs (K : PySem.W.Frag) (g : List Str → V) : Sp := fun vs H Q _ => ∃ (a b : Addr) (B : Bd) (m : Nat), vs = [.ref a] ∧ StandAt K H a b B m ∧ Q (g (pegsIn B.pegs m)) H
theorem scStandLen : FnScope ["self"] ["self"] (defScope sStandLen) := ⟨rfl, rfl, rfl, by decide +kernel, rfl, by decide +kernel, by decide +kernel⟩
theorem ok_stand_len {f : Addr} {fd : FuncData} (F : FnM K "__len__" "Stand.__len__" sStandLen f fd) (mb : Bl mg) (cls_Stand : Cls K (cS K)) (na_Stand : ∀ f ∈ fS, NoAttr K (cS K) f) : FnOk P w K mg base CX0 1 f fd ["self"] (spOfPegs K fun row => vN row.length) := by
  have m := mb
  have nd := scStandLen.nd
  refine F.ok scStandLen (fun vs H Q E h => ?_) (fun cdv A outer s H vs Q E hr h => ?_)
  · obtain ⟨a, b, B, mm, rfl, _⟩ := h
    rfl
  · obtain ⟨a, b, B, mm, rfl, hS, k⟩ := h
    refine ⟨_, PSs.nox (pss_one (ps_ret (pe_callB call_len_seq (by rfl) m.len (by decide +kernel) (pa_cons (pe_A (pv 0) cls_Stand (na_Stand _ (by decide))) pa_nil)))), ?_⟩
    obtain ⟨_, hB, dx, q1, hs, hq⟩ := id hS
    refine ⟨_, rfl, a, dx, _, _, rfl, hs, rfl, q1, _, rfl, .inr hq, ?_⟩
    rw [List.length_map]
    exact k
theorem scStandBool : FnScope ["self"] ["self"] (defScope sStandBool) := ⟨rfl, rfl, rfl, by decide +kernel, rfl, by decide +kernel, by decide +kernel⟩
theorem ok_stand_bool {f : Addr} {fd : FuncData} (F : FnM K "__bool__" "Stand.__bool__" sStandBool f fd) (mb : Bl mg) (cls_Stand : Cls K (cS K)) (na_Stand : ∀ f ∈ fS, NoAttr K (cS K) f) : FnOk P w K mg base CX0 1 f fd ["self"] (spOfPegs K fun row => .bl (!row.isEmpty)) := by
  have m := mb
  have nd := scStandBool.nd
  refine F.ok scStandBool (fun vs H Q E h => ?_) (fun cdv A outer s H vs Q E hr h => ?_)
  · obtain ⟨a, b, B, mm, rfl, _⟩ := h
    rfl
  · obtain ⟨a, b, B, mm, rfl, hS, k⟩ := h
    refine ⟨_, PSs.nox (pss_one (ps_ret (pe_callTy (call_boolT (K := K) rfl) (by rfl) m.bool (by decide +kernel) (pa_cons (pe_A (pv 0) cls_Stand (na_Stand _ (by decide))) pa_nil)))), ?_⟩
    obtain ⟨_, hB, dx, q1, hs, hq⟩ := id hS
    refine ⟨_, rfl, a, dx, _, _, rfl, hs, rfl, q1, _, rfl, hq, ?_⟩
    rw [List.isEmpty_map]
    exact k
def spHas (K : PySem.W.Frag) : Sp := fun vs H Q _ => ∃ (a b : Addr) (B : Bd) (m : Nat) (p : Str), vs = [.ref a, .str p] ∧ StandAt K H a b B m ∧ Q (.bl (decide (p ∈ pegsIn B.pegs m))) H
theorem scStandContains : FnScope ["self", "x"] ["self", "x"] (defScope sStandContains) := ⟨rfl, rfl, rfl, by decide +kernel, rfl, by decide +kernel, by decide +kernel⟩
theorem ok_stand_contains {f : Addr} {fd : FuncData} (F : FnM K "__contains__" "Stand.__contains__" sStandContains f fd) (cls_Stand : Cls K (cS K)) (na_Stand : ∀ f ∈ fS, NoAttr K (cS K) f) : FnOk P w K mg base CX0 1 f fd ["self", "x"] (spHas K) := by
  have nd := scStandContains.nd
  refine F.ok scStandContains (fun vs H Q E h => ?_) (fun cdv A outer s H vs Q E hr h => ?_)
  · obtain ⟨a, b, B, mm, p, rfl, _⟩ := h
    rfl
  · obtain ⟨a, b, B, mm, p, rfl, hS, k⟩ := h
    refine ⟨_, PSs.nox (pss_one (ps_ret (pe_cmpR op_in_seq (pv 1) (pe_A (pv 0) cls_Stand (na_Stand _ (by decide))) (by rfl)))), ?_⟩
    obtain ⟨_, hB, dx, q1, hs, hq⟩ := id hS
    refine ⟨_, rfl, _, rfl, a, dx, _, _, rfl, hs, rfl, q1, _, rfl, (show SqB K false H q1 _ from hq).or, rfl, Np.flat_strs _, ?_⟩
    rw [inV_strs]
    exact k
end
end Lw

set_option Elab.async false
set_option linter.all false
set_option maxRecDepth 100000
set_option maxHeartbeats 4000000
namespace Lw
open PySem PySem.Spec PyProof.Rows L2 Np TL
local macro_rules | `(tactic| walk_at "np_h") => `(tactic| first | assumption | exact upd_same | (refine (upd_ne ?_).trans ?_; (walk_at "np_ne"); (walk_at "np_h")) | exact SqL.of (by walk_at "np_h") | exact SqT.of (by walk_at "np_h"))
local macro_rules | `(tactic| walk_at "np_ne") => `(tactic| first | assumption | exact Ne.symm (by assumption))
local macro_rules | `(tactic| walk_at "np_r") => `(tactic| first
  | refine ⟨_, rfl, ?_⟩
  | refine ⟨_, _, rfl, rfl, ?_⟩
  | refine ⟨(.inl ⟨by decide, by decide⟩ : CMul _ _), ?_⟩
  | refine ⟨(.inr ⟨by decide, by decide⟩ : CMul _ _), ?_⟩
  | refine ⟨(by first | decide | omega : (0 : Int) < _), ?_⟩
  | refine ⟨(⟨by decide, by decide⟩ : CDiv _ _), ?_⟩
  | (refine' ⟨_, _, _, _, rfl, rfl, ?np1, ?np2, ?_⟩; (case np1 => walk_at "np_h"); (case np2 => rfl)))

/-! ### the stand without pegs; how far two stands are apart -/
theorem stOk_zero (B : Bd) : StOk B 0 := ⟨Nat.two_pow_pos _, fun i hi => by rw [plc_zero] at hi; cases hi⟩
section
variable {P : Program} {w : World} {K : PySem.W.Frag} {mg : Str → Option Value} {base : Heap}
def spEmpty (K : PySem.W.Frag) : Sp := fun vs H Q _ => ∃ (b : Addr) (B : Bd), vs = [.ref b] ∧ BoardAt K H b B ∧ ∀ s' H', H s' = none → Same H H' → StandAt K H' s' b B 0 → Q (.ref s') H'
theorem scBoardEmpty : FnScope ["self"] ["self"] (defScope sBoardEmpty) := ⟨rfl, rfl, rfl, by decide +kernel, rfl, by decide +kernel, by decide +kernel⟩
theorem ok_board_empty {f : Addr} {fd : FuncData} (F : FnM K "empty" "Board.empty" sBoardEmpty f fd) (cI_Stand : CalI P w K mg base (L2.CX P w) 5 "Stand" (cS K) (spStandInit K)) : FnOk P w K mg base CX0 7 f fd ["self"] (spEmpty K) := by
  have nd := scBoardEmpty.nd
  refine F.ok scBoardEmpty (fun vs H Q E h => ?_) (fun cdv A outer s H vs Q E hr h => ?_)
  · obtain ⟨b, B, rfl, _⟩ := h
    rfl
  · obtain ⟨b, B, rfl, hB, k⟩ := h
    refine ⟨_, PSs.nox (pss_one (ps_ret (pe_I cI_Stand (hr.mono (by decide)) (thru takes_none5) (pa_cons (pv 0) (pa_cons (pe_tup pa_nil) pa_nil))))), ?_⟩
    obtain ⟨ok, dy, pg, pl, co, be, ab, cl, od, hb⟩ := id hB
    refine ⟨_, rfl, by decide, fun T hT => ?_⟩
    have e : pegsIn B.pegs 0 = [] := by
      unfold pegsIn
      rw [plc_zero]
      rfl
    have S1 : Same H (upd H T (.tup [])) := Same.new hT
    have hq1 : SqT K (upd H T (.tup [])) T ((pegsIn B.pegs 0).map V.str) := by
      rw [e]
      exact SqT.of upd_same
    refine make_step (t := false) (hB.same S1) hq1 (Outcome.ok ok (stOk_zero B) fun s' H' n S' hs' => ?_)
    rw [maskOf_pegsIn ok.nd (stOk_zero B).1] at hs'
    exact k s' H' (S1.free n) (S1.trans S') hs'
/-- the sum of the costs of the pegs in a mask -/
def costSum (B : Bd) (m : Nat) : Int := ((plc m).map fun i => B.costs.getD i 0).sum
def spCostIn (K : PySem.W.Frag) : Sp := fun vs H Q _ => ∃ (b : Addr) (B : Bd) (m : Nat), vs = [.ref b, vN m] ∧ BoardAt K H b B ∧ m < 2 ^ B.pegs.length ∧ ∀ H', Same H H' → Q (.int (costSum B m)) H'
/-- two stands of equal boards -/
def spSameBd (K : PySem.W.Frag) : Sp := fun vs H Q _ => ∃ (a b a2 b2 : Addr) (B B2 : Bd) (m m2 : Nat), vs = [.ref a, .ref a2] ∧ StandAt K H a b B m ∧ StandAt K H a2 b2 B2 m2 ∧ Named B ∧ Named B2 ∧ eqBd B B2 ∧ Q .non H
theorem scStandCheckBoard : FnScope ["self", "other"] ["self", "other"] (defScope sStandCheckBoard) := ⟨rfl, rfl, rfl, by decide +kernel, rfl, by decide +kernel, by decide +kernel⟩
theorem ok_check_board {f : Addr} {fd : FuncData} (F : FnM K "check_board" "Stand.check_board" sStandCheckBoard f fd) (cls_Stand : Cls K (cS K)) (cls_Board : Cls K (cB K)) (isi_Board : IsiC K (cB K)) (na_Stand : ∀ f ∈ fS, NoAttr K (cS K) f) (ne_Board : NeC K (cB K)) (cP_Stand_board : CalP P w K mg base CX0 1 (cS K) "board" (spBoardOf K))
    (cM_Board___eq__ : CalM P w K mg base CX0 1 (cB K) "__eq__" (spEqB K)) : FnOk P w K mg base CX0 3 f fd ["self", "other"] (spSameBd K) := by
  have nd := scStandCheckBoard.nd
  refine F.ok scStandCheckBoard (fun vs H Q E h => ?_) (fun cdv A outer s H vs Q E hr h => ?_)
  · obtain ⟨a, b, a2, b2, B, B2, mm, m2, rfl, _⟩ := h
    rfl
  · obtain ⟨a, b, a2, b2, B, B2, mm, m2, rfl, hS, hS2, n1, n2, e, k⟩ := h
    refine ⟨_, PSs.nox (pss_one (ps_if (pt_cmpR (op_neOK (K := K) rfl cM_Board___eq__ ne_Board (hr.mono (by decide))) (pe_A (pv 0) cls_Stand (na_Stand _ (by decide))) (pe_P (pv 1) cls_Stand cP_Stand_board (hr.mono (by decide))) (nomark _)) (pss_one (ps_never)) pss_nil)), ?_⟩
    obtain ⟨_, hB, dx, q1, hs, hq⟩ := id hS
    obtain ⟨_, hB2, dx2, q2, hs2, hq2⟩ := id hS2
    obtain ⟨ok, dy, pg, pl, co, be, ab, cl, od, hb⟩ := id hB
    obtain ⟨ok2, dy2, pg2, pl2, co2, be2, ab2, cl2, od2, hb2⟩ := id hB2
    refine ⟨_, rfl, a, dx, _, _, rfl, hs, rfl, _, rfl, a2, dx2, _, rfl, hs2, a2, b2, B2, m2, rfl, hS2, ?_⟩
    refine ⟨b, dy, _, _, rfl, hb.ins, TyX.own cls_Board isi_Board hb2.ins, nf_self, b, .ref b2, B, rfl, hB, n1, .inl ⟨b2, B2, rfl, hB2, n2, _, rfl, ?_⟩⟩
    rw [decide_eq_true e]
    exact ⟨_, rfl, iteF k⟩
def spDist (K : PySem.W.Frag) : Sp := fun vs H Q _ => ∃ (a b a2 b2 : Addr) (B B2 : Bd) (m m2 : Nat), vs = [.ref a, .ref a2] ∧ StandAt K H a b B m ∧ StandAt K H a2 b2 B2 m2 ∧ Named B ∧ Named B2 ∧ eqBd B B2 ∧ ∀ H', Same H H' → Q (.int (costSum B (m ^^^ m2))) H'
end
end Lw

set_option Elab.async false
set_option linter.all false
set_option maxRecDepth 100000
set_option maxHeartbeats 4000000
namespace Lw
open PySem PySem.Spec PyProof.Rows L2 Np TL
/-! ### stands told by their pegs -/
section
variable {pegs : List Str} {W B : List (Str × Str)} {cs : List Int}
theorem closed_of {row : List Str} (h : isStB W B row = true) : (∀ {x y : Str}, x ∈ row → Reach W x y → y ∈ row) ∧ ∀ {x y : Str}, x ∈ row → y ∈ row → (x, y) ∉ B := by
  unfold isStB at h
  rw [Bool.and_eq_true, List.isEmpty_iff, List.isEmpty_iff] at h
  have c1 : ∀ w ∈ W, w.1 ∈ row → w.2 ∈ row := fun w hw h1 => by
    refine Classical.byContradiction fun h2 => ?_
    have : w ∈ W.filter (lackW row) := List.mem_filter.mpr ⟨hw, by unfold lackW; rw [decide_eq_true h1, decide_eq_false h2]; rfl⟩
    rw [h.1] at this
    cases this
  constructor
  · intro x y hx r
    induction r with
    | refl => exact hx
    | step hw _ ih => exact ih (c1 _ hw hx)
  · intro x y hx hy hw
    have : (x, y) ∈ B.filter (bothB row) := List.mem_filter.mpr ⟨hw, by unfold bothB; rw [decide_eq_true hx, decide_eq_true hy]; rfl⟩
    rw [h.2] at this
    cases this
theorem stOk_of (h : Parts pegs W B cs) {m : Nat} (hm : m < 2 ^ pegs.length) (hs : isStB W B (pegsIn pegs m) = true) : StOk (mkBd pegs W B cs) m := by
  obtain ⟨c1, c2⟩ := closed_of hs
  have ok := mkBd_ok h
  refine ⟨hm, fun i hi => ?_⟩
  have li := plc_lt hm hi
  obtain ⟨x, hx, rfl⟩ : ∃ x ∈ pegs, pegs.idxOf x = i := ⟨_, mem_getD li, idx_of_getD h.nd li⟩
  have xr : x ∈ pegsIn pegs m := (mem_pegsIn h.nd hm hx).mpr (mem_plc.mp hi)
  have lt1 : lackN (mkBd pegs W B cs) (pegs.idxOf x) m < 2 ^ pegs.length := nd_lt (ok.bb _ li)
  have lt2 : lackB (mkBd pegs W B cs) (pegs.idxOf x) m < 2 ^ pegs.length := and_lt (ok.bx _ li)
  constructor
  · refine zero_bit.mpr fun j => Bool.eq_false_iff.mpr fun z => ?_
    have lj := plc_lt lt1 (mem_plc.mpr z)
    obtain ⟨y, hy, rfl⟩ : ∃ y ∈ pegs, pegs.idxOf y = j := ⟨_, mem_getD lj, idx_of_getD h.nd lj⟩
    unfold lackN at z
    rw [nd_bit, Bool.and_eq_true] at z
    have r := (below_bit h hx hy).mp z.1
    have yr := (mem_pegsIn h.nd hm hy).mp (c1 xr r)
    rw [yr] at z
    exact absurd z.2 (by decide)
  · refine zero_bit.mpr fun j => Bool.eq_false_iff.mpr fun z => ?_
    have lj := plc_lt lt2 (mem_plc.mpr z)
    obtain ⟨y, hy, rfl⟩ : ∃ y ∈ pegs, pegs.idxOf y = j := ⟨_, mem_getD lj, idx_of_getD h.nd lj⟩
    unfold lackB at z
    rw [Nat.testBit_and, Bool.and_eq_true] at z
    obtain ⟨a, b, r1, r2, hw⟩ := (clash_bit h hx hy).mp z.1
    have yr := (mem_pegsIn h.nd hm hy).mpr z.2
    have ar := c1 xr r1
    have br := c1 yr r2
    exact hw.elim (c2 ar br) (c2 br ar)
theorem sub_filter : ∀ {row pegs : List Str}, pegs.Nodup → row.Sublist pegs → pegs.filter (fun s => decide (s ∈ row)) = row
  | _, [], _, h => by
    cases h
    rfl
  | row, p :: pegs, hn, h => by
    obtain ⟨h1, h2⟩ := List.nodup_cons.mp hn
    cases h with
    | cons _ h =>
      have np : p ∉ row := fun z => h1 (h.subset z)
      rw [List.filter_cons_of_neg (by rw [decide_eq_false np]; decide)]
      exact sub_filter h2 h
    | @cons_cons r _ _ h =>
      have np : p ∉ r := fun z => h1 (h.subset z)
      rw [List.filter_cons_of_pos (p := fun s => decide (s ∈ p :: r)) (decide_eq_true List.mem_cons_self)]
      congr 1
      refine Eq.trans (List.filter_congr fun y hy => ?_) (sub_filter h2 h)
      have ne : y ≠ p := fun z => h1 (by rw [← z]; exact hy)
      exact decide_eq_decide.mpr ⟨fun z => (List.mem_cons.mp z).resolve_left ne, fun z => List.mem_cons_of_mem _ z⟩
theorem sub_mask (h : Parts pegs W B cs) {row : List Str} (hs : row.Sublist pegs) : ∃ m, m < 2 ^ pegs.length ∧ row = pegsIn pegs m := by
  have hsub : ∀ s ∈ row, s ∈ pegs := fun s z => hs.subset z
  exact ⟨maskOf pegs row, maskOf_lt hsub, by rw [pegsIn_row h.nd hsub, sub_filter h.nd hs]⟩
end
theorem SqT.ty {K : PySem.W.Frag} {H : Hp} {a : Addr} {xs : List V} (h : SqT K H a xs) : TyX K H (.ref a) (.type "tuple") := by
  rcases h with (h | ⟨ob, h⟩) | ⟨o, its, n, e, c, _⟩
  · exact .base (.tup h)
  · exact .fTuple h
  · exact .kTuple e c
theorem pegsIn_inj {pegs : List Str} (hn : pegs.Nodup) {m m2 : Nat} (h1 : m < 2 ^ pegs.length) (h2 : m2 < 2 ^ pegs.length) : (pegsIn pegs m = pegsIn pegs m2) ↔ m = m2 :=
  ⟨fun e => by rw [← maskOf_pegsIn hn h1, e, maskOf_pegsIn hn h2], fun e => by rw [e]⟩
theorem eq2 (a b : List Str) : PyData.eqv (.tuple (a.map PyData.str)) (.tuple (b.map PyData.str)) = decide (a = b) := by
  rw [PyData.eqv, eqvAll_strs2]
theorem depB (d : Bool) : PyData.depth (.bool d) ≤ 30 := by cases d <;> decide
theorem lenB (d : Bool) : (PyData.shown (.bool d)).length ≤ sizeLine := by cases d <;> decide
theorem eqS (x : Str) : decide (V.str x = V.str x) = true := decide_eq_true rfl
section
variable {K : PySem.W.Frag}
theorem BoardAt.frY {H H' : Hp} {b : Addr} {B : Bd} (h : BoardAt K H b B) (s : Fr H H') : BoardAt K H' b B := by
  obtain ⟨ok, dx, pg, pl, co, be, ab, cl, od, h⟩ := h
  exact ⟨ok, dx, pg, pl, co, be, ab, cl, od, s _ _ h.ins (fun _ z => nomatch z), s.sqT h.pg, s _ _ h.pl (fun _ z => nomatch z), s.sqT h.co, s.sqT h.be, s.sqT h.ab, s.sqT h.cl, s.sqT h.od⟩
theorem Outcome.nil {H : Hp} {E : XK} {B : Bd} {p : Prop} (ok : B.Ok) (h : p) : Outcome K H E B [] p := by
  have := Outcome.ok (K := K) (H := H) (E := E) ok (stOk_zero B) h
  rw [show pegsIn B.pegs 0 = [] by unfold pegsIn; rw [plc_zero]; rfl] at this
  exact this
/-- equal boards have the same stands -/
theorem StOk.eq {B B2 : Bd} (e : eqBd B B2) {m : Nat} (h : StOk B m) : StOk B2 m := by
  obtain ⟨e1, _, e3, e4⟩ := e
  refine ⟨by rw [← e1]; exact h.1, fun i hi => ?_⟩
  have := h.2 i hi
  unfold lackN lackB at this ⊢
  rw [← e3, ← e4]
  exact this
mutual
theorem Dp.same {K : PySem.W.Frag} {H H' : Hp} (S : Same H H') : ∀ (d : PyData) (v : V), Dp K H v d → Dp K H' v d
  | _, _, .non => .non
  | _, _, .bl b => .bl b
  | _, _, .int i => .int i
  | _, _, .str x => .str x
  | _, _, .lst h t => .lst (Same.seq S h) (DpAll.same S _ _ t)
  | _, _, .tup h t => .tup (Same.sqT S h) (DpAll.same S _ _ t)
theorem DpAll.same {K : PySem.W.Frag} {H H' : Hp} (S : Same H H') : ∀ (ds : List PyData) (vs : List V), DpAll K H vs ds → DpAll K H' vs ds
  | _, _, .nil => .nil
  | _, _, .cons h t => .cons (Dp.same S _ _ h) (DpAll.same S _ _ t)
end
end
end Lw

set_option Elab.async false
set_option linter.all false
set_option maxRecDepth 100000
set_option maxHeartbeats 4000000
namespace Lw
open PySem PySem.Spec PyProof.Rows L2 Np TL
local macro_rules | `(tactic| walk_at "np_h") => `(tactic| first | assumption | exact upd_same | (refine (upd_ne ?_).trans ?_; (walk_at "np_ne"); (walk_at "np_h")) | exact SqL.of (by walk_at "np_h") | exact SqT.of (by walk_at "np_h"))
local macro_rules | `(tactic| walk_at "np_ne") => `(tactic| first | assumption | exact Ne.symm (by assumption))
local macro_rules | `(tactic| walk_at "np_r") => `(tactic| first
  | refine ⟨_, rfl, ?_⟩
  | refine ⟨_, _, rfl, rfl, ?_⟩
  | refine ⟨(.inl ⟨by decide, by decide⟩ : CMul _ _), ?_⟩
  | refine ⟨(.inr ⟨by decide, by decide⟩ : CMul _ _), ?_⟩
  | refine ⟨(by first | decide | omega : (0 : Int) < _), ?_⟩
  | refine ⟨(⟨by decide, by decide⟩ : CDiv _ _), ?_⟩
  | (refine' ⟨_, _, _, _, rfl, rfl, ?np1, ?np2, ?_⟩; (case np1 => walk_at "np_h"); (case np2 => rfl)))

/-! ### what a board tells of its pegs -/
section
variable {P : Program} {w : World} {K : PySem.W.Frag} {mg : Str → Option Value} {base : Heap}
theorem bitN (m p : Nat) : decide (m / 2 ^ p &&& 1 = 1) = m.testBit p := by
  rw [Nat.and_one_is_mod, Nat.testBit_eq_decide_div_mod_eq]
def spCostOf (K : PySem.W.Frag) : Sp := fun vs H Q E => ∃ (b : Addr) (p : Str) (B : Bd), vs = [.ref b, .str p] ∧ BoardAt K H b B ∧ (p ∈ B.pegs → ∀ H', Same H H' → Q (.int (B.costs.getD (B.pegs.idxOf p) 0)) H') ∧ (p ∉ B.pegs → Leaves K H E "NoPeg" [("peg", .str p)])
theorem scBoardCostOf : FnScope ["self", "peg"] ["self", "peg"] (defScope sBoardCostOf) := ⟨rfl, rfl, rfl, by decide +kernel, rfl, by decide +kernel, by decide +kernel⟩
theorem ok_cost_of {f : Addr} {fd : FuncData} (F : FnM K "cost_of" "Board.cost_of" sBoardCostOf f fd) (cls_Board : Cls K (cB K)) (na_Board : ∀ f ∈ fB, NoAttr K (cB K) f) (cM_Board_place_of : CalM P w K mg base (L2.CX P w) 3 (cB K) "place_of" (spPlaceOf K)) : FnOk P w K mg base (L2.CX P w) 4 f fd ["self", "peg"] (spCostOf K) := by
  have nd := scBoardCostOf.nd
  refine F.ok scBoardCostOf (fun vs H Q E h => ?_) (fun cdv A outer s H vs Q E hr h => ?_)
  · obtain ⟨b, p, B, rfl, _⟩ := h
    rfl
  · obtain ⟨b, p, B, rfl, hB, k1, k2⟩ := h
    refine ⟨_, (pss_one (ps_ret (pe_ix ix_tup (pe_A (pv 0) cls_Board (na_Board _ (by decide))) (pe_M (pv 0) cls_Board cM_Board_place_of (hr.mono (by decide)) (thru (takes_of rfl rfl rfl rfl)) (pa_cons (pv 1) pa_nil)) (fun _ _ => rfl)))), ?_⟩
    obtain ⟨ok, dx, pg, pl, co, be, ab, cl, od, hb⟩ := id hB
    refine ⟨_, rfl, b, dx, _, _, rfl, hb.ins, rfl, _, rfl, b, dx, _, rfl, hb.ins, rfl, _, rfl, b, p, B, rfl, hB, fun hp H' S => ?_, k2⟩
    have hi := List.idxOf_lt_length_of_mem hp
    exact ⟨co, _, _, _, rfl, rfl, Same.sqT S hb.co, atI_nat (by rw [List.getElem?_map, List.getElem?_eq_getElem (by rw [ok.lc]; exact hi)]; rw [List.getD_eq_getElem?_getD, List.getElem?_eq_getElem (by rw [ok.lc]; exact hi)]; rfl), k1 hp H' S⟩
def spRowOf (rows : Bd → List Nat) (K : PySem.W.Frag) : Sp := fun vs H Q E => ∃ (b : Addr) (p : Str) (B : Bd), vs = [.ref b, .str p] ∧ BoardAt K H b B ∧ (p ∈ B.pegs → ∀ q H', Same H H' → SqT K H' q ((pegsIn B.pegs ((rows B).getD (B.pegs.idxOf p) 0)).map V.str) → Q (.ref q) H') ∧ (p ∉ B.pegs → Leaves K H E "NoPeg" [("peg", .str p)])
theorem scBoardBelow : FnScope ["self", "peg"] ["self", "peg"] (defScope sBoardBelow) := ⟨rfl, rfl, rfl, by decide +kernel, rfl, by decide +kernel, by decide +kernel⟩
theorem ok_below {f : Addr} {fd : FuncData} (F : FnM K "below" "Board.below" sBoardBelow f fd) (cls_Board : Cls K (cB K)) (na_Board : ∀ f ∈ fB, NoAttr K (cB K) f) (cM_Board_place_of : CalM P w K mg base (L2.CX P w) 3 (cB K) "place_of" (spPlaceOf K)) (cM_Board_pegs_of : CalM P w K mg base CX0 3 (cB K) "pegs_of" (spPegsOf K)) : FnOk P w K mg base (L2.CX P w) 4 f fd ["self", "peg"] (spRowOf Bd.below K) := by
  have nd := scBoardBelow.nd
  refine F.ok scBoardBelow (fun vs H Q E h => ?_) (fun cdv A outer s H vs Q E hr h => ?_)
  · obtain ⟨b, p, B, rfl, _⟩ := h
    rfl
  · obtain ⟨b, p, B, rfl, hB, k1, k2⟩ := h
    refine ⟨_, (pss_one (ps_ret (pe_M (pv 0) cls_Board cM_Board_pegs_of (hr.mono (by decide)) no0 (pa_cons (pe_ix ix_tup (pe_A (pv 0) cls_Board (na_Board _ (by decide))) (pe_M (pv 0) cls_Board cM_Board_place_of (hr.mono (by decide)) (thru (takes_of rfl rfl rfl rfl)) (pa_cons (pv 1) pa_nil)) (fun _ _ => rfl)) pa_nil)))), ?_⟩
    obtain ⟨ok, dx, pg, pl, co, be, ab, cl, od, hb⟩ := id hB
    refine ⟨_, rfl, b, dx, _, rfl, hb.ins, ?_⟩
    refine ⟨rfl, _, rfl, b, dx, _, _, rfl, hb.ins, rfl, _, rfl, b, dx, _, rfl, hb.ins, rfl, _, rfl, b, p, B, rfl, hB, fun hp H' S => ?_, k2⟩
    have hi := List.idxOf_lt_length_of_mem hp
    have hB' := hB.same S
    refine ⟨be, _, _, _, rfl, rfl, Same.sqT S hb.be, atI_vN (by rw [ok.lb]; exact hi), ?_⟩
    exact ⟨b, _, B, rfl, hB', ok.bb _ hi, fun q H2 S2 hq => k1 hp q H2 (S.trans S2) hq⟩
theorem scBoardAbove : FnScope ["self", "peg"] ["self", "peg"] (defScope sBoardAbove) := ⟨rfl, rfl, rfl, by decide +kernel, rfl, by decide +kernel, by decide +kernel⟩
theorem ok_above {f : Addr} {fd : FuncData} (F : FnM K "above" "Board.above" sBoardAbove f fd) (cls_Board : Cls K (cB K)) (na_Board : ∀ f ∈ fB, NoAttr K (cB K) f) (cM_Board_place_of : CalM P w K mg base (L2.CX P w) 3 (cB K) "place_of" (spPlaceOf K)) (cM_Board_pegs_of : CalM P w K mg base CX0 3 (cB K) "pegs_of" (spPegsOf K)) : FnOk P w K mg base (L2.CX P w) 4 f fd ["self", "peg"] (spRowOf Bd.above K) := by
  have nd := scBoardAbove.nd
  refine F.ok scBoardAbove (fun vs H Q E h => ?_) (fun cdv A outer s H vs Q E hr h => ?_)
  · obtain ⟨b, p, B, rfl, _⟩ := h
    rfl
  · obtain ⟨b, p, B, rfl, hB, k1, k2⟩ := h
    refine ⟨_, (pss_one (ps_ret (pe_M (pv 0) cls_Board cM_Board_pegs_of (hr.mono (by decide)) no0 (pa_cons (pe_ix ix_tup (pe_A (pv 0) cls_Board (na_Board _ (by decide))) (pe_M (pv 0) cls_Board cM_Board_place_of (hr.mono (by decide)) (thru (takes_of rfl rfl rfl rfl)) (pa_cons (pv 1) pa_nil)) (fun _ _ => rfl)) pa_nil)))), ?_⟩
    obtain ⟨ok, dx, pg, pl, co, be, ab, cl, od, hb⟩ := id hB
    refine ⟨_, rfl, b, dx, _, rfl, hb.ins, ?_⟩
    refine ⟨rfl, _, rfl, b, dx, _, _, rfl, hb.ins, rfl, _, rfl, b, dx, _, rfl, hb.ins, rfl, _, rfl, b, p, B, rfl, hB, fun hp H' S => ?_, k2⟩
    have hi := List.idxOf_lt_length_of_mem hp
    have hB' := hB.same S
    refine ⟨ab, _, _, _, rfl, rfl, Same.sqT S hb.ab, atI_vN (by rw [ok.la]; exact hi), ?_⟩
    exact ⟨b, _, B, rfl, hB', ok.ba _ hi, fun q H2 S2 hq => k1 hp q H2 (S.trans S2) hq⟩
theorem scBoardNeeds : FnScope ["self", "peg", "other", "place", "needed"] ["self", "peg", "other"] (defScope sBoardNeeds) := ⟨rfl, rfl, rfl, by decide +kernel, rfl, by decide +kernel, by decide +kernel⟩
def spNeeds (K : PySem.W.Frag) : Sp := fun vs H Q E => ∃ (b : Addr) (p q : Str) (B : Bd), vs = [.ref b, .str p, .str q] ∧ BoardAt K H b B ∧ (p ∈ B.pegs → q ∈ B.pegs → ∀ H', Same H H' → Q (.bl (decide (p ≠ q) && (B.below.getD (B.pegs.idxOf p) 0).testBit (B.pegs.idxOf q))) H') ∧ (p ∉ B.pegs → Leaves K H E "NoPeg" [("peg", .str p)]) ∧ (p ∈ B.pegs → q ∉ B.pegs → Leaves K H E "NoPeg" [("peg", .str q)])
theorem ok_needs {f : Addr} {fd : FuncData} (F : FnM K "needs" "Board.needs" sBoardNeeds f fd) (cls_Board : Cls K (cB K)) (na_Board : ∀ f ∈ fB, NoAttr K (cB K) f) (cM_Board_place_of : CalM P w K mg base (L2.CX P w) 3 (cB K) "place_of" (spPlaceOf K)) : FnOk P w K mg base (L2.CX P w) 4 f fd ["self", "peg", "other"] (spNeeds K) := by
  have nd := scBoardNeeds.nd
  refine F.ok scBoardNeeds (fun vs H Q E h => ?_) (fun cdv A outer s H vs Q E hr h => ?_)
  · obtain ⟨b, p, q, B, rfl, _⟩ := h
    rfl
  · obtain ⟨b, p, q, B, rfl, hB, k1, k2, k3⟩ := h
    refine ⟨_, (pss_cons (ps_par (i := 3) (j := 4) (by rfl) nd rfl rfl (by decide) rfl rfl (pa_cons (pe_M (pv 0) cls_Board cM_Board_place_of (hr.mono (by decide)) (thru (takes_of rfl rfl rfl rfl)) (pa_cons (pv 1) pa_nil)) (pa_cons (pe_M (pv 0) cls_Board cM_Board_place_of (hr.mono (by decide)) (thru (takes_of rfl rfl rfl rfl)) (pa_cons (pv 2) pa_nil)) pa_nil)) (by rfl))
  (pss_one (ps_ret (pe_and (pe_cmpR op_ne (pv 3) (pv 4) (nomark _)) (pe_one (pe_cmpR op_eqM (pe_op op_bandM (pe_op op_bshrM (pe_ix ix_tup (pe_A (pv 0) cls_Board (na_Board _ (by decide))) (pv 3) (fun _ _ => rfl)) (pv 4)) pe_int) pe_int (nomark _))))))), ?_⟩
    obtain ⟨ok, dx, pg, pl, co, be, ab, cl, od, hb⟩ := id hB
    refine ⟨_, rfl, b, dx, _, rfl, hb.ins, rfl, _, rfl, b, p, B, rfl, hB, fun hp H' S => ?_, k2⟩
    refine ⟨_, rfl, b, dx, _, rfl, S _ _ hb.ins, rfl, _, rfl, b, q, B, rfl, hB.same S, fun hq H2 S2 => ?_, fun hq => Leaves.same (k3 hp hq) S⟩
    have hi := List.idxOf_lt_length_of_mem hp
    have k := k1 hp hq H2 (S.trans S2)
    have S0 := S.trans S2
    refine ⟨_, _, rfl, _, rfl, _, rfl, rfl, _, rfl, ?_⟩
    have ev : decide (vN (B.pegs.idxOf p) = vN (B.pegs.idxOf q)) = decide (p = q) := decide_eq_decide.mpr ⟨fun h => by rw [← getD_idx hp, ← getD_idx hq, Int.ofNat.inj (V.int.inj h)], fun h => by rw [h]⟩
    rw [ev]
    by_cases e : p = q
    · rw [decide_eq_true e]
      rw [decide_eq_false (fun h => h e)] at k
      exact iteF k
    · rw [decide_eq_false e]
      rw [decide_eq_true e] at k
      refine iteT ⟨_, rfl, b, dx, _, _, rfl, S0 _ _ hb.ins, rfl, _, rfl, be, _, _, _, rfl, rfl, Same.sqT S0 hb.be, atI_vN (by rw [ok.lb]; exact hi), _, rfl, _, _, rfl, rfl, _, _, rfl, rfl, ?_⟩
      refine ⟨_, _, rfl, rfl, ?_⟩
      rw [bitN]
      exact k
theorem scBoardClash : FnScope ["self", "peg", "other", "place", "against"] ["self", "peg", "other"] (defScope sBoardClash) := ⟨rfl, rfl, rfl, by decide +kernel, rfl, by decide +kernel, by decide +kernel⟩
def spClashB (K : PySem.W.Frag) : Sp := fun vs H Q E => ∃ (b : Addr) (p q : Str) (B : Bd), vs = [.ref b, .str p, .str q] ∧ BoardAt K H b B ∧ (p ∈ B.pegs → q ∈ B.pegs → ∀ H', Same H H' → Q (.bl ((B.clash.getD (B.pegs.idxOf p) 0).testBit (B.pegs.idxOf q))) H') ∧ (p ∉ B.pegs → Leaves K H E "NoPeg" [("peg", .str p)]) ∧ (p ∈ B.pegs → q ∉ B.pegs → Leaves K H E "NoPeg" [("peg", .str q)])
theorem ok_clash {f : Addr} {fd : FuncData} (F : FnM K "clash" "Board.clash" sBoardClash f fd) (cls_Board : Cls K (cB K)) (na_Board : ∀ f ∈ fB, NoAttr K (cB K) f) (cM_Board_place_of : CalM P w K mg base (L2.CX P w) 3 (cB K) "place_of" (spPlaceOf K)) : FnOk P w K mg base (L2.CX P w) 4 f fd ["self", "peg", "other"] (spClashB K) := by
  have nd := scBoardClash.nd
  refine F.ok scBoardClash (fun vs H Q E h => ?_) (fun cdv A outer s H vs Q E hr h => ?_)
  · obtain ⟨b, p, q, B, rfl, _⟩ := h
    rfl
  · obtain ⟨b, p, q, B, rfl, hB, k1, k2, k3⟩ := h
    refine ⟨_, (pss_cons (ps_par (i := 3) (j := 4) (by rfl) nd rfl rfl (by decide) rfl rfl (pa_cons (pe_M (pv 0) cls_Board cM_Board_place_of (hr.mono (by decide)) (thru (takes_of rfl rfl rfl rfl)) (pa_cons (pv 1) pa_nil)) (pa_cons (pe_M (pv 0) cls_Board cM_Board_place_of (hr.mono (by decide)) (thru (takes_of rfl rfl rfl rfl)) (pa_cons (pv 2) pa_nil)) pa_nil)) (by rfl))
  (pss_one (ps_ret (pe_cmpR op_eqM (pe_op op_bandM (pe_op op_bshrM (pe_ix ix_tup (pe_A (pv 0) cls_Board (na_Board _ (by decide))) (pv 3) (fun _ _ => rfl)) (pv 4)) pe_int) pe_int (nomark _))))), ?_⟩
    obtain ⟨ok, dx, pg, pl, co, be, ab, cl, od, hb⟩ := id hB
    refine ⟨_, rfl, b, dx, _, rfl, hb.ins, rfl, _, rfl, b, p, B, rfl, hB, fun hp H' S => ?_, k2⟩
    refine ⟨_, rfl, b, dx, _, rfl, S _ _ hb.ins, rfl, _, rfl, b, q, B, rfl, hB.same S, fun hq H2 S2 => ?_, fun hq => Leaves.same (k3 hp hq) S⟩
    have hi := List.idxOf_lt_length_of_mem hp
    have k := k1 hp hq H2 (S.trans S2)
    have S0 := S.trans S2
    refine ⟨_, _, rfl, ?_⟩
    refine ⟨_, rfl, b, dx, _, _, rfl, S0 _ _ hb.ins, rfl, _, rfl, cl, _, _, _, rfl, rfl, Same.sqT S0 hb.cl, atI_vN (by rw [ok.lx]; exact hi), _, rfl, _, _, rfl, rfl, _, _, rfl, rfl, ?_⟩
    refine ⟨_, _, rfl, rfl, ?_⟩
    rw [bitN]
    exact k
theorem scBoardContains : FnScope ["self", "x"] ["self", "x"] (defScope sBoardContains) := ⟨rfl, rfl, rfl, by decide +kernel, rfl, by decide +kernel, by decide +kernel⟩
def spHasB (K : PySem.W.Frag) : Sp := fun vs H Q _ => ∃ (b : Addr) (p : Str) (B : Bd), vs = [.ref b, .str p] ∧ BoardAt K H b B ∧ Q (.bl (decide (p ∈ B.pegs))) H
theorem ok_board_has {f : Addr} {fd : FuncData} (F : FnM K "__contains__" "Board.__contains__" sBoardContains f fd) (cls_Board : Cls K (cB K)) (na_Board : ∀ f ∈ fB, NoAttr K (cB K) f) : FnOk P w K mg base CX0 1 f fd ["self", "x"] (spHasB K) := by
  have nd := scBoardContains.nd
  refine F.ok scBoardContains (fun vs H Q E h => ?_) (fun cdv A outer s H vs Q E hr h => ?_)
  · obtain ⟨b, p, B, rfl, _⟩ := h
    rfl
  · obtain ⟨b, p, B, rfl, hB, q⟩ := h
    refine ⟨_, PSs.nox (pss_one (ps_ret (pe_cmp (pc_din (hu_of hr) (pv 1) (pe_A (pv 0) cls_Board (na_Board _ (by decide)))) (by rfl)))), ?_⟩
    obtain ⟨ok, dx, pg, pl, co, be, ab, cl, od, hb⟩ := id hB
    refine ⟨_, rfl, _, rfl, b, dx, _, _, rfl, hb.ins, rfl, pl, ?_⟩
    by_cases c : p ∈ B.pegs
    · rw [decide_eq_true c] at q
      exact ⟨some (vN (B.pegs.idxOf p)), rfl, .inl ⟨_, kS p, .inl hb.pl, rfl, (valV_byPeg (f := fun p => vN (B.pegs.idxOf p)) c).symm⟩, q⟩
    · rw [decide_eq_false c] at q
      exact ⟨none, rfl, .inl ⟨_, kS p, .inl hb.pl, rfl, (valV_byPeg_none c).symm⟩, q⟩
theorem scBoardLen : FnScope ["self"] ["self"] (defScope sBoardLen) := ⟨rfl, rfl, rfl, by decide +kernel, rfl, by decide +kernel, by decide +kernel⟩
def spLenB (K : PySem.W.Frag) : Sp := fun vs H Q _ => ∃ (b : Addr) (B : Bd), vs = [.ref b] ∧ BoardAt K H b B ∧ Q (vN B.pegs.length) H
theorem ok_board_len {f : Addr} {fd : FuncData} (F : FnM K "__len__" "Board.__len__" sBoardLen f fd) (m : Bl mg) (cls_Board : Cls K (cB K)) (na_Board : ∀ f ∈ fB, NoAttr K (cB K) f) : FnOk P w K mg base CX0 1 f fd ["self"] (spLenB K) := by
  have nd := scBoardLen.nd
  refine F.ok scBoardLen (fun vs H Q E h => ?_) (fun cdv A outer s H vs Q E hr h => ?_)
  · obtain ⟨b, B, rfl, _⟩ := h
    rfl
  · obtain ⟨b, B, rfl, hB, q⟩ := h
    refine ⟨_, PSs.nox (pss_one (ps_ret (pe_callB call_len_seq (by rfl) m.len (by decide +kernel) (pa_cons (pe_A (pv 0) cls_Board (na_Board _ (by decide))) pa_nil)))), ?_⟩
    obtain ⟨ok, dx, pg, pl, co, be, ab, cl, od, hb⟩ := id hB
    refine ⟨_, rfl, b, dx, _, _, rfl, hb.ins, rfl, pg, _, rfl, .inr hb.pg, ?_⟩
    rw [List.length_map]
    exact q
end
end Lw

set_option Elab.async false
set_option linter.all false
set_option maxRecDepth 100000
set_option maxHeartbeats 4000000
namespace Lw
open PySem PySem.Spec PyProof.Rows L2 Np TL
/-! ### boards and stands by their class alone -/
theorem obB {K : PySem.W.Frag} {H : Hp} {b : Addr} {B : Bd} (h : BoardAt K H b B) : ObjAt (cB K) fB H b := by
  obtain ⟨ok, dx, pg, pl, co, be, ab, cl, od, hb⟩ := h
  exact .of hb.ins rfl
theorem obS {K : PySem.W.Frag} {H : Hp} {s b : Addr} {B : Bd} {m : Nat} (h : StandAt K H s b B m) : ObjAt (cS K) fS H s := by
  obtain ⟨_, _, dx, q, hs, _⟩ := h
  exact .of hs rfl
theorem BoardAt.same' {K : PySem.W.Frag} {H H' : Hp} {b : Addr} {B : Bd} (s : Same H H') (h : BoardAt K H b B) : BoardAt K H' b B := h.same s
theorem StandAt.same' {K : PySem.W.Frag} {H H' : Hp} {a b : Addr} {B : Bd} {m : Nat} (s : Same H H') (h : StandAt K H a b B m) : StandAt K H' a b B m := h.same s
theorem StandAt.bd {K : PySem.W.Frag} {H : Hp} {a b : Addr} {B : Bd} {m : Nat} (h : StandAt K H a b B m) : BoardAt K H b B := h.2.1
theorem PairsAt.same' {K : PySem.W.Frag} {H H' : Hp} {wa : List Addr} {W : List (Str × Str)} (s : Same H H') (h : PairsAt K H wa W) : PairsAt K H' wa W := PairsAt.same h s
theorem RowsAt.same' {K : PySem.W.Frag} {H H' : Hp} {R : Addr} {pegs : List Str} {W : List (Str × Str)} (s : Same H H') (h : RowsAt K H R pegs W) : RowsAt K H' R pegs W := h.fr (Fr.of s)
theorem SqB.same' {K : PySem.W.Frag} {t : Bool} {H H' : Hp} {a : Addr} {xs : List V} (s : Same H H') (h : SqB K t H a xs) : SqB K t H' a xs := SqB.same h s
theorem PartsAt.same' {K : PySem.W.Frag} {H H' : Hp} {q : Addr} {pegs : List Str} {W B : List (Str × Str)} {cs : List Int} (s : Same H H') (h : PartsAt K H q pegs W B cs) : PartsAt K H' q pegs W B cs := by
  obtain ⟨p, n, bl, c, ns, bs, h1, h2, h3, h4, h5, h6, h7⟩ := h
  exact ⟨p, n, bl, c, ns, bs, Same.sqT s h1, Same.sqT s h2, Same.sqT s h3, PairsAt.same h4 s, Same.sqT s h5, PairsAt.same h6 s, Same.sqT s h7⟩
theorem SqT.fr' {K : PySem.W.Frag} {H H' : Hp} {a : Addr} {xs : List V} (s : Fr H H') (h : SqT K H a xs) : SqT K H' a xs := s.sqT h
theorem BoardAt.fr' {K : PySem.W.Frag} {H H' : Hp} {b : Addr} {B : Bd} (s : Fr H H') (h : BoardAt K H b B) : BoardAt K H' b B := by
  obtain ⟨o, dx, pg, pl, co, be, ab, cl, od, h⟩ := h
  exact ⟨o, dx, pg, pl, co, be, ab, cl, od, s _ _ h.ins (fun _ z => nomatch z), s.sqT h.pg, s _ _ h.pl (fun _ z => nomatch z), s.sqT h.co, s.sqT h.be, s.sqT h.ab, s.sqT h.cl, s.sqT h.od⟩
theorem StandAt.fr' {K : PySem.W.Frag} {H H' : Hp} {a b : Addr} {B : Bd} {m : Nat} (s : Fr H H') (h : StandAt K H a b B m) : StandAt K H' a b B m := by
  obtain ⟨h1, h2, dx, q, h3, h4⟩ := h
  exact ⟨h1, h2.fr' s, dx, q, s _ _ h3 (fun _ z => nomatch z), s.sqT h4⟩
theorem PairsAt.fr' {K : PySem.W.Frag} {H H' : Hp} {wa : List Addr} {W : List (Str × Str)} (s : Fr H H') (h : PairsAt K H wa W) : PairsAt K H' wa W := s.pairs h
theorem PartsAt.fr' {K : PySem.W.Frag} {H H' : Hp} {q : Addr} {pegs : List Str} {W B : List (Str × Str)} {cs : List Int} (s : Fr H H') (h : PartsAt K H q pegs W B cs) : PartsAt K H' q pegs W B cs := h.fr s
theorem RowsAt.fr' {K : PySem.W.Frag} {H H' : Hp} {R : Addr} {pegs : List Str} {W : List (Str × Str)} (s : Fr H H') (h : RowsAt K H R pegs W) : RowsAt K H' R pegs W := h.fr s
theorem ObjAt.fr' {C : Addr} {fs : List Str} {H H' : Hp} {a : Addr} (s : Fr H H') (h : ObjAt C fs H a) : ObjAt C fs H' a := let ⟨dx, ps, h1, h2⟩ := h; ⟨dx, ps, s _ _ h1 (fun _ z => nomatch z), h2⟩
theorem Fr.at' {H H' : Hp} (s : Fr H H') {p : Addr} {o : HO} (h : H p = some o) (n : ∀ xs, o ≠ .lst xs) : H' p = some o := s _ _ h n
theorem But.at' {b : Addr} {H H' : Hp} (s : But b H H') {p : Addr} {o : HO} (n : p ≠ b) (h : H p = some o) : H' p = some o := s _ _ n h
theorem BoardAt.hideL {K : PySem.W.Frag} {H : Hp} {D b : Addr} {acc : List V} {B : Bd} (e : H D = some (.lst acc)) (h : BoardAt K H b B) : BoardAt K (hide D H) b B := by
  obtain ⟨o, dx, pg, pl, co, be, ab, cl, od, h⟩ := h
  have k : ∀ {a : Addr} {u : HO}, H a = some u → (∀ xs, u ≠ .lst xs) → hide D H a = some u := fun {a u} h1 h2 => by
    rw [hide_ne (ne_of h1 e (h2 _))]
    exact h1
  exact ⟨o, dx, pg, pl, co, be, ab, cl, od, k h.ins (fun _ z => nomatch z), SqT.hideL e h.pg, k h.pl (fun _ z => nomatch z), SqT.hideL e h.co, SqT.hideL e h.be, SqT.hideL e h.ab, SqT.hideL e h.cl, SqT.hideL e h.od⟩
theorem StandAt.hideL {K : PySem.W.Frag} {H : Hp} {D a b : Addr} {acc : List V} {B : Bd} {m : Nat} (e : H D = some (.lst acc)) (h : StandAt K H a b B m) : StandAt K (hide D H) a b B m := by
  obtain ⟨h1, h2, dx, q, h3, h4⟩ := h
  exact ⟨h1, h2.hideL e, dx, q, by rw [hide_ne (ne_of h3 e (fun z => nomatch z))]; exact h3, SqT.hideL e h4⟩
end Lw

set_option Elab.async false
set_option linter.all false
set_option maxRecDepth 100000
set_option maxHeartbeats 4000000
namespace Lw
open PySem PySem.Spec PyProof.Rows L2 Np TL
/-! ### pairs of names as data -/
theorem shapedRowsV {rs : List (List Str)} (h : ∀ r ∈ rs, ∀ s ∈ r, RightName s) : SeqAt.shaped (.list (rs.map fun r => .tuple (r.map PyData.str))) = true ∧ SeqAt.shaped (.tuple (rs.map fun r => .tuple (r.map PyData.str))) = true := by
  have c : ∀ {rs : List (List Str)}, (∀ r ∈ rs, ∀ s ∈ r, RightName s) → PyData.canLayAll0 (rs.map fun r => .tuple (r.map PyData.str)) = true := fun {rs} h => by
    induction rs with
    | nil => rfl
    | cons r rs ih =>
      rw [List.map_cons, PyData.canLayAll0, SeqAt.canLay_of_shaped (shapedS (row := r) (h r List.mem_cons_self)), ih fun r hr => h r (List.mem_cons_of_mem _ hr)]
      rfl
  have d : ∀ rs : List (List Str), PyData.depthAll (rs.map fun r => .tuple (r.map PyData.str)) ≤ 1 := fun rs => by
    induction rs with
    | nil => decide
    | cons r rs ih =>
      have e : PyData.depthAll (r.map PyData.str) = 0 := by
        induction r with
        | nil => rfl
        | cons x r ihr => rw [List.map_cons, PyData.depthAll, ihr, PyData.depth]; rfl
      rw [List.map_cons, PyData.depthAll, PyData.depth, e]
      exact Nat.max_le.mpr ⟨by decide, ih⟩
  have := d rs
  refine ⟨?_, ?_⟩ <;>
  · unfold SeqAt.shaped
    rw [PyData.canLay0, c h, PyData.depth]
    simp
    omega
def prE (w : Str × Str) : PyData := .tuple ([w.1, w.2].map PyData.str)
theorem dpPrs {K : PySem.W.Frag} {H : Hp} : ∀ {ns : List Addr} {W : List (Str × Str)}, PairsAt K H ns W → DpAll K H (ns.map V.ref) (W.map prE)
  | _, _, .nil => .nil
  | _, _, .cons h t => .cons (.tup h (dpS [_, _])) (dpPrs t)
def NmP (W : List (Str × Str)) : Prop := ∀ w ∈ W, RightName w.1 ∧ RightName w.2
theorem shapedPrs {W : List (Str × Str)} (h : NmP W) : SeqAt.shaped (.list (W.map prE)) = true ∧ SeqAt.shaped (.tuple (W.map prE)) = true := by
  have e : W.map prE = (W.map fun w => [w.1, w.2]).map fun r => .tuple (r.map PyData.str) := by
    rw [List.map_map]
    rfl
  rw [e]
  refine shapedRowsV fun r hr s hs => ?_
  obtain ⟨w, hw, rfl⟩ := List.mem_map.mp hr
  simp only [List.mem_cons, List.not_mem_nil, or_false] at hs
  rcases hs with rfl | rfl
  · exact (h w hw).1
  · exact (h w hw).2
theorem anyPrs (x y : Str) : ∀ W : List (Str × Str), ((W.map prE).any fun z => PyData.eqv z (prE (x, y))) = decide ((x, y) ∈ W)
  | [] => by simp
  | w :: W => by
    rw [List.map_cons, List.any_cons, anyPrs x y W, prE, prE, PyData.eqv, eqvAll_strs2, ← Bool.decide_or]
    refine decide_eq_decide.mpr ?_
    rw [List.mem_cons]
    refine or_congr ⟨fun h => ?_, fun h => by rw [← h]⟩ Iff.rfl
    have h1 := List.head_eq_of_cons_eq h
    have h2 := List.head_eq_of_cons_eq (List.tail_eq_of_cons_eq h)
    exact (Prod.ext h1 h2).symm
theorem eqvPrs : ∀ W U : List (Str × Str), PyData.eqvAll (W.map prE) (U.map prE) = decide (W = U)
  | [], [] => by simp [PyData.eqvAll]
  | [], _ :: _ => by simp [PyData.eqvAll]
  | _ :: _, [] => by simp [PyData.eqvAll]
  | w :: W, u :: U => by
    rw [List.map_cons, List.map_cons, PyData.eqvAll, eqvPrs W U, prE, prE, PyData.eqv, eqvAll_strs2]
    rw [Bool.eq_iff_iff, Bool.and_eq_true, decide_eq_true_eq, decide_eq_true_eq, decide_eq_true_eq]
    constructor
    · rintro ⟨h, rfl⟩
      have h1 := List.head_eq_of_cons_eq h
      have h2 := List.head_eq_of_cons_eq (List.tail_eq_of_cons_eq h)
      exact congrArg (· :: W) (Prod.ext h1 h2)
    · intro h
      cases h
      exact ⟨rfl, rfl⟩
section
variable {K : PySem.W.Frag} {H : Hp} {Q : VK} {T L : Addr} {x y : Str} {ts : List Addr} {W : List (Str × Str)}
theorem shape1 (nx : RightName x) (ny : RightName y) : SeqAt.shaped (prE (x, y)) = true := shapedS (row := [x, y]) fun s hs => by
  simp only [List.mem_cons, List.not_mem_nil, or_false] at hs
  rcases hs with rfl | rfl
  · exact nx
  · exact ny
theorem memP (hT : SqT K H T [.str x, .str y]) (hL : SqL K H L (ts.map V.ref)) (hP : PairsAt K H ts W) (nx : RightName x) (ny : RightName y) (nW : NmP W) (k : Q (.bl (decide ((x, y) ∈ W))) H) : rInD K (.ref T) (.ref L) H Q :=
  ⟨prE (x, y), _, .tup hT (dpS [_, _]), .lst hL (dpPrs hP), shape1 nx ny, (shapedPrs nW).1, by rw [anyPrs]; exact k⟩
theorem nmemP (hT : SqT K H T [.str x, .str y]) (hL : SqL K H L (ts.map V.ref)) (hP : PairsAt K H ts W) (nx : RightName x) (ny : RightName y) (nW : NmP W) (k : Q (.bl (!decide ((x, y) ∈ W))) H) : rNotInD K (.ref T) (.ref L) H Q :=
  ⟨prE (x, y), _, .tup hT (dpS [_, _]), .lst hL (dpPrs hP), shape1 nx ny, (shapedPrs nW).1, by rw [anyPrs]; exact k⟩
end
end Lw

set_option Elab.async false
set_option linter.all false
set_option maxRecDepth 100000
set_option maxHeartbeats 4000000
namespace Lw
open PySem PySem.Spec PyProof.Rows L2 Np TL
local macro_rules | `(tactic| walk_at "np_h") => `(tactic| first | assumption | exact upd_same | (refine (upd_ne ?_).trans ?_; (walk_at "np_ne"); (walk_at "np_h")) | exact SqL.of (by walk_at "np_h") | exact SqT.of (by walk_at "np_h"))
local macro_rules | `(tactic| walk_at "np_ne") => `(tactic| first | assumption | exact Ne.symm (by assumption))
local macro_rules | `(tactic| walk_at "np_r") => `(tactic| first
  | refine ⟨_, rfl, ?_⟩
  | refine ⟨_, _, rfl, rfl, ?_⟩
  | refine ⟨(.inl ⟨by decide, by decide⟩ : CMul _ _), ?_⟩
  | refine ⟨(.inr ⟨by decide, by decide⟩ : CMul _ _), ?_⟩
  | refine ⟨(by first | decide | omega : (0 : Int) < _), ?_⟩
  | refine ⟨(⟨by decide, by decide⟩ : CDiv _ _), ?_⟩
  | (refine' ⟨_, _, _, _, rfl, rfl, ?np1, ?np2, ?_⟩; (case np1 => walk_at "np_h"); (case np2 => rfl)))

local macro_rules | `(tactic| walk_at "sm") => `(tactic| first | exact Same.refl _ | assumption | (apply Same.back; assumption; walk_at "sm"))
local macro_rules | `(tactic| walk_at "fr") => `(tactic| first | (apply Fr.of; assumption) | assumption | (apply Fr.but; assumption; assumption))
local macro_rules | `(tactic| walk_at "ne") => `(tactic| first | assumption | (apply Ne.symm; assumption))
local macro_rules | `(tactic| walk_at "at") => `(tactic| first | assumption | exact upd_same | (apply Same.at'; assumption; walk_at "at") | (apply Fr.at'; walk_at "fr"; walk_at "at"; exact fun _ z => nomatch z) | (apply But.at'; assumption; walk_at "ne"; walk_at "at"))
local macro_rules | `(tactic| walk_at "sl") => `(tactic| first | assumption | (apply Same.seq; assumption; walk_at "sl"))
local macro_rules | `(tactic| walk_at "sb") => `(tactic| first | assumption | (apply SqB.same'; assumption; walk_at "sb"))
local macro_rules | `(tactic| walk_at "st") => `(tactic| first | assumption | (apply SqT.fr'; walk_at "fr"; walk_at "st"))
local macro_rules | `(tactic| walk_at "bd") => `(tactic| first | assumption | (apply BoardAt.fr'; walk_at "fr"; walk_at "bd"))
local macro_rules | `(tactic| walk_at "sd") => `(tactic| first | assumption | (apply StandAt.fr'; walk_at "fr"; walk_at "sd"))
local macro_rules | `(tactic| walk_at "pr") => `(tactic| first | assumption | (apply PairsAt.fr'; walk_at "fr"; walk_at "pr"))
local macro_rules | `(tactic| walk_at "pa") => `(tactic| first | assumption | (apply PartsAt.fr'; walk_at "fr"; walk_at "pa"))
local macro_rules | `(tactic| walk_at "rw") => `(tactic| first | assumption | (apply RowsAt.fr'; walk_at "fr"; walk_at "rw"))
local macro_rules | `(tactic| walk_at "ob") => `(tactic| first | assumption | (apply obB; walk_at "bd") | (apply obS; walk_at "sd") | (apply ObjAt.fr'; walk_at "fr"; walk_at "ob"))
local macro_rules | `(tactic| walk_at "hp") => `(tactic| first
  | walk_at "at" | walk_at "st" | walk_at "sl" | walk_at "bd" | walk_at "sd" | walk_at "pa" | walk_at "pr" | walk_at "rw" | walk_at "ob"
  | (apply SqT.of; walk_at "at") | (apply SqL.of; walk_at "at"))
local macro_rules | `(tactic| walk_at "sq") => `(tactic| first | (apply sqB_f; walk_at "st") | (apply sqB_f; apply SqT.of; walk_at "at") | (apply sqB_t; walk_at "sl") | (apply sqB_t; apply SqL.of; walk_at "at") | walk_at "sb")
local macro_rules | `(tactic| walk_at "leaf") => `(tactic| first
  | exact rfl
  | walk_at "hp"
  | walk_at "sq"
  | (apply Or.inl; walk_at "hp") | (apply Or.inr; walk_at "hp")
  | (apply Exists.intro; walk_at "hp")
  | (show 2 ≤ sizeLine; decide) | (show 1 ≤ sizeLine; decide) | (show 0 ≤ sizeLine; decide) | (show 3 ≤ sizeLine; decide) | (show 4 ≤ sizeLine; decide)
  | exact atI_nat (j := 0) rfl | exact atI_nat (j := 1) rfl | exact atI_nat (j := 2) rfl | exact atI_nat (j := 3) rfl
  | (apply tyL; walk_at "at") | (apply tyLs; walk_at "sl")
  | walk_at "sm"
  | omega
  | decide
  | exact ⟨by decide, by decide⟩ | exact (.inl ⟨by decide, by decide⟩ : CMul _ _) | exact (.inr ⟨by decide, by decide⟩ : CMul _ _))
local macro_rules | `(tactic| walk_at "ex") => `(tactic| first
  | (apply And.intro; walk_at "leaf")
  | (apply Exists.intro; walk_at "ex"))
local macro_rules | `(tactic| walk_at "go1") => `(tactic| first | refine ⟨_, rfl, ?_⟩ | walk_at "ex")
local macro_rules | `(tactic| walk_at "go") => `(tactic| repeat (walk_at "go1"))


/-! ### the difference order -/
section
variable {P : Program} {w : World} {K : PySem.W.Frag} {mg : Str → Option Value} {base : Heap}
def ndB (B : Bd) (p q : Str) : Bool := decide (p ≠ q) && (B.below.getD (B.pegs.idxOf p) 0).testBit (B.pegs.idxOf q)
def clBd (B : Bd) (p q : Str) : Bool := (B.clash.getD (B.pegs.idxOf p) 0).testBit (B.pegs.idxOf q)
def befB (B : Bd) (m : Nat) (x y : Str) : Bool := bif decide (x ∈ pegsIn B.pegs m) then decide (y ∈ pegsIn B.pegs m) && ndB B y x else bif decide (y ∈ pegsIn B.pegs m) then clBd B x y else ndB B x y
def spBefore (K : PySem.W.Frag) : Sp := fun vs H Q _ => ∃ (x y : Str) (s b : Addr) (B : Bd) (m : Nat), vs = [.str x, .str y, .ref s] ∧ StandAt K H s b B m ∧ x ∈ B.pegs ∧ y ∈ B.pegs ∧ ∀ H', Same H H' → Q (.bl (befB B m x y)) H'
theorem scComesBefore : FnScope ["x", "y", "b"] ["x", "y", "b"] (defScope sComesBefore) := ⟨rfl, rfl, rfl, by decide +kernel, rfl, by decide +kernel, by decide +kernel⟩
theorem ok_comes_before {f : Addr} {fd : FuncData} (F : FnT K "comes_before" sComesBefore f fd) (cls_Stand : Cls K (cS K)) (cls_Board : Cls K (cB K)) (cM_Stand___contains__ : CalM P w K mg base CX0 1 (cS K) "__contains__" (spHas K)) (cM_Board_needs : CalM P w K mg base (L2.CX P w) 4 (cB K) "needs" (spNeeds K)) (cM_Board_clash : CalM P w K mg base (L2.CX P w) 4 (cB K) "clash" (spClashB K)) (cP_Stand_board : CalP P w K mg base CX0 1 (cS K) "board" (spBoardOf K)) : FnOk P w K mg base CX0 5 f fd ["x", "y", "b"] (spBefore K) := by
  have nd := scComesBefore.nd
  refine F.ok scComesBefore (fun vs H Q E h => ?_) (fun cdv A outer s H vs Q E hr h => ?_)
  · obtain ⟨x, y, st, b, B, m, rfl, _⟩ := h
    rfl
  · obtain ⟨x, y, st, b, B, m, rfl, hS, hx, hy, q⟩ := h
    refine ⟨_, PSs.nox (pss_cons (ps_ifN (pt_cmpR (op_inN (fs := fS) cM_Stand___contains__ (hr.mono (by decide))) (pv 0) (pv 2) (by rfl)) (pss_one (ps_ret (pe_and (pe_cmpR (op_inN (fs := fS) cM_Stand___contains__ (hr.mono (by decide))) (pv 1) (pv 2) (by rfl)) (pe_one (pe_MN (fs := fB) (by decide) (pe_PN (fs := fS) (pv 2) cls_Stand cP_Stand_board (hr.mono (by decide))) cls_Board cM_Board_needs (hr.mono (by decide)) (thru takes_none5) (pa_cons (pv 1) (pa_cons (pv 0) pa_nil))))))) pss_nil)
  (pss_one (ps_ret (pe_ifExp (pt_cmpR (op_inN (fs := fS) cM_Stand___contains__ (hr.mono (by decide))) (pv 1) (pv 2) (by rfl)) (pe_MN (fs := fB) (by decide) (pe_PN (fs := fS) (pv 2) cls_Stand cP_Stand_board (hr.mono (by decide))) cls_Board cM_Board_clash (hr.mono (by decide)) (thru takes_none5) (pa_cons (pv 0) (pa_cons (pv 1) pa_nil))) (pe_MN (fs := fB) (by decide) (pe_PN (fs := fS) (pv 2) cls_Stand cP_Stand_board (hr.mono (by decide))) cls_Board cM_Board_needs (hr.mono (by decide)) (thru takes_none5) (pa_cons (pv 0) (pa_cons (pv 1) pa_nil))))))), ?_⟩
    have hB := hS.bd
    unfold befB at q
    walk_at "go"
    refine pif (decide (x ∈ pegsIn B.pegs m)) (fun k hk => ?_) (fun c => ?_) (fun c => ?_)
    · walk_at "go"
      exact hk
    · rw [c] at q
      walk_at "go"
      refine ifb (fun d => ?_) (fun d => ?_)
      · rw [d] at q
        walk_at "go"
        exact ⟨fun _ _ H' S => q H' S, fun z => absurd hy z, fun _ z => absurd hx z⟩
      · rw [d] at q
        exact q _ (Same.refl _)
    · rw [c] at q
      walk_at "go"
      refine ifb (fun d => ?_) (fun d => ?_)
      · rw [d] at q
        walk_at "go"
        exact ⟨fun _ _ H' S => q H' S, fun z => absurd hx z, fun _ z => absurd hy z⟩
      · rw [d] at q
        walk_at "go"
        exact ⟨fun _ _ H' S => q H' S, fun z => absurd hx z, fun _ z => absurd hy z⟩
def spXor (K : PySem.W.Frag) : Sp := fun vs H Q _ => ∃ (a b a2 b2 : Addr) (B B2 : Bd) (m m2 : Nat), vs = [.ref a, .ref a2] ∧ StandAt K H a b B m ∧ StandAt K H a2 b2 B2 m2 ∧ Named B ∧ Named B2 ∧ eqBd B B2 ∧ ∀ q H', Same H H' → SqT K H' q ((pegsIn B.pegs (m ^^^ m2)).map V.str) → Q (.ref q) H'
theorem scStandXor : FnScope ["self", "other"] ["self", "other"] (defScope sStandXor) := ⟨rfl, rfl, rfl, by decide +kernel, rfl, by decide +kernel, by decide +kernel⟩
theorem ok_stand_xor {f : Addr} {fd : FuncData} (F : FnM K "__xor__" "Stand.__xor__" sStandXor f fd) (cls_Stand : Cls K (cS K)) (cls_Board : Cls K (cB K)) (na_Stand : ∀ f ∈ fS, NoAttr K (cS K) f) (cM_Stand_check_board : CalM P w K mg base CX0 3 (cS K) "check_board" (spSameBd K)) (cM_Board_pegs_of : CalM P w K mg base CX0 3 (cB K) "pegs_of" (spPegsOf K)) : FnOk P w K mg base CX0 4 f fd ["self", "other"] (spXor K) := by
  have nd := scStandXor.nd
  refine F.ok scStandXor (fun vs H Q E h => ?_) (fun cdv A outer s H vs Q E hr h => ?_)
  · obtain ⟨a, b, a2, b2, B, B2, mm, m2, rfl, _⟩ := h
    rfl
  · obtain ⟨a, b, a2, b2, B, B2, mm, m2, rfl, hS, hS2, n1, n2, e, k⟩ := h
    refine ⟨_, PSs.nox (pss_cons (ps_expr (pe_MN (fs := fS) (by decide) (pv 0) cls_Stand cM_Stand_check_board (hr.mono (by decide)) no0 (pa_cons (pv 1) pa_nil)))
  (pss_one (ps_ret (pe_MN (fs := fB) (by decide) (pe_A (pv 0) cls_Stand (na_Stand _ (by decide))) cls_Board cM_Board_pegs_of (hr.mono (by decide)) no0 (pa_cons (pe_op op_bxorM (pe_A (pv 0) cls_Stand (na_Stand _ (by decide))) (pe_A (pv 1) cls_Stand (na_Stand _ (by decide)))) pa_nil))))), ?_⟩
    obtain ⟨st1, hB, dx, q1, hs, hq⟩ := id hS
    obtain ⟨st2, hB2, dx2, q2, hs2, hq2⟩ := id hS2
    have l2 : m2 < 2 ^ B.pegs.length := by rw [e.1]; exact st2.1
    walk_at "go"
    exact ⟨Nat.xor_lt_two_pow st1.1 l2, fun q H' S h => k q H' S h⟩
theorem flatMap_snoc {α β : Type} (f : α → List β) (l : List α) (x : α) : (l ++ [x]).flatMap f = l.flatMap f ++ f x := by rw [List.flatMap_append]; simp
theorem flat_len {α β : Type} (f : α → List β) (n : Nat) : ∀ l : List α, (∀ x ∈ l, (f x).length ≤ n) → (l.flatMap f).length ≤ l.length * n
  | [], _ => by simp
  | x :: l, h => by
    have h1 := flat_len f n l fun y hy => h y (List.mem_cons_of_mem _ hy)
    have h2 := h x List.mem_cons_self
    rw [List.flatMap_cons, List.length_append, List.length_cons, Nat.succ_mul]
    omega
def precL (pegs : List Str) (B : Bd) (m : Nat) : List (Str × Str) := pegs.flatMap fun x => (pegs.filter (befB B m x)).map fun y => (x, y)
def spPrec (K : PySem.W.Frag) : Sp := fun vs H Q _ => ∃ (a b a2 b2 : Addr) (B B2 : Bd) (m m2 : Nat), vs = [.ref a, .ref a2] ∧ StandAt K H a b B m ∧ StandAt K H a2 b2 B2 m2 ∧ Named B ∧ Named B2 ∧ eqBd B B2 ∧ B.pegs.length ≤ 12 ∧
  ∀ q ts H', Same H H' → SqT K H' q (ts.map V.ref) → PairsAt K H' ts (precL (pegsIn B.pegs (m ^^^ m2)) B2 m2) → Q (.ref q) H'
theorem scPrecedence : FnScope ["a", "b", "pegs", "x", "y"] ["a", "b"] (defScope sPrecedence) := ⟨rfl, rfl, rfl, by decide +kernel, rfl, by decide +kernel, by decide +kernel⟩
theorem ok_precedence {f : Addr} {fd : FuncData} (F : FnT K "precedence" sPrecedence f fd) (m : Bl mg) (sf_Stand : PySem.W.selfFirst K (cS K) = true) (c_comes_before : Callee P w K mg base 5 "comes_before" ["x", "y", "b"] (spBefore K)) (cM_Stand___xor__ : CalM P w K mg base CX0 4 (cS K) "__xor__" (spXor K)) : FnOk P w K mg base CX0 6 f fd ["a", "b"] (spPrec K) := by
  have nd := scPrecedence.nd
  refine F.ok scPrecedence (fun vs H Q E h => ?_) (fun cdv A outer s H vs Q E hr h => ?_)
  · obtain ⟨a, b, a2, b2, B, B2, mm, m2, rfl, _⟩ := h
    rfl
  · obtain ⟨a, b, a2, b2, B, B2, mm, m2, rfl, hS, hS2, n1, n2, e, lp, k⟩ := h
    refine ⟨_, PSs.nox (pss_cons (ps_set (i := 2) nd rfl (.inr rfl) (pe_op (op_binN (fs := fS) (op := .BitXor) cM_Stand___xor__ sf_Stand (hr.mono (by decide))) (pv 0) (pv 1)))
  (pss_one (ps_ret (pe_callTy (call_tupleN (K := K) rfl) (by rfl) m.tuple (by decide +kernel) (pa_cons (pe_lc2 (own := [("x", 3), ("y", 4)]) (vs1 := [4]) (g := gName 3) (g1 := gName 4) (tt := tYes) rfl nd (pi_tup (pv 2)) (blkOk_by (N := ["a", "b", "pegs", "x", "y"]) (sc := defScope sPrecedence) (by decide +kernel)) (by decide) (fun _ _ _ _ _ => (pg_name (i := 3) nd rfl (.inl rfl))) (fun _ _ _ _ _ => pts_nil) (fun _ _ _ _ _ => (pi_tupK (K := K) rfl (pv 2))) (fun _ _ _ _ _ => (pg_name (i := 4) nd rfl (.inl rfl))) (fun _ _ _ _ _ => pts_one (pt_val (pe_callC c_comes_before (hr.mono (by decide)) (pa_cons (pv 3) (pa_cons (pv 4) (pa_cons (pv 1) pa_nil)))))) (fun _ _ _ _ _ => (pe_tupN (pa_cons (pv 3) (pa_cons (pv 4) pa_nil))))) pa_nil))))), ?_⟩
    have hlp : (pegsIn B.pegs (mm ^^^ m2)).length ≤ 12 := by
      obtain ⟨st1, _⟩ := id hS
      obtain ⟨st2, _⟩ := id hS2
      have l2 : m2 < 2 ^ B.pegs.length := by rw [e.1]; exact st2.1
      unfold pegsIn
      rw [List.length_map]
      exact Nat.le_trans (plc_len (Nat.xor_lt_two_pow st1.1 l2)) lp
    have hin : ∀ x ∈ pegsIn B.pegs (mm ^^^ m2), x ∈ B2.pegs := fun x hx => by
      rw [← e.1]
      obtain ⟨st1, _⟩ := id hS
      obtain ⟨st2, _⟩ := id hS2
      have l2 : m2 < 2 ^ B.pegs.length := by rw [e.1]; exact st2.1
      exact pegsIn_mem (Nat.xor_lt_two_pow st1.1 l2) hx
    walk_at "go"
    refine fun p1 H1 S1 h1 => ?_
    generalize pegsIn B.pegs (mm ^^^ m2) = row at k hlp hin h1 ⊢
    walk_at "go"
    intro D hD
    have bo : ∀ d : List Str, d.length ≤ 12 → (precL row B2 m2).length ≤ 144 := fun d hd => by
      have := flat_len (fun x => (row.filter (befB B2 m2 x)).map fun y => (x, y)) 12 row fun x _ => by
        rw [List.length_map]
        exact Nat.le_trans (List.length_filter_le _ _) hlp
      show (row.flatMap fun x => (row.filter (befB B2 m2 x)).map fun y => (x, y)).length ≤ 144
      omega
    have fl : ∀ d : List Str, d.length ≤ 12 → (d.flatMap fun x => (row.filter (befB B2 m2 x)).map fun y => (x, y)).length ≤ 144 := fun d hd => by
      have := flat_len (fun x => (row.filter (befB B2 m2 x)).map fun y => (x, y)) 12 d fun x _ => by
        rw [List.length_map]
        exact Nat.le_trans (List.length_filter_le _ _) hlp
      omega
    refine lcI (t := false) (l := row) (enc := V.str) (fun d H => Acc (pairR K) H1 D (d.flatMap fun x => (row.filter (befB B2 m2 x)).map fun y => (x, y)) H) (Acc.start hD) (fun d H h => SqB.same' h.old (sqB_f h1)) ?_ ?_
    · intro d x r H3 er a3
      have hx : x ∈ row := by rw [er]; simp
      have hd : d.length ≤ 12 := by rw [er, List.length_append] at hlp; omega
      refine ⟨rfl, ?_⟩
      simp only [tYes, if_true]
      have S3 := a3.old
      walk_at "go"
      refine inB (t := false) (l := row) (enc := V.str) (fun d1 H => Acc (pairR K) H1 D ((d.flatMap fun x => (row.filter (befB B2 m2 x)).map fun y => (x, y)) ++ ((d1.filter (befB B2 m2 x)).map fun y => (x, y))) H) (by rw [List.filter_nil, List.map_nil, List.append_nil]; exact a3) (fun d H h => SqB.same' h.old (sqB_f h1)) ?_ ?_
      · intro d1 y r1 H4 er1 a4
        have hy : y ∈ row := by rw [er1]; simp
        have hd1 : d1.length ≤ 12 := by rw [er1, List.length_append] at hlp; omega
        have S4 := a4.old
        have lf := List.length_filter_le (befB B2 m2 x) d1
        have fd := fl d hd
        refine ⟨rfl, ?_⟩
        walk_at "go"
        refine ⟨hin x hx, hin y hy, fun H5 S5 => ?_⟩
        refine ⟨_, rfl, ?_⟩
        simp only [filter_snoc]
        refine ifb (fun c => ?_) (fun c => ?_)
        · rw [c]
          walk_at "go"
          refine fun T H6 nT S6 hT => ?_
          obtain ⟨acc, g1, g2, g3⟩ := a4.add (pairR_bears K) hD (S5.trans S6) (v := .ref T) (c := (x, y)) ⟨T, rfl, SqT.of hT⟩ (by rw [List.length_append, List.length_map]; omega)
          refine ⟨acc, g1, g2, ?_⟩
          rw [cond_true, List.map_append, ← List.append_assoc]
          exact g3
        · rw [c, cond_false, List.append_nil]
          exact a4.same (pairR_bears K) hD S5
      · intro H4 a4
        rw [flatMap_snoc]
        exact a4
    · intro H3 a3
      obtain ⟨ys, g1, g2, g3⟩ := a3.out (pairR_bears K)
      obtain ⟨ts, rfl, hts⟩ := pairR_out g3
      walk_at "go"
      exact fun q H4 S4 hq => k q ts H4 ((S1.trans g2).trans S4) hq (hts.same S4)
end
end Lw

set_option Elab.async false
set_option linter.all false
set_option maxRecDepth 100000
set_option maxHeartbeats 4000000
namespace Lw
open PySem PySem.Spec PyProof.Rows L2 Np TL
local macro_rules | `(tactic| walk_at "np_h") => `(tactic| first | assumption | exact upd_same | (refine (upd_ne ?_).trans ?_; (walk_at "np_ne"); (walk_at "np_h")) | exact SqL.of (by walk_at "np_h") | exact SqT.of (by walk_at "np_h"))
local macro_rules | `(tactic| walk_at "np_ne") => `(tactic| first | assumption | exact Ne.symm (by assumption))
local macro_rules | `(tactic| walk_at "np_r") => `(tactic| first
  | refine ⟨_, rfl, ?_⟩
  | refine ⟨_, _, rfl, rfl, ?_⟩
  | refine ⟨(.inl ⟨by decide, by decide⟩ : CMul _ _), ?_⟩
  | refine ⟨(.inr ⟨by decide, by decide⟩ : CMul _ _), ?_⟩
  | refine ⟨(by first | decide | omega : (0 : Int) < _), ?_⟩
  | refine ⟨(⟨by decide, by decide⟩ : CDiv _ _), ?_⟩
  | (refine' ⟨_, _, _, _, rfl, rfl, ?np1, ?np2, ?_⟩; (case np1 => walk_at "np_h"); (case np2 => rfl)))

local macro_rules | `(tactic| walk_at "sm") => `(tactic| first | exact Same.refl _ | assumption | (apply Same.back; assumption; walk_at "sm"))
local macro_rules | `(tactic| walk_at "fr") => `(tactic| first | (apply Fr.of; assumption) | assumption | (apply Fr.but; assumption; assumption))
local macro_rules | `(tactic| walk_at "ne") => `(tactic| first | assumption | (apply Ne.symm; assumption))
local macro_rules | `(tactic| walk_at "at") => `(tactic| first | assumption | exact upd_same | (apply Same.at'; assumption; walk_at "at") | (apply Fr.at'; walk_at "fr"; walk_at "at"; exact fun _ z => nomatch z) | (apply But.at'; assumption; walk_at "ne"; walk_at "at"))
local macro_rules | `(tactic| walk_at "sl") => `(tactic| first | assumption | (apply Same.seq; assumption; walk_at "sl"))
local macro_rules | `(tactic| walk_at "sb") => `(tactic| first | assumption | (apply SqB.same'; assumption; walk_at "sb"))
local macro_rules | `(tactic| walk_at "st") => `(tactic| first | assumption | (apply SqT.fr'; walk_at "fr"; walk_at "st"))
local macro_rules | `(tactic| walk_at "bd") => `(tactic| first | assumption | (apply BoardAt.fr'; walk_at "fr"; walk_at "bd"))
local macro_rules | `(tactic| walk_at "sd") => `(tactic| first | assumption | (apply StandAt.fr'; walk_at "fr"; walk_at "sd"))
local macro_rules | `(tactic| walk_at "pr") => `(tactic| first | assumption | (apply PairsAt.fr'; walk_at "fr"; walk_at "pr"))
local macro_rules | `(tactic| walk_at "pa") => `(tactic| first | assumption | (apply PartsAt.fr'; walk_at "fr"; walk_at "pa"))
local macro_rules | `(tactic| walk_at "rw") => `(tactic| first | assumption | (apply RowsAt.fr'; walk_at "fr"; walk_at "rw"))
local macro_rules | `(tactic| walk_at "ob") => `(tactic| first | assumption | (apply obB; walk_at "bd") | (apply obS; walk_at "sd") | (apply ObjAt.fr'; walk_at "fr"; walk_at "ob"))
local macro_rules | `(tactic| walk_at "hp") => `(tactic| first
  | walk_at "at" | walk_at "st" | walk_at "sl" | walk_at "bd" | walk_at "sd" | walk_at "pa" | walk_at "pr" | walk_at "rw" | walk_at "ob"
  | (apply SqT.of; walk_at "at") | (apply SqL.of; walk_at "at"))
local macro_rules | `(tactic| walk_at "sq") => `(tactic| first | (apply sqB_f; walk_at "st") | (apply sqB_f; apply SqT.of; walk_at "at") | (apply sqB_t; walk_at "sl") | (apply sqB_t; apply SqL.of; walk_at "at") | walk_at "sb")
local macro_rules | `(tactic| walk_at "leaf") => `(tactic| first
  | exact rfl
  | walk_at "hp"
  | walk_at "sq"
  | (apply Or.inl; walk_at "hp") | (apply Or.inr; walk_at "hp")
  | (apply Exists.intro; walk_at "hp")
  | (show 2 ≤ sizeLine; decide) | (show 1 ≤ sizeLine; decide) | (show 0 ≤ sizeLine; decide) | (show 3 ≤ sizeLine; decide) | (show 4 ≤ sizeLine; decide)
  | exact atI_nat (j := 0) rfl | exact atI_nat (j := 1) rfl | exact atI_nat (j := 2) rfl | exact atI_nat (j := 3) rfl
  | (apply tyL; walk_at "at") | (apply tyLs; walk_at "sl")
  | walk_at "sm"
  | omega
  | decide
  | exact ⟨by decide, by decide⟩ | exact (.inl ⟨by decide, by decide⟩ : CMul _ _) | exact (.inr ⟨by decide, by decide⟩ : CMul _ _))
local macro_rules | `(tactic| walk_at "ex") => `(tactic| first
  | (apply And.intro; walk_at "leaf")
  | (apply Exists.intro; walk_at "ex"))
local macro_rules | `(tactic| walk_at "go1") => `(tactic| first | refine ⟨_, rfl, ?_⟩ | walk_at "ex")
local macro_rules | `(tactic| walk_at "go") => `(tactic| repeat (walk_at "go1"))


section
variable {P : Program} {w : World} {K : PySem.W.Frag} {mg : Str → Option Value} {base : Heap}
def spTwo (K : PySem.W.Frag) : Sp := fun vs H Q _ => ∃ (b q : Addr) (x y z : Int) (pegs : List Str) (W B : List (Str × Str)) (cs : List Int), vs = [.ref b, .ref q] ∧ H b = some (bx x y z) ∧ PartsAt K H q pegs W B cs ∧ Parts pegs W B cs ∧
  ∀ (T s1 s2 : Addr) (H' : Hp) (x' y' z' : Int) (r1 r2 : List Str), But b H H' → H' b = some (bx x' y' z') → H' T = some (.tup [.ref s1, .ref s2]) → SqT K H' s1 (r1.map V.str) → SqT K H' s2 (r2.map V.str) → r1.Sublist pegs → isStB W B r1 = true → r2.Sublist pegs → isStB W B r2 = true → Q (.ref T) H'
theorem scTwo : FnScope ["_law_box_here", "_law_parts_here"] ["_law_box_here", "_law_parts_here"] (defScope sTwo) := ⟨rfl, rfl, rfl, by decide +kernel, rfl, by decide +kernel, by decide +kernel⟩
theorem ok_two {f : Addr} {fd : FuncData} (F : FnT K "_law_two" sTwo f fd) (c_some_stand : Callee P w K mg base 3 "_law_some_stand" ["_law_box_here", "_law_parts_here"] (spSomeStand K)) : FnOk P w K mg base CX0 4 f fd ["_law_box_here", "_law_parts_here"] (spTwo K) := by
  have nd := scTwo.nd
  refine F.ok scTwo (fun vs H Q E h => ?_) (fun cdv A outer s H vs Q E hr h => ?_)
  · obtain ⟨b, q, x, y, z, pegs, W, B, cs, rfl, _⟩ := h
    rfl
  · obtain ⟨b, q, x, y, z, pegs, W, B, cs, rfl, hb, hq, ok, k⟩ := h
    refine ⟨_, PSs.nox (pss_one (ps_ret (pe_tupN (pa_cons (pe_callC c_some_stand (hr.mono (by decide)) (pa_cons (pv 0) (pa_cons (pv 1) pa_nil))) (pa_cons (pe_callC c_some_stand (hr.mono (by decide)) (pa_cons (pv 0) (pa_cons (pv 1) pa_nil))) pa_nil))))), ?_⟩
    walk_at "go"
    refine fun s1 H1 x1 y1 z1 r1 B1 b1 q1 u1 t1 => ?_
    walk_at "go"
    refine fun s2 H2 x2 y2 z2 r2 B2 b2 q2 u2 t2 => ?_
    walk_at "go"
    intro T H3 n3 S3 hT
    exact k T s1 s2 H3 x2 y2 z2 r1 r2 ((B1.trans B2).trans (But.of S3)) (S3 _ _ b2) hT (by walk_at "st") (by walk_at "st") u1 t1 u2 t2
abbrev Prs := List (Str × Str)
def two1 (ra rb : List Str) (w : Str × Str) : Bool := decide (w.1 ∈ rb) && (!decide (w.1 ∈ ra) && (decide (w.2 ∈ rb) && !decide (w.2 ∈ ra)))
def two2 (ra rb : List Str) (w : Str × Str) : Bool := decide (w.1 ∈ ra) && (!decide (w.1 ∈ rb) && (decide (w.2 ∈ rb) && !decide (w.2 ∈ ra)))
/-- what the pairs of needs tell of the order, and those of bars -/
def befW (ra rb : List Str) (w : Str × Str) : Prs := (bif two1 ra rb w then [(w.2, w.1)] else []) ++ (bif two1 rb ra w then [w] else [])
def befC (ra rb : List Str) (w : Str × Str) : Prs := (bif two2 ra rb w then [w] else []) ++ (bif two2 ra rb (w.2, w.1) then [(w.2, w.1)] else [])
def stepX (last : List Str) (fd : Prs) (x : Str) : Prs := fd ++ (last.filter fun y => !decide ((x, y) ∈ fd)).map fun y => (x, y)
def firsts (fd : Prs) (m : Str) : List Str := (fd.filter fun w => decide (w.2 = m)).map Prod.fst
def lasts (fd : Prs) (m : Str) : List Str := (fd.filter fun w => decide (w.1 = m)).map Prod.snd
def stepM (fd : Prs) (m : Str) : Prs := (firsts fd m).foldl (stepX (lasts fd m)) fd
def befAll (pegs : List Str) (W Bs : Prs) (ra rb : List Str) : Prs := pegs.foldl stepM (W.flatMap (befW ra rb) ++ Bs.flatMap (befC ra rb))
def befOut (pegs : List Str) (fd : Prs) : Prs := pegs.flatMap fun x => (pegs.filter fun y => decide ((x, y) ∈ fd)).map fun y => (x, y)
/-! how long it may grow -/
def Cnt (M : Nat) (fd : Prs) : Prop := ∀ w, fd.count w ≤ M
theorem count_le_len (w : Str × Str) (l : Prs) : l.count w ≤ l.length := List.count_le_length
theorem stepX_cnt {M : Nat} {last : List Str} {fd : Prs} {x : Str} (h : Cnt M fd) (hl : ∀ y, last.count y ≤ M) : Cnt M (stepX last fd x) := by
  intro w
  unfold stepX
  rw [List.count_append]
  by_cases hw : w ∈ fd
  · have : ((last.filter fun y => !decide ((x, y) ∈ fd)).map fun y => (x, y)).count w = 0 := List.count_eq_zero.mpr fun z => by
      obtain ⟨y, hy, rfl⟩ := List.mem_map.mp z
      have := (List.mem_filter.mp hy).2
      simp at this
      exact this hw
    have := h w
    omega
  · rw [List.count_eq_zero.mpr hw, Nat.zero_add]
    obtain ⟨w1, w2⟩ := w
    by_cases e : w1 = x
    · subst e
      have inj : ∀ (l : List Str), (l.map fun y => (w1, y)).count (w1, w2) = l.count w2 := fun l => by
        induction l with
        | nil => rfl
        | cons a l ih =>
          rw [List.map_cons, List.count_cons, List.count_cons, ih]
          congr 1
          by_cases e : a = w2
          · subst e; simp
          · simp [e]
      rw [inj]
      exact Nat.le_trans (List.Sublist.count_le _ List.filter_sublist) (hl w2)
    · have : ((last.filter fun y => !decide ((x, y) ∈ fd)).map fun y => (x, y)).count (w1, w2) = 0 := List.count_eq_zero.mpr fun z => by
        obtain ⟨y, _, e2⟩ := List.mem_map.mp z
        exact e (congrArg Prod.fst e2).symm
      omega
theorem lasts_cnt {M : Nat} {fd : Prs} (h : Cnt M fd) (m y : Str) : (lasts fd m).count y ≤ M := by
  have e : (lasts fd m).count y ≤ fd.count (m, y) := by
    unfold lasts
    clear h
    induction fd with
    | nil => exact Nat.le_refl _
    | cons w fd ih =>
      obtain ⟨w1, w2⟩ := w
      rw [List.filter_cons, List.count_cons]
      by_cases e : w1 = m
      · subst e
        rw [if_pos (by simp), List.map_cons, List.count_cons]
        by_cases e2 : w2 = y
        · subst e2; simp; exact ih
        · simp [e2]; exact ih
      · rw [if_neg (by simpa using e)]
        omega
  exact Nat.le_trans e (h _)
theorem foldX_cnt {M : Nat} {last : List Str} (hl : ∀ y, last.count y ≤ M) : ∀ (fs : List Str) {fd : Prs}, Cnt M fd → Cnt M (fs.foldl (stepX last) fd)
  | [], _, h => h
  | _ :: fs, _, h => foldX_cnt hl fs (stepX_cnt h hl)
theorem stepM_cnt {M : Nat} {fd : Prs} (h : Cnt M fd) (m : Str) : Cnt M (stepM fd m) := foldX_cnt (lasts_cnt h m) _ h
theorem foldM_cnt {M : Nat} : ∀ (ms : List Str) {fd : Prs}, Cnt M fd → Cnt M (ms.foldl stepM fd)
  | [], _, h => h
  | m :: ms, _, h => foldM_cnt ms (stepM_cnt h m)
def Inn (pegs : List Str) (fd : Prs) : Prop := ∀ w ∈ fd, w.1 ∈ pegs ∧ w.2 ∈ pegs
theorem stepX_inn {pegs last : List Str} {fd : Prs} {x : Str} (h : Inn pegs fd) (hx : x ∈ pegs) (hl : ∀ y ∈ last, y ∈ pegs) : Inn pegs (stepX last fd x) := by
  intro w hw
  rcases List.mem_append.mp hw with z | z
  · exact h w z
  · obtain ⟨y, hy, rfl⟩ := List.mem_map.mp z
    exact ⟨hx, hl y (List.mem_filter.mp hy).1⟩
theorem lasts_inn {pegs : List Str} {fd : Prs} (h : Inn pegs fd) (m : Str) : ∀ y ∈ lasts fd m, y ∈ pegs := fun y hy => by
  obtain ⟨w, hw, rfl⟩ := List.mem_map.mp hy
  exact (h w (List.mem_filter.mp hw).1).2
theorem firsts_inn {pegs : List Str} {fd : Prs} (h : Inn pegs fd) (m : Str) : ∀ y ∈ firsts fd m, y ∈ pegs := fun y hy => by
  obtain ⟨w, hw, rfl⟩ := List.mem_map.mp hy
  exact (h w (List.mem_filter.mp hw).1).1
theorem foldX_inn {pegs last : List Str} (hl : ∀ y ∈ last, y ∈ pegs) : ∀ (fs : List Str) {fd : Prs}, (∀ x ∈ fs, x ∈ pegs) → Inn pegs fd → Inn pegs (fs.foldl (stepX last) fd)
  | [], _, _, h => h
  | x :: fs, _, hf, h => foldX_inn hl fs (fun y hy => hf y (List.mem_cons_of_mem _ hy)) (stepX_inn h (hf x List.mem_cons_self) hl)
theorem stepM_inn {pegs : List Str} {fd : Prs} (h : Inn pegs fd) (m : Str) : Inn pegs (stepM fd m) := foldX_inn (lasts_inn h m) _ (firsts_inn h m) h
theorem foldM_inn {pegs : List Str} : ∀ (ms : List Str) {fd : Prs}, Inn pegs fd → Inn pegs (ms.foldl stepM fd)
  | [], _, h => h
  | m :: ms, _, h => foldM_inn ms (stepM_inn h m)
theorem len_of_cnt {α : Type} [BEq α] [LawfulBEq α] {M : Nat} : ∀ (S : List α) (l : List α), (∀ w ∈ l, w ∈ S) → (∀ w, l.count w ≤ M) → l.length ≤ S.length * M
  | [], l, h, _ => by
    cases l with
    | nil => exact Nat.zero_le _
    | cons a l => exact absurd (h a List.mem_cons_self) (by simp)
  | s :: S, l, h, hc => by
    have ih := len_of_cnt S (l.filter fun w => !(w == s)) (fun w hw => by
      obtain ⟨h1, h2⟩ := List.mem_filter.mp hw
      rcases List.mem_cons.mp (h w h1) with e | e
      · subst e; simp at h2
      · exact e) (fun w => Nat.le_trans (List.Sublist.count_le _ List.filter_sublist) (hc w))
    have e : l.length = l.count s + (l.filter fun w => !(w == s)).length := by
      clear ih h hc
      induction l with
      | nil => rfl
      | cons a l ih =>
        rw [List.count_cons, List.filter_cons]
        cases e : (a == s)
        · simp [e]; omega
        · simp [e]; omega
    have := hc s
    rw [List.length_cons, Nat.succ_mul]
    omega
theorem inn_len {M : Nat} {pegs : List Str} {fd : Prs} (lp : pegs.length ≤ 12) (h : Inn pegs fd) (c : Cnt M fd) : fd.length ≤ 144 * M := by
  have := len_of_cnt (pegs.flatMap fun x => pegs.map fun y => (x, y)) fd (fun w hw => List.mem_flatMap.mpr ⟨w.1, (h w hw).1, List.mem_map.mpr ⟨w.2, (h w hw).2, rfl⟩⟩) c
  have l2 : (pegs.flatMap fun x => pegs.map fun y => (x, y)).length ≤ 144 := by
    have := flat_len (fun x => pegs.map fun y => (x, y)) 12 pegs fun x _ => by rw [List.length_map]; exact lp
    omega
  exact Nat.le_trans this (Nat.mul_le_mul_right _ l2)
end
end Lw

set_option Elab.async false
set_option linter.all false
set_option maxRecDepth 100000
set_option maxHeartbeats 4000000
namespace Lw
open PySem PySem.Spec PyProof.Rows L2 Np TL
local macro_rules | `(tactic| walk_at "np_h") => `(tactic| first | assumption | exact upd_same | (refine (upd_ne ?_).trans ?_; (walk_at "np_ne"); (walk_at "np_h")) | exact SqL.of (by walk_at "np_h") | exact SqT.of (by walk_at "np_h"))
local macro_rules | `(tactic| walk_at "np_ne") => `(tactic| first | assumption | exact Ne.symm (by assumption))
local macro_rules | `(tactic| walk_at "np_r") => `(tactic| first
  | refine ⟨_, rfl, ?_⟩
  | refine ⟨_, _, rfl, rfl, ?_⟩
  | refine ⟨(.inl ⟨by decide, by decide⟩ : CMul _ _), ?_⟩
  | refine ⟨(.inr ⟨by decide, by decide⟩ : CMul _ _), ?_⟩
  | refine ⟨(by first | decide | omega : (0 : Int) < _), ?_⟩
  | refine ⟨(⟨by decide, by decide⟩ : CDiv _ _), ?_⟩
  | (refine' ⟨_, _, _, _, rfl, rfl, ?np1, ?np2, ?_⟩; (case np1 => walk_at "np_h"); (case np2 => rfl)))

local macro_rules | `(tactic| walk_at "sm") => `(tactic| first | exact Same.refl _ | assumption | (apply Same.back; assumption; walk_at "sm"))
local macro_rules | `(tactic| walk_at "fr") => `(tactic| first | (apply Fr.of; assumption) | assumption | (apply Fr.but; assumption; assumption))
local macro_rules | `(tactic| walk_at "ne") => `(tactic| first | assumption | (apply Ne.symm; assumption))
local macro_rules | `(tactic| walk_at "at") => `(tactic| first | assumption | exact upd_same | (apply Same.at'; assumption; walk_at "at") | (apply Fr.at'; walk_at "fr"; walk_at "at"; exact fun _ z => nomatch z) | (apply But.at'; assumption; walk_at "ne"; walk_at "at"))
local macro_rules | `(tactic| walk_at "sl") => `(tactic| first | assumption | (apply Same.seq; assumption; walk_at "sl"))
local macro_rules | `(tactic| walk_at "sb") => `(tactic| first | assumption | (apply SqB.same'; assumption; walk_at "sb"))
local macro_rules | `(tactic| walk_at "st") => `(tactic| first | assumption | (apply SqT.fr'; walk_at "fr"; walk_at "st"))
local macro_rules | `(tactic| walk_at "bd") => `(tactic| first | assumption | (apply BoardAt.fr'; walk_at "fr"; walk_at "bd"))
local macro_rules | `(tactic| walk_at "sd") => `(tactic| first | assumption | (apply StandAt.fr'; walk_at "fr"; walk_at "sd"))
local macro_rules | `(tactic| walk_at "pr") => `(tactic| first | assumption | (apply PairsAt.fr'; walk_at "fr"; walk_at "pr"))
local macro_rules | `(tactic| walk_at "pa") => `(tactic| first | assumption | (apply PartsAt.fr'; walk_at "fr"; walk_at "pa"))
local macro_rules | `(tactic| walk_at "rw") => `(tactic| first | assumption | (apply RowsAt.fr'; walk_at "fr"; walk_at "rw"))
local macro_rules | `(tactic| walk_at "ob") => `(tactic| first | assumption | (apply obB; walk_at "bd") | (apply obS; walk_at "sd") | (apply ObjAt.fr'; walk_at "fr"; walk_at "ob"))
local macro_rules | `(tactic| walk_at "hp") => `(tactic| first
  | walk_at "at" | walk_at "st" | walk_at "sl" | walk_at "bd" | walk_at "sd" | walk_at "pa" | walk_at "pr" | walk_at "rw" | walk_at "ob"
  | (apply SqT.of; walk_at "at") | (apply SqL.of; walk_at "at"))
local macro_rules | `(tactic| walk_at "sq") => `(tactic| first | (apply sqB_f; walk_at "st") | (apply sqB_f; apply SqT.of; walk_at "at") | (apply sqB_t; walk_at "sl") | (apply sqB_t; apply SqL.of; walk_at "at") | walk_at "sb")
local macro_rules | `(tactic| walk_at "leaf") => `(tactic| first
  | exact rfl
  | walk_at "hp"
  | walk_at "sq"
  | (apply Or.inl; walk_at "hp") | (apply Or.inr; walk_at "hp")
  | (apply Exists.intro; walk_at "hp")
  | (show 2 ≤ sizeLine; decide) | (show 1 ≤ sizeLine; decide) | (show 0 ≤ sizeLine; decide) | (show 3 ≤ sizeLine; decide) | (show 4 ≤ sizeLine; decide)
  | exact atI_nat (j := 0) rfl | exact atI_nat (j := 1) rfl | exact atI_nat (j := 2) rfl | exact atI_nat (j := 3) rfl
  | (apply tyL; walk_at "at") | (apply tyLs; walk_at "sl")
  | walk_at "sm"
  | omega
  | decide
  | exact ⟨by decide, by decide⟩ | exact (.inl ⟨by decide, by decide⟩ : CMul _ _) | exact (.inr ⟨by decide, by decide⟩ : CMul _ _))
local macro_rules | `(tactic| walk_at "ex") => `(tactic| first
  | (apply And.intro; walk_at "leaf")
  | (apply Exists.intro; walk_at "ex"))
local macro_rules | `(tactic| walk_at "go1") => `(tactic| first | refine ⟨_, rfl, ?_⟩ | walk_at "ex")
local macro_rules | `(tactic| walk_at "go") => `(tactic| repeat (walk_at "go1"))


section
variable {P : Program} {w : World} {K : PySem.W.Frag} {mg : Str → Option Value} {base : Heap}
theorem bef_inn {pegs ra rb : List Str} {W Bs : Prs} (h1 : ∀ w ∈ W, w.1 ∈ pegs ∧ w.2 ∈ pegs) (h2 : ∀ w ∈ Bs, w.1 ∈ pegs ∧ w.2 ∈ pegs) : Inn pegs (W.flatMap (befW ra rb) ++ Bs.flatMap (befC ra rb)) := by
  intro w hw
  rcases List.mem_append.mp hw with z | z
  · obtain ⟨v, hv, hz⟩ := List.mem_flatMap.mp z
    have := h1 v hv
    unfold befW at hz
    rcases List.mem_append.mp hz with y | y
    · cases c : two1 ra rb v <;> rw [c] at y <;> simp at y
      rw [y]; exact ⟨this.2, this.1⟩
    · cases c : two1 rb ra v <;> rw [c] at y <;> simp at y
      rw [y]; exact this
  · obtain ⟨v, hv, hz⟩ := List.mem_flatMap.mp z
    have := h2 v hv
    unfold befC at hz
    rcases List.mem_append.mp hz with y | y
    · cases c : two2 ra rb v <;> rw [c] at y <;> simp at y
      rw [y]; exact this
    · cases c : two2 ra rb (v.2, v.1) <;> rw [c] at y <;> simp at y
      rw [y]; exact ⟨this.2, this.1⟩
theorem flatMap_app1 {α β : Type} (f : α → List β) (l : List α) (x : α) : (l ++ [x]).flatMap f = l.flatMap f ++ f x := flatMap_snoc f l x
def spLBef (K : PySem.W.Frag) : Sp := fun vs H Q _ => ∃ (q a b : Addr) (pegs : List Str) (W Bs : List (Str × Str)) (cs : List Int) (ra rb : List Str), vs = [.ref q, .ref a, .ref b] ∧ PartsAt K H q pegs W Bs cs ∧ Parts pegs W Bs cs ∧ SqT K H a (ra.map V.str) ∧ SqT K H b (rb.map V.str) ∧
  ∀ p ts H', Same H H' → H' p = some (.lst (ts.map V.ref)) → PairsAt K H' ts (befOut pegs (befAll pegs W Bs ra rb)) → Q (.ref p) H'
theorem scBefore : FnScope ["_law_parts_here", "_law_a", "_law_b", "_law_found", "_law_x", "_law_y", "_law_pair", "_law_middle", "_law_first", "_law_last", "_law_pairs"] ["_law_parts_here", "_law_a", "_law_b"] (defScope sBefore) := ⟨rfl, rfl, rfl, by decide +kernel, rfl, by decide +kernel, by decide +kernel⟩
theorem ok_before {f : Addr} {fd : FuncData} (F : FnT K "_law_before" sBefore f fd)  : FnOk P w K mg base CX0 2 f fd ["_law_parts_here", "_law_a", "_law_b"] (spLBef K) := by
  have nd := scBefore.nd
  refine F.ok scBefore (fun vs H Q E h => ?_) (fun cdv A outer s H vs Q E hr h => ?_)
  · obtain ⟨q, a, b, pegs, W, Bs, cs, ra, rb, rfl, _⟩ := h
    rfl
  · obtain ⟨q, a, b, pegs, W, Bs, cs, ra, rb, rfl, hq, ok, ha, hb, k⟩ := h
    refine ⟨_, PSs.nox (pss_cons (ps_set (i := 3) nd rfl (.inr rfl) (pe_lstN pa_nil))
  (pss_cons (ps_for PassesOwn.never rfl (pi_tup (pe_ix ix_tup (pv 0) pe_int (fun _ _ => rfl))) (pg_tup (by rfl) (pgs_cons (pg_name (i := 4) nd rfl (.inr rfl)) (pgs_cons (pg_name (i := 5) nd rfl (.inl rfl)) pgs_nil)))
   (pss_cons (ps_ifN (PW.pt (pw_and (pt_cmpR (op_inS (K := K) rfl) (pv 4) (pv 2) (by rfl)) (pw_and (pt_cmpR (op_ninS (K := K) rfl) (pv 4) (pv 1) (by rfl)) (pw_and (pt_cmpR (op_inS (K := K) rfl) (pv 5) (pv 2) (by rfl)) (pw_and1 (pt_cmpR (op_ninS (K := K) rfl) (pv 5) (pv 1) (by rfl))))))) (pss_one (ps_expr (pe_bm PySem.F.plainAttrs_list PySem.F.slot_list_append PySem.F.type_list_append mt_appendN (pv 3) (pa_cons (pe_tupN (pa_cons (pv 5) (pa_cons (pv 4) pa_nil))) pa_nil)))) pss_nil)
  (pss_one (ps_ifN (PW.pt (pw_and (pt_cmpR (op_inS (K := K) rfl) (pv 4) (pv 1) (by rfl)) (pw_and (pt_cmpR (op_ninS (K := K) rfl) (pv 4) (pv 2) (by rfl)) (pw_and (pt_cmpR (op_inS (K := K) rfl) (pv 5) (pv 1) (by rfl)) (pw_and1 (pt_cmpR (op_ninS (K := K) rfl) (pv 5) (pv 2) (by rfl))))))) (pss_one (ps_expr (pe_bm PySem.F.plainAttrs_list PySem.F.slot_list_append PySem.F.type_list_append mt_appendN (pv 3) (pa_cons (pe_tupN (pa_cons (pv 4) (pa_cons (pv 5) pa_nil))) pa_nil)))) pss_nil))))
  (pss_cons (ps_for PassesOwn.never rfl (pi_tup (pe_ix ix_tup (pv 0) pe_int (fun _ _ => rfl))) (pg_name (i := 6) nd rfl (.inl rfl))
   (pss_one (ps_for PassesOwn.never rfl (pi_tup (pe_tupN (pa_cons (pv 6) (pa_cons (pe_tupN (pa_cons (pe_ix ix_tup (pv 6) pe_int (fun _ _ => rfl)) (pa_cons (pe_ix ix_tup (pv 6) pe_int (fun _ _ => rfl)) pa_nil))) pa_nil)))) (pg_tup (by rfl) (pgs_cons (pg_name (i := 4) nd rfl (.inr rfl)) (pgs_cons (pg_name (i := 5) nd rfl (.inl rfl)) pgs_nil)))
   (pss_one (ps_ifN (PW.pt (pw_and (pt_cmpR (op_inS (K := K) rfl) (pv 4) (pv 1) (by rfl)) (pw_and (pt_cmpR (op_ninS (K := K) rfl) (pv 4) (pv 2) (by rfl)) (pw_and (pt_cmpR (op_inS (K := K) rfl) (pv 5) (pv 2) (by rfl)) (pw_and1 (pt_cmpR (op_ninS (K := K) rfl) (pv 5) (pv 1) (by rfl))))))) (pss_one (ps_expr (pe_bm PySem.F.plainAttrs_list PySem.F.slot_list_append PySem.F.type_list_append mt_appendN (pv 3) (pa_cons (pe_tupN (pa_cons (pv 4) (pa_cons (pv 5) pa_nil))) pa_nil)))) pss_nil)))))
  (pss_cons (ps_for PassesOwn.never rfl (pi_tup (pe_ix ix_tup (pv 0) pe_int (fun _ _ => rfl))) (pg_name (i := 7) nd rfl (.inr rfl))
   (pss_cons (ps_par (i := 8) (j := 9) (by rfl) nd rfl rfl (by decide) rfl rfl (pa_cons (pe_lc (own := [("_law_x", 4), ("_law_y", 5)]) (g := gTup K 2 (gCons (gName 4) (gCons (gName 5) gNil))) rfl nd (pi_list (pv 3)) (blkOk_by (N := ["_law_parts_here", "_law_a", "_law_b", "_law_found", "_law_x", "_law_y", "_law_pair", "_law_middle", "_law_first", "_law_last", "_law_pairs"]) (sc := defScope sBefore) (by decide +kernel)) (fun _ _ _ _ _ => (pg_tupK (K := K) rfl (by rfl) (pgs_cons (pg_name (i := 4) nd rfl (.inl rfl)) (pgs_cons (pg_name (i := 5) nd rfl (.inl rfl)) pgs_nil)))) (fun _ _ _ _ _ => pts_one (pt_cmpR op_eqSt (pv 5) (pv 7) (nomark _))) (fun _ _ _ _ _ => (pv 4))) (pa_cons (pe_lc (own := [("_law_x", 4), ("_law_y", 5)]) (g := gTup K 2 (gCons (gName 4) (gCons (gName 5) gNil))) rfl nd (pi_list (pv 3)) (blkOk_by (N := ["_law_parts_here", "_law_a", "_law_b", "_law_found", "_law_x", "_law_y", "_law_pair", "_law_middle", "_law_first", "_law_last", "_law_pairs"]) (sc := defScope sBefore) (by decide +kernel)) (fun _ _ _ _ _ => (pg_tupK (K := K) rfl (by rfl) (pgs_cons (pg_name (i := 4) nd rfl (.inl rfl)) (pgs_cons (pg_name (i := 5) nd rfl (.inl rfl)) pgs_nil)))) (fun _ _ _ _ _ => pts_one (pt_cmpR op_eqSt (pv 4) (pv 7) (nomark _))) (fun _ _ _ _ _ => (pv 5))) pa_nil)) (by rfl))
  (pss_one (ps_for PassesOwn.never rfl (pi_list (pv 8)) (pg_name (i := 4) nd rfl (.inr rfl))
   (pss_one (ps_expr (pe_bm PySem.F.plainAttrs_list PySem.F.slot_list_extend PySem.F.type_list_extend mt_extendN (pv 3) (pa_cons (pe_lc (own := [("_law_y", 5)]) (g := gName 5) rfl nd (pi_list (pv 9)) (blkOk_by (N := ["_law_parts_here", "_law_a", "_law_b", "_law_found", "_law_x", "_law_y", "_law_pair", "_law_middle", "_law_first", "_law_last", "_law_pairs"]) (sc := defScope sBefore) (by decide +kernel)) (fun _ _ _ _ _ => (pg_name (i := 5) nd rfl (.inl rfl))) (fun _ _ _ _ _ => pts_one (pt_cmpR (op_notInDK (K := K) rfl (Room.u65 hr)) (pe_tupN (pa_cons (pv 4) (pa_cons (pv 5) pa_nil))) (pv 3) (by rfl))) (fun _ _ _ _ _ => (pe_tupN (pa_cons (pv 4) (pa_cons (pv 5) pa_nil))))) pa_nil))))))))
  (pss_cons (ps_set (i := 10) nd rfl (.inl rfl) (pe_lstN pa_nil))
  (pss_cons (ps_for PassesOwn.never rfl (pi_tup (pe_ix ix_tup (pv 0) pe_int (fun _ _ => rfl))) (pg_name (i := 4) nd rfl (.inr rfl))
   (pss_one (ps_expr (pe_bm PySem.F.plainAttrs_list PySem.F.slot_list_extend PySem.F.type_list_extend mt_extendN (pv 10) (pa_cons (pe_lc (own := [("_law_y", 5)]) (g := gName 5) rfl nd (pi_tup (pe_ix ix_tup (pv 0) pe_int (fun _ _ => rfl))) (blkOk_by (N := ["_law_parts_here", "_law_a", "_law_b", "_law_found", "_law_x", "_law_y", "_law_pair", "_law_middle", "_law_first", "_law_last", "_law_pairs"]) (sc := defScope sBefore) (by decide +kernel)) (fun _ _ _ _ _ => (pg_name (i := 5) nd rfl (.inl rfl))) (fun _ _ _ _ _ => pts_one (pt_cmpR (op_inDK (K := K) rfl (Room.u65 hr)) (pe_tupN (pa_cons (pv 4) (pa_cons (pv 5) pa_nil))) (pv 3) (by rfl))) (fun _ _ _ _ _ => (pe_tupN (pa_cons (pv 4) (pa_cons (pv 5) pa_nil))))) pa_nil)))))
  (pss_one (ps_ret (pv 10))))))))), ?_⟩
    obtain ⟨p, n, bl, c, ns, bs, h1, h2, h3, h4, h5, h6, h7⟩ := id hq
    have lp : pegs.length ≤ 12 := ok.le
    have inn0 := bef_inn (ra := ra) (rb := rb) ok.w2 ok.b2
    unfold befAll at k
    have lW := ok.wl
    have lB := ok.bl
    obtain ⟨zl, e1, e2, hz⟩ := pairs_zip h4
    subst e1 e2
    rw [List.map_map] at h3
    obtain ⟨zb, e1, e2, hzb⟩ := pairs_zip h6
    subst e1 e2
    rw [List.map_map] at h5
    walk_at "go"
    intro F H1 nF S1 hF
    walk_at "go"
    have fl1 : ∀ d : List (Addr × (Str × Str)), d.length ≤ 900 → ((d.map Prod.snd).flatMap (befW ra rb)).length ≤ 1800 := fun d hd => by
      have := flat_len (befW ra rb) 2 (d.map Prod.snd) fun w _ => by
        unfold befW
        cases two1 ra rb w <;> cases two1 rb ra w <;> simp
      rw [List.length_map] at this
      omega
    rw [List.length_map] at lW lB
    refine forB (t := false) (a := n) (l := zl) (enc := V.ref ∘ Prod.fst) (fun d σ H => (∃ s4 s5 s6 s7 s8 s9 s10 : Option V, σ = [some (.ref q), some (.ref a), some (.ref b), some (.ref F), s4, s5, s6, s7, s8, s9, s10]) ∧ FL K F H1 ((d.map Prod.snd).flatMap (befW ra rb)) H) ⟨⟨_, _, _, _, _, _, _, rfl⟩, But.of (Same.refl _), [], hF, .nil⟩ ?_ ?_ ?_
    · rintro d σ H2 ⟨_, B, _⟩
      apply sqB_f
      walk_at "st"
    · rintro d ⟨T, x, y⟩ r σ H2 er ⟨⟨s4, s5, s6, s7, s8, s9, s10, rfl⟩, B2, ts, g1, g2⟩
      --S{
      have hT := hz (T, x, y) (by rw [er]; simp)
      have ld : d.length ≤ 900 := by rw [er, List.length_append] at lW; omega
      have lts : (ts.map V.ref).length < sizeLine := by
        rw [FL.len g2, sizeLine_eq]
        have := fl1 d ld
        omega
      walk_at "go"
      refine pif (two1 ra rb (x, y)) (fun k hk => ?_) (fun c => ?_) (fun c => ?_)
      · unfold two1 at hk
        walk_at "go"
        refine andS hk (fun hk => ?_)
        walk_at "go"
        refine andS hk (fun hk => ?_)
        walk_at "go"
        refine andS hk (fun hk => ?_)
        walk_at "go"
        exact hk
      · walk_at "go"
        intro T1 H3 n3 S3 hT1
        have g1' := S3 _ _ g1
        walk_at "go"
        intro H4 B4 g4
        have f4 : FL K F H1 ((d.map Prod.snd).flatMap (befW ra rb) ++ [(y, x)]) H4 := FL.more (us := [T1]) (B2.trans (But.of S3)) g1' (g2.same S3) (.cons (SqT.of hT1) .nil) B4 g4
        obtain ⟨B5, ts5, g5, p5⟩ := id f4
        have lts5 : (ts5.map V.ref).length < sizeLine := by
          rw [FL.len p5, sizeLine_eq, List.length_append]
          have := fl1 d ld
          simp only [List.length_singleton]
          omega
        refine pif (two1 rb ra (x, y)) (fun k hk => ?_) (fun c2 => ?_) (fun c2 => ?_)
        · unfold two1 at hk
          walk_at "go"
          refine andS hk (fun hk => ?_)
          walk_at "go"
          refine andS hk (fun hk => ?_)
          walk_at "go"
          refine andS hk (fun hk => ?_)
          walk_at "go"
          exact hk
        · walk_at "go"
          intro T2 H6 n6 S6 hT2
          have g5' := S6 _ _ g5
          walk_at "go"
          intro H7 B7 g7
          refine ⟨⟨_, _, _, _, _, _, _, rfl⟩, ?_⟩
          rw [List.map_append, List.map_cons, List.map_nil, flatMap_app1]
          have e : befW ra rb (x, y) = [(y, x)] ++ [(x, y)] := by unfold befW; rw [c, c2]; rfl
          rw [show Prod.snd (T, x, y) = (x, y) from rfl, e, ← List.append_assoc]
          exact FL.more (us := [T2]) (B5.trans (But.of S6)) g5' (p5.same S6) (.cons (SqT.of hT2) .nil) B7 g7
        · refine ⟨⟨_, _, _, _, _, _, _, rfl⟩, ?_⟩
          rw [List.map_append, List.map_cons, List.map_nil, flatMap_app1]
          have e : befW ra rb (x, y) = [(y, x)] := by unfold befW; rw [c, c2]; rfl
          rw [show Prod.snd (T, x, y) = (x, y) from rfl, e]
          exact f4
      · refine pif (two1 rb ra (x, y)) (fun k hk => ?_) (fun c2 => ?_) (fun c2 => ?_)
        · unfold two1 at hk
          walk_at "go"
          refine andS hk (fun hk => ?_)
          walk_at "go"
          refine andS hk (fun hk => ?_)
          walk_at "go"
          refine andS hk (fun hk => ?_)
          walk_at "go"
          exact hk
        · walk_at "go"
          intro T2 H6 n6 S6 hT2
          have g1' := S6 _ _ g1
          walk_at "go"
          intro H7 B7 g7
          refine ⟨⟨_, _, _, _, _, _, _, rfl⟩, ?_⟩
          rw [List.map_append, List.map_cons, List.map_nil, flatMap_app1]
          have e : befW ra rb (x, y) = [(x, y)] := by unfold befW; rw [c, c2]; rfl
          rw [show Prod.snd (T, x, y) = (x, y) from rfl, e]
          exact FL.more (us := [T2]) (B2.trans (But.of S6)) g1' (g2.same S6) (.cons (SqT.of hT2) .nil) B7 g7
        · refine ⟨⟨_, _, _, _, _, _, _, rfl⟩, ?_⟩
          rw [List.map_append, List.map_cons, List.map_nil, flatMap_app1]
          have e : befW ra rb (x, y) = [] := by unfold befW; rw [c, c2]; rfl
          rw [show Prod.snd (T, x, y) = (x, y) from rfl, e, List.append_nil]
          exact ⟨B2, ts, g1, g2⟩
      --S}
    · rintro σ H2 ⟨⟨s4, s5, s6, s7, s8, s9, s10, rfl⟩, f2⟩
      have fw := fl1 zl lW
      generalize (zl.map Prod.snd).flatMap (befW ra rb) = fdW at k f2 fw inn0
      have fl2 : ∀ d : List (Addr × (Str × Str)), d.length ≤ 900 → ((d.map Prod.snd).flatMap (befC ra rb)).length ≤ 1800 := fun d hd => by
        have := flat_len (befC ra rb) 2 (d.map Prod.snd) fun w _ => by
          unfold befC
          cases two2 ra rb w <;> cases two2 ra rb (w.2, w.1) <;> simp
        rw [List.length_map] at this
        omega
      walk_at "go"
      have B2 := f2.1
      walk_at "go"
      refine forB (t := false) (a := bl) (l := zb) (enc := V.ref ∘ Prod.fst) (fun d σ H => (∃ s4 s5 s6 s7 s8 s9 s10 : Option V, σ = [some (.ref q), some (.ref a), some (.ref b), some (.ref F), s4, s5, s6, s7, s8, s9, s10]) ∧ FL K F H1 (fdW ++ (d.map Prod.snd).flatMap (befC ra rb)) H) ⟨⟨_, _, _, _, _, _, _, rfl⟩, by rw [List.map_nil, List.flatMap_nil, List.append_nil]; exact f2⟩ ?_ ?_ ?_
      · rintro d σ H2 ⟨_, B, _⟩
        apply sqB_f
        walk_at "st"
      · rintro d ⟨T, x, y⟩ r σ H3 er ⟨⟨s4, s5, s6, s7, s8, s9, s10, rfl⟩, B3, ts, g1, g2⟩
        --S{
        have hT := hzb (T, x, y) (by rw [er]; simp)
        have ld : d.length ≤ 900 := by rw [er, List.length_append] at lB; omega
        have fb := fl2 d ld
        walk_at "go"
        intro T2 H4 n4 S4 hT2
        walk_at "go"
        intro T3 H5 n5 S5 hT3
        have g5 := S5 _ _ (S4 _ _ g1)
        have q0 : SqT K H5 T [.str x, .str y] := by walk_at "st"
        have q2 : SqT K H5 T2 [.str y, .str x] := SqT.of (S5 _ _ hT2)
        have q3 : SqT K H5 T3 ([(T, (x, y)), (T2, (y, x))].map (V.ref ∘ Prod.fst)) := SqT.of hT3
        have f5 : FL K F H1 (fdW ++ (d.map Prod.snd).flatMap (befC ra rb)) H5 := FL.same (FL.same ⟨B3, ts, g1, g2⟩ S4) S5
        have ld5 : (fdW ++ (d.map Prod.snd).flatMap (befC ra rb)).length ≤ 3600 := by rw [List.length_append]; omega
        rw [List.map_append, List.map_cons, List.map_nil, flatMap_app1, ← List.append_assoc]
        generalize fdW ++ (d.map Prod.snd).flatMap (befC ra rb) = dd at f5 ld5 ⊢
        walk_at "go"
        refine forB (t := false) (a := T3) (l := [(T, (x, y)), (T2, (y, x))]) (enc := V.ref ∘ Prod.fst) (fun d1 σ H => (∃ s4 s5 s6 s7 s8 s9 s10 : Option V, σ = [some (.ref q), some (.ref a), some (.ref b), some (.ref F), s4, s5, s6, s7, s8, s9, s10]) ∧ FL K F H1 (dd ++ (d1.map Prod.snd).flatMap fun w => bif two2 ra rb w then [w] else []) H ∧ But F H5 H) ⟨⟨_, _, _, _, _, _, _, rfl⟩, by rw [List.map_nil, List.flatMap_nil, List.append_nil]; exact f5, But.of (Same.refl _)⟩ ?_ ?_ ?_
        · rintro d σ H2 ⟨_, _, B⟩
          apply sqB_f
          walk_at "st"
        · rintro d1 ⟨Tu, u, v⟩ r1 σ H6 er1 ⟨⟨s4, s5, s6, s7, s8, s9, s10, rfl⟩, ⟨B1', ts6, g6, p6⟩, B6⟩
          have B6 := B6
          have hTu : SqT K H5 Tu [.str u, .str v] := by
            have : (Tu, (u, v)) ∈ [(T, (x, y)), (T2, (y, x))] := by rw [er1]; simp
            simp only [List.mem_cons, List.not_mem_nil, or_false] at this
            rcases this with e | e <;> cases e
            · exact q0
            · exact q2
          have l1 : d1.length ≤ 2 := by
            have := congrArg List.length er1
            rw [List.length_append] at this
            simp at this
            omega
          have l2 : ((d1.map Prod.snd).flatMap fun w => bif two2 ra rb w then [w] else []).length ≤ 2 := by
            have := flat_len (fun w => bif two2 ra rb w then [w] else []) 1 (d1.map Prod.snd) fun w _ => by cases two2 ra rb w <;> simp
            rw [List.length_map] at this
            omega
          have lts6 : (ts6.map V.ref).length < sizeLine := by
            rw [FL.len p6, sizeLine_eq, List.length_append]
            omega
          rw [List.map_append, List.map_cons, List.map_nil, flatMap_app1, ← List.append_assoc]
          generalize dd ++ ((d1.map Prod.snd).flatMap fun w => bif two2 ra rb w then [w] else []) = de at p6 ⊢
          walk_at "go"
          refine pif (two2 ra rb (u, v)) (fun k hk => ?_) (fun c2 => ?_) (fun c2 => ?_)
          · unfold two2 at hk
            walk_at "go"
            refine andS hk (fun hk => ?_)
            walk_at "go"
            refine andS hk (fun hk => ?_)
            walk_at "go"
            refine andS hk (fun hk => ?_)
            walk_at "go"
            exact hk
          · walk_at "go"
            intro T7 H7 n7 S7 hT7
            have g7 := S7 _ _ g6
            walk_at "go"
            intro H8 B8 g8
            refine ⟨⟨_, _, _, _, _, _, _, rfl⟩, ?_, (B6.trans (But.of S7)).trans B8⟩
            rw [show Prod.snd (Tu, u, v) = (u, v) from rfl, c2, cond_true]
            exact FL.more (us := [T7]) (B1'.trans (But.of S7)) g7 (p6.same S7) (.cons (SqT.of hT7) .nil) B8 g8
          · refine ⟨⟨_, _, _, _, _, _, _, rfl⟩, ?_, B6⟩
            rw [show Prod.snd (Tu, u, v) = (u, v) from rfl, c2, cond_false, List.append_nil]
            exact ⟨B1', ts6, g6, p6⟩
        · rintro σ H6 ⟨⟨s4, s5, s6, s7, s8, s9, s10, rfl⟩, f6, B6⟩
          refine ⟨⟨_, _, _, _, _, _, _, rfl⟩, ?_⟩
          have e : befC ra rb (x, y) = ([(T, (x, y)), (T2, (y, x))].map Prod.snd).flatMap fun w => bif two2 ra rb w then [w] else [] := by
            simp [befC]
          rw [show Prod.snd (T, x, y) = (x, y) from rfl, e]
          exact f6
        --S}
      · rintro σ H3 ⟨⟨s4, s5, s6, s7, s8, s9, s10, rfl⟩, f3⟩
        have fb := fl2 zb lB
        have lfd : (fdW ++ (zb.map Prod.snd).flatMap (befC ra rb)).length ≤ 3600 := by rw [List.length_append]; omega
        generalize fdW ++ (zb.map Prod.snd).flatMap (befC ra rb) = fd at k f3 lfd inn0
        have B3 := f3.1
        have cn : Cnt 3600 fd := fun w => Nat.le_trans (count_le_len w fd) lfd
        have h2' := h2
        walk_at "go"
        refine forB (t := false) (a := p) (l := pegs) (enc := V.str) (fun d σ H => (∃ s4 s5 s6 s7 s8 s9 s10 : Option V, σ = [some (.ref q), some (.ref a), some (.ref b), some (.ref F), s4, s5, s6, s7, s8, s9, s10]) ∧ FL K F H1 (d.foldl stepM fd) H) ⟨⟨_, _, _, _, _, _, _, rfl⟩, f3⟩ ?_ ?_ ?_
        · rintro d σ H2 ⟨_, B, _⟩
          apply sqB_f
          walk_at "st"
        · rintro d m r σ H4 er ⟨⟨s4, s5, s6, s7, s8, s9, s10, rfl⟩, B4, ts, g4, p4⟩
          --S{
          have cn4 : Cnt 3600 (d.foldl stepM fd) := foldM_cnt d cn
          have in4 : Inn pegs (d.foldl stepM fd) := foldM_inn d inn0
          have l4 : (d.foldl stepM fd).length ≤ 518400 := inn_len lp in4 cn4
          rw [List.foldl_append, List.foldl_cons, List.foldl_nil]
          generalize d.foldl stepM fd = fe at p4 cn4 in4 l4 ⊢
          obtain ⟨ze, e1, e2, hze⟩ := pairs_zip p4
          subst e1 e2
          rw [List.map_map] at g4
          rw [List.length_map] at l4
          walk_at "go"
          refine lcV (t := true) (a := F) (l := ze) (enc := V.ref ∘ Prod.fst) (sqB_t (SqL.of g4)) (fun z => decide (z.2.2 = m)) (fun z => V.str z.2.1) (by omega) ?_ ?_
          · rintro ⟨Tz, u, v⟩ hm H5 S5 NT NF yes no
            have hTz := SqT.fr' (Fr.of S5) (hze _ hm)
            walk_at "go"
            refine ifb (fun c => ?_) (fun c => ?_)
            · walk_at "go"
              exact yes _ (Same.refl _) c
            · exact no _ (Same.refl _) c
          · intro D1 H5 n5 S5 hD1
            have g5 := S5 _ _ g4
            walk_at "go"
            refine lcV (t := true) (a := F) (l := ze) (enc := V.ref ∘ Prod.fst) (sqB_t (SqL.of g5)) (fun z => decide (z.2.1 = m)) (fun z => V.str z.2.2) (by omega) ?_ ?_
            · rintro ⟨Tz, u, v⟩ hm H6 S6 NT NF yes no
              have hTz := SqT.fr' (Fr.of (S5.trans S6)) (hze _ hm)
              walk_at "go"
              refine ifb (fun c => ?_) (fun c => ?_)
              · walk_at "go"
                exact yes _ (Same.refl _) c
              · exact no _ (Same.refl _) c
            · intro D2 H6 n6 S6 hD2
              have hD1 := S6 _ _ hD1
              have g6 := S6 _ _ g5
              have e1 : (ze.filter fun z => decide (z.2.2 = m)).map (fun z => V.str z.2.1) = (firsts (ze.map Prod.snd) m).map V.str := by
                unfold firsts
                rw [List.filter_map, List.map_map, List.map_map]
                rfl
              have e2 : (ze.filter fun z => decide (z.2.1 = m)).map (fun z => V.str z.2.2) = (lasts (ze.map Prod.snd) m).map V.str := by
                unfold lasts
                rw [List.filter_map, List.map_map, List.map_map]
                rfl
              rw [e1] at hD1
              rw [e2] at hD2
              have i1 := firsts_inn in4 m
              have i2 := lasts_inn in4 m
              have c2 := lasts_cnt cn4 m
              have l2 : (lasts (ze.map Prod.snd) m).length ≤ 518400 := by
                unfold lasts
                rw [List.length_map]
                refine Nat.le_trans (List.length_filter_le _ _) ?_
                rw [List.length_map]
                exact l4
              have k6 : FL K F H1 (ze.map Prod.snd) H6 := FL.same (FL.same ⟨B4, ze.map Prod.fst, by rw [g4, List.map_map], p4⟩ S5) S6
              unfold stepM
              generalize firsts (ze.map Prod.snd) m = fs at hD1 i1 ⊢
              generalize lasts (ze.map Prod.snd) m = ls at hD2 i2 c2 l2 ⊢
              generalize ze.map Prod.snd = fe at k6 cn4 in4 ⊢
              have nF1 : D1 ≠ F := fun z => by rw [z, g4] at n5; cases n5
              have nF2 : D2 ≠ F := fun z => by rw [z, g5] at n6; cases n6
              walk_at "go"
              refine forB (t := true) (a := D1) (l := fs) (enc := V.str) (fun d σ H => (∃ s4 s5 s6 s7 s10 : Option V, σ = [some (.ref q), some (.ref a), some (.ref b), some (.ref F), s4, s5, s6, s7, some (.ref D1), some (.ref D2), s10]) ∧ FL K F H1 (d.foldl (stepX ls) fe) H ∧ But F H6 H) ⟨⟨_, _, _, _, _, rfl⟩, k6, But.of (Same.refl _)⟩ ?_ ?_ ?_
              · rintro d σ H7 ⟨_, _, B⟩
                exact sqB_t (SqL.of (B _ _ nF1 hD1))
              · rintro d x r σ H7 er ⟨⟨s4, s5, s6, s7, s10, rfl⟩, ⟨B7', ts, g7, p7⟩, B7⟩
                have B7 := B7
                have hx : x ∈ pegs := i1 x (by rw [er]; simp)
                have cn7 : Cnt 3600 (d.foldl (stepX ls) fe) := foldX_cnt c2 d cn4
                have in7 : Inn pegs (d.foldl (stepX ls) fe) := foldX_inn i2 d (fun y hy => i1 y (by rw [er]; simp [hy])) in4
                have l7 : (d.foldl (stepX ls) fe).length ≤ 518400 := inn_len lp in7 cn7
                rw [List.foldl_append, List.foldl_cons, List.foldl_nil]
                generalize d.foldl (stepX ls) fe = ff at p7 cn7 in7 l7 ⊢
                have nm7 : NmP ff := fun w hw => ⟨ok.nm _ (in7 w hw).1, ok.nm _ (in7 w hw).2⟩
                have hD2' := B7 _ _ nF2 hD2
                walk_at "go"
                refine lcB (t := true) (a := D2) (l := ls) (enc := V.str) (sqB_t (SqL.of hD2')) (pairR_bears K) (fun y => !decide ((x, y) ∈ ff)) (fun y => (x, y)) (by omega) ?_ ?_
                · intro y hy H8 S8 NT NF yes no
                  refine ⟨rfl, ?_⟩
                  refine pcl (!decide ((x, y) ∈ ff)) (fun k hk => ?_) (fun H9 S9 c => ?_) (fun H9 S9 c => no _ S9 c)
                  · walk_at "go"
                    intro T H9 n9 S9 hT
                    have g9 := S9 _ _ (S8 _ _ g7)
                    walk_at "go"
                    exact nmemP (SqT.of hT) (SqL.of g9) ((p7.same S8).same S9) (ok.nm _ hx) (ok.nm _ (i2 y hy)) nm7 ⟨_, rfl, hk _ S9⟩
                  · walk_at "go"
                    intro T H10 n10 S10 hT
                    exact yes _ _ (S9.trans S10) ⟨T, rfl, SqT.of hT⟩ c
                · intro D3 H8 ys n8 S8 hD3 hys
                  obtain ⟨us, rfl, hus⟩ := pairR_out hys
                  have g8 := S8 _ _ g7
                  have e7 := FL.len p7
                  have e8 := FL.len hus
                  have l8 : ((ls.filter fun y => !decide ((x, y) ∈ ff)).map fun y => (x, y)).length ≤ 518400 := by
                    rw [List.length_map]
                    exact Nat.le_trans (List.length_filter_le _ _) l2
                  have lz : (ts.map V.ref).length + (us.map V.ref).length ≤ sizeLine := by
                    rw [e7, e8, sizeLine_eq]
                    omega
                  walk_at "go"
                  intro H9 B9 g9
                  refine ⟨⟨_, _, _, _, _, rfl⟩, ?_, (B7.trans (But.of S8)).trans B9⟩
                  exact FL.more (B7'.trans (But.of S8)) g8 (p7.same S8) hus B9 g9
              · rintro σ H7 ⟨⟨s4, s5, s6, s7, s10, rfl⟩, f7, _⟩
                exact ⟨⟨_, _, _, _, _, _, _, rfl⟩, f7⟩
          --S}
        · rintro σ H4 ⟨⟨s4, s5, s6, s7, s8, s9, s10, rfl⟩, B4, ts, g4, p4⟩
          have in4 : Inn pegs (pegs.foldl stepM fd) := foldM_inn pegs inn0
          generalize pegs.foldl stepM fd = ff at k p4 in4
          have nm4 : NmP ff := fun w hw => ⟨ok.nm _ (in4 w hw).1, ok.nm _ (in4 w hw).2⟩
          walk_at "go"
          intro D4 H5 n5 S5 hD4
          have S45 : Same H H5 := (But.fin nF S1 B4).trans S5
          have p5 := p4.same S5
          have g5 := S5 _ _ g4
          have n50 : H D4 = none := (But.fin nF S1 B4).free n5
          have fo : ∀ d : List Str, d.length ≤ 12 → (befOut d ff).length ≤ 144 := fun d hd => by
            have := flat_len (fun x => (d.filter fun y => decide ((x, y) ∈ ff)).map fun y => (x, y)) 12 d fun x _ => by
              rw [List.length_map]
              exact Nat.le_trans (List.length_filter_le _ _) hd
            unfold befOut
            omega
          have fo2 : ∀ d : List Str, d.length ≤ 12 → (d.flatMap fun x => (pegs.filter fun y => decide ((x, y) ∈ ff)).map fun y => (x, y)).length ≤ 144 := fun d hd => by
            have := flat_len (fun x => (pegs.filter fun y => decide ((x, y) ∈ ff)).map fun y => (x, y)) 12 d fun x _ => by
              rw [List.length_map]
              exact Nat.le_trans (List.length_filter_le _ _) lp
            omega
          have nDF : D4 ≠ F := fun z => by rw [z, g4] at n5; cases n5
          walk_at "go"
          refine forB (t := false) (a := p) (l := pegs) (enc := V.str) (fun d σ H => (∃ s4 s5 s6 s7 s8 s9 : Option V, σ = [some (.ref q), some (.ref a), some (.ref b), some (.ref F), s4, s5, s6, s7, s8, s9, some (.ref D4)]) ∧ FL K D4 H5 (d.flatMap fun x => (pegs.filter fun y => decide ((x, y) ∈ ff)).map fun y => (x, y)) H) ⟨⟨_, _, _, _, _, _, rfl⟩, But.of (Same.refl _), [], hD4, .nil⟩ ?_ ?_ ?_
          · rintro d σ H6 ⟨_, B, _⟩
            have h25 := Same.sqT S45 h2
            exact sqB_f (SqT.fr' (Fr.but B hD4) h25)
          · rintro d x r σ H6 er ⟨⟨s4, s5, s6, s7, s8, s9, rfl⟩, B6, us, g6, p6⟩
            have hx : x ∈ pegs := by rw [er]; simp
            have ld : d.length ≤ 12 := by rw [er, List.length_append] at lp; omega
            have fd6 := fo2 d ld
            rw [flatMap_app1]
            generalize (d.flatMap fun x => (pegs.filter fun y => decide ((x, y) ∈ ff)).map fun y => (x, y)) = dd at p6 fd6 ⊢
            have h26 : SqT K H6 p (pegs.map V.str) := SqT.fr' (Fr.but B6 hD4) (Same.sqT S45 h2)
            have h16 : SqT K H6 q [V.ref p, V.ref n, V.ref bl, V.ref c] := SqT.fr' (Fr.but B6 hD4) (Same.sqT S45 h1)
            have gF : H6 F = some (.lst (ts.map V.ref)) := B6 _ _ nDF.symm g5
            have pF : PairsAt K H6 ts ff := PairsAt.fr' (Fr.but B6 hD4) p5
            clear hq
            walk_at "go"
            refine lcB (t := false) (a := p) (l := pegs) (enc := V.str) (sqB_f h26) (pairR_bears K) (fun y => decide ((x, y) ∈ ff)) (fun y => (x, y)) (by omega) ?_ ?_
            · intro y hy H8 S8 NT NF yes no
              refine ⟨rfl, ?_⟩
              refine pcl (decide ((x, y) ∈ ff)) (fun k hk => ?_) (fun H9 S9 c => ?_) (fun H9 S9 c => no _ S9 c)
              · walk_at "go"
                intro T H9 n9 S9 hT
                walk_at "go"
                exact memP (SqT.of hT) (SqL.of (S9 _ _ (S8 _ _ gF))) ((pF.same S8).same S9) (ok.nm _ hx) (ok.nm _ hy) nm4 ⟨_, rfl, hk _ S9⟩
              · walk_at "go"
                intro T H10 n10 S10 hT
                exact yes _ _ (S9.trans S10) ⟨T, rfl, SqT.of hT⟩ c
            · intro D3 H8 ys n8 S8 hD3 hys
              obtain ⟨vs, rfl, hvs⟩ := pairR_out hys
              have g8 := S8 _ _ g6
              have e7 := FL.len p6
              have e8 := FL.len hvs
              have l8 : ((pegs.filter fun y => decide ((x, y) ∈ ff)).map fun y => (x, y)).length ≤ 12 := by
                rw [List.length_map]
                exact Nat.le_trans (List.length_filter_le _ _) lp
              have lz : (us.map V.ref).length + (vs.map V.ref).length ≤ sizeLine := by
                rw [e7, e8, sizeLine_eq]
                omega
              walk_at "go"
              intro H9 B9 g9
              refine ⟨⟨_, _, _, _, _, _, rfl⟩, ?_⟩
              exact FL.more (B6.trans (But.of S8)) g8 (p6.same S8) hvs B9 g9
          · rintro σ H6 ⟨⟨s4, s5, s6, s7, s8, s9, rfl⟩, B6, us, g6, p6⟩
            walk_at "go"
            exact k D4 us H6 (But.fin n50 S45 B6) g6 p6
end
end Lw

set_option Elab.async false
set_option linter.all false
set_option maxRecDepth 100000
set_option maxHeartbeats 4000000
namespace Lw
open PySem PySem.Spec PyProof.Rows L2 Np TL
/-! ### rows that are stands -/
structure RowSt (pegs : List Str) (W B : List (Str × Str)) (row : List Str) : Prop where
  sub : row.Sublist pegs
  ok : isStB W B row = true
section
variable {pegs : List Str} {W B : List (Str × Str)} {cs : List Int} {row : List Str}
theorem RowSt.mem (r : RowSt pegs W B row) : ∀ s ∈ row, s ∈ pegs := fun _ h => r.sub.subset h
theorem RowSt.lt (r : RowSt pegs W B row) : maskOf pegs row < 2 ^ pegs.length := maskOf_lt r.mem
theorem RowSt.eq (h : Parts pegs W B cs) (r : RowSt pegs W B row) : pegsIn pegs (maskOf pegs row) = row := by rw [pegsIn_row h.nd r.mem, sub_filter h.nd r.sub]
theorem RowSt.st (h : Parts pegs W B cs) (r : RowSt pegs W B row) : StOk (mkBd pegs W B cs) (maskOf pegs row) := stOk_of h r.lt (by rw [r.eq h]; exact r.ok)
theorem RowSt.len (h : Parts pegs W B cs) (r : RowSt pegs W B row) : row.length ≤ 12 := Nat.le_trans r.sub.length_le h.le
theorem RowSt.nm (h : Parts pegs W B cs) (r : RowSt pegs W B row) : ∀ s ∈ row, RightName s := fun s hs => h.nm s (r.mem s hs)
theorem named_mk (h : Parts pegs W B cs) {cs2 : List Int} : Named (mkBd pegs W B cs2) := h.nm
end
section
variable {P : Program} {w : World} {K : PySem.W.Frag} {mg : Str → Option Value} {base : Heap}
/-- board(row), the row a stand: nothing is raised -/
def spMakeR (K : PySem.W.Frag) : Sp := fun vs H Q _ => ∃ (b r : Addr) (t : Bool) (pegs : List Str) (W Bs : List (Str × Str)) (cs : List Int) (row : List Str), vs = [.ref b, .ref r] ∧ BoardAt K H b (mkBd pegs W Bs cs) ∧ SqB K t H r (row.map V.str) ∧ Parts pegs W Bs cs ∧ RowSt pegs W Bs row ∧
  ∀ s H', H s = none → Same H H' → StandAt K H' s b (mkBd pegs W Bs cs) (maskOf pegs row) → Q (.ref s) H'
theorem makeR {vs : List V} {H : Hp} {Q : VK} {E : XK} (h : spMakeR K vs H Q E) : spMakeS K vs H Q fun _ _ _ => False := by
  obtain ⟨b, r, t, pegs, W, Bs, cs, row, rfl, hB, hr, ok, rs, k⟩ := h
  refine ⟨b, r, t, row, _, rfl, hB, hr, ?_⟩
  have := Outcome.ok (K := K) (H := H) (E := fun _ _ _ => False) (p := ∀ s H', H s = none → Same H H' → StandAt K H' s b (mkBd pegs W Bs cs) (maskOf pegs row) → Q (.ref s) H') hB.1 (rs.st ok) k
  rwa [show pegsIn (mkBd pegs W Bs cs).pegs (maskOf pegs row) = row from rs.eq ok] at this
theorem calO_R (c : CalO P w K mg base (L2.CX P w) 7 (cB K) (spMakeS K)) : CalO P w K mg base CX0 7 (cB K) (spMakeR K) := c.calm fun _ _ _ _ h => makeR h
/-- the same board -/
theorem eqBd.refl (B : Bd) : eqBd B B := ⟨rfl, rfl, rfl, rfl⟩
end
end Lw

set_option Elab.async false
set_option linter.all false
set_option maxRecDepth 100000
set_option maxHeartbeats 4000000
namespace Lw
open PySem PySem.Spec PyProof.Rows L2 Np TL
/-! ### what is found is the difference order -/
/-- one after another by the pairs of R, those between in S -/
inductive Pth (R : Str → Str → Prop) (S : Str → Prop) : Str → Str → Prop
  | one {x y : Str} : R x y → Pth R S x y
  | cat {x m y : Str} : S m → Pth R S x m → Pth R S m y → Pth R S x y
theorem Pth.mono {R : Str → Str → Prop} {S S' : Str → Prop} (i : ∀ x, S x → S' x) {x y : Str} (h : Pth R S x y) : Pth R S' x y := by
  induction h with
  | one h => exact .one h
  | cat s _ _ h1 h2 => exact .cat (i _ s) h1 h2
/-- a path with m among those between: it goes without m, or from x to m and from m to y without m -/
theorem Pth.split {R : Str → Str → Prop} {S : Str → Prop} {m : Str} {x y : Str} (h : Pth R (fun z => S z ∨ z = m) x y) : Pth R S x y ∨ (Pth R S x m ∧ Pth R S m y) := by
  induction h with
  | one h => exact .inl (.one h)
  | @cat x z y s _ _ h1 h2 =>
    rcases s with s | rfl
    · rcases h1 with h1 | ⟨a, b⟩
      · rcases h2 with h2 | ⟨c, d⟩
        · exact .inl (.cat s h1 h2)
        · exact .inr ⟨.cat s h1 c, d⟩
      · rcases h2 with h2 | ⟨c, d⟩
        · exact .inr ⟨a, .cat s b h2⟩
        · exact .inr ⟨a, d⟩
    · refine .inr ⟨?_, ?_⟩
      · rcases h1 with h1 | ⟨a, _⟩
        · exact h1
        · exact a
      · rcases h2 with h2 | ⟨_, d⟩
        · exact h2
        · exact d
theorem mem_stepX {last : List Str} {fd : Prs} {x : Str} {w : Str × Str} : w ∈ stepX last fd x ↔ w ∈ fd ∨ (w.1 = x ∧ w.2 ∈ last) := by
  unfold stepX
  rw [List.mem_append]
  constructor
  · rintro (h | h)
    · exact .inl h
    · obtain ⟨y, hy, rfl⟩ := List.mem_map.mp h
      exact .inr ⟨rfl, (List.mem_filter.mp hy).1⟩
  · rintro (h | ⟨rfl, h⟩)
    · exact .inl h
    · by_cases hw : w ∈ fd
      · exact .inl hw
      · exact .inr (List.mem_map.mpr ⟨w.2, List.mem_filter.mpr ⟨h, by simpa using hw⟩, rfl⟩)
theorem mem_foldX {last : List Str} {w : Str × Str} : ∀ {fs : List Str} {fd : Prs}, w ∈ fs.foldl (stepX last) fd ↔ w ∈ fd ∨ (w.1 ∈ fs ∧ w.2 ∈ last)
  | [], fd => by simp
  | x :: fs, fd => by
    rw [List.foldl_cons, mem_foldX, mem_stepX, List.mem_cons]
    constructor
    · rintro ((h | ⟨h1, h2⟩) | ⟨h1, h2⟩)
      · exact .inl h
      · exact .inr ⟨.inl h1, h2⟩
      · exact .inr ⟨.inr h1, h2⟩
    · rintro (h | ⟨h1 | h1, h2⟩)
      · exact .inl (.inl h)
      · exact .inl (.inr ⟨h1, h2⟩)
      · exact .inr ⟨h1, h2⟩
theorem mem_firsts {fd : Prs} {m x : Str} : x ∈ firsts fd m ↔ (x, m) ∈ fd := by
  unfold firsts
  rw [List.mem_map]
  constructor
  · rintro ⟨⟨u, v⟩, hw, rfl⟩
    obtain ⟨h1, h2⟩ := List.mem_filter.mp hw
    have : v = m := of_decide_eq_true h2
    subst this
    exact h1
  · intro h
    exact ⟨(x, m), List.mem_filter.mpr ⟨h, decide_eq_true rfl⟩, rfl⟩
theorem mem_lasts {fd : Prs} {m y : Str} : y ∈ lasts fd m ↔ (m, y) ∈ fd := by
  unfold lasts
  rw [List.mem_map]
  constructor
  · rintro ⟨⟨u, v⟩, hw, rfl⟩
    obtain ⟨h1, h2⟩ := List.mem_filter.mp hw
    have : u = m := of_decide_eq_true h2
    subst this
    exact h1
  · intro h
    exact ⟨(m, y), List.mem_filter.mpr ⟨h, decide_eq_true rfl⟩, rfl⟩
theorem mem_stepM {fd : Prs} {m : Str} {w : Str × Str} : w ∈ stepM fd m ↔ w ∈ fd ∨ ((w.1, m) ∈ fd ∧ (m, w.2) ∈ fd) := by
  unfold stepM
  rw [mem_foldX, mem_firsts, mem_lasts]
theorem mem_foldM {fd0 : Prs} : ∀ (ms : List Str) {S : Str → Prop} {fd : Prs}, (∀ x y, (x, y) ∈ fd ↔ Pth (fun x y => (x, y) ∈ fd0) S x y) → ∀ x y, (x, y) ∈ ms.foldl stepM fd ↔ Pth (fun x y => (x, y) ∈ fd0) (fun z => S z ∨ z ∈ ms) x y
  | [], S, fd, h, x, y => by
    rw [List.foldl_nil, h]
    exact ⟨fun z => z.mono fun _ s => .inl s, fun z => z.mono fun _ s => s.elim id fun q => nomatch q⟩
  | m :: ms, S, fd, h, x, y => by
    rw [List.foldl_cons]
    have step : ∀ x y, (x, y) ∈ stepM fd m ↔ Pth (fun x y => (x, y) ∈ fd0) (fun z => S z ∨ z = m) x y := fun x y => by
      rw [mem_stepM, h, h, h]
      constructor
      · rintro (q | ⟨q1, q2⟩)
        · exact q.mono fun _ s => .inl s
        · exact .cat (.inr rfl) (q1.mono fun _ s => .inl s) (q2.mono fun _ s => .inl s)
      · exact Pth.split
    rw [mem_foldM ms step]
    constructor
    · exact fun q => q.mono fun z s => by
        rcases s with (s | s) | s
        · exact .inl s
        · exact .inr (by rw [s]; exact List.mem_cons_self)
        · exact .inr (List.mem_cons_of_mem _ s)
    · exact fun q => q.mono fun z s => by
        rcases s with s | s
        · exact .inl (.inl s)
        · rcases List.mem_cons.mp s with s | s
          · exact .inl (.inr s)
          · exact .inr s
/-- all that is found -/
theorem mem_fold_all {fd0 : Prs} {pegs : List Str} (inn : Inn pegs fd0) (x y : Str) : (x, y) ∈ pegs.foldl stepM fd0 ↔ Pth (fun x y => (x, y) ∈ fd0) (fun _ => True) x y := by
  have start : ∀ x y, (x, y) ∈ fd0 ↔ Pth (fun x y => (x, y) ∈ fd0) (fun _ => False) x y := fun x y => ⟨fun h => Pth.one (R := fun x y => (x, y) ∈ fd0) h, fun h => by
    cases h with
    | one h => exact h
    | cat s _ _ => exact s.elim⟩
  have inP : ∀ {x y}, Pth (fun x y => (x, y) ∈ fd0) (fun _ => True) x y → x ∈ pegs ∧ y ∈ pegs := fun {x y} h => by
    induction h with
    | one h => exact inn _ h
    | cat _ _ _ h1 h2 => exact ⟨h1.1, h2.2⟩
  rw [mem_foldM pegs start]
  constructor
  · exact fun q => q.mono fun _ _ => trivial
  · intro q
    induction q with
    | one h => exact .one h
    | cat s a b h1 h2 => exact .cat (.inr (inP b).1) h1 h2
section
variable {pegs : List Str} {W B : List (Str × Str)} {cs : List Int} {ra rb : List Str}
/-- the pairs from which it is found -/
inductive Bef0 (W B : List (Str × Str)) (ra rb : List Str) : Str → Str → Prop
  | put {x y : Str} : (y, x) ∈ W → x ∈ rb → x ∉ ra → y ∈ rb → y ∉ ra → Bef0 W B ra rb x y
  | take {x y : Str} : (x, y) ∈ W → x ∈ ra → x ∉ rb → y ∈ ra → y ∉ rb → Bef0 W B ra rb x y
  | swap {x y : Str} : ((x, y) ∈ B ∨ (y, x) ∈ B) → x ∈ ra → x ∉ rb → y ∈ rb → y ∉ ra → Bef0 W B ra rb x y
theorem two1_iff {w : Str × Str} : two1 ra rb w = true ↔ w.1 ∈ rb ∧ w.1 ∉ ra ∧ w.2 ∈ rb ∧ w.2 ∉ ra := by
  unfold two1
  simp only [Bool.and_eq_true, Bool.not_eq_true', decide_eq_true_eq, decide_eq_false_iff_not]
theorem two2_iff {w : Str × Str} : two2 ra rb w = true ↔ w.1 ∈ ra ∧ w.1 ∉ rb ∧ w.2 ∈ rb ∧ w.2 ∉ ra := by
  unfold two2
  simp only [Bool.and_eq_true, Bool.not_eq_true', decide_eq_true_eq, decide_eq_false_iff_not]
theorem mem_bif {α : Type} {c : Bool} {a x : α} : x ∈ (bif c then [a] else []) ↔ c = true ∧ x = a := by
  cases c <;> simp
theorem bef0_iff {x y : Str} : (x, y) ∈ W.flatMap (befW ra rb) ++ B.flatMap (befC ra rb) ↔ Bef0 W B ra rb x y := by
  rw [List.mem_append, List.mem_flatMap, List.mem_flatMap]
  constructor
  · rintro (⟨w, hw, h⟩ | ⟨w, hw, h⟩)
    · unfold befW at h
      rw [List.mem_append, mem_bif, mem_bif, two1_iff, two1_iff] at h
      rcases h with ⟨⟨a, b, c, d⟩, e⟩ | ⟨⟨a, b, c, d⟩, e⟩
      · cases e
        exact .put hw c d a b
      · subst e
        exact .take hw a b c d
    · unfold befC at h
      rw [List.mem_append, mem_bif, mem_bif, two2_iff, two2_iff] at h
      rcases h with ⟨⟨a, b, c, d⟩, e⟩ | ⟨⟨a, b, c, d⟩, e⟩
      · subst e
        exact .swap (.inl hw) a b c d
      · cases e
        exact .swap (.inr hw) a b c d
  · rintro (⟨hw, a, b, c, d⟩ | ⟨hw, a, b, c, d⟩ | ⟨hw | hw, a, b, c, d⟩)
    · refine .inl ⟨_, hw, ?_⟩
      unfold befW
      rw [List.mem_append, mem_bif, two1_iff]
      exact .inl ⟨⟨c, d, a, b⟩, rfl⟩
    · refine .inl ⟨_, hw, ?_⟩
      unfold befW
      rw [List.mem_append, mem_bif, mem_bif, two1_iff, two1_iff]
      exact .inr ⟨⟨a, b, c, d⟩, rfl⟩
    · refine .inr ⟨_, hw, ?_⟩
      unfold befC
      rw [List.mem_append, mem_bif, mem_bif, two2_iff, two2_iff]
      exact .inl ⟨⟨a, b, c, d⟩, rfl⟩
    · refine .inr ⟨_, hw, ?_⟩
      unfold befC
      rw [List.mem_append, mem_bif, mem_bif, two2_iff, two2_iff]
      exact .inr ⟨⟨a, b, c, d⟩, rfl⟩
/-- the difference order, by needs and clashes -/
def BefR (W B : List (Str × Str)) (ra rb : List Str) (x y : Str) : Prop :=
  (x ∈ rb ∧ x ∉ ra ∧ y ∈ rb ∧ y ∉ ra ∧ y ≠ x ∧ Reach W y x) ∨ (x ∈ ra ∧ x ∉ rb ∧ y ∈ ra ∧ y ∉ rb ∧ x ≠ y ∧ Reach W x y) ∨ (x ∈ ra ∧ x ∉ rb ∧ y ∈ rb ∧ y ∉ ra ∧ Clash W B x y)
theorem rank_reach {rk : Str → Nat} (h : ∀ w ∈ W, rk w.2 < rk w.1) {x y : Str} (r : Reach W x y) : rk y ≤ rk x ∧ (x ≠ y → rk y < rk x) := by
  induction r with
  | refl => exact ⟨Nat.le_refl _, fun z => absurd rfl z⟩
  | @step p r q hw _ ih =>
    have h1 : rk r < rk p := h _ hw
    exact ⟨by omega, fun _ => by omega⟩
theorem reach_irr (p : Parts pegs W B cs) {x y z : Str} (h1 : Reach W x y) (n1 : x ≠ y) (h2 : Reach W y z) : x ≠ z := by
  obtain ⟨rk, h, _⟩ := p.rk
  rintro rfl
  have a := (rank_reach h h1).2 n1
  have b := (rank_reach h h2).1
  omega
theorem pth_befR (p : Parts pegs W B cs) (sa : isStB W B ra = true) (sb : isStB W B rb = true) {x y : Str} : Pth (Bef0 W B ra rb) (fun _ => True) x y ↔ BefR W B ra rb x y := by
  obtain ⟨ca, na⟩ := closed_of sa
  obtain ⟨cb, nb⟩ := closed_of sb
  have irr : ∀ {x y}, (x, y) ∈ W → x ≠ y := fun {x y} h => (p.wi _ h).2.2
  constructor
  · intro h
    induction h with
    | one h =>
      cases h with
      | put hw a b c d => exact .inl ⟨a, b, c, d, irr hw, .step hw (.refl _)⟩
      | take hw a b c d => exact .inr (.inl ⟨a, b, c, d, irr hw, .step hw (.refl _)⟩)
      | swap hw a b c d => exact .inr (.inr ⟨a, b, c, d, ⟨_, _, .refl _, .refl _, hw⟩⟩)
    | cat _ _ _ h1 h2 =>
      rcases h1 with ⟨a, b, c, d, e, f⟩ | ⟨a, b, c, d, e, f⟩ | ⟨a, b, c, d, u, v, r1, r2, hw⟩
      · rcases h2 with ⟨_, _, c2, d2, e2, f2⟩ | ⟨a2, _⟩ | ⟨a2, _⟩
        · exact .inl ⟨a, b, c2, d2, reach_irr p f2 e2 f, f2.trans f⟩
        · exact absurd a2 d
        · exact absurd a2 d
      · rcases h2 with ⟨a2, _⟩ | ⟨_, _, c2, d2, e2, f2⟩ | ⟨_, _, c2, d2, u, v, r1, r2, hw⟩
        · exact absurd a2 d
        · exact .inr (.inl ⟨a, b, c2, d2, reach_irr p f e f2, f.trans f2⟩)
        · exact .inr (.inr ⟨a, b, c2, d2, u, v, f.trans r1, r2, hw⟩)
      · rcases h2 with ⟨_, _, c2, d2, e2, f2⟩ | ⟨a2, _⟩ | ⟨a2, _⟩
        · exact .inr (.inr ⟨a, b, c2, d2, u, v, r1, f2.trans r2, hw⟩)
        · exact absurd a2 d
        · exact absurd a2 d
  · have puts : ∀ {y x}, Reach W y x → y ∈ rb → x ∉ ra → y ≠ x → Pth (Bef0 W B ra rb) (fun _ => True) x y := fun {y x} r => by
      induction r with
      | refl => exact fun _ _ z => absurd rfl z
      | @step y z x hw r ih =>
        intro hy hx _
        have hz : z ∈ rb := cb hy (.step hw (.refl _))
        have nz : z ∉ ra := fun q => hx (ca q r)
        have ny : y ∉ ra := fun q => nz (ca q (.step hw (.refl _)))
        have e1 : Pth (Bef0 W B ra rb) (fun _ => True) z y := .one (.put hw hz nz hy ny)
        by_cases e : z = x
        · rw [← e]; exact e1
        · exact .cat trivial (ih hz hx e) e1
    have takes : ∀ {x y}, Reach W x y → x ∈ ra → y ∉ rb → x ≠ y → Pth (Bef0 W B ra rb) (fun _ => True) x y := fun {x y} r => by
      induction r with
      | refl => exact fun _ _ z => absurd rfl z
      | @step x z y hw r ih =>
        intro hx hy _
        have hz : z ∈ ra := ca hx (.step hw (.refl _))
        have nz : z ∉ rb := fun q => hy (cb q r)
        have nx : x ∉ rb := fun q => nz (cb q (.step hw (.refl _)))
        have e1 : Pth (Bef0 W B ra rb) (fun _ => True) x z := .one (.take hw hx nx hz nz)
        by_cases e : z = y
        · rw [← e]; exact e1
        · exact .cat trivial e1 (ih hz hy e)
    rintro (⟨a, b, c, d, e, f⟩ | ⟨a, b, c, d, e, f⟩ | ⟨a, b, c, d, u, v, r1, r2, hw⟩)
    · exact puts f c b e
    · exact takes f a d e
    · have hu : u ∈ ra := ca a r1
      have hv : v ∈ rb := cb c r2
      have nu : u ∉ rb := fun q => hw.elim (fun z => nb q hv z) (fun z => nb hv q z)
      have nv : v ∉ ra := fun q => hw.elim (fun z => na hu q z) (fun z => na q hu z)
      have e1 : Pth (Bef0 W B ra rb) (fun _ => True) u v := .one (.swap hw hu nu hv nv)
      have e2 : Pth (Bef0 W B ra rb) (fun _ => True) x v := by
        by_cases e : x = u
        · rw [e]; exact e1
        · exact .cat trivial (takes r1 a nu e) e1
      by_cases e : y = v
      · rw [e]; exact e2
      · exact .cat trivial e2 (puts r2 c nv e)
end
end Lw

set_option Elab.async false
set_option linter.all false
set_option maxRecDepth 100000
set_option maxHeartbeats 4000000
namespace Lw
open PySem PySem.Spec PyProof.Rows L2 Np TL
local macro_rules | `(tactic| walk_at "np_h") => `(tactic| first | assumption | exact upd_same | (refine (upd_ne ?_).trans ?_; (walk_at "np_ne"); (walk_at "np_h")) | exact SqL.of (by walk_at "np_h") | exact SqT.of (by walk_at "np_h"))
local macro_rules | `(tactic| walk_at "np_ne") => `(tactic| first | assumption | exact Ne.symm (by assumption))
local macro_rules | `(tactic| walk_at "np_r") => `(tactic| first
  | refine ⟨_, rfl, ?_⟩
  | refine ⟨_, _, rfl, rfl, ?_⟩
  | refine ⟨(.inl ⟨by decide, by decide⟩ : CMul _ _), ?_⟩
  | refine ⟨(.inr ⟨by decide, by decide⟩ : CMul _ _), ?_⟩
  | refine ⟨(by first | decide | omega : (0 : Int) < _), ?_⟩
  | refine ⟨(⟨by decide, by decide⟩ : CDiv _ _), ?_⟩
  | (refine' ⟨_, _, _, _, rfl, rfl, ?np1, ?np2, ?_⟩; (case np1 => walk_at "np_h"); (case np2 => rfl)))

local macro_rules | `(tactic| walk_at "sm") => `(tactic| first | exact Same.refl _ | assumption | (apply Same.back; assumption; walk_at "sm"))
local macro_rules | `(tactic| walk_at "fr") => `(tactic| first | (apply Fr.of; assumption) | assumption | (apply Fr.but; assumption; assumption))
local macro_rules | `(tactic| walk_at "ne") => `(tactic| first | assumption | (apply Ne.symm; assumption))
local macro_rules | `(tactic| walk_at "at") => `(tactic| first | assumption | exact upd_same | (apply Same.at'; assumption; walk_at "at") | (apply Fr.at'; walk_at "fr"; walk_at "at"; exact fun _ z => nomatch z) | (apply But.at'; assumption; walk_at "ne"; walk_at "at"))
local macro_rules | `(tactic| walk_at "sl") => `(tactic| first | assumption | (apply Same.seq; assumption; walk_at "sl"))
local macro_rules | `(tactic| walk_at "sb") => `(tactic| first | assumption | (apply SqB.same'; assumption; walk_at "sb"))
local macro_rules | `(tactic| walk_at "st") => `(tactic| first | assumption | (apply SqT.fr'; walk_at "fr"; walk_at "st"))
local macro_rules | `(tactic| walk_at "bd") => `(tactic| first | assumption | (apply BoardAt.fr'; walk_at "fr"; walk_at "bd"))
local macro_rules | `(tactic| walk_at "sd") => `(tactic| first | assumption | (apply StandAt.fr'; walk_at "fr"; walk_at "sd"))
local macro_rules | `(tactic| walk_at "pr") => `(tactic| first | assumption | (apply PairsAt.fr'; walk_at "fr"; walk_at "pr"))
local macro_rules | `(tactic| walk_at "pa") => `(tactic| first | assumption | (apply PartsAt.fr'; walk_at "fr"; walk_at "pa"))
local macro_rules | `(tactic| walk_at "rw") => `(tactic| first | assumption | (apply RowsAt.fr'; walk_at "fr"; walk_at "rw"))
local macro_rules | `(tactic| walk_at "ob") => `(tactic| first | assumption | (apply obB; walk_at "bd") | (apply obS; walk_at "sd") | (apply ObjAt.fr'; walk_at "fr"; walk_at "ob"))
local macro_rules | `(tactic| walk_at "hp") => `(tactic| first
  | walk_at "at" | walk_at "st" | walk_at "sl" | walk_at "bd" | walk_at "sd" | walk_at "pa" | walk_at "pr" | walk_at "rw" | walk_at "ob"
  | (apply SqT.of; walk_at "at") | (apply SqL.of; walk_at "at"))
local macro_rules | `(tactic| walk_at "sq") => `(tactic| first | (apply sqB_f; walk_at "st") | (apply sqB_f; apply SqT.of; walk_at "at") | (apply sqB_t; walk_at "sl") | (apply sqB_t; apply SqL.of; walk_at "at") | walk_at "sb")
local macro_rules | `(tactic| walk_at "leaf") => `(tactic| first
  | exact rfl
  | walk_at "hp"
  | walk_at "sq"
  | (apply Or.inl; walk_at "hp") | (apply Or.inr; walk_at "hp")
  | (apply Exists.intro; walk_at "hp")
  | (show 2 ≤ sizeLine; decide) | (show 1 ≤ sizeLine; decide) | (show 0 ≤ sizeLine; decide) | (show 3 ≤ sizeLine; decide) | (show 4 ≤ sizeLine; decide)
  | exact atI_nat (j := 0) rfl | exact atI_nat (j := 1) rfl | exact atI_nat (j := 2) rfl | exact atI_nat (j := 3) rfl
  | (apply tyL; walk_at "at") | (apply tyLs; walk_at "sl")
  | walk_at "sm"
  | omega
  | decide
  | exact ⟨by decide, by decide⟩ | exact (.inl ⟨by decide, by decide⟩ : CMul _ _) | exact (.inr ⟨by decide, by decide⟩ : CMul _ _))
local macro_rules | `(tactic| walk_at "ex") => `(tactic| first
  | (apply And.intro; walk_at "leaf")
  | (apply Exists.intro; walk_at "ex"))
local macro_rules | `(tactic| walk_at "go1") => `(tactic| first | refine ⟨_, rfl, ?_⟩ | walk_at "ex")
local macro_rules | `(tactic| walk_at "go") => `(tactic| repeat (walk_at "go1"))


section
variable {pegs : List Str} {W B : List (Str × Str)} {cs : List Int} {ra rb : List Str}
theorem mem_befAll (p : Parts pegs W B cs) (sa : isStB W B ra = true) (sb : isStB W B rb = true) {x y : Str} : (x, y) ∈ befAll pegs W B ra rb ↔ BefR W B ra rb x y := by
  unfold befAll
  rw [mem_fold_all (bef_inn p.w2 p.b2), ← pth_befR p sa sb]
  constructor
  · intro h
    induction h with
    | one h => exact .one (bef0_iff.mp h)
    | cat s _ _ h1 h2 => exact .cat s h1 h2
  · intro h
    induction h with
    | one h => exact .one (bef0_iff.mpr h)
    | cat s _ _ h1 h2 => exact .cat s h1 h2
theorem xor_row (p : Parts pegs W B cs) (r1 : RowSt pegs W B ra) (r2 : RowSt pegs W B rb) {x : Str} (hx : x ∈ pegs) : ((maskOf pegs ra) ^^^ (maskOf pegs rb)).testBit (pegs.idxOf x) = (decide (x ∈ ra) != decide (x ∈ rb)) := by
  rw [Nat.testBit_xor, mask_bit p.nd r1.mem hx, mask_bit p.nd r2.mem hx]
theorem nd_reach (p : Parts pegs W B cs) {x y : Str} (hx : x ∈ pegs) (hy : y ∈ pegs) : ndB (mkBd pegs W B cs) x y = true ↔ x ≠ y ∧ Reach W x y := by
  unfold ndB
  rw [Bool.and_eq_true, decide_eq_true_eq, show ((mkBd pegs W B cs).below.getD ((mkBd pegs W B cs).pegs.idxOf x) 0).testBit ((mkBd pegs W B cs).pegs.idxOf y) = decide (y ∈ rowOf W pegs x) from mk_below p hx hy, decide_eq_true_eq, mem_rowOf]
  exact ⟨fun h => ⟨h.1, h.2.2⟩, fun h => ⟨h.1, hy, h.2⟩⟩
theorem cl_clash (p : Parts pegs W B cs) {x y : Str} (hx : x ∈ pegs) (hy : y ∈ pegs) : clBd (mkBd pegs W B cs) x y = true ↔ Clash W B x y := by
  unfold clBd
  rw [show ((mkBd pegs W B cs).clash.getD ((mkBd pegs W B cs).pegs.idxOf x) 0).testBit ((mkBd pegs W B cs).pegs.idxOf y) = barB (rowOf W pegs x) (rowOf W pegs y) B from mk_clash p hx hy]
  exact clB_iff p hx hy
theorem befB_iff (p : Parts pegs W B cs) (r2 : RowSt pegs W B rb) {x y : Str} (hx : x ∈ pegs) (hy : y ∈ pegs) (dx : (decide (x ∈ ra) != decide (x ∈ rb)) = true) (dy : (decide (y ∈ ra) != decide (y ∈ rb)) = true) : befB (mkBd pegs W B cs) (maskOf pegs rb) x y = true ↔ BefR W B ra rb x y := by
  unfold befB
  rw [show pegsIn (mkBd pegs W B cs).pegs (maskOf pegs rb) = rb from r2.eq p]
  unfold BefR
  by_cases xb : x ∈ rb <;> by_cases yb : y ∈ rb <;> by_cases xa : x ∈ ra <;> by_cases ya : y ∈ ra <;> simp [xb, yb, xa, ya] at dx dy <;> simp [xb, yb, xa, ya, nd_reach p hx hy, nd_reach p hy hx, cl_clash p hx hy]
theorem flat_filter {α β : Type} (q : α → Bool) (f : α → List β) : ∀ l : List α, (l.filter q).flatMap f = l.flatMap fun x => bif q x then f x else []
  | [] => rfl
  | x :: l => by
    rw [List.filter_cons, List.flatMap_cons, ← flat_filter q f l]
    cases q x <;> simp
theorem flat_congr {α β : Type} {f g : α → List β} : ∀ {l : List α}, (∀ x ∈ l, f x = g x) → l.flatMap f = l.flatMap g
  | [], _ => rfl
  | x :: l, h => by rw [List.flatMap_cons, List.flatMap_cons, h x List.mem_cons_self, flat_congr fun y hy => h y (List.mem_cons_of_mem _ hy)]
/-- what the law finds is what the program tells -/
theorem befOut_eq (p : Parts pegs W B cs) (r1 : RowSt pegs W B ra) (r2 : RowSt pegs W B rb) : precL (pegsIn pegs (maskOf pegs ra ^^^ maskOf pegs rb)) (mkBd pegs W B cs) (maskOf pegs rb) = befOut pegs (befAll pegs W B ra rb) := by
  unfold precL befOut
  rw [pegsIn_filter p.nd (Nat.xor_lt_two_pow r1.lt r2.lt), flat_filter]
  refine flat_congr fun x hx => ?_
  rw [xor_row p r1 r2 hx]
  cases dx : decide (x ∈ ra) != decide (x ∈ rb) with
  | false =>
    rw [cond_false]
    symm
    rw [List.map_eq_nil_iff, List.filter_eq_nil_iff]
    intro y hy h
    have h := (mem_befAll p r1.ok r2.ok).mp (of_decide_eq_true h)
    rcases h with ⟨a, b, _⟩ | ⟨a, b, _⟩ | ⟨a, b, _⟩ <;> simp [a, b] at dx
  | true =>
    rw [cond_true, List.filter_filter]
    congr 1
    refine List.filter_congr fun y hy => ?_
    rw [xor_row p r1 r2 hy, Bool.eq_iff_iff, Bool.and_eq_true, decide_eq_true_eq, mem_befAll p r1.ok r2.ok]
    constructor
    · rintro ⟨a, b⟩
      exact (befB_iff p r2 hx hy dx b).mp a
    · intro h
      have dy : (decide (y ∈ ra) != decide (y ∈ rb)) = true := by
        rcases h with ⟨_, _, a, b, _⟩ | ⟨_, _, a, b, _⟩ | ⟨_, _, a, b, _⟩ <;> simp [a, b]
      exact ⟨(befB_iff p r2 hx hy dx dy).mpr h, dy⟩
theorem befR_flip {x y : Str} : BefR W B ra rb x y ↔ BefR W B rb ra y x := by
  unfold BefR
  constructor
  · rintro (⟨a, b, c, d, e, f⟩ | ⟨a, b, c, d, e, f⟩ | ⟨a, b, c, d, e⟩)
    · exact .inr (.inl ⟨c, d, a, b, e, f⟩)
    · exact .inl ⟨c, d, a, b, e, f⟩
    · exact .inr (.inr ⟨c, d, a, b, cl_symm e⟩)
  · rintro (⟨a, b, c, d, e, f⟩ | ⟨a, b, c, d, e, f⟩ | ⟨a, b, c, d, e⟩)
    · exact .inr (.inl ⟨c, d, a, b, e, f⟩)
    · exact .inl ⟨c, d, a, b, e, f⟩
    · exact .inr (.inr ⟨c, d, a, b, cl_symm e⟩)
theorem mem_befOut {fd : Prs} {w : Str × Str} : w ∈ befOut pegs fd ↔ w.1 ∈ pegs ∧ w.2 ∈ pegs ∧ w ∈ fd := by
  unfold befOut
  rw [List.mem_flatMap]
  constructor
  · rintro ⟨x, hx, h⟩
    obtain ⟨y, hy, rfl⟩ := List.mem_map.mp h
    obtain ⟨h1, h2⟩ := List.mem_filter.mp hy
    exact ⟨hx, h1, of_decide_eq_true h2⟩
  · rintro ⟨h1, h2, h3⟩
    exact ⟨w.1, h1, List.mem_map.mpr ⟨w.2, List.mem_filter.mpr ⟨h2, decide_eq_true h3⟩, rfl⟩⟩
theorem befOut_nd (hn : pegs.Nodup) (fd : Prs) : (befOut pegs fd).Nodup := by
  unfold befOut
  have gen : ∀ l : List Str, l.Nodup → (l.flatMap fun x => (pegs.filter fun y => decide ((x, y) ∈ fd)).map fun y => (x, y)).Nodup := by
    intro l
    induction l with
    | nil => intro _; exact List.nodup_nil
    | cons x l ih =>
      intro h
      obtain ⟨h1, h2⟩ := List.nodup_cons.mp h
      rw [List.flatMap_cons]
      refine List.nodup_append.mpr ⟨?_, ih h2, ?_⟩
      · exact List.Pairwise.map _ (fun a b n e => n (congrArg Prod.snd e)) (hn.filter _)
      · intro a ha b hb e
        obtain ⟨y, _, rfl⟩ := List.mem_map.mp ha
        obtain ⟨z, hz, hb⟩ := List.mem_flatMap.mp hb
        obtain ⟨u, _, rfl⟩ := List.mem_map.mp hb
        exact h1 (by rw [show x = _ from congrArg Prod.fst e]; exact hz)
  exact gen pegs hn
theorem befOut_len (lp : pegs.length ≤ 12) (fd : Prs) : (befOut pegs fd).length ≤ 144 := by
  have := flat_len (fun x => (pegs.filter fun y => decide ((x, y) ∈ fd)).map fun y => (x, y)) 12 pegs fun x _ => by
    rw [List.length_map]
    exact Nat.le_trans (List.length_filter_le _ _) lp
  unfold befOut
  omega
def flipP (w : Str × Str) : Str × Str := (w.2, w.1)
theorem befOut_flip (p : Parts pegs W B cs) (sa : isStB W B ra = true) (sb : isStB W B rb = true) : ((befOut pegs (befAll pegs W B rb ra)).map flipP).Perm (befOut pegs (befAll pegs W B ra rb)) := by
  refine (List.perm_ext_iff_of_nodup ?_ (befOut_nd p.nd _)).mpr fun w => ?_
  · exact List.Pairwise.map _ (fun a b n e => n (Prod.ext (congrArg Prod.snd e) (congrArg Prod.fst e))) (befOut_nd p.nd _)
  · rw [List.mem_map]
    constructor
    · rintro ⟨v, hv, rfl⟩
      obtain ⟨h1, h2, h3⟩ := mem_befOut.mp hv
      exact mem_befOut.mpr ⟨h2, h1, (mem_befAll p sa sb).mpr (befR_flip.mpr ((mem_befAll p sb sa).mp h3))⟩
    · intro h
      obtain ⟨h1, h2, h3⟩ := mem_befOut.mp h
      exact ⟨(w.2, w.1), mem_befOut.mpr ⟨h2, h1, (mem_befAll p sb sa).mpr (befR_flip.mp ((mem_befAll p sa sb).mp h3))⟩, rfl⟩
theorem befOut_self (p : Parts pegs W B cs) (sa : isStB W B ra = true) : befOut pegs (befAll pegs W B ra ra) = [] := by
  refine List.eq_nil_iff_forall_not_mem.mpr fun w h => ?_
  obtain ⟨_, _, h3⟩ := mem_befOut.mp h
  rcases (mem_befAll p sa sa).mp h3 with ⟨a, b, _⟩ | ⟨a, b, _⟩ | ⟨a, b, _⟩ <;> exact b a
end
/-! ### pairs in their order -/
def leP (a b : Str × Str) : Prop := if b.1 = a.1 then leT a.2 b.2 else leT a.1 b.1
theorem dataLe_pr (a b : Str × Str) : PySem.W.dataLe false prE a b = true ↔ leP a b := by
  show (!PySem.W.dataLt (.tuple [.str b.1, .str b.2]) (.tuple [.str a.1, .str a.2])) = true ↔ _
  rw [PySem.W.dataLt_pair (by simp [PySem.W.alike]) (by simp [PySem.W.alike]), PySem.W.dataLt_str, PySem.W.dataLt_str]
  simp only [PyData.eqv, beq_iff_eq]
  unfold leP leT
  by_cases h1 : b.1 = a.1
  · rw [if_pos h1, if_pos h1]
    by_cases h2 : b.2 = a.2
    · rw [if_pos h2, h2]
      simp [List.lt_irrefl]
    · rw [if_neg h2]; simp
  · rw [if_neg h1, if_neg h1]; simp
theorem leT_total (a b : Str) : leT a b ∨ leT b a := by
  by_cases h : leT a b
  · exact .inl h
  · have h : b.cps.toList < a.cps.toList := Classical.not_not.mp h
    exact .inr fun z => List.lt_asymm h z
theorem leP_trans {a b c : Str × Str} (h1 : leP a b) (h2 : leP b c) : leP a c := by
  unfold leP at *
  by_cases e1 : b.1 = a.1
  · rw [if_pos e1] at h1
    rw [e1] at h2
    by_cases e2 : c.1 = a.1
    · rw [if_pos e2] at h2 ⊢
      exact leT_trans h1 h2
    · rw [if_neg e2] at h2 ⊢
      exact h2
  · rw [if_neg e1] at h1
    by_cases e2 : c.1 = b.1
    · rw [e2, if_neg e1]
      exact h1
    · rw [if_neg e2] at h2
      by_cases e3 : c.1 = a.1
      · rw [e3] at h2
        exact absurd (leT_anti h2 h1) e1
      · rw [if_neg e3]
        exact leT_trans h1 h2
theorem leP_anti {a b : Str × Str} (h1 : leP a b) (h2 : leP b a) : a = b := by
  unfold leP at *
  by_cases e1 : b.1 = a.1
  · rw [if_pos e1] at h1
    rw [if_pos e1.symm] at h2
    exact Prod.ext e1.symm (leT_anti h1 h2)
  · rw [if_neg e1] at h1
    rw [if_neg (fun z => e1 z.symm)] at h2
    exact absurd (leT_anti h2 h1) e1
theorem leP_total (a b : Str × Str) : leP a b ∨ leP b a := by
  unfold leP
  by_cases e1 : b.1 = a.1
  · rw [if_pos e1, if_pos e1.symm]
    exact leT_total _ _
  · rw [if_neg e1, if_neg (fun z => e1 z.symm)]
    exact leT_total _ _
theorem sorted_eq {α : Type} {le : α → α → Prop} (anti : ∀ {a b}, le a b → le b a → a = b) : ∀ {l m : List α}, l.Perm m → l.Pairwise le → m.Pairwise le → l = m
  | [], m, h, _, _ => by rw [List.nil_perm.mp h]
  | a :: l, [], h, _, _ => absurd h.length_eq (by simp)
  | a :: l, b :: m, h, h1, h2 => by
    have e : a = b := by
      rcases List.mem_cons.mp (h.subset List.mem_cons_self) with q | q
      · exact q
      · rcases List.mem_cons.mp (h.symm.subset List.mem_cons_self) with r | r
        · exact r.symm
        · exact anti (List.rel_of_pairwise_cons h1 r) (List.rel_of_pairwise_cons h2 q)
    subst e
    rw [sorted_eq anti ((List.perm_cons a).mp h) (List.pairwise_cons.mp h1).2 (List.pairwise_cons.mp h2).2]
theorem sort_pw (l : Prs) : (l.mergeSort (PySem.W.dataLe false prE)).Pairwise leP := by
  have := List.pairwise_mergeSort (le := PySem.W.dataLe false prE) (fun a b c h1 h2 => (dataLe_pr a c).mpr (leP_trans ((dataLe_pr a b).mp h1) ((dataLe_pr b c).mp h2))) (fun a b => by
    rw [Bool.or_eq_true, dataLe_pr, dataLe_pr]
    exact leP_total a b) l
  exact this.imp fun h => (dataLe_pr _ _).mp h
theorem sort_perm {l m : Prs} (h : l.Perm m) : l.mergeSort (PySem.W.dataLe false prE) = m.mergeSort (PySem.W.dataLe false prE) :=
  sorted_eq leP_anti ((List.mergeSort_perm l _).trans (h.trans (List.mergeSort_perm m _).symm)) (sort_pw l) (sort_pw m)
theorem alikePr (a b : Str × Str) : PySem.W.alike (prE a) (prE b) = true := by
  unfold prE
  simp [PySem.W.alike, PySem.W.alikeAll]
theorem depPr (a : Str × Str) : (prE a).depth ≤ 20 := by
  unfold prE
  simp [PyData.depth, PyData.depthAll]
theorem goodNm {s : Str} (h : RightName s) : Good 0 62 (.str s) := good_str (n := 6) h.le fun c hc => Nat.lt_of_lt_of_le (h.low c hc).2 (by decide)
theorem goodPr {w : Str × Str} (h : RightName w.1 ∧ RightName w.2) : Good 1 131 (prE w) := (good_tuple (k := 0) (L := 62) fun d hd => by
  simp only [List.map_cons, List.map_nil, List.mem_cons, List.not_mem_nil, or_false] at hd
  rcases hd with rfl | rfl
  · exact goodNm h.1
  · exact goodNm h.2).mono (Nat.le_refl _) (by show (62 + 2) * 2 + 3 ≤ 131; decide)
theorem goodPrs {W : Prs} (h : NmP W) (l : W.length ≤ 144) : Good 2 20000 (.tuple (W.map prE)) := (good_tuple (k := 1) (L := 131) fun d hd => by
  obtain ⟨w, hw, rfl⟩ := List.mem_map.mp hd
  exact goodPr (h w hw)).mono (Nat.le_refl _) (by rw [List.length_map]; omega)
theorem eqvTup (W U : Prs) : PyData.eqv (.tuple (W.map prE)) (.tuple (U.map prE)) = decide (W = U) := by rw [PyData.eqv, eqvPrs]
theorem eqvLst (W U : Prs) : PyData.eqv (.list (W.map prE)) (.list (U.map prE)) = decide (W = U) := by rw [PyData.eqv, eqvPrs]
end Lw

set_option Elab.async false
set_option linter.all false
set_option maxRecDepth 100000
set_option maxHeartbeats 4000000
namespace Lw
open PySem PySem.Spec PyProof.Rows L2 Np TL
local macro_rules | `(tactic| walk_at "np_h") => `(tactic| first | assumption | exact upd_same | (refine (upd_ne ?_).trans ?_; (walk_at "np_ne"); (walk_at "np_h")) | exact SqL.of (by walk_at "np_h") | exact SqT.of (by walk_at "np_h"))
local macro_rules | `(tactic| walk_at "np_ne") => `(tactic| first | assumption | exact Ne.symm (by assumption))
local macro_rules | `(tactic| walk_at "np_r") => `(tactic| first
  | refine ⟨_, rfl, ?_⟩
  | refine ⟨_, _, rfl, rfl, ?_⟩
  | refine ⟨(.inl ⟨by decide, by decide⟩ : CMul _ _), ?_⟩
  | refine ⟨(.inr ⟨by decide, by decide⟩ : CMul _ _), ?_⟩
  | refine ⟨(by first | decide | omega : (0 : Int) < _), ?_⟩
  | refine ⟨(⟨by decide, by decide⟩ : CDiv _ _), ?_⟩
  | (refine' ⟨_, _, _, _, rfl, rfl, ?np1, ?np2, ?_⟩; (case np1 => walk_at "np_h"); (case np2 => rfl)))

local macro_rules | `(tactic| walk_at "sm") => `(tactic| first | exact Same.refl _ | assumption | (apply Same.back; assumption; walk_at "sm"))
local macro_rules | `(tactic| walk_at "fr") => `(tactic| first | (apply Fr.of; assumption) | assumption | (apply Fr.but; assumption; assumption))
local macro_rules | `(tactic| walk_at "ne") => `(tactic| first | assumption | (apply Ne.symm; assumption))
local macro_rules | `(tactic| walk_at "at") => `(tactic| first | assumption | exact upd_same | (apply Same.at'; assumption; walk_at "at") | (apply Fr.at'; walk_at "fr"; walk_at "at"; exact fun _ z => nomatch z) | (apply But.at'; assumption; walk_at "ne"; walk_at "at"))
local macro_rules | `(tactic| walk_at "sl") => `(tactic| first | assumption | (apply Same.seq; assumption; walk_at "sl"))
local macro_rules | `(tactic| walk_at "sb") => `(tactic| first | assumption | (apply SqB.same'; assumption; walk_at "sb"))
local macro_rules | `(tactic| walk_at "st") => `(tactic| first | assumption | (apply SqT.fr'; walk_at "fr"; walk_at "st"))
local macro_rules | `(tactic| walk_at "bd") => `(tactic| first | assumption | (apply BoardAt.fr'; walk_at "fr"; walk_at "bd"))
local macro_rules | `(tactic| walk_at "sd") => `(tactic| first | assumption | (apply StandAt.fr'; walk_at "fr"; walk_at "sd"))
local macro_rules | `(tactic| walk_at "pr") => `(tactic| first | assumption | (apply PairsAt.fr'; walk_at "fr"; walk_at "pr"))
local macro_rules | `(tactic| walk_at "pa") => `(tactic| first | assumption | (apply PartsAt.fr'; walk_at "fr"; walk_at "pa"))
local macro_rules | `(tactic| walk_at "rw") => `(tactic| first | assumption | (apply RowsAt.fr'; walk_at "fr"; walk_at "rw"))
local macro_rules | `(tactic| walk_at "ob") => `(tactic| first | assumption | (apply obB; walk_at "bd") | (apply obS; walk_at "sd") | (apply ObjAt.fr'; walk_at "fr"; walk_at "ob"))
local macro_rules | `(tactic| walk_at "hp") => `(tactic| first
  | walk_at "at" | walk_at "st" | walk_at "sl" | walk_at "bd" | walk_at "sd" | walk_at "pa" | walk_at "pr" | walk_at "rw" | walk_at "ob"
  | (apply SqT.of; walk_at "at") | (apply SqL.of; walk_at "at"))
local macro_rules | `(tactic| walk_at "sq") => `(tactic| first | (apply sqB_f; walk_at "st") | (apply sqB_f; apply SqT.of; walk_at "at") | (apply sqB_t; walk_at "sl") | (apply sqB_t; apply SqL.of; walk_at "at") | walk_at "sb")
local macro_rules | `(tactic| walk_at "leaf") => `(tactic| first
  | exact rfl
  | walk_at "hp"
  | walk_at "sq"
  | (apply Or.inl; walk_at "hp") | (apply Or.inr; walk_at "hp")
  | (apply Exists.intro; walk_at "hp")
  | (show 2 ≤ sizeLine; decide) | (show 1 ≤ sizeLine; decide) | (show 0 ≤ sizeLine; decide) | (show 3 ≤ sizeLine; decide) | (show 4 ≤ sizeLine; decide)
  | exact atI_nat (j := 0) rfl | exact atI_nat (j := 1) rfl | exact atI_nat (j := 2) rfl | exact atI_nat (j := 3) rfl
  | (apply tyL; walk_at "at") | (apply tyLs; walk_at "sl")
  | walk_at "sm"
  | omega
  | decide
  | exact ⟨by decide, by decide⟩ | exact (.inl ⟨by decide, by decide⟩ : CMul _ _) | exact (.inr ⟨by decide, by decide⟩ : CMul _ _))
local macro_rules | `(tactic| walk_at "ex") => `(tactic| first
  | (apply And.intro; walk_at "leaf")
  | (apply Exists.intro; walk_at "ex"))
local macro_rules | `(tactic| walk_at "go1") => `(tactic| first | refine ⟨_, rfl, ?_⟩ | walk_at "ex")
local macro_rules | `(tactic| walk_at "go") => `(tactic| repeat (walk_at "go1"))


theorem reach_sub {W W' : List (Str × Str)} (h : ∀ w ∈ W', w ∈ W) {x y : Str} (r : Reach W' x y) : Reach W x y := by
  induction r with
  | refl => exact .refl _
  | step hw _ ih => exact .step (h _ hw) ih
theorem parts_subs {pegs : List Str} {W B W' B' : List (Str × Str)} {cs : List Int} (p : Parts pegs W B cs) (hW : W'.Sublist W) (hB : B'.Sublist B) : Parts pegs W' B' cs :=
  ⟨p.nd, p.le, p.nm, fun w h => p.wi w (hW.subset h), Nat.le_trans hW.length_le p.wl, let ⟨rk, h1, h2⟩ := p.rk; ⟨rk, fun w h => h1 w (hW.subset h), h2⟩, fun w h => p.bi w (hB.subset h), Nat.le_trans hB.length_le p.bl,
    fun x a b r1 r2 h => p.alive x a b (reach_sub (fun w z => hW.subset z) r1) (reach_sub (fun w z => hW.subset z) r2) (hB.subset h), p.cl, p.cr⟩
/-- one bar more, by which no peg dies -/
theorem parts_more {pegs : List Str} {W B : List (Str × Str)} {cs : List Int} (p : Parts pegs W B cs) {w : Str × Str} (hw : w.1 ∈ pegs ∧ w.2 ∈ pegs ∧ w.1 ≠ w.2) (l : B.length < 900) (h : ∀ x ∈ pegs, barB (rowOf W pegs x) (rowOf W pegs x) (B ++ [w]) = false) : Parts pegs W (B ++ [w]) cs := by
  refine ⟨p.nd, p.le, p.nm, p.wi, p.wl, p.rk, fun v hv => ?_, by rw [List.length_append]; exact l, fun x a b r1 r2 hm => ?_, p.cl, p.cr⟩
  · rcases List.mem_append.mp hv with z | z
    · exact p.bi v z
    · cases List.mem_singleton.mp z
      exact hw
  · rcases List.mem_append.mp hm with z | z
    · exact p.alive x a b r1 r2 z
    · have hab : (a, b) = w := List.mem_singleton.mp z
      -- x is a peg, or a is x itself
      have ha : a ∈ pegs := by rw [show a = w.1 from congrArg Prod.fst hab]; exact hw.1
      have hbb : b ∈ pegs := by rw [show b = w.2 from congrArg Prod.snd hab]; exact hw.2.1
      have hx : x ∈ pegs := by
        cases r1 with
        | refl => exact ha
        | step h1 _ => exact (p.wi _ h1).1
      have := h x hx
      unfold barB at this
      rw [List.any_eq_false] at this
      refine this w (by simp) ?_
      subst hab
      unfold barP
      rw [decide_eq_true (mem_rowOf.mpr ⟨ha, r1⟩), decide_eq_true (mem_rowOf.mpr ⟨hbb, r2⟩)]
      rfl
section
variable {P : Program} {w : World} {K : PySem.W.Frag} {mg : Str → Option Value} {base : Heap}
def spNear (K : PySem.W.Frag) : Sp := fun vs H Q _ => ∃ (b q : Addr) (x y z : Int) (pegs : List Str) (W B : List (Str × Str)) (cs : List Int), vs = [.ref b, .ref q] ∧ H b = some (bx x y z) ∧ PartsAt K H q pegs W B cs ∧ Parts pegs W B cs ∧ B.length ≤ 24 ∧
  ∀ (q' : Addr) (H' : Hp) (x' y' z' : Int) (W' B' : List (Str × Str)), But b H H' → H' b = some (bx x' y' z') → PartsAt K H' q' pegs W' B' cs → Parts pegs W' B' cs → Q (.ref q') H'
theorem pairs_of {K : PySem.W.Frag} {H : Hp} : ∀ {l : List (Addr × (Str × Str))}, (∀ z ∈ l, SqT K H z.1 [.str z.2.1, .str z.2.2]) → PairsAt K H (l.map Prod.fst) (l.map Prod.snd)
  | [], _ => .nil
  | z :: l, h => .cons (h z List.mem_cons_self) (pairs_of fun y hy => h y (List.mem_cons_of_mem _ hy))
theorem scNearParts : FnScope ["_law_box_here", "_law_parts_here", "_law_pegs", "_law_wants", "_law_blocks", "_law_prices", "_law_pair", "_law_rows_here", "_law_some", "_law_more", "_law_peg"] ["_law_box_here", "_law_parts_here"] (defScope sNearParts) := ⟨rfl, rfl, rfl, by decide +kernel, rfl, by decide +kernel, by decide +kernel⟩
theorem ok_near_parts {f : Addr} {fd : FuncData} (F : FnT K "_law_near_parts" sNearParts f fd) (m : Bl mg) (c_take : Callee P w K mg base 1 "_law_take" ["_law_box_here", "_law_many"] spTake) (c_rows : Callee P w K mg base 1 "_law_rows" ["_law_pegs", "_law_wants"] (spRows K)) (c_mixed : Callee P w K mg base 2 "_law_mixed" ["_law_box_here", "_law_things"] (spMixed K)) (c_is_barred : Callee P w K mg base 1 "_law_is_barred" ["_law_row", "_law_other", "_law_blocks"] (spIsBarred K)) : FnOk P w K mg base CX0 4 f fd ["_law_box_here", "_law_parts_here"] (spNear K) := by
  have nd := scNearParts.nd
  refine F.ok scNearParts (fun vs H Q E h => ?_) (fun cdv A outer s H vs Q E hr h => ?_)
  · obtain ⟨b, q, x, y, z, pegs, W, Bs, cs, rfl, _⟩ := h
    rfl
  · obtain ⟨b, q, x, y, z, pegs, W, Bs, cs, rfl, hb, hq, ok, lB, k⟩ := h
    refine ⟨_, PSs.nox (pss_cons (ps_asg (pv 1) (pg_tup (by rfl) (pgs_cons (pg_name (i := 2) nd rfl (.inl rfl)) (pgs_cons (pg_name (i := 3) nd rfl (.inl rfl)) (pgs_cons (pg_name (i := 4) nd rfl (.inl rfl)) (pgs_cons (pg_name (i := 5) nd rfl (.inl rfl)) pgs_nil))))))
  (pss_cons (ps_set (i := 3) nd rfl (.inl rfl) (pe_callTy (call_tupleN (K := K) rfl) (by rfl) m.tuple (by decide +kernel) (pa_cons (pe_lc (own := [("_law_pair", 6)]) (g := gName 6) rfl nd (pi_tup (pv 3)) (blkOk_by (N := ["_law_box_here", "_law_parts_here", "_law_pegs", "_law_wants", "_law_blocks", "_law_prices", "_law_pair", "_law_rows_here", "_law_some", "_law_more", "_law_peg"]) (sc := defScope sNearParts) (by decide +kernel)) (fun _ _ _ _ _ => (pg_name (i := 6) nd rfl (.inl rfl))) (fun _ _ _ _ _ => pts_one (pt_cmpR op_gt (pe_callC c_take (hr.mono (by decide)) (pa_cons (pv 0) (pa_cons pe_int pa_nil))) pe_int (nomark _))) (fun _ _ _ _ _ => (pv 6))) pa_nil)))
  (pss_cons (ps_set (i := 4) nd rfl (.inl rfl) (pe_callTy (call_tupleN (K := K) rfl) (by rfl) m.tuple (by decide +kernel) (pa_cons (pe_lc (own := [("_law_pair", 6)]) (g := gName 6) rfl nd (pi_tup (pv 4)) (blkOk_by (N := ["_law_box_here", "_law_parts_here", "_law_pegs", "_law_wants", "_law_blocks", "_law_prices", "_law_pair", "_law_rows_here", "_law_some", "_law_more", "_law_peg"]) (sc := defScope sNearParts) (by decide +kernel)) (fun _ _ _ _ _ => (pg_name (i := 6) nd rfl (.inl rfl))) (fun _ _ _ _ _ => pts_one (pt_cmpR op_gt (pe_callC c_take (hr.mono (by decide)) (pa_cons (pv 0) (pa_cons pe_int pa_nil))) pe_int (nomark _))) (fun _ _ _ _ _ => (pv 6))) pa_nil)))
  (pss_cons (ps_ifN (pt_cmpR op_gt (pe_callB call_len_seq (by rfl) m.len (by decide +kernel) (pa_cons (pv 2) pa_nil)) pe_int (nomark _)) (pss_cons (ps_asg (pe_tupN (pa_cons (pe_callC c_rows (hr.mono (by decide)) (pa_cons (pv 2) (pa_cons (pv 3) pa_nil))) (pa_cons (pe_slice (sl_listN (K := K) rfl) (pe_callC c_mixed (hr.mono (by decide)) (pa_cons (pv 0) (pa_cons (pv 2) pa_nil))) po_none (po_some pe_int)) pa_nil))) (pg_tup (by rfl) (pgs_cons (pg_name (i := 7) nd rfl (.inr rfl)) (pgs_cons (pg_name (i := 8) nd rfl (.inl rfl)) pgs_nil))))
  (pss_cons (ps_set (i := 9) nd rfl (.inr rfl) (pe_op (op_catQ (K := K) rfl) (pv 4) (pe_tupN (pa_cons (pe_tupN (pa_cons (pe_ix ix_list (pv 8) pe_int (fun _ _ => rfl)) (pa_cons (pe_ix ix_list (pv 8) pe_int (fun _ _ => rfl)) pa_nil))) pa_nil))))
  (pss_one (ps_ifN (pt_cmpR (op_eqE hr.units) (pe_lc (own := [("_law_peg", 10)]) (g := gName 10) rfl nd (pi_tup (pv 2)) (blkOk_by (N := ["_law_box_here", "_law_parts_here", "_law_pegs", "_law_wants", "_law_blocks", "_law_prices", "_law_pair", "_law_rows_here", "_law_some", "_law_more", "_law_peg"]) (sc := defScope sNearParts) (by decide +kernel)) (fun _ _ _ _ _ => (pg_name (i := 10) nd rfl (.inl rfl))) (fun _ _ _ _ _ => pts_one (pt_val (pe_callC c_is_barred (hr.mono (by decide)) (pa_cons (pe_dget (hu_of hr) (pv 7) (pv 10) (fun _ _ => rfl)) (pa_cons (pe_dget (hu_of hr) (pv 7) (pv 10) (fun _ _ => rfl)) (pa_cons (pv 9) pa_nil)))))) (fun _ _ _ _ _ => (pv 10))) (pe_lstN pa_nil) (nomark _)) (pss_one (ps_set (i := 4) nd rfl (.inl rfl) (pv 9))) pss_nil)))) pss_nil)
  (pss_one (ps_ret (pe_tupN (pa_cons (pv 2) (pa_cons (pv 3) (pa_cons (pv 4) (pa_cons (pv 5) pa_nil))))))))))), ?_⟩
    obtain ⟨p, n, bl, c, ns, bs, h1, h2, h3, h4, h5, h6, h7⟩ := id hq
    have lp : pegs.length ≤ 12 := ok.le
    have lW := ok.wl
    obtain ⟨zl, e1, e2, hz⟩ := pairs_zip h4
    subst e1 e2
    rw [List.map_map] at h3
    obtain ⟨zb, e1, e2, hzb⟩ := pairs_zip h6
    subst e1 e2
    rw [List.map_map] at h5
    rw [List.length_map] at lW lB
    walk_at "go"
    refine fun D1 hD1 => lcI (t := false) (a := n) (l := zl) (enc := V.ref ∘ Prod.fst) (fun d Hc => ∃ (x y z : Int) (sl : List (Addr × (Str × Str))), Hc b = some (bx x y z) ∧ But b H Hc ∧ Hc D1 = some (.lst (sl.map (V.ref ∘ Prod.fst))) ∧ sl.Sublist d) ?_ ?_ ?_ ?_
    · exact ⟨_, _, _, [], by rw [upd_ne (ne_of_none hb hD1)]; exact hb, But.of (Same.new hD1), upd_same, .slnil⟩
    · rintro d Hc ⟨_, _, _, _, _, B, _⟩
      exact sqB_f (SqT.fr' (Fr.but B hb) h3)
    · rintro d ⟨T, u⟩ r Hc er ⟨xc, yc, zc, sl, ebc, Bc, eDc, su⟩
      have lsl : (sl.map (V.ref ∘ Prod.fst)).length < sizeLine := by
        rw [List.length_map, sizeLine_eq]
        have := su.length_le
        have l2 := congrArg List.length er
        rw [List.length_append] at l2
        have := lW
        omega
      have nDb : D1 ≠ b := (ne_of_none hb hD1).symm
      refine ⟨rfl, ?_⟩
      walk_at "go"
      refine fun rr x2 y2 z2 r0 r1 => ?_
      have e2 : (upd Hc b (bx x2 y2 z2)) b = some (bx x2 y2 z2) := upd_same
      have e3 : (upd Hc b (bx x2 y2 z2)) D1 = some (.lst (sl.map (V.ref ∘ Prod.fst))) := (upd_ne nDb).trans eDc
      have B2 : But b H (upd Hc b (bx x2 y2 z2)) := Bc.trans But.upd
      generalize upd Hc b (bx x2 y2 z2) = Hd at e2 e3 B2 ⊢
      walk_at "go"
      refine ifb (fun c => ?_) (fun c => ?_)
      · walk_at "go"
        exact ⟨x2, y2, z2, sl ++ [(T, u)], (upd_ne nDb.symm).trans e2, But.fresh B2 hD1, by rw [upd_same, List.map_append]; rfl, su.append (List.Sublist.refl _)⟩
      · exact ⟨x2, y2, z2, sl, e2, B2, e3, su.trans (List.sublist_append_left _ _)⟩
    rintro Hx1 ⟨x1, y1, z1, s1, hbb1, B1, eD1, su1⟩
    walk_at "go"
    intro p3 H3 S3 h33
    have hb3 := S3 _ _ hbb1
    have h53 : SqT K H3 bl (zb.map (V.ref ∘ Prod.fst)) := Same.sqT S3 (SqT.fr' (Fr.but B1 hb) h5)
    walk_at "go"
    refine fun D2 hD2 => lcI (t := false) (a := bl) (l := zb) (enc := V.ref ∘ Prod.fst) (fun d Hc => ∃ (x y z : Int) (sl : List (Addr × (Str × Str))), Hc b = some (bx x y z) ∧ But b H3 Hc ∧ Hc D2 = some (.lst (sl.map (V.ref ∘ Prod.fst))) ∧ sl.Sublist d) ?_ ?_ ?_ ?_
    · exact ⟨_, _, _, [], by rw [upd_ne (ne_of_none hb3 hD2)]; exact hb3, But.of (Same.new hD2), upd_same, .slnil⟩
    · rintro d Hc ⟨_, _, _, _, _, B, _⟩
      exact sqB_f (SqT.fr' (Fr.but B hb3) h53)
    · rintro d ⟨T, u⟩ r Hc er ⟨xc, yc, zc, sl, ebc, Bc, eDc, su⟩
      have lsl : (sl.map (V.ref ∘ Prod.fst)).length < sizeLine := by
        rw [List.length_map, sizeLine_eq]
        have := su.length_le
        have l2 := congrArg List.length er
        rw [List.length_append] at l2
        have := lB
        omega
      have nDb : D2 ≠ b := (ne_of_none hb3 hD2).symm
      refine ⟨rfl, ?_⟩
      walk_at "go"
      refine fun rr x2 y2 z2 r0 r1 => ?_
      have e2 : (upd Hc b (bx x2 y2 z2)) b = some (bx x2 y2 z2) := upd_same
      have e3 : (upd Hc b (bx x2 y2 z2)) D2 = some (.lst (sl.map (V.ref ∘ Prod.fst))) := (upd_ne nDb).trans eDc
      have B2 : But b H3 (upd Hc b (bx x2 y2 z2)) := Bc.trans But.upd
      generalize upd Hc b (bx x2 y2 z2) = Hd at e2 e3 B2 ⊢
      walk_at "go"
      refine ifb (fun c => ?_) (fun c => ?_)
      · walk_at "go"
        exact ⟨x2, y2, z2, sl ++ [(T, u)], (upd_ne nDb.symm).trans e2, But.fresh B2 hD2, by rw [upd_same, List.map_append]; rfl, su.append (List.Sublist.refl _)⟩
      · exact ⟨x2, y2, z2, sl, e2, B2, e3, su.trans (List.sublist_append_left _ _)⟩
    rintro Hx2 ⟨x2, y2, z2, s2, hbb2, B2, eD2, su2⟩
    walk_at "go"
    intro p5 H5 S5 h55
    have hb5 := S5 _ _ hbb2
    have hq5 : SqT K H5 p (pegs.map V.str) := by
      have := SqT.fr' (Fr.but B1 hb) h2
      exact Same.sqT S5 (SqT.fr' (Fr.but B2 hb3) (Same.sqT S3 this))
    have h35 : SqT K H5 p3 (s1.map (V.ref ∘ Prod.fst)) := Same.sqT S5 (SqT.fr' (Fr.but B2 hb3) h33)
    have hc5 : SqT K H5 c (cs.map V.int) := by
      have := SqT.fr' (Fr.but B1 hb) h7
      exact Same.sqT S5 (SqT.fr' (Fr.but B2 hb3) (Same.sqT S3 this))
    have F05 : Fr H H5 := (Fr.but B1 hb).trans ((Fr.of S3).trans ((Fr.but B2 hb3).trans (Fr.of S5)))
    have q1 := pairs_of (H := H5) (l := s1) fun z h => SqT.fr' F05 (hz z (su1.subset h))
    have q2 := pairs_of (H := H5) (l := s2) fun z h => SqT.fr' F05 (hzb z (su2.subset h))
    have B05 : But b H H5 := (B1.trans (But.of S3)).trans (B2.trans (But.of S5))
    have ok2 : Parts pegs (s1.map Prod.snd) (s2.map Prod.snd) cs := parts_subs ok (su1.map _) (su2.map _)
    have ls2 : s2.length ≤ 24 := Nat.le_trans su2.length_le lB
    clear hz hzb h3 h4 h5 h6 h1 hq ok B1 B2 S3 S5 h33 h53 hb3 hb
    have e1 : s1.map (V.ref ∘ Prod.fst) = (s1.map Prod.fst).map V.ref := by rw [List.map_map]
    have e2 : s2.map (V.ref ∘ Prod.fst) = (s2.map Prod.fst).map V.ref := by rw [List.map_map]
    rw [e1] at h35
    rw [e2] at h55
    generalize s1.map Prod.fst = as1 at h35 q1
    generalize s2.map Prod.fst = as2 at h55 q2
    have lB2 : (s2.map Prod.snd).length ≤ 24 := by rw [List.length_map]; exact ls2
    generalize s1.map Prod.snd = W1 at q1 ok2
    generalize s2.map Prod.snd = B1 at q2 ok2 lB2
    walk_at "go"
    have rk2 := ok2.rk
    have w22 := ok2.w2
    have nd2 := ok2.nd
    have wl2 := ok2.wl
    refine pif (decide ((1 : Int) < (((pegs.map V.str).length : Nat) : Int))) (fun k hk => ?_) (fun c1 => ?_) (fun c1 => ?_)
    · walk_at "go"
      exact hk
    · have l1 : 1 < pegs.length := by
        have := of_decide_eq_true c1
        rw [List.length_map] at this
        omega
      have lm : (pegs.map V.str).length ≤ 1000 := by rw [List.length_map]; omega
      walk_at "go"
      refine fun R H6 ad S6 nR hR hrw => ?_
      have hRA : RowsAt K H6 R pegs W1 := ⟨ad, hR, hrw⟩
      have hb6 := S6 _ _ hb5
      walk_at "go"
      refine fun o H7 x7 y7 z7 zs no B7 hb7 ho pm => ?_
      obtain ⟨or, rfl, pn⟩ := perm_strs pm
      have lo : or.length = pegs.length := pn.length_eq
      walk_at "go"
      intro o2 H8 n8 S8 ho2
      obtain ⟨a0, a1, or2, rfl⟩ : ∃ a0 a1 or2, or = a0 :: a1 :: or2 := by
        match or, lo with
        | [], h => simp at h; omega
        | [_], h => simp at h; omega
        | a :: b :: r, _ => exact ⟨a, b, r, rfl⟩
      have ho2 : H8 o2 = some (.lst [.str a0, .str a1]) := ho2
      have m0 : a0 ∈ pegs := pn.subset (by simp)
      have m1 : a1 ∈ pegs := pn.subset (by simp)
      have nda := pn.nodup_iff.mpr nd2
      have n01 : a0 ≠ a1 := fun z => (List.nodup_cons.mp nda).1 (by rw [z]; simp)
      clear nda
      have hb8 := S8 _ _ hb7
      have F68 : Fr H6 H8 := (Fr.but B7 hb6).trans (Fr.of S8)
      have F58 : Fr H5 H8 := (Fr.of S6).trans F68
      have R8 : RowsAt K H8 R pegs W1 := hRA.fr F68
      have hq8 := SqT.fr' F58 hq5
      have h38 := SqT.fr' F58 h35
      have hc8 := SqT.fr' F58 hc5
      have h58 := SqT.fr' F58 h55
      have q18 := PairsAt.fr' F58 q1
      have q28 := PairsAt.fr' F58 q2
      have B08 : But b H H8 := (B05.trans (But.of S6)).trans (B7.trans (But.of S8))
      clear hRA hrw S6 B7 S8 hb6 hb7 ho F68 F58 hq5 h35 hc5 h55 q1 q2 hb5 B05 hR
      walk_at "go"
      intro T9 H9 n9 S9 hT9
      walk_at "go"
      intro T10 H10 n10 S10 hT10
      walk_at "go"
      intro T11 H11 n11 S11 hT11
      have lbs : as2.length ≤ 24 := by rw [paired_len q28]; exact lB2
      have h5b := Same.sqT S11 (Same.sqT S10 (Same.sqT S9 h58))
      refine ⟨p5, T11, as2.map V.ref, [V.ref T10], rfl, rfl, h5b, SqT.of hT11, by rw [List.length_map, sizeLine_eq]; simp; omega, fun p12 H12 S12 h12 => ?_⟩
      walk_at "go"
      have S8c : Same H8 H12 := ((S9.trans S10).trans S11).trans S12
      have h12 : SqT K H12 p12 ((as2 ++ [T10]).map V.ref) := by rw [List.map_append]; exact h12
      have q12 : PairsAt K H12 (as2 ++ [T10]) (B1 ++ [(a0, a1)]) := paired_app (PairsAt.same q28 S8c) (.cons (Same.sqT S12 (Same.sqT S11 (SqT.of hT10))) .nil)
      have lb12 : (B1 ++ [(a0, a1)]).length ≤ 25 := by rw [List.length_append]; simp; omega
      have hq12 := Same.sqT S8c hq8
      have R12 := RowsAt.same' S8c R8
      have hb12 := S8c _ _ hb8
      have B0c : But b H H12 := B08.trans (But.of S8c)
      have h3c := Same.sqT S8c h38
      have hcc := Same.sqT S8c hc8
      have h5c := Same.sqT S8c h58
      have q1c := PairsAt.same' S8c q18
      have q2c := PairsAt.same' S8c q28
      clear S9 S10 S11 S12 S8c hq8 R8 hb8 B08 h38 hc8 h58 q18 q28 h5b hT9 hT10 hT11 ho2
      refine pifS ((pegs.filter fun s => barB (rowOf W1 pegs s) (rowOf W1 pegs s) (B1 ++ [(a0, a1)])).isEmpty) (fun k hk => ?_) (fun H13 S13 c2 => ?_) (fun H13 S13 c2 => ?_)
      · walk_at "go"
        refine lcV (t := false) (a := p) (l := pegs) (enc := V.str) (sqB_f hq12) (fun s => barB (rowOf W1 pegs s) (rowOf W1 pegs s) (B1 ++ [(a0, a1)])) V.str (by omega) ?_ ?_
        · intro u hu H13 S13 NT NF yes no
          refine ⟨rfl, ?_⟩
          refine pcl (barB (rowOf W1 pegs u) (rowOf W1 pegs u) (B1 ++ [(a0, a1)])) (fun k hk => ?_) (fun H14 S14 c => ?_) (fun H14 S14 c => no _ S14 c)
          · have R13 := RowsAt.same' S13 R12
            obtain ⟨au, gu, tu⟩ := R13.get hu
            have u1 : SqB K false H13 au ((rowOf W1 pegs u).map V.str) := SqT.of tu
            have u2 : SqB K false H13 p12 ((as2 ++ [T10]).map V.ref) := Same.sqT S13 h12
            exact ⟨_, rfl, _, rfl, R, _, rfl, gu, _, rfl, _, rfl, R, _, rfl, gu, _, rfl, au, au, p12, false, false, false, _, _, _, _, rfl, u1, u1, u2, PairsAt.same' S13 q12, by omega, fun H' S' => ⟨_, rfl, hk _ S'⟩⟩
          · walk_at "go"
            exact yes _ S14 c
        · intro D H13 n13 S13 hD13
          walk_at "go"
          intro Z H14 n14 S14 hZ
          refine ⟨D, Z, _, rfl, rfl, SqL.of (S14 _ _ hD13), SqL.of hZ, _, rfl, ?_⟩
          rw [List.isEmpty_map]
          exact hk _ (S13.trans S14)
      · have ok3 : Parts pegs W1 (B1 ++ [(a0, a1)]) cs := parts_more ok2 ⟨m0, m1, n01⟩ (by omega) fun x hx => by
          have := List.isEmpty_iff.mp c2
          rw [List.filter_eq_nil_iff] at this
          exact Bool.eq_false_iff.mpr (this x hx)
        have hb13 := S13 _ _ hb12
        walk_at "go"
        intro T14 H14 n14 S14 hT14
        have S := S13.trans S14
        exact k T14 H14 _ _ _ W1 _ (B0c.trans (But.of S)) (S14 _ _ hb13) ⟨p, p3, p12, c, as1, as2 ++ [T10], SqT.of hT14, Same.sqT S hq12, Same.sqT S h3c, PairsAt.same' S q1c, Same.sqT S h12, PairsAt.same' S q12, Same.sqT S hcc⟩ ok3
      · have hb13 := S13 _ _ hb12
        walk_at "go"
        intro T14 H14 n14 S14 hT14
        have S := S13.trans S14
        exact k T14 H14 _ _ _ W1 _ (B0c.trans (But.of S)) (S14 _ _ hb13) ⟨p, p3, p5, c, as1, as2, SqT.of hT14, Same.sqT S hq12, Same.sqT S h3c, PairsAt.same' S q1c, Same.sqT S h5c, PairsAt.same' S q2c, Same.sqT S hcc⟩ ok2
    · walk_at "go"
      intro T H6 n6 S6 hT
      refine k T H6 _ _ _ W1 B1 (B05.trans (But.of S6)) (S6 _ _ hb5) ⟨p, p3, p5, c, as1, as2, SqT.of hT, Same.sqT S6 hq5, Same.sqT S6 h35, q1.same S6, Same.sqT S6 h55, q2.same S6, Same.sqT S6 hc5⟩ ok2
end
end Lw

set_option Elab.async false
set_option linter.all false
set_option maxRecDepth 100000
set_option maxHeartbeats 4000000
namespace Lw
open PySem PySem.Spec PyProof.Rows L2 Np TL
local macro_rules | `(tactic| walk_at "np_h") => `(tactic| first | assumption | exact upd_same | (refine (upd_ne ?_).trans ?_; (walk_at "np_ne"); (walk_at "np_h")) | exact SqL.of (by walk_at "np_h") | exact SqT.of (by walk_at "np_h"))
local macro_rules | `(tactic| walk_at "np_ne") => `(tactic| first | assumption | exact Ne.symm (by assumption))
local macro_rules | `(tactic| walk_at "np_r") => `(tactic| first
  | refine ⟨_, rfl, ?_⟩
  | refine ⟨_, _, rfl, rfl, ?_⟩
  | refine ⟨(.inl ⟨by decide, by decide⟩ : CMul _ _), ?_⟩
  | refine ⟨(.inr ⟨by decide, by decide⟩ : CMul _ _), ?_⟩
  | refine ⟨(by first | decide | omega : (0 : Int) < _), ?_⟩
  | refine ⟨(⟨by decide, by decide⟩ : CDiv _ _), ?_⟩
  | (refine' ⟨_, _, _, _, rfl, rfl, ?np1, ?np2, ?_⟩; (case np1 => walk_at "np_h"); (case np2 => rfl)))

local macro_rules | `(tactic| walk_at "sm") => `(tactic| first | exact Same.refl _ | assumption | (apply Same.back; assumption; walk_at "sm"))
local macro_rules | `(tactic| walk_at "fr") => `(tactic| first | (apply Fr.of; assumption) | assumption | (apply Fr.but; assumption; assumption))
local macro_rules | `(tactic| walk_at "ne") => `(tactic| first | assumption | (apply Ne.symm; assumption))
local macro_rules | `(tactic| walk_at "at") => `(tactic| first | assumption | exact upd_same | (apply Same.at'; assumption; walk_at "at") | (apply Fr.at'; walk_at "fr"; walk_at "at"; exact fun _ z => nomatch z) | (apply But.at'; assumption; walk_at "ne"; walk_at "at"))
local macro_rules | `(tactic| walk_at "sl") => `(tactic| first | assumption | (apply Same.seq; assumption; walk_at "sl"))
local macro_rules | `(tactic| walk_at "sb") => `(tactic| first | assumption | (apply SqB.same'; assumption; walk_at "sb"))
local macro_rules | `(tactic| walk_at "st") => `(tactic| first | assumption | (apply SqT.fr'; walk_at "fr"; walk_at "st"))
local macro_rules | `(tactic| walk_at "bd") => `(tactic| first | assumption | (apply BoardAt.fr'; walk_at "fr"; walk_at "bd"))
local macro_rules | `(tactic| walk_at "sd") => `(tactic| first | assumption | (apply StandAt.fr'; walk_at "fr"; walk_at "sd"))
local macro_rules | `(tactic| walk_at "pr") => `(tactic| first | assumption | (apply PairsAt.fr'; walk_at "fr"; walk_at "pr"))
local macro_rules | `(tactic| walk_at "pa") => `(tactic| first | assumption | (apply PartsAt.fr'; walk_at "fr"; walk_at "pa"))
local macro_rules | `(tactic| walk_at "rw") => `(tactic| first | assumption | (apply RowsAt.fr'; walk_at "fr"; walk_at "rw"))
local macro_rules | `(tactic| walk_at "ob") => `(tactic| first | assumption | (apply obB; walk_at "bd") | (apply obS; walk_at "sd") | (apply ObjAt.fr'; walk_at "fr"; walk_at "ob"))
local macro_rules | `(tactic| walk_at "hp") => `(tactic| first
  | walk_at "at" | walk_at "st" | walk_at "sl" | walk_at "bd" | walk_at "sd" | walk_at "pa" | walk_at "pr" | walk_at "rw" | walk_at "ob"
  | (apply SqT.of; walk_at "at") | (apply SqL.of; walk_at "at"))
local macro_rules | `(tactic| walk_at "sq") => `(tactic| first | (apply sqB_f; walk_at "st") | (apply sqB_f; apply SqT.of; walk_at "at") | (apply sqB_t; walk_at "sl") | (apply sqB_t; apply SqL.of; walk_at "at") | walk_at "sb")
local macro_rules | `(tactic| walk_at "leaf") => `(tactic| first
  | exact rfl
  | walk_at "hp"
  | walk_at "sq"
  | (apply Or.inl; walk_at "hp") | (apply Or.inr; walk_at "hp")
  | (apply Exists.intro; walk_at "hp")
  | (show 2 ≤ sizeLine; decide) | (show 1 ≤ sizeLine; decide) | (show 0 ≤ sizeLine; decide) | (show 3 ≤ sizeLine; decide) | (show 4 ≤ sizeLine; decide)
  | exact atI_nat (j := 0) rfl | exact atI_nat (j := 1) rfl | exact atI_nat (j := 2) rfl | exact atI_nat (j := 3) rfl
  | (apply tyL; walk_at "at") | (apply tyLs; walk_at "sl")
  | walk_at "sm"
  | omega
  | decide
  | exact ⟨by decide, by decide⟩ | exact (.inl ⟨by decide, by decide⟩ : CMul _ _) | exact (.inr ⟨by decide, by decide⟩ : CMul _ _))
local macro_rules | `(tactic| walk_at "ex") => `(tactic| first
  | (apply And.intro; walk_at "leaf")
  | (apply Exists.intro; walk_at "ex"))
local macro_rules | `(tactic| walk_at "go1") => `(tactic| first | refine ⟨_, rfl, ?_⟩ | walk_at "ex")
local macro_rules | `(tactic| walk_at "go") => `(tactic| repeat (walk_at "go1"))


section
variable {P : Program} {w : World} {K : PySem.W.Frag} {mg : Str → Option Value} {base : Heap}
def spPairR (K : PySem.W.Frag) : Sp := fun vs H Q _ => ∃ (q a b st bd : Addr) (pegs : List Str) (W Bs : List (Str × Str)) (cs : List Int) (ra rb : List Str), vs = [.ref q, .ref a, .ref b, .ref st] ∧ PartsAt K H q pegs W Bs cs ∧ Parts pegs W Bs cs ∧ SqT K H a (ra.map V.str) ∧ SqT K H b (rb.map V.str) ∧
  RowSt pegs W Bs ra ∧ RowSt pegs W Bs rb ∧ StandAt K H st bd (mkBd pegs W Bs cs) (maskOf pegs ra) ∧ ∀ H', Same H H' → Q (.bl true) H'
theorem befNm {pegs : List Str} {W Bs : List (Str × Str)} {cs : List Int} (ok : Parts pegs W Bs cs) (fd : Prs) : NmP (befOut pegs fd) := fun w hw => let h := mem_befOut.mp hw; ⟨ok.nm _ h.1, ok.nm _ h.2.1⟩
theorem scPairRight : FnScope ["_law_parts_here", "_law_a", "_law_b", "_law_start", "_law_board_here", "_law_again", "_law_due", "_law_x", "_law_y"] ["_law_parts_here", "_law_a", "_law_b", "_law_start"] (defScope sPairRight) := ⟨rfl, rfl, rfl, by decide +kernel, rfl, by decide +kernel, by decide +kernel⟩
theorem ok_pair_right {f : Addr} {fd : FuncData} (F : FnT K "_law_pair_right" sPairRight f fd) (m : Bl mg) (cls_Stand : Cls K (cS K)) (c_board : Callee P w K mg base 6 "_law_board" ["_law_parts_here"] (spBoard K)) (c_before : Callee P w K mg base 2 "_law_before" ["_law_parts_here", "_law_a", "_law_b"] (spLBef K)) (c_precedence : Callee P w K mg base 6 "precedence" ["a", "b"] (spPrec K)) (cP_Stand_board : CalP P w K mg base CX0 1 (cS K) "board" (spBoardOf K)) (cO_Board : CalO P w K mg base CX0 7 (cB K) (spMakeR K)) : FnG P w K mg base CX0 9 f fd ["_law_parts_here", "_law_a", "_law_b", "_law_start"] (spPairR K) := by
  have nd := scPairRight.nd
  refine fnG F scPairRight (fun vs H Q E h => ?_) (fun cdv A outer s H vs Q E hgd hr h => ?_)
  · obtain ⟨q, a, b, st, bd, pegs, W, Bs, cs, ra, rb, rfl, _⟩ := h
    rfl
  · obtain ⟨q, a, b, st, bd, pegs, W, Bs, cs, ra, rb, rfl, hq, ok, ha, hb, r1, r2, hS, k⟩ := h
    refine ⟨_, PSs.nox (pss_cons (ps_par (i := 4) (j := 5) (by rfl) nd rfl rfl (by decide) rfl rfl (pa_cons (pe_PN (fs := fS) (pv 3) cls_Stand cP_Stand_board (hr.mono (by decide))) (pa_cons (pe_callC c_board (hr.mono (by decide)) (pa_cons (pv 0) pa_nil)) pa_nil)) (by rfl))
  (pss_cons (ps_set (i := 6) nd rfl (.inl rfl) (pe_callTy (call_tupleN (K := K) rfl) (by rfl) m.tuple (by decide +kernel) (pa_cons (pe_callC c_before (hr.mono (by decide)) (pa_cons (pv 0) (pa_cons (pv 1) (pa_cons (pv 2) pa_nil)))) pa_nil)))
  (pss_cons (ps_ifN (PW.pt (pw_or (pt_cmpR op_neSt (pe_callB (call_reprDN (K := K) rfl hgd hr.units) (by rfl) m.repr (by decide +kernel) (pa_cons (pe_callC c_precedence (hr.mono (by decide)) (pa_cons (pv 3) (pa_cons (pe_ON (fs := fB) (pv 4) cO_Board (hr.mono (by decide)) no0 (pa_cons (pv 2) pa_nil)) pa_nil))) pa_nil)) (pe_callB (call_reprDN (K := K) rfl hgd hr.units) (by rfl) m.repr (by decide +kernel) (pa_cons (pv 6) pa_nil)) (nomark _)) (pw_or1 (pt_cmpR (op_neDN (K := K) rfl hr.units) (pe_callC c_precedence (hr.mono (by decide)) (pa_cons (pe_ON (fs := fB) (pv 5) cO_Board (hr.mono (by decide)) no0 (pa_cons (pv 1) pa_nil)) (pa_cons (pe_ON (fs := fB) (pv 4) cO_Board (hr.mono (by decide)) no0 (pa_cons (pv 2) pa_nil)) pa_nil))) (pv 6) (nomark _))))) (pss_one (ps_ret pe_bl)) pss_nil)
  (pss_cons (ps_ifN (pt_cmpR (op_neDN (K := K) rfl hr.units) (pe_callB (cr_sortDN (K := K) rfl hr.units) (by rfl) m.sorted (by decide +kernel) (pa_cons (pe_lc (own := [("_law_x", 7), ("_law_y", 8)]) (g := gTup K 2 (gCons (gName 7) (gCons (gName 8) gNil))) (tt := tYes) rfl nd (pi_tup (pe_callC c_precedence (hr.mono (by decide)) (pa_cons (pe_ON (fs := fB) (pv 4) cO_Board (hr.mono (by decide)) no0 (pa_cons (pv 2) pa_nil)) (pa_cons (pe_ON (fs := fB) (pv 4) cO_Board (hr.mono (by decide)) no0 (pa_cons (pv 1) pa_nil)) pa_nil)))) (blkOk_by (N := ["_law_parts_here", "_law_a", "_law_b", "_law_start", "_law_board_here", "_law_again", "_law_due", "_law_x", "_law_y"]) (sc := defScope sPairRight) (by decide +kernel)) (fun _ _ _ _ _ => (pg_tupK (K := K) rfl (by rfl) (pgs_cons (pg_name (i := 7) nd rfl (.inl rfl)) (pgs_cons (pg_name (i := 8) nd rfl (.inl rfl)) pgs_nil)))) (fun _ _ _ _ _ => pts_nil) (fun _ _ _ _ _ => (pe_tupN (pa_cons (pv 8) (pa_cons (pv 7) pa_nil))))) pa_nil)) (pe_callB (cr_sortedDT (K := K) rfl hr.units) (by rfl) m.sorted (by decide +kernel) (pa_cons (pv 6) pa_nil)) (nomark _)) (pss_one (ps_ret pe_bl)) pss_nil)
  (pss_one (ps_ret (pe_cmpR (op_eqDN (K := K) rfl hr.units) (pe_callC c_precedence (hr.mono (by decide)) (pa_cons (pe_ON (fs := fB) (pv 4) cO_Board (hr.mono (by decide)) no0 (pa_cons (pv 1) pa_nil)) (pa_cons (pe_ON (fs := fB) (pv 4) cO_Board (hr.mono (by decide)) no0 (pa_cons (pv 1) pa_nil)) pa_nil))) (pe_tupN pa_nil) (nomark _)))))))), ?_⟩
    have lp : pegs.length ≤ 12 := ok.le
    have nm0 : Named (mkBd pegs W Bs cs) := ok.nm
    have hbd := hS.bd
    have ee := eqBd.refl (mkBd pegs W Bs cs)
    have e1 := befOut_eq ok r1 r2
    have e2 := befOut_eq ok r2 r1
    have e3 := befOut_eq ok r1 r1
    rw [befOut_self ok r1.ok] at e3
    have fl := befOut_flip ok r1.ok r2.ok
    have n1 := befNm ok (befAll pegs W Bs ra rb)
    have n2 := befNm ok (befAll pegs W Bs rb ra)
    have l1 := befOut_len lp (befAll pegs W Bs ra rb)
    have l2 := befOut_len lp (befAll pegs W Bs rb ra)
    generalize hd1 : befOut pegs (befAll pegs W Bs ra rb) = due at e1 fl n1 l1
    generalize hd2 : befOut pegs (befAll pegs W Bs rb ra) = due2 at e2 fl n2 l2
    walk_at "go"
    intro x2 H1 n1' S1 hx2
    walk_at "go"
    intro p2 ts2 H2 S2 hp2 hts2
    rw [hd1] at hts2
    walk_at "go"
    intro p3 H3 S3 hp3
    have t3 : PairsAt K H3 ts2 due := PairsAt.same' S3 hts2
    clear hts2
    walk_at "go"
    refine pifS false (fun k2 hk => ?_) (fun _ _ c => by cases c) (fun H9 S9 _ => ?_)
    · walk_at "go"
      intro s4 H4 n4 S4 hs4
      walk_at "go"
      intro q5 ts5 H5 S5 hq5 hts5
      have hts5 : PairsAt K H5 ts5 due := by rw [← e1]; exact hts5
      walk_at "go"
      refine reprI (.tup hq5 (dpPrs hts5)) (goodPrs n1 l1) ?_
      walk_at "go"
      refine reprI (.tup (Same.sqT S5 (Same.sqT S4 hp3)) (dpPrs (PairsAt.same' S5 (PairsAt.same' S4 t3)))) (goodPrs n1 l1) ?_
      walk_at "go"
      refine ifb (fun c => ?_) (fun c => ?_)
      · rw [decide_eq_true rfl] at c
        cases c
      · have hq6 : SqT K H5 a (ra.map V.str) := by walk_at "st"
        have hx6 : BoardAt K H5 x2 (mkBd pegs W Bs cs) := by walk_at "bd"
        walk_at "go"
        intro s6 H6 n6 S6 hs6
        walk_at "go"
        intro s7 H7 n7 S7 hs7
        walk_at "go"
        intro q8 ts8 H8 S8 hq8 hts8
        have hts8 : PairsAt K H8 ts8 due := by rw [← e1]; exact hts8
        have S38 : Same H3 H8 := (((S4.trans S5).trans S6).trans S7).trans S8
        walk_at "go"
        have G5 := (shapedPrs n1).2
        refine neDI (.tup hq8 (dpPrs hts8)) (.tup (Same.sqT S38 hp3) (dpPrs (PairsAt.same' S38 t3))) G5 G5 ((eqvTup _ _).trans (decide_eq_true rfl)) ?_
        exact ⟨_, rfl, hk _ S38⟩
    · have hb9 : StandAt K H9 st bd (mkBd pegs W Bs cs) (maskOf pegs ra) := by walk_at "sd"
      have hbd9 := hb9.bd
      have ha9 : SqT K H9 a (ra.map V.str) := by walk_at "st"
      have hbb9 : SqT K H9 b (rb.map V.str) := by walk_at "st"
      have hp9 := Same.sqT S9 hp3
      have t9 := PairsAt.same' S9 t3
      have S09 : Same H H9 := ((S1.trans S2).trans S3).trans S9
      clear S1 S2 S3 S9 hp3 t3 hp2 hx2 ha hb hS hbd hq
      refine pifS false (fun k2 hk => ?_) (fun _ _ c => by cases c) (fun H10 S10 _ => ?_)
      · walk_at "go"
        intro s4 H4 n4 S4 hs4
        walk_at "go"
        intro s5 H5 n5 S5 hs5
        walk_at "go"
        intro q6 ts6 H6 S6 hq6 hts6
        have hts6 : PairsAt K H6 ts6 due2 := by rw [← e2]; exact hts6
        obtain ⟨zl, z1, z2, hz⟩ := pairs_zip hts6
        rw [z1, List.map_map] at hq6
        have lz : zl.length ≤ 144 := by rw [z2, List.length_map] at l2; exact l2
        walk_at "go"
        refine lcB (t := false) (a := q6) (l := zl) (enc := V.ref ∘ Prod.fst) (sqB_f hq6) (pairR_bears K) (fun _ => true) (fun z => flipP z.2) (by omega) ?_ ?_
        · rintro ⟨T, u, v⟩ hm H7 S7 NT NF yes no
          have hT := Same.sqT S7 (hz _ hm)
          walk_at "go"
          simp only [tYes, if_true]
          walk_at "go"
          intro T8 H8 n8 S8 hT8
          exact yes _ _ S8 ⟨T8, rfl, SqT.of hT8⟩ rfl
        · intro D H7 ys n7 S7 hD hys
          obtain ⟨us, rfl, hus⟩ := pairR_out hys
          have el : (zl.filter fun _ => true).map (fun z => flipP z.2) = due2.map flipP := by rw [z2, List.map_map, filter_yes]; rfl
          rw [el] at hus
          walk_at "go"
          have SD : Same H9 H7 := (((S4.trans S5).trans S6)).trans S7
          refine sortI (enc := prE) (fun T w => SqT K H7 T [.str w.1, .str w.2]) (SqL.of hD) (Paired.mapP hus fun T w h => ⟨h, .tup h (dpS [_, _])⟩) alikePr (fun b => ⟨_, _, rfl⟩) depPr fun p8 H8 ts8 n8 S8 hp8 hts8 => ?_
          have hp98 := Same.sqT S8 (Same.sqT SD hp9)
          have t98 := PairsAt.same' S8 (PairsAt.same' SD t9)
          walk_at "go"
          refine sortTI (enc := prE) (fun T w => SqT K H8 T [.str w.1, .str w.2]) hp98 (Paired.mapP t98 fun T w h => ⟨h, .tup h (dpS [_, _])⟩) alikePr (fun b => ⟨_, _, rfl⟩) depPr fun p9 H9' ts9 n9 S9 hp9' hts9 => ?_
          rw [sort_perm fl] at hts8
          have G6 : NmP (due.mergeSort (PySem.W.dataLe false prE)) := fun w hw => n1 w ((List.mergeSort_perm _ _).subset hw)
          have G7 := (shapedPrs G6).1
          have hts8' : PairsAt K H9' ts8 (due.mergeSort (PySem.W.dataLe false prE)) := Paired.mapP hts8 fun _ _ h => Same.sqT (S8.trans S9) h
          have hts9' : PairsAt K H9' ts9 (due.mergeSort (PySem.W.dataLe false prE)) := Paired.mapP hts9 fun _ _ h => Same.sqT S9 h
          walk_at "go"
          refine neDI (.lst (SqL.of (S9 _ _ hp8)) (dpPrs hts8')) (.lst (SqL.of hp9') (dpPrs hts9')) G7 G7 ((eqvLst _ _).trans (decide_eq_true rfl)) ?_
          exact ⟨_, rfl, hk _ ((SD.trans S8).trans S9)⟩
      · walk_at "go"
        intro s4 H4 n4 S4 hs4
        walk_at "go"
        intro s5 H5 n5 S5 hs5
        walk_at "go"
        intro q6 ts6 H6 S6 hq6 hts6
        have hts6 : PairsAt K H6 ts6 [] := by rw [← e3]; exact hts6
        cases hts6
        walk_at "go"
        intro T7 H7 n7 S7 hT7
        walk_at "go"
        refine eqDI (.tup (Same.sqT S7 hq6) .nil) (.tup (SqT.of hT7) .nil) (by decide) (by decide) (b := true) (by rw [PyData.eqv]; rfl) ?_
        exact k _ ((((S09.trans S10).trans S4).trans (S5.trans S6)).trans S7)
end
end Lw

set_option Elab.async false
set_option linter.all false
set_option maxRecDepth 100000
set_option maxHeartbeats 4000000
namespace Lw
open PySem PySem.Spec PyProof.Rows L2 Np TL
local macro_rules | `(tactic| walk_at "np_h") => `(tactic| first | assumption | exact upd_same | (refine (upd_ne ?_).trans ?_; (walk_at "np_ne"); (walk_at "np_h")) | exact SqL.of (by walk_at "np_h") | exact SqT.of (by walk_at "np_h"))
local macro_rules | `(tactic| walk_at "np_ne") => `(tactic| first | assumption | exact Ne.symm (by assumption))
local macro_rules | `(tactic| walk_at "np_r") => `(tactic| first
  | refine ⟨_, rfl, ?_⟩
  | refine ⟨_, _, rfl, rfl, ?_⟩
  | refine ⟨(.inl ⟨by decide, by decide⟩ : CMul _ _), ?_⟩
  | refine ⟨(.inr ⟨by decide, by decide⟩ : CMul _ _), ?_⟩
  | refine ⟨(by first | decide | omega : (0 : Int) < _), ?_⟩
  | refine ⟨(⟨by decide, by decide⟩ : CDiv _ _), ?_⟩
  | (refine' ⟨_, _, _, _, rfl, rfl, ?np1, ?np2, ?_⟩; (case np1 => walk_at "np_h"); (case np2 => rfl)))

local macro_rules | `(tactic| walk_at "sm") => `(tactic| first | exact Same.refl _ | assumption | (apply Same.back; assumption; walk_at "sm"))
local macro_rules | `(tactic| walk_at "fr") => `(tactic| first | (apply Fr.of; assumption) | assumption | (apply Fr.but; assumption; assumption))
local macro_rules | `(tactic| walk_at "ne") => `(tactic| first | assumption | (apply Ne.symm; assumption))
local macro_rules | `(tactic| walk_at "at") => `(tactic| first | assumption | exact upd_same | (apply Same.at'; assumption; walk_at "at") | (apply Fr.at'; walk_at "fr"; walk_at "at"; exact fun _ z => nomatch z) | (apply But.at'; assumption; walk_at "ne"; walk_at "at"))
local macro_rules | `(tactic| walk_at "sl") => `(tactic| first | assumption | (apply Same.seq; assumption; walk_at "sl"))
local macro_rules | `(tactic| walk_at "sb") => `(tactic| first | assumption | (apply SqB.same'; assumption; walk_at "sb"))
local macro_rules | `(tactic| walk_at "st") => `(tactic| first | assumption | (apply SqT.fr'; walk_at "fr"; walk_at "st"))
local macro_rules | `(tactic| walk_at "bd") => `(tactic| first | assumption | (apply BoardAt.fr'; walk_at "fr"; walk_at "bd"))
local macro_rules | `(tactic| walk_at "sd") => `(tactic| first | assumption | (apply StandAt.fr'; walk_at "fr"; walk_at "sd"))
local macro_rules | `(tactic| walk_at "pr") => `(tactic| first | assumption | (apply PairsAt.fr'; walk_at "fr"; walk_at "pr"))
local macro_rules | `(tactic| walk_at "pa") => `(tactic| first | assumption | (apply PartsAt.fr'; walk_at "fr"; walk_at "pa"))
local macro_rules | `(tactic| walk_at "rw") => `(tactic| first | assumption | (apply RowsAt.fr'; walk_at "fr"; walk_at "rw"))
local macro_rules | `(tactic| walk_at "ob") => `(tactic| first | assumption | (apply obB; walk_at "bd") | (apply obS; walk_at "sd") | (apply ObjAt.fr'; walk_at "fr"; walk_at "ob"))
local macro_rules | `(tactic| walk_at "hp") => `(tactic| first
  | walk_at "at" | walk_at "st" | walk_at "sl" | walk_at "bd" | walk_at "sd" | walk_at "pa" | walk_at "pr" | walk_at "rw" | walk_at "ob"
  | (apply SqT.of; walk_at "at") | (apply SqL.of; walk_at "at"))
local macro_rules | `(tactic| walk_at "sq") => `(tactic| first | (apply sqB_f; walk_at "st") | (apply sqB_f; apply SqT.of; walk_at "at") | (apply sqB_t; walk_at "sl") | (apply sqB_t; apply SqL.of; walk_at "at") | walk_at "sb")
local macro_rules | `(tactic| walk_at "leaf") => `(tactic| first
  | exact rfl
  | walk_at "hp"
  | walk_at "sq"
  | (apply Or.inl; walk_at "hp") | (apply Or.inr; walk_at "hp")
  | (apply Exists.intro; walk_at "hp")
  | (show 2 ≤ sizeLine; decide) | (show 1 ≤ sizeLine; decide) | (show 0 ≤ sizeLine; decide) | (show 3 ≤ sizeLine; decide) | (show 4 ≤ sizeLine; decide)
  | exact atI_nat (j := 0) rfl | exact atI_nat (j := 1) rfl | exact atI_nat (j := 2) rfl | exact atI_nat (j := 3) rfl
  | (apply tyL; walk_at "at") | (apply tyLs; walk_at "sl")
  | walk_at "sm"
  | omega
  | decide
  | exact ⟨by decide, by decide⟩ | exact (.inl ⟨by decide, by decide⟩ : CMul _ _) | exact (.inr ⟨by decide, by decide⟩ : CMul _ _))
local macro_rules | `(tactic| walk_at "ex") => `(tactic| first
  | (apply And.intro; walk_at "leaf")
  | (apply Exists.intro; walk_at "ex"))
local macro_rules | `(tactic| walk_at "go1") => `(tactic| first | refine ⟨_, rfl, ?_⟩ | walk_at "ex")
local macro_rules | `(tactic| walk_at "go") => `(tactic| repeat (walk_at "go1"))


section
variable {P : Program} {w : World} {K : PySem.W.Frag} {mg : Str → Option Value} {base : Heap}
def spLaw (K : PySem.W.Frag) : Sp := fun vs H Q _ => ∃ (a : Addr) (ns : List Int), vs = [.ref a] ∧ SqL K H a (ns.map V.int) ∧ ns.length ≤ 63 ∧ ∀ H', Q (.bl true) H'
theorem scLaw : FnScope ["_law_script", "_law_k", "_law_box_here", "_law_parts_here", "_law_near", "_law_turn", "_law_a", "_law_b", "_law_n", "_law_own", "_law_start", "_law_row"] ["_law_script"] (defScope sLaw) := ⟨rfl, rfl, rfl, by decide +kernel, rfl, by decide +kernel, by decide +kernel⟩
theorem ok_law {f : Addr} {fd : FuncData} (F : FnT K "law" sLaw f fd) (m : Bl mg) (c_box : Callee P w K mg base 1 "_law_box" ["_law_script", "_law_k"] (spBox K)) (c_parts : Callee P w K mg base 4 "_law_parts" ["_law_box_here", "_law_most"] (spParts K)) (c_near_parts : Callee P w K mg base 4 "_law_near_parts" ["_law_box_here", "_law_parts_here"] (spNear K)) (c_two : Callee P w K mg base 4 "_law_two" ["_law_box_here", "_law_parts_here"] (spTwo K)) (c_is_stand : Callee P w K mg base 1 "_law_is_stand" ["_law_parts_here", "_law_row"] (spIsStand K)) (c_board : Callee P w K mg base 6 "_law_board" ["_law_parts_here"] (spBoard K)) (c_pair_right : CalleeG P w K mg base 9 "_law_pair_right" ["_law_parts_here", "_law_a", "_law_b", "_law_start"] (spPairR K)) (cO_Board : CalO P w K mg base CX0 7 (cB K) (spMakeR K)) : FnG P w K mg base CX0 10 f fd ["_law_script"] (spLaw K) := by
  have nd := scLaw.nd
  refine fnG F scLaw (fun vs H Q E h => ?_) (fun cdv A outer s H vs Q E hgd hr h => ?_)
  · obtain ⟨a, ns, rfl, _⟩ := h
    rfl
  · obtain ⟨a, ns, rfl, hS, hl, q⟩ := h
    refine ⟨_, PSs.nox (pss_cons (ps_for PassesOwn.never rfl (pi_range1 (by rfl) m.range (pa_cons (pe_callB (call_max2 rfl) (by rfl) m.max (by decide +kernel) (pa_cons pe_int (pa_cons (pe_callB (call_min2 rfl) (by rfl) m.min (by decide +kernel) (pa_cons pe_int (pa_cons (pe_callB call_len_seq (by rfl) m.len (by decide +kernel) (pa_cons (pv 0) pa_nil)) pa_nil))) pa_nil))) pa_nil)) (pg_name (i := 1) nd rfl (.inl rfl))
   (pss_cons (ps_set (i := 2) nd rfl (.inl rfl) (pe_callC c_box (hr.mono (by decide)) (pa_cons (pv 0) (pa_cons (pv 1) pa_nil))))
  (pss_cons (ps_set (i := 3) nd rfl (.inl rfl) (pe_callC c_parts (hr.mono (by decide)) (pa_cons (pv 2) (pa_cons pe_int pa_nil))))
  (pss_cons (ps_set (i := 4) nd rfl (.inl rfl) (pe_callC c_near_parts (hr.mono (by decide)) (pa_cons (pv 2) (pa_cons (pv 3) pa_nil))))
  (pss_one (ps_for PassesOwn.never rfl (pi_range1 (by rfl) m.range (pa_cons pe_int pa_nil)) (pg_name (i := 5) nd rfl (.inl rfl))
   (pss_cons (ps_asg (pe_callC c_two (hr.mono (by decide)) (pa_cons (pv 2) (pa_cons (pv 3) pa_nil))) (pg_tup (by rfl) (pgs_cons (pg_name (i := 6) nd rfl (.inl rfl)) (pgs_cons (pg_name (i := 7) nd rfl (.inl rfl)) pgs_nil))))
  (pss_one (ps_for PassesOwn.never rfl (pi_enumB (by rfl) m.enumerate (pa_cons (pe_tupN (pa_cons (pv 3) (pa_cons (pv 4) (pa_cons (pv 3) pa_nil)))) pa_nil)) (pg_tup (by rfl) (pgs_cons (pg_name (i := 8) nd rfl (.inl rfl)) (pgs_cons (pg_name (i := 9) nd rfl (.inl rfl)) pgs_nil)))
   (pss_cons (ps_ifN (PW.pt (pw_or (pt_not (pt_val (pe_callC c_is_stand (hr.mono (by decide)) (pa_cons (pv 9) (pa_cons (pv 6) pa_nil))))) (pw_or1 (pt_not (pt_val (pe_callC c_is_stand (hr.mono (by decide)) (pa_cons (pv 9) (pa_cons (pv 7) pa_nil)))))))) (pss_one ps_continue) pss_nil)
  (pss_cons (ps_set (i := 10) nd rfl (.inl rfl) (pe_ON (fs := fB) (pe_callC c_board (hr.mono (by decide)) (pa_cons (pv 9) pa_nil)) cO_Board (hr.mono (by decide)) no0 (pa_cons (pv 6) pa_nil)))
  (pss_one (ps_for PassesOwn.never rfl (pi_tup (pe_slice sl_tq (pe_tupN (pa_cons (pv 7) (pa_cons (pv 6) pa_nil))) po_none (po_some (pe_op op_add pe_int (pe_op op_fdiv (pv 8) pe_int))))) (pg_name (i := 11) nd rfl (.inl rfl))
   (pss_one (ps_ifN (pt_not (pt_val (pe_callCG hgd c_pair_right (hr.mono (by decide)) (pa_cons (pv 9) (pa_cons (pv 6) (pa_cons (pv 11) (pa_cons (pv 10) pa_nil))))))) (pss_one (ps_ret pe_bl)) pss_nil)))))))))))))))
  (pss_one (ps_ret pe_bl))), ?_⟩
    walk_at "go"
    refine forR (fun i σ H1 => (∃ s1 s2 s3 s4 s5 s6 s7 s8 s9 s10 s11 : Option V, σ = [some (.ref a), s1, s2, s3, s4, s5, s6, s7, s8, s9, s10, s11]) ∧ Same H H1) ⟨⟨_, _, _, _, _, _, _, _, _, _, _, rfl⟩, Same.refl _⟩ ?_ ?_
    · rintro i σ H1 hi ⟨⟨s1, s2, s3, s4, s5, s6, s7, s8, s9, s10, s11, rfl⟩, S1⟩
      rw [List.length_map] at hi
      have hi : i < 10 := by
        revert hi
        split <;> (try split) <;> intro hi <;> omega
      have hS1 := Same.seq S1 hS
      walk_at "go"
      intro b H2 x y z nb S2 eb
      walk_at "go"
      intro q3 H3 x3 y3 z3 pegs W Bs cs B3 eb3 hq3 ok l1 l2 l3
      walk_at "go"
      intro q4 H4 x4 y4 z4 W' B' B4 eb4 hq4 ok4
      have hq34 : PartsAt K H4 q3 pegs W Bs cs := by walk_at "pa"
      have B24 : But b H2 H4 := B3.trans B4
      clear B3 B4 hq3 l1 l2 l3
      walk_at "go"
      refine forR (fun _ σ H5 => (∃ s5 s6 s7 s8 s9 s10 s11 : Option V, σ = [some (.ref a), some (vN i), some (.ref b), some (.ref q3), some (.ref q4), s5, s6, s7, s8, s9, s10, s11]) ∧ But b H4 H5 ∧ ∃ x y z : Int, H5 b = some (bx x y z)) ⟨⟨_, _, _, _, _, _, _, rfl⟩, But.of (Same.refl _), _, _, _, eb4⟩ ?_ ?_
      · rintro j σ H5 hj ⟨⟨s5, s6, s7, s8, s9, s10, s11, rfl⟩, B5, x5, y5, z5, eb5⟩
        have hq5 : PartsAt K H5 q3 pegs W Bs cs := by walk_at "pa"
        walk_at "go"
        intro T6 p1 p2 H6 x6 y6 z6 ra rb B6 eb6 hT6 hp1 hp2 u1 t1 u2 t2
        have hq56 : PartsAt K H6 q3 pegs W Bs cs := by walk_at "pa"
        have hq46 : PartsAt K H6 q4 pegs W' B' cs := by walk_at "pa"
        have B46 : But b H4 H6 := B5.trans B6
        clear B5 B6 hq5
        walk_at "go"
        intro T7 H7 n7 S7 hT7
        have hT7 : SqT K H7 T7 (([(q3, W, Bs), (q4, W', B'), (q3, W, Bs)] : List (Addr × List (Str × Str) × List (Str × Str))).map (V.ref ∘ Prod.fst)) := SqT.of hT7
        walk_at "go"
        refine forE (t := false) (a := T7) (l := ([(q3, W, Bs), (q4, W', B'), (q3, W, Bs)] : List (Addr × List (Str × Str) × List (Str × Str)))) (enc := V.ref ∘ Prod.fst) (fun d σ H8 => (∃ s8 s9 s10 s11 : Option V, σ = [some (.ref a), some (vN i), some (.ref b), some (.ref q3), some (.ref q4), some (vN j), some (.ref p1), some (.ref p2), s8, s9, s10, s11]) ∧ Same H7 H8) ⟨⟨_, _, _, _, rfl⟩, Same.refl _⟩ ?_ ?_ ?_
        · rintro d σ H8 ⟨_, S8⟩
          exact SqB.same' S8 (sqB_f hT7)
        · rintro d ⟨qo, Wo, Bo⟩ r σ H8 H9 T9 er ⟨⟨s8, s9, s10, s11, rfl⟩, S8⟩ S9 n9 hT9
          have oo : PartsAt K H7 qo pegs Wo Bo cs ∧ Parts pegs Wo Bo cs := by
            have : (qo, Wo, Bo) ∈ ([(q3, W, Bs), (q4, W', B'), (q3, W, Bs)] : List (Addr × List (Str × Str) × List (Str × Str))) := by rw [er]; simp
            simp only [List.mem_cons, List.not_mem_nil, or_false] at this
            rcases this with e | e | e <;> cases e
            · exact ⟨PartsAt.same' S7 hq56, ok⟩
            · exact ⟨PartsAt.same' S7 hq46, ok4⟩
            · exact ⟨PartsAt.same' S7 hq56, ok⟩
          obtain ⟨hqo, oko⟩ := oo
          have hqo := PartsAt.same' (S8.trans S9) hqo
          have hp1 := Same.sqT (S7.trans (S8.trans S9)) hp1
          have hp2 := Same.sqT (S7.trans (S8.trans S9)) hp2
          have wl := oko.wl
          have bl := oko.bl
          walk_at "go"
          refine pifS (!isStB Wo Bo ra || !isStB Wo Bo rb) (fun k hk => ?_) (fun H10 S10 c => ?_) (fun H10 S10 c => ?_)
          · walk_at "go"
            intro H10 S10
            refine ⟨_, rfl, orS' (fun H' S => hk H' (S10.trans S)) (fun hk2 => ?_)⟩
            walk_at "go"
            intro H11 S11
            exact ⟨_, rfl, hk2 _ S11⟩
          · exact ⟨⟨_, _, _, _, rfl⟩, (S8.trans S9).trans S10⟩
          · rw [Bool.or_eq_false_iff, Bool.not_eq_false', Bool.not_eq_false'] at c
            have ra1 : RowSt pegs Wo Bo ra := ⟨u1, c.1⟩
            have rb1 : RowSt pegs Wo Bo rb := ⟨u2, c.2⟩
            have hqa := PartsAt.same' S10 hqo
            have hpa := Same.sqT S10 hp1
            have hpb := Same.sqT S10 hp2
            have S7a : Same H7 H10 := (S8.trans S9).trans S10
            clear S8 S9 S10 hqo hp1 hp2
            walk_at "go"
            intro xb H11 n11 S11 hxb
            have hpa := Same.sqT S11 hpa
            walk_at "go"
            intro st H12 n12 S12 hst
            have hpa := Same.sqT S12 hpa
            have hpb := Same.sqT (S11.trans S12) hpb
            have hqa := PartsAt.same' (S11.trans S12) hqa
            have S7b : Same H7 H12 := (S7a.trans S11).trans S12
            walk_at "go"
            intro T13 H13 n13 S13 hT13
            walk_at "go"
            intro T14 H14 S14 hT14
            have e14 : cutV [V.ref p2, V.ref p1] none (some (1 + (d.length : Int) / 2)) = (([(p2, rb), (p1, ra)].take (1 + d.length / 2)).map (V.ref ∘ Prod.fst)) := by
              rw [show (1 + (d.length : Int) / 2) = ((1 + d.length / 2 : Nat) : Int) by omega, cutV_take, List.map_take]
              rfl
            rw [e14] at hT14
            have hpa := Same.sqT (S13.trans S14) hpa
            have hpb := Same.sqT (S13.trans S14) hpb
            have hqa := PartsAt.same' (S13.trans S14) hqa
            have hst := StandAt.same' (S13.trans S14) hst
            have S7c : Same H7 H14 := (S7b.trans S13).trans S14
            have mm : ∀ z ∈ ([(p2, rb), (p1, ra)].take (1 + d.length / 2)), SqT K H14 z.1 (z.2.map V.str) ∧ RowSt pegs Wo Bo z.2 := fun z hz => by
              have := List.mem_of_mem_take hz
              simp only [List.mem_cons, List.not_mem_nil, or_false] at this
              rcases this with e | e <;> cases e
              · exact ⟨hpb, rb1⟩
              · exact ⟨hpa, ra1⟩
            generalize [(p2, rb), (p1, ra)].take (1 + d.length / 2) = zl at hT14 mm
            clear S11 S12 S13 S14 S7a S7b e14 hpb hT13 hxb
            walk_at "go"
            refine forB (t := false) (a := T14) (l := zl) (enc := V.ref ∘ Prod.fst) (fun _ σ H8 => (∃ s11 : Option V, σ = [some (.ref a), some (vN i), some (.ref b), some (.ref q3), some (.ref q4), some (vN j), some (.ref p1), some (.ref p2), some (vN d.length), some (.ref qo), some (.ref st), s11]) ∧ Same H14 H8) ⟨⟨_, rfl⟩, Same.refl _⟩ ?_ ?_ ?_
            · rintro _ σ H8 ⟨_, S8⟩
              exact SqB.same' S8 (sqB_f hT14)
            · rintro d2 ⟨pz, rz⟩ r2 σ H15 er2 ⟨⟨s11, rfl⟩, S15⟩
              obtain ⟨hz1, hz2⟩ := mm (pz, rz) (by rw [er2]; simp)
              have hz1 := Same.sqT S15 hz1
              walk_at "go"
              refine pifS false (fun k hk => ?_) (fun _ _ c => by cases c) (fun H16 S16 _ => ⟨⟨_, rfl⟩, S15.trans S16⟩)
              walk_at "go"
              intro H16 S16
              exact ⟨_, rfl, hk _ S16⟩
            · rintro σ H15 ⟨⟨s11, rfl⟩, S15⟩
              exact ⟨⟨_, _, _, _, rfl⟩, S7c.trans S15⟩
        · rintro σ H8 ⟨⟨s8, s9, s10, s11, rfl⟩, S8⟩
          exact ⟨⟨_, _, _, _, _, _, _, rfl⟩, (B46.trans (But.of S7)).trans (But.of S8), _, _, _, S8 _ _ (S7 _ _ eb6)⟩
      · rintro σ H5 ⟨⟨s5, s6, s7, s8, s9, s10, s11, rfl⟩, B5, _⟩
        exact ⟨⟨_, _, _, _, _, _, _, _, _, _, _, rfl⟩, S1.trans (But.fin nb S2 (B24.trans B5))⟩
    · rintro σ H1 ⟨_, S1⟩
      exact q _
end
end Lw

set_option Elab.async false
set_option linter.all false
set_option maxRecDepth 100000
set_option maxHeartbeats 4000000
namespace Lw
open PySem PySem.Spec PyProof.Rows L2 Np TL
/-! ### the errors that are raised; the call of Board with keywords -/
section
variable {P : Program} {w : World} {K : PySem.W.Frag} {mg : Str → Option Value} {base : Heap}
theorem scNoPegInit : FnScope ["self", "peg"] ["self", "peg"] (defScope sNoPegInit) := ⟨rfl, rfl, rfl, by decide +kernel, rfl, by decide +kernel, by decide +kernel⟩
theorem scMissingInit : FnScope ["self", "peg", "needed"] ["self", "peg", "needed"] (defScope sMissingInit) := ⟨rfl, rfl, rfl, by decide +kernel, rfl, by decide +kernel, by decide +kernel⟩
theorem scBarredInit : FnScope ["self", "peg", "other"] ["self", "peg", "other"] (defScope sBarredInit) := ⟨rfl, rfl, rfl, by decide +kernel, rfl, by decide +kernel, by decide +kernel⟩
theorem okI_NoPeg {fI C : Addr} {fd : FuncData} (F : FunD K "__init__" "NoPeg.__init__" (defArgs sNoPegInit) (defBody sNoPegInit) (defScope sNoPegInit) [] [] fI fd) (h0 : ExS K C "peg") : FnOk P w K mg base CX0 1 fI fd ["self", "peg"] (spInit C ["peg"]) := by
  refine F.ok scNoPegInit spInit_len (fun cdv A outer s H vs Q E hr h => ?_)
  obtain ⟨a, ws, rfl, hl, ha, k⟩ := h
  obtain ⟨v0, rfl⟩ : ∃ v0 : V, ws = [v0] := by
    match ws, hl with
    | [a0], _ => exact ⟨a0, rfl⟩
  refine ⟨_, PSs.nox (pss_one (ps_fe (pv 0) (pv 1))), ?_⟩
  refine ⟨_, rfl, _, rfl, a, C, rfl, h0, .inl ⟨ha, fun dx n ne => ?_⟩⟩
  exact k dx _ n (But.trans (But.of (Same.new n)) But.upd) upd_same ((upd_ne ne).trans upd_same)
theorem okI_Missing {fI C : Addr} {fd : FuncData} (F : FunD K "__init__" "Missing.__init__" (defArgs sMissingInit) (defBody sMissingInit) (defScope sMissingInit) [] [] fI fd) (h0 : ExS K C "peg") (h1 : ExS K C "needed") : FnOk P w K mg base CX0 1 fI fd ["self", "peg", "needed"] (spInit C ["peg", "needed"]) := by
  refine F.ok scMissingInit spInit_len (fun cdv A outer s H vs Q E hr h => ?_)
  obtain ⟨a, ws, rfl, hl, ha, k⟩ := h
  obtain ⟨v0, v1, rfl⟩ : ∃ v0 v1 : V, ws = [v0, v1] := by
    match ws, hl with
    | [a0, a1], _ => exact ⟨a0, a1, rfl⟩
  refine ⟨_, PSs.nox (pss_cons (ps_fe (pv 0) (pv 1)) (pss_one (ps_fe (pv 0) (pv 2)))), ?_⟩
  refine ⟨_, rfl, _, rfl, a, C, rfl, h0, .inl ⟨ha, fun dx n ne => ?_⟩⟩
  refine ⟨_, rfl, _, rfl, a, C, rfl, h1, .inr ⟨dx, _, upd_same, (upd_ne ne).trans upd_same, by show 1 ≤ 900; decide, ?_⟩⟩
  refine k dx _ n (fun b o nb hb => ?_) ?_ upd_same
  · have nd : b ≠ dx := ne_of_none hb n
    rw [upd_ne nd, upd_ne nb, upd_ne nd]
    exact hb
  · rw [upd_ne ne.symm, upd_same]
theorem okI_Barred {fI C : Addr} {fd : FuncData} (F : FunD K "__init__" "Barred.__init__" (defArgs sBarredInit) (defBody sBarredInit) (defScope sBarredInit) [] [] fI fd) (h0 : ExS K C "peg") (h1 : ExS K C "other") : FnOk P w K mg base CX0 1 fI fd ["self", "peg", "other"] (spInit C ["peg", "other"]) := by
  refine F.ok scBarredInit spInit_len (fun cdv A outer s H vs Q E hr h => ?_)
  obtain ⟨a, ws, rfl, hl, ha, k⟩ := h
  obtain ⟨v0, v1, rfl⟩ : ∃ v0 v1 : V, ws = [v0, v1] := by
    match ws, hl with
    | [a0, a1], _ => exact ⟨a0, a1, rfl⟩
  refine ⟨_, PSs.nox (pss_cons (ps_fe (pv 0) (pv 1)) (pss_one (ps_fe (pv 0) (pv 2)))), ?_⟩
  refine ⟨_, rfl, _, rfl, a, C, rfl, h0, .inl ⟨ha, fun dx n ne => ?_⟩⟩
  refine ⟨_, rfl, _, rfl, a, C, rfl, h1, .inr ⟨dx, _, upd_same, (upd_ne ne).trans upd_same, by show 1 ≤ 900; decide, ?_⟩⟩
  refine k dx _ n (fun b o nb hb => ?_) ?_ upd_same
  · have nd : b ≠ dx := ne_of_none hb n
    rw [upd_ne nd, upd_ne nb, upd_ne nd]
    exact hb
  · rw [upd_ne ne.symm, upd_same]
theorem kbn_board {f : Addr} {fd : FuncData} (F : FunD K "__init__" "Board.__init__" (defArgs sBoardInit) (defBody sBoardInit) (defScope sBoardInit) [] [] f fd) : KBn K fd ["self", "pegs", "needs", "bars", "costs"] 2 ["needs", "bars", "costs"] (fun us ws => us ++ ws) (fun vs zs => vs ++ zs) := by
  obtain ⟨oc, od, dV, kV, doc, pm, an, cdv, ct, osl, rfl, lk, hcd, hD, hK⟩ := F.ex
  rcases hD with ⟨_, rfl⟩ | ⟨e, _⟩
  · refine ⟨fun s us ws X l1 l2 => ?_, fun r1 r2 => r1.append r2⟩
    match us, l1, ws, l2 with
    | [u0, u1], _, [w0, w1, w2], _ => exact .of_eq rfl
  · exact absurd rfl e
theorem calK_board {f : Addr} {fd : FuncData} (g : mg "Board" = some (.ref (cB K))) (M : Mk K (cB K) f) (F : FunD K "__init__" "Board.__init__" (defArgs sBoardInit) (defBody sBoardInit) (defScope sBoardInit) [] [] f fd)
    (ok : FnOk P w K mg base CX0 4 f fd ["self", "pegs", "needs", "bars", "costs"] (spBoardInit K)) : CalK P w K mg base 4 "Board" (cB K) 1 ["needs", "bars", "costs"] (spKB K) := by
  refine ⟨f, fd, _, _, _, _, g, M, ok, kbn_board F, fun vs zs H Q l1 l2 h => ?_⟩
  obtain ⟨x, dx, p, n, b, c, tp, tn, tb, tc, pegs, ns, bs, W, B, cs, rfl, rfl, h3⟩ := h
  exact ⟨x, dx, p, n, b, c, tp, tn, tb, tc, pegs, ns, bs, W, B, cs, rfl, h3⟩
end
end Lw

set_option Elab.async false
set_option linter.all false
set_option maxRecDepth 100000
set_option maxHeartbeats 4000000
namespace Lw
open PySem PySem.Spec PyProof.Rows L2 Np TL
section
variable {P : Program} {w : World} {K : PySem.W.Frag} {mg : Str → Option Value} {base h : Heap}
theorem blOf (X : K.In h) (G : h.Ns mainGlobals mg) (c : He.SaysD fas fns K) : Bl mg where
  len := He.free_ok X G (c.fact 45 (f := .free "len") rfl)
  int := He.free_ok X G (c.fact 46 (f := .free "int") rfl)
  range := He.free_ok X G (c.fact 47 (f := .free "range") rfl)
  repr := He.free_ok X G (c.fact 48 (f := .free "repr") rfl)
  isinstance := He.free_ok X G (c.fact 49 (f := .free "isinstance") rfl)
  list := He.free_ok X G (c.fact 50 (f := .free "list") rfl)
  enumerate := He.free_ok X G (c.fact 51 (f := .free "enumerate") rfl)
  ValueError := He.free_ok X G (c.fact 52 (f := .free "ValueError") rfl)
  KeyError := He.free_ok X G (c.fact 53 (f := .free "KeyError") rfl)
  IndexError := He.free_ok X G (c.fact 54 (f := .free "IndexError") rfl)
  all := He.free_ok X G (c.fact 55 (f := .free "all") rfl)
  sum := He.free_ok X G (c.fact 56 (f := .free "sum") rfl)
  tuple := He.free_ok X G (c.fact 57 (f := .free "tuple") rfl)
  dict := He.free_ok X G (c.fact 58 (f := .free "dict") rfl)
  max := He.free_ok X G (c.fact 59 (f := .free "max") rfl)
  min := He.free_ok X G (c.fact 60 (f := .free "min") rfl)
  str := He.free_ok X G (c.fact 61 (f := .free "str") rfl)
  bool := He.free_ok X G (c.fact 62 (f := .free "bool") rfl)
  zip := He.free_ok X G (c.fact 63 (f := .free "zip") rfl)
  sorted := He.free_ok X G (c.fact 64 (f := .free "sorted") rfl)
  abs := He.free_ok X G (c.fact 65 (f := .free "abs") rfl)
  any := He.free_ok X G (c.fact 66 (f := .free "any") rfl)
theorem facts {f : Addr} (X : K.In h) (G : h.Ns mainGlobals mg) (hfa : mg ("law" : Str) = some (.ref f)) (c : He.SaysD fas fns K) (gw : getW gets K = getV gets) (ex : (exB K && getB gets K) = true) :
    ∃ fd : FuncData, (∀ (s : Shared) (v : Value), BindsTo s fd ⟨[v], []⟩ [("_law_script", v)]) ∧ ∀ base : Heap, K.In base → base.Ns mainGlobals mg → FnG P w K mg base CX0 10 f fd ["_law_script"] (spLaw K) := by
  have m := blOf X G c
  rw [Bool.and_eq_true] at ex
  obtain ⟨ex, gb⟩ := ex
  simp only [exB, Bool.and_eq_true] at ex
  obtain ⟨xNoPeg, xMissing, xBarred, nBoard, nStand, hne, bCall, bRead, bMost, kBB, iB, nB, sS, nNoPeg, nMissing, nBarred⟩ := ex
  have free : ∀ {C : Addr} {l : List Str}, l.all (fun f => He.eqO (PySem.W.findIn K (.ref C) f) (some none)) = true → ∀ f ∈ l, PySem.W.findIn K (.ref C) f = some none := fun h f hf => He.eqO_ok (List.all_eq_true.mp h f hf)
  have G_places_in := He.glo_ok X G (c.fact 0 (f := .glo "places_in") rfl)
  have G_first_place := He.glo_ok X G (c.fact 1 (f := .glo "first_place") rfl)
  have G_mask_with := He.glo_ok X G (c.fact 2 (f := .glo "mask_with") rfl)
  have G_names_in := He.glo_ok X G (c.fact 3 (f := .glo "names_in") rfl)
  have G_joined := He.glo_ok X G (c.fact 4 (f := .glo "joined") rfl)
  have G_right_name := He.glo_ok X G (c.fact 5 (f := .glo "right_name") rfl)
  have G_precedence := He.glo_ok X G (c.fact 6 (f := .glo "precedence") rfl)
  have G_comes_before := He.glo_ok X G (c.fact 7 (f := .glo "comes_before") rfl)
  have G_check_form := He.glo_ok X G (c.fact 8 (f := .glo "check_form") rfl)
  have G_is_row := He.glo_ok X G (c.fact 9 (f := .glo "is_row") rfl)
  have G_is_row_of_pairs := He.glo_ok X G (c.fact 10 (f := .glo "is_row_of_pairs") rfl)
  have G_is_pair := He.glo_ok X G (c.fact 11 (f := .glo "is_pair") rfl)
  have G_is_row_of_integers := He.glo_ok X G (c.fact 12 (f := .glo "is_row_of_integers") rfl)
  have G_check_pegs := He.glo_ok X G (c.fact 13 (f := .glo "check_pegs") rfl)
  have G_check_costs := He.glo_ok X G (c.fact 14 (f := .glo "check_costs") rfl)
  have G_right_cost := He.glo_ok X G (c.fact 15 (f := .glo "right_cost") rfl)
  have G_pair_places := He.glo_ok X G (c.fact 16 (f := .glo "pair_places") rfl)
  have G_below_masks := He.glo_ok X G (c.fact 17 (f := .glo "below_masks") rfl)
  have G_above_masks := He.glo_ok X G (c.fact 18 (f := .glo "above_masks") rfl)
  have G_clash_masks := He.glo_ok X G (c.fact 19 (f := .glo "clash_masks") rfl)
  have G_barred_masks := He.glo_ok X G (c.fact 20 (f := .glo "barred_masks") rfl)
  have G_rows_that_meet := He.glo_ok X G (c.fact 21 (f := .glo "rows_that_meet") rfl)
  have G_needs_order := He.glo_ok X G (c.fact 22 (f := .glo "needs_order") rfl)
  have G_check_needs := He.glo_ok X G (c.fact 23 (f := .glo "check_needs") rfl)
  have G_check_bars := He.glo_ok X G (c.fact 24 (f := .glo "check_bars") rfl)
  have G__law_box := He.glo_ok X G (c.fact 25 (f := .glo "_law_box") rfl)
  have G__law_take := He.glo_ok X G (c.fact 26 (f := .glo "_law_take") rfl)
  have G__law_mixed := He.glo_ok X G (c.fact 27 (f := .glo "_law_mixed") rfl)
  have G__law_names := He.glo_ok X G (c.fact 28 (f := .glo "_law_names") rfl)
  have G__law_rows := He.glo_ok X G (c.fact 29 (f := .glo "_law_rows") rfl)
  have G__law_is_barred := He.glo_ok X G (c.fact 30 (f := .glo "_law_is_barred") rfl)
  have G__law_parts := He.glo_ok X G (c.fact 31 (f := .glo "_law_parts") rfl)
  have G__law_board := He.glo_ok X G (c.fact 32 (f := .glo "_law_board") rfl)
  have G__law_is_stand := He.glo_ok X G (c.fact 33 (f := .glo "_law_is_stand") rfl)
  have G__law_some_stand := He.glo_ok X G (c.fact 34 (f := .glo "_law_some_stand") rfl)
  have G__law_two := He.glo_ok X G (c.fact 35 (f := .glo "_law_two") rfl)
  have G__law_before := He.glo_ok X G (c.fact 36 (f := .glo "_law_before") rfl)
  have G__law_near_parts := He.glo_ok X G (c.fact 37 (f := .glo "_law_near_parts") rfl)
  have G__law_pair_right := He.glo_ok X G (c.fact 38 (f := .glo "_law_pair_right") rfl)
  have G_law := He.glo_ok X G (c.fact 39 (f := .glo "law") rfl)
  have G_Board := He.glo_ok X G (c.fact 40 (f := .glo "Board") rfl)
  have G_Stand := He.glo_ok X G (c.fact 41 (f := .glo "Stand") rfl)
  have G_NoPeg := He.glo_ok X G (c.fact 42 (f := .glo "NoPeg") rfl)
  have G_Missing := He.glo_ok X G (c.fact 43 (f := .glo "Missing") rfl)
  have G_Barred := He.glo_ok X G (c.fact 44 (f := .glo "Barred") rfl)
  have cls_Board : Cls K (cB K) := He.cls_ok (c.fact 67 (f := .cls "Board") rfl)
  have mk_Board := He.mkr_ok (c.fact 69 (f := .mkr "Board") rfl)
  have cls_Stand : Cls K (cS K) := He.cls_ok (c.fact 68 (f := .cls "Stand") rfl)
  have mk_Stand := He.mkr_ok (c.fact 70 (f := .mkr "Stand") rfl)
  have M_Board_place_of := He.meth_ok (c.fact 71 (f := .meth "Board" "place_of") rfl)
  have M_Board_mask_of := He.meth_ok (c.fact 72 (f := .meth "Board" "mask_of") rfl)
  have M_Board_pegs_of := He.meth_ok (c.fact 73 (f := .meth "Board" "pegs_of") rfl)
  have M_Board_below_mask := He.meth_ok (c.fact 74 (f := .meth "Board" "below_mask") rfl)
  have M_Board_clash_mask := He.meth_ok (c.fact 75 (f := .meth "Board" "clash_mask") rfl)
  have M_Board_needs := He.meth_ok (c.fact 76 (f := .meth "Board" "needs") rfl)
  have M_Board_clash := He.meth_ok (c.fact 77 (f := .meth "Board" "clash") rfl)
  have M_Board___eq__ := He.meth_ok (c.fact 78 (f := .meth "Board" "__eq__") rfl)
  have M_Stand___contains__ := He.meth_ok (c.fact 79 (f := .meth "Stand" "__contains__") rfl)
  have M_Stand___xor__ := He.meth_ok (c.fact 80 (f := .meth "Stand" "__xor__") rfl)
  have M_Stand_check_board := He.meth_ok (c.fact 81 (f := .meth "Stand" "check_board") rfl)
  have M_NoPeg := He.meth_ok (c.fact 82 (f := .meth "NoPeg" "__init__") rfl)
  have M_Missing := He.meth_ok (c.fact 83 (f := .meth "Missing" "__init__") rfl)
  have M_Barred := He.meth_ok (c.fact 84 (f := .meth "Barred" "__init__") rfl)
  obtain ⟨fd_places_in, F_places_in⟩ := c.def_ 0 (d := tdef "places_in" sPlacesIn) rfl
  obtain ⟨fd_first_place, F_first_place⟩ := c.def_ 1 (d := tdef "first_place" sFirstPlace) rfl
  obtain ⟨fd_mask_with, F_mask_with⟩ := c.def_ 2 (d := tdef "mask_with" sMaskWith) rfl
  obtain ⟨fd_names_in, F_names_in⟩ := c.def_ 3 (d := tdef "names_in" sNamesIn) rfl
  obtain ⟨fd_joined, F_joined⟩ := c.def_ 4 (d := tdef "joined" sJoined) rfl
  obtain ⟨fd_right_name, F_right_name⟩ := c.def_ 5 (d := tdef "right_name" sRightName) rfl
  obtain ⟨fd_precedence, F_precedence⟩ := c.def_ 6 (d := tdef "precedence" sPrecedence) rfl
  obtain ⟨fd_comes_before, F_comes_before⟩ := c.def_ 7 (d := tdef "comes_before" sComesBefore) rfl
  obtain ⟨fd_check_form, F_check_form⟩ := c.def_ 8 (d := tdef "check_form" sCheckForm) rfl
  obtain ⟨fd_is_row, F_is_row⟩ := c.def_ 9 (d := tdef "is_row" sIsRow) rfl
  obtain ⟨fd_is_row_of_pairs, F_is_row_of_pairs⟩ := c.def_ 10 (d := tdef "is_row_of_pairs" sIsRowOfPairs) rfl
  obtain ⟨fd_is_pair, F_is_pair⟩ := c.def_ 11 (d := tdef "is_pair" sIsPair) rfl
  obtain ⟨fd_is_row_of_integers, F_is_row_of_integers⟩ := c.def_ 12 (d := tdef "is_row_of_integers" sIsRowOfIntegers) rfl
  obtain ⟨fd_check_pegs, F_check_pegs⟩ := c.def_ 13 (d := tdef "check_pegs" sCheckPegs) rfl
  obtain ⟨fd_check_costs, F_check_costs⟩ := c.def_ 14 (d := tdef "check_costs" sCheckCosts) rfl
  obtain ⟨fd_right_cost, F_right_cost⟩ := c.def_ 15 (d := tdef "right_cost" sRightCost) rfl
  obtain ⟨fd_pair_places, F_pair_places⟩ := c.def_ 16 (d := tdef "pair_places" sPairPlaces) rfl
  obtain ⟨fd_below_masks, F_below_masks⟩ := c.def_ 17 (d := tdef "below_masks" sBelowMasks) rfl
  obtain ⟨fd_above_masks, F_above_masks⟩ := c.def_ 18 (d := tdef "above_masks" sAboveMasks) rfl
  obtain ⟨fd_clash_masks, F_clash_masks⟩ := c.def_ 19 (d := tdef "clash_masks" sClashMasks) rfl
  obtain ⟨fd_barred_masks, F_barred_masks⟩ := c.def_ 20 (d := tdef "barred_masks" sBarredMasks) rfl
  obtain ⟨fd_rows_that_meet, F_rows_that_meet⟩ := c.def_ 21 (d := tdef "rows_that_meet" sRowsThatMeet) rfl
  obtain ⟨fd_needs_order, F_needs_order⟩ := c.def_ 22 (d := tdef "needs_order" sNeedsOrder) rfl
  obtain ⟨fd_check_needs, F_check_needs⟩ := c.def_ 23 (d := tdef "check_needs" sCheckNeeds) rfl
  obtain ⟨fd_check_bars, F_check_bars⟩ := c.def_ 24 (d := tdef "check_bars" sCheckBars) rfl
  obtain ⟨fd__law_box, F__law_box⟩ := c.def_ 25 (d := tdef "_law_box" sBox) rfl
  obtain ⟨fd__law_take, F__law_take⟩ := c.def_ 26 (d := tdef "_law_take" sTake) rfl
  obtain ⟨fd__law_mixed, F__law_mixed⟩ := c.def_ 27 (d := tdef "_law_mixed" sMixed) rfl
  obtain ⟨fd__law_names, F__law_names⟩ := c.def_ 28 (d := tdef "_law_names" sNames) rfl
  obtain ⟨fd__law_rows, F__law_rows⟩ := c.def_ 29 (d := tdef "_law_rows" sRows) rfl
  obtain ⟨fd__law_is_barred, F__law_is_barred⟩ := c.def_ 30 (d := tdef "_law_is_barred" sIsBarred) rfl
  obtain ⟨fd__law_parts, F__law_parts⟩ := c.def_ 31 (d := tdef "_law_parts" sParts) rfl
  obtain ⟨fd__law_board, F__law_board⟩ := c.def_ 32 (d := tdef "_law_board" sBoard) rfl
  obtain ⟨fd__law_is_stand, F__law_is_stand⟩ := c.def_ 33 (d := tdef "_law_is_stand" sIsStand) rfl
  obtain ⟨fd__law_some_stand, F__law_some_stand⟩ := c.def_ 34 (d := tdef "_law_some_stand" sSomeStand) rfl
  obtain ⟨fd__law_two, F__law_two⟩ := c.def_ 35 (d := tdef "_law_two" sTwo) rfl
  obtain ⟨fd__law_before, F__law_before⟩ := c.def_ 36 (d := tdef "_law_before" sBefore) rfl
  obtain ⟨fd__law_near_parts, F__law_near_parts⟩ := c.def_ 37 (d := tdef "_law_near_parts" sNearParts) rfl
  obtain ⟨fd__law_pair_right, F__law_pair_right⟩ := c.def_ 38 (d := tdef "_law_pair_right" sPairRight) rfl
  obtain ⟨fd_law, F_law⟩ := c.def_ 39 (d := tdef "law" sLaw) rfl
  obtain ⟨fd_Board___init__, F_Board___init__⟩ := c.def_ 40 (d := mdef "Board" "__init__" "Board.__init__" sBoardInit) rfl
  obtain ⟨fd_Board_place_of, F_Board_place_of⟩ := c.def_ 41 (d := mdef "Board" "place_of" "Board.place_of" sBoardPlaceOf) rfl
  obtain ⟨fd_Board_mask_of, F_Board_mask_of⟩ := c.def_ 42 (d := mdef "Board" "mask_of" "Board.mask_of" sBoardMaskOf) rfl
  obtain ⟨fd_Board_pegs_of, F_Board_pegs_of⟩ := c.def_ 43 (d := mdef "Board" "pegs_of" "Board.pegs_of" sBoardPegsOf) rfl
  obtain ⟨fd_Board_below_mask, F_Board_below_mask⟩ := c.def_ 44 (d := mdef "Board" "below_mask" "Board.below_mask" sBoardBelowMask) rfl
  obtain ⟨fd_Board_clash_mask, F_Board_clash_mask⟩ := c.def_ 45 (d := mdef "Board" "clash_mask" "Board.clash_mask" sBoardClashMask) rfl
  obtain ⟨fd_Board_needs, F_Board_needs⟩ := c.def_ 46 (d := mdef "Board" "needs" "Board.needs" sBoardNeeds) rfl
  obtain ⟨fd_Board_clash, F_Board_clash⟩ := c.def_ 47 (d := mdef "Board" "clash" "Board.clash" sBoardClash) rfl
  obtain ⟨fd_Board___call__, F_Board___call__⟩ := c.def_ 48 (d := mdef "Board" "__call__" "Board.__call__" sBoardCall) rfl
  obtain ⟨fd_Board___eq__, F_Board___eq__⟩ := c.def_ 49 (d := mdef "Board" "__eq__" "Board.__eq__" sBoardEq) rfl
  obtain ⟨fd_Stand___init__, F_Stand___init__⟩ := c.def_ 50 (d := mdef "Stand" "__init__" "Stand.__init__" sStandInit) rfl
  obtain ⟨fd_Stand___contains__, F_Stand___contains__⟩ := c.def_ 51 (d := mdef "Stand" "__contains__" "Stand.__contains__" sStandContains) rfl
  obtain ⟨fd_Stand___xor__, F_Stand___xor__⟩ := c.def_ 52 (d := mdef "Stand" "__xor__" "Stand.__xor__" sStandXor) rfl
  obtain ⟨fd_Stand_check_board, F_Stand_check_board⟩ := c.def_ 53 (d := mdef "Stand" "check_board" "Stand.check_board" sStandCheckBoard) rfl
  obtain ⟨fd_NoPeg___init__, F_NoPeg___init__⟩ := c.def_ 54 (d := mdef "NoPeg" "__init__" "NoPeg.__init__" sNoPegInit) rfl
  obtain ⟨fd_Missing___init__, F_Missing___init__⟩ := c.def_ 55 (d := mdef "Missing" "__init__" "Missing.__init__" sMissingInit) rfl
  obtain ⟨fd_Barred___init__, F_Barred___init__⟩ := c.def_ 56 (d := mdef "Barred" "__init__" "Barred.__init__" sBarredInit) rfl
  obtain ⟨fd_Board_pegs, P_Board_pegs, F_Board_pegs⟩ := get_ok gw gb 0
  obtain ⟨fd_Stand_pegs, P_Stand_pegs, F_Stand_pegs⟩ := get_ok gw gb 1
  obtain ⟨fd_Stand_board, P_Stand_board, F_Stand_board⟩ := get_ok gw gb 2
  have e := hfa.symm.trans G_law
  cases e
  refine ⟨fd_law, fun s v => FunD.bindsA (ps := ["_law_script"]) F_law (fun _ _ _ _ _ _ us hl => match us, hl with | [_], _ => rfl) s [v] rfl, fun base _ _ => ?_⟩
  obtain ⟨tS_LETTERS, hLETTERS⟩ := He.str_ok X G (c.fact 85 (f := .str "LETTERS" lettersS) rfl)
  obtain ⟨tI_LEAST_COST, hLEAST⟩ := He.int_ok X G (c.fact 86 (f := .int "LEAST_COST" 1) rfl)
  obtain ⟨tI_MOST_COST, hMOST⟩ := He.int_ok X G (c.fact 87 (f := .int "MOST_COST" 1000) rfl)
  have C__law_take : Callee P w K mg base 1 "_law_take" ["_law_box_here", "_law_many"] spTake := ⟨_, fd__law_take, G__law_take, ok_take F__law_take, F__law_take.kp, (F__law_take.bindsN fun _ _ _ _ _ _ us hl => match us, hl with | [_, _], _ => rfl)⟩
  have C__law_box : Callee P w K mg base 1 "_law_box" ["_law_script", "_law_k"] (spBox K) := ⟨_, fd__law_box, G__law_box, ok_box F__law_box m, F__law_box.kp, (F__law_box.bindsN fun _ _ _ _ _ _ us hl => match us, hl with | [_, _], _ => rfl)⟩
  have C__law_mixed : Callee P w K mg base 2 "_law_mixed" ["_law_box_here", "_law_things"] (spMixed K) := ⟨_, fd__law_mixed, G__law_mixed, ok_mixed F__law_mixed m C__law_take, F__law_mixed.kp, (F__law_mixed.bindsN fun _ _ _ _ _ _ us hl => match us, hl with | [_, _], _ => rfl)⟩
  have C__law_names : Callee P w K mg base 3 "_law_names" ["_law_box_here", "_law_many"] spNames := ⟨_, fd__law_names, G__law_names, ok_names F__law_names m C__law_take C__law_mixed, F__law_names.kp, (F__law_names.bindsN fun _ _ _ _ _ _ us hl => match us, hl with | [_, _], _ => rfl)⟩
  have C__law_rows : Callee P w K mg base 1 "_law_rows" ["_law_pegs", "_law_wants"] (spRows K) := ⟨_, fd__law_rows, G__law_rows, ok_rows F__law_rows m, F__law_rows.kp, (F__law_rows.bindsN fun _ _ _ _ _ _ us hl => match us, hl with | [_, _], _ => rfl)⟩
  have C__law_is_barred : Callee P w K mg base 1 "_law_is_barred" ["_law_row", "_law_other", "_law_blocks"] (spIsBarred K) := ⟨_, fd__law_is_barred, G__law_is_barred, ok_is_barred F__law_is_barred m, F__law_is_barred.kp, (F__law_is_barred.bindsN fun _ _ _ _ _ _ us hl => match us, hl with | [_, _, _], _ => rfl)⟩
  have C_places_in : Callee P w K mg base 1 "places_in" ["mask"] (spPlaces K) := ⟨_, fd_places_in, G_places_in, ok_places_in F_places_in m, F_places_in.kp, (F_places_in.bindsN fun _ _ _ _ _ _ us hl => match us, hl with | [_], _ => rfl)⟩
  have C_first_place : Callee P w K mg base 2 "first_place" ["mask"] spFirst := ⟨_, fd_first_place, G_first_place, ok_first_place F_first_place C_places_in, F_first_place.kp, (F_first_place.bindsN fun _ _ _ _ _ _ us hl => match us, hl with | [_], _ => rfl)⟩
  have C_mask_with : Callee P w K mg base 1 "mask_with" ["places"] (spMaskWith K) := ⟨_, fd_mask_with, G_mask_with, ok_mask_with F_mask_with m, F_mask_with.kp, (F_mask_with.bindsN fun _ _ _ _ _ _ us hl => match us, hl with | [_], _ => rfl)⟩
  have C_joined : Callee P w K mg base 2 "joined" ["rows", "mask"] (spJoined K) := ⟨_, fd_joined, G_joined, ok_joined F_joined C_places_in, F_joined.kp, (F_joined.bindsN fun _ _ _ _ _ _ us hl => match us, hl with | [_, _], _ => rfl)⟩
  have C_rows_that_meet : Callee P w K mg base 2 "rows_that_meet" ["rows", "mask"] (spMeet K) := ⟨_, fd_rows_that_meet, G_rows_that_meet, ok_rows_that_meet F_rows_that_meet m C_mask_with, F_rows_that_meet.kp, (F_rows_that_meet.bindsN fun _ _ _ _ _ _ us hl => match us, hl with | [_, _], _ => rfl)⟩
  have C_below_masks : Callee P w K mg base 1 "below_masks" ["many", "needs"] (spBelow K) := ⟨_, fd_below_masks, G_below_masks, ok_below_masks F_below_masks m, F_below_masks.kp, (F_below_masks.bindsN fun _ _ _ _ _ _ us hl => match us, hl with | [_, _], _ => rfl)⟩
  have C_above_masks : Callee P w K mg base 3 "above_masks" ["below"] (spAbove K) := ⟨_, fd_above_masks, G_above_masks, ok_above_masks F_above_masks m C_rows_that_meet, F_above_masks.kp, (F_above_masks.bindsN fun _ _ _ _ _ _ us hl => match us, hl with | [_], _ => rfl)⟩
  have C_barred_masks : Callee P w K mg base 1 "barred_masks" ["many", "bars"] (spBarred K) := ⟨_, fd_barred_masks, G_barred_masks, ok_barred_masks F_barred_masks, F_barred_masks.kp, (F_barred_masks.bindsN fun _ _ _ _ _ _ us hl => match us, hl with | [_, _], _ => rfl)⟩
  have C_clash_masks : Callee P w K mg base 3 "clash_masks" ["below", "bars"] (spClash K) := ⟨_, fd_clash_masks, G_clash_masks, ok_clash_masks F_clash_masks m C_barred_masks C_joined C_rows_that_meet, F_clash_masks.kp, (F_clash_masks.bindsN fun _ _ _ _ _ _ us hl => match us, hl with | [_, _], _ => rfl)⟩
  have C_right_name : Callee P w K mg base 1 "right_name" ["text"] spRight := ⟨_, fd_right_name, G_right_name, ok_right_name F_right_name m hLETTERS, F_right_name.kp, (F_right_name.bindsN fun _ _ _ _ _ _ us hl => match us, hl with | [_], _ => rfl)⟩
  have C_is_row : Callee P w K mg base 1 "is_row" ["value"] (spIsRow K) := ⟨_, fd_is_row, G_is_row, ok_is_row F_is_row m, F_is_row.kp, (F_is_row.bindsN fun _ _ _ _ _ _ us hl => match us, hl with | [_], _ => rfl)⟩
  have C_is_pair : Callee P w K mg base 1 "is_pair" ["value"] (spIsPair K) := ⟨_, fd_is_pair, G_is_pair, ok_is_pair F_is_pair m, F_is_pair.kp, (F_is_pair.bindsN fun _ _ _ _ _ _ us hl => match us, hl with | [_], _ => rfl)⟩
  have C_is_row_of_pairs : Callee P w K mg base 2 "is_row_of_pairs" ["value"] (spIsPairs K) := ⟨_, fd_is_row_of_pairs, G_is_row_of_pairs, ok_is_row_of_pairs F_is_row_of_pairs m C_is_row C_is_pair, F_is_row_of_pairs.kp, (F_is_row_of_pairs.bindsN fun _ _ _ _ _ _ us hl => match us, hl with | [_], _ => rfl)⟩
  have C_is_row_of_integers : Callee P w K mg base 2 "is_row_of_integers" ["value"] (spIsInts K) := ⟨_, fd_is_row_of_integers, G_is_row_of_integers, ok_is_row_of_integers F_is_row_of_integers m C_is_row, F_is_row_of_integers.kp, (F_is_row_of_integers.bindsN fun _ _ _ _ _ _ us hl => match us, hl with | [_], _ => rfl)⟩
  have C_check_form : Callee P w K mg base 3 "check_form" ["pegs", "needs", "bars", "costs"] (spCheckForm K) := ⟨_, fd_check_form, G_check_form, ok_check_form F_check_form m C_is_row C_is_row_of_pairs C_is_row_of_integers, F_check_form.kp, (F_check_form.bindsN fun _ _ _ _ _ _ us hl => match us, hl with | [_, _, _, _], _ => rfl)⟩
  have C_check_pegs : Callee P w K mg base 2 "check_pegs" ["pegs", "most"] (spCheckPegs K) := ⟨_, fd_check_pegs, G_check_pegs, ok_check_pegs F_check_pegs m C_right_name, F_check_pegs.kp, (F_check_pegs.bindsN fun _ _ _ _ _ _ us hl => match us, hl with | [_, _], _ => rfl)⟩
  have C_right_cost : Callee P w K mg base 1 "right_cost" ["cost"] spRightCost := ⟨_, fd_right_cost, G_right_cost, ok_right_cost F_right_cost m hLEAST hMOST, F_right_cost.kp, (F_right_cost.bindsN fun _ _ _ _ _ _ us hl => match us, hl with | [_], _ => rfl)⟩
  have C_check_costs : Callee P w K mg base 2 "check_costs" ["costs", "many"] (spCheckCosts K) := ⟨_, fd_check_costs, G_check_costs, ok_check_costs F_check_costs m C_right_cost, F_check_costs.kp, (F_check_costs.bindsN fun _ _ _ _ _ _ us hl => match us, hl with | [_, _], _ => rfl)⟩
  have C_names_in : Callee P w K mg base 2 "names_in" ["names", "mask"] (spNamesIn K) := ⟨_, fd_names_in, G_names_in, ok_names_in F_names_in m C_places_in, F_names_in.kp, (F_names_in.bindsN fun _ _ _ _ _ _ us hl => match us, hl with | [_, _], _ => rfl)⟩
  have C_needs_order : Callee P w K mg base 2 "needs_order" ["below"] (spOrder K) := ⟨_, fd_needs_order, G_needs_order, ok_needs_order F_needs_order m C_places_in, F_needs_order.kp, (F_needs_order.bindsN fun _ _ _ _ _ _ us hl => match us, hl with | [_], _ => rfl)⟩
  have C_pair_places : Callee P w K mg base 1 "pair_places" ["word", "pairs", "places"] (spPairPlaces K) := ⟨_, fd_pair_places, G_pair_places, ok_pair_places F_pair_places m, F_pair_places.kp, (F_pair_places.bindsN fun _ _ _ _ _ _ us hl => match us, hl with | [_, _, _], _ => rfl)⟩
  have na_Board : ∀ f ∈ fB, NoAttr K (cB K) f := free nBoard
  have na_Stand : ∀ f ∈ fS, NoAttr K (cS K) f := free nStand
  have hne : cS K ≠ cB K := of_decide_eq_true hne
  obtain ⟨u12, v_MOST⟩ := cvalB_ok bMost
  have r_Board := creadB_ok bRead
  have e_NoPeg : ErrC P w K mg base "NoPeg" "NoPeg.__init__" sNoPegInit ["peg"] := ⟨_, fd_NoPeg___init__, G_NoPeg, ⟨⟨_, _, _, _, _, exkB_ok xNoPeg, rowK_ok⟩, M_NoPeg.at_, beq_iff_eq.mp M_NoPeg.fn⟩, okI_NoPeg F_NoPeg___init__ ⟨_, _, _, _, _, exkB_ok xNoPeg, rowK_ok, free nNoPeg "peg" (by decide)⟩, F_NoPeg___init__, (F_NoPeg___init__.bindsN fun _ _ _ _ _ _ us hl => match us, hl with | [_, _], _ => rfl)⟩
  have e_Missing : ErrC P w K mg base "Missing" "Missing.__init__" sMissingInit ["peg", "needed"] := ⟨_, fd_Missing___init__, G_Missing, ⟨⟨_, _, _, _, _, exkB_ok xMissing, rowV_ok⟩, M_Missing.at_, beq_iff_eq.mp M_Missing.fn⟩, okI_Missing F_Missing___init__ ⟨_, _, _, _, _, exkB_ok xMissing, rowV_ok, free nMissing "peg" (by decide)⟩ ⟨_, _, _, _, _, exkB_ok xMissing, rowV_ok, free nMissing "needed" (by decide)⟩, F_Missing___init__, (F_Missing___init__.bindsN fun _ _ _ _ _ _ us hl => match us, hl with | [_, _, _], _ => rfl)⟩
  have e_Barred : ErrC P w K mg base "Barred" "Barred.__init__" sBarredInit ["peg", "other"] := ⟨_, fd_Barred___init__, G_Barred, ⟨⟨_, _, _, _, _, exkB_ok xBarred, rowV_ok⟩, M_Barred.at_, beq_iff_eq.mp M_Barred.fn⟩, okI_Barred F_Barred___init__ ⟨_, _, _, _, _, exkB_ok xBarred, rowV_ok, free nBarred "peg" (by decide)⟩ ⟨_, _, _, _, _, exkB_ok xBarred, rowV_ok, free nBarred "other" (by decide)⟩, F_Barred___init__, (F_Barred___init__.bindsN fun _ _ _ _ _ _ us hl => match us, hl with | [_, _, _], _ => rfl)⟩
  have cM_place_of : CalM P w K mg base (L2.CX P w) 3 (cB K) "place_of" (spPlaceOf K) := CalM.of M_Board_place_of (ok_place_of F_Board_place_of cls_Board na_Board e_NoPeg) (F_Board_place_of.bindsN fun _ _ _ _ _ _ us hl => match us, hl with | [_, _], _ => rfl)
  have cM_mask_of : CalM P w K mg base (L2.CX P w) 4 (cB K) "mask_of" (spMaskOf K) := CalM.of M_Board_mask_of (ok_mask_of F_Board_mask_of cls_Board cM_place_of) (F_Board_mask_of.bindsN fun _ _ _ _ _ _ us hl => match us, hl with | [_, _], _ => rfl)
  have cM_pegs_of : CalM P w K mg base CX0 3 (cB K) "pegs_of" (spPegsOf K) := CalM.of M_Board_pegs_of (ok_pegs_of F_Board_pegs_of m cls_Board na_Board C_names_in) (F_Board_pegs_of.bindsN fun _ _ _ _ _ _ us hl => match us, hl with | [_, _], _ => rfl)
  have cM_below_mask : CalM P w K mg base CX0 1 (cB K) "below_mask" (spRowAt Bd.below K) := CalM.of M_Board_below_mask (ok_below_mask F_Board_below_mask cls_Board na_Board) (F_Board_below_mask.bindsN fun _ _ _ _ _ _ us hl => match us, hl with | [_, _], _ => rfl)
  have cM_clash_mask : CalM P w K mg base CX0 1 (cB K) "clash_mask" (spRowAt Bd.clash K) := CalM.of M_Board_clash_mask (ok_clash_mask F_Board_clash_mask cls_Board na_Board) (F_Board_clash_mask.bindsN fun _ _ _ _ _ _ us hl => match us, hl with | [_, _], _ => rfl)
  have cP_Board_pegs : CalP P w K mg base CX0 1 (cB K) "pegs" (spPegsB K) := CalP.of P_Board_pegs (ok_pegsB F_Board_pegs cls_Board na_Board) (F_Board_pegs.bindsN fun _ _ _ _ _ _ us hl => match us, hl with | [_], _ => rfl)
  have cP_Stand_pegs : CalP P w K mg base CX0 1 (cS K) "pegs" (spPegsS K) := CalP.of P_Stand_pegs (ok_pegsS F_Stand_pegs cls_Stand na_Stand) (F_Stand_pegs.bindsN fun _ _ _ _ _ _ us hl => match us, hl with | [_], _ => rfl)
  have cF_check_needs : CalF P w K mg base (L2.CX P w) 4 "check_needs" (spCheck "Missing" "needed" lackN K) := CalF.of G_check_needs (ok_check_needs F_check_needs cls_Board e_Missing cM_below_mask cP_Board_pegs C_first_place) (F_check_needs.bindsN fun _ _ _ _ _ _ us hl => match us, hl with | [_, _, _], _ => rfl) F_check_needs.kp
  have cF_check_bars : CalF P w K mg base (L2.CX P w) 4 "check_bars" (spCheck "Barred" "other" lackB K) := CalF.of G_check_bars (ok_check_bars F_check_bars cls_Board e_Barred cM_clash_mask cP_Board_pegs C_first_place) (F_check_bars.bindsN fun _ _ _ _ _ _ us hl => match us, hl with | [_, _, _], _ => rfl) F_check_bars.kp
  have okB := ok_board_init (P := P) (w := w) (base := base) F_Board___init__ m cls_Board na_Board G_Board r_Board v_MOST C_check_form C_check_pegs C_check_costs C_pair_places C_below_masks C_above_masks C_clash_masks C_needs_order
  have cK_Board : CalK P w K mg base 4 "Board" (cB K) 1 ["needs", "bars", "costs"] (spKB K) := calK_board G_Board mk_Board F_Board___init__ okB
  have cI_Stand : CalI P w K mg base (L2.CX P w) 5 "Stand" (cS K) (spStandInit K) := CalI.of G_Stand mk_Stand (ok_stand_init F_Stand___init__ hne cls_Board cls_Stand na_Stand cM_mask_of cM_pegs_of C_places_in cF_check_needs cF_check_bars) (F_Stand___init__.bindsN fun _ _ _ _ _ _ us hl => match us, hl with | [_, _, _], _ => rfl)
  have cO_Board : CalO P w K mg base (L2.CX P w) 7 (cB K) (spMakeS K) := CalO.of (callB_ok bCall) (ok_board_call F_Board___call__ cI_Stand) (F_Board___call__.bindsN fun _ _ _ _ _ _ us hl => match us, hl with | [_, _], _ => rfl)
  have C__law_parts : Callee P w K mg base 4 "_law_parts" ["_law_box_here", "_law_most"] (spParts K) := ⟨_, fd__law_parts, G__law_parts, ok_parts F__law_parts m C__law_take C__law_mixed C__law_names C__law_rows C__law_is_barred, F__law_parts.kp, (F__law_parts.bindsN fun _ _ _ _ _ _ us hl => match us, hl with | [_, _], _ => rfl)⟩
  have C__law_board : Callee P w K mg base 6 "_law_board" ["_law_parts_here"] (spBoard K) := ⟨_, fd__law_board, G__law_board, ok_board F__law_board cK_Board, F__law_board.kp, (F__law_board.bindsN fun _ _ _ _ _ _ us hl => match us, hl with | [_], _ => rfl)⟩
  have C__law_is_stand : Callee P w K mg base 1 "_law_is_stand" ["_law_parts_here", "_law_row"] (spIsStand K) := ⟨_, fd__law_is_stand, G__law_is_stand, ok_is_stand F__law_is_stand m, F__law_is_stand.kp, (F__law_is_stand.bindsN fun _ _ _ _ _ _ us hl => match us, hl with | [_, _], _ => rfl)⟩
  have C__law_some_stand : Callee P w K mg base 3 "_law_some_stand" ["_law_box_here", "_law_parts_here"] (spSomeStand K) := ⟨_, fd__law_some_stand, G__law_some_stand, ok_some_stand F__law_some_stand m C__law_take C__law_mixed C__law_rows C__law_is_stand, F__law_some_stand.kp, (F__law_some_stand.bindsN fun _ _ _ _ _ _ us hl => match us, hl with | [_, _], _ => rfl)⟩
  have isi_Board := isiB_ok (show isiB K (cB K) = true from iB)
  have ne_Board := neB_ok (show neB K (cB K) = true from nB)
  have ibb := of_decide_eq_true kBB
  have sf_Stand : PySem.W.selfFirst K (cS K) = true := sS
  have cO_BoardR := calO_R cO_Board
  have cP_Stand_board : CalP P w K mg base CX0 1 (cS K) "board" (spBoardOf K) := CalP.of P_Stand_board (ok_stand_board F_Stand_board cls_Stand na_Stand) (F_Stand_board.bindsN fun _ _ _ _ _ _ us hl => match us, hl with | [_], _ => rfl)
  have cM_Board_eq : CalM P w K mg base CX0 1 (cB K) "__eq__" (spEqB K) := CalM.of M_Board___eq__ (ok_board_eq F_Board___eq__ m cls_Board na_Board isi_Board G_Board ibb) (F_Board___eq__.bindsN fun _ _ _ _ _ _ us hl => match us, hl with | [_, _], _ => rfl)
  have cM_Stand_contains : CalM P w K mg base CX0 1 (cS K) "__contains__" (spHas K) := CalM.of M_Stand___contains__ (ok_stand_contains F_Stand___contains__ cls_Stand na_Stand) (F_Stand___contains__.bindsN fun _ _ _ _ _ _ us hl => match us, hl with | [_, _], _ => rfl)
  have cM_check_board : CalM P w K mg base CX0 3 (cS K) "check_board" (spSameBd K) := CalM.of M_Stand_check_board (ok_check_board F_Stand_check_board cls_Stand cls_Board isi_Board na_Stand ne_Board cP_Stand_board cM_Board_eq) (F_Stand_check_board.bindsN fun _ _ _ _ _ _ us hl => match us, hl with | [_, _], _ => rfl)
  have cM_Board_needs : CalM P w K mg base (L2.CX P w) 4 (cB K) "needs" (spNeeds K) := CalM.of M_Board_needs (ok_needs F_Board_needs cls_Board na_Board cM_place_of) (F_Board_needs.bindsN fun _ _ _ _ _ _ us hl => match us, hl with | [_, _, _], _ => rfl)
  have cM_Board_clash : CalM P w K mg base (L2.CX P w) 4 (cB K) "clash" (spClashB K) := CalM.of M_Board_clash (ok_clash F_Board_clash cls_Board na_Board cM_place_of) (F_Board_clash.bindsN fun _ _ _ _ _ _ us hl => match us, hl with | [_, _, _], _ => rfl)
  have cM_Stand___xor__ : CalM P w K mg base CX0 4 (cS K) "__xor__" (spXor K) := CalM.of M_Stand___xor__ (ok_stand_xor F_Stand___xor__ cls_Stand cls_Board na_Stand cM_check_board cM_pegs_of) (F_Stand___xor__.bindsN fun _ _ _ _ _ _ us hl => match us, hl with | [_, _], _ => rfl)
  have C_comes_before : Callee P w K mg base 5 "comes_before" ["x", "y", "b"] (spBefore K) := ⟨_, fd_comes_before, G_comes_before, ok_comes_before F_comes_before cls_Stand cls_Board cM_Stand_contains cM_Board_needs cM_Board_clash cP_Stand_board, F_comes_before.kp, (F_comes_before.bindsN fun _ _ _ _ _ _ us hl => match us, hl with | [_, _, _], _ => rfl)⟩
  have C_precedence : Callee P w K mg base 6 "precedence" ["a", "b"] (spPrec K) := ⟨_, fd_precedence, G_precedence, ok_precedence F_precedence m sf_Stand C_comes_before cM_Stand___xor__, F_precedence.kp, (F_precedence.bindsN fun _ _ _ _ _ _ us hl => match us, hl with | [_, _], _ => rfl)⟩
  have C__law_two : Callee P w K mg base 4 "_law_two" ["_law_box_here", "_law_parts_here"] (spTwo K) := ⟨_, fd__law_two, G__law_two, ok_two F__law_two C__law_some_stand, F__law_two.kp, (F__law_two.bindsN fun _ _ _ _ _ _ us hl => match us, hl with | [_, _], _ => rfl)⟩
  have C__law_before : Callee P w K mg base 2 "_law_before" ["_law_parts_here", "_law_a", "_law_b"] (spLBef K) := ⟨_, fd__law_before, G__law_before, ok_before F__law_before , F__law_before.kp, (F__law_before.bindsN fun _ _ _ _ _ _ us hl => match us, hl with | [_, _, _], _ => rfl)⟩
  have C__law_near_parts : Callee P w K mg base 4 "_law_near_parts" ["_law_box_here", "_law_parts_here"] (spNear K) := ⟨_, fd__law_near_parts, G__law_near_parts, ok_near_parts F__law_near_parts m C__law_take C__law_rows C__law_mixed C__law_is_barred, F__law_near_parts.kp, (F__law_near_parts.bindsN fun _ _ _ _ _ _ us hl => match us, hl with | [_, _], _ => rfl)⟩
  have C__law_pair_right : CalleeG P w K mg base 9 "_law_pair_right" ["_law_parts_here", "_law_a", "_law_b", "_law_start"] (spPairR K) := ⟨_, fd__law_pair_right, G__law_pair_right, ok_pair_right F__law_pair_right m cls_Stand C__law_board C__law_before C_precedence cP_Stand_board cO_BoardR, F__law_pair_right.kp, (F__law_pair_right.bindsN fun _ _ _ _ _ _ us hl => match us, hl with | [_, _, _, _], _ => rfl)⟩
  exact ok_law F_law m C__law_box C__law_parts C__law_near_parts C__law_two C__law_is_stand C__law_board C__law_pair_right cO_BoardR
end
end Lw

open PySem PySem.W PySem.Calls PyProof.Rows
set_option maxRecDepth 100000 in
set_option maxHeartbeats 0 in
theorem PySem.Challenge.cw_needpegs_k20_precedence_holds : PySem.Challenge.rw_needpegs_k20_precedence.Holds := by
  w_on; o_law
  refine HandSHeadRun.head_any (r := OpenLaw.row PySem.Challenge.rw_needpegs_k20_precedence) (q := view (OpenLaw.row PySem.Challenge.rw_needpegs_k20_precedence).prog [88]) (H := Lw.hk) (ob := Lw.ob) (M := 20000) (loose := Lw.loose) (d := HandSHeadRun.topDef (OpenLaw.row PySem.Challenge.rw_needpegs_k20_precedence).prog 88) (kwd := []) Lw.ob_eq
    (by kernel_rfl) (fun s => by kernel_rfl) Lw.run (by kernel_rfl) (by kernel_rfl) (by kernel_rfl) (by rfl) (by first | assumption | decide +kernel) (by decide +kernel) ⟨rfl, rfl, rfl, rfl, rfl, by decide +kernel⟩ ?hw ?hc
  case hw => w_witness2
  case hc =>
    refine Np.walkG (l := PySem.Challenge.rw_needpegs_k20_precedence) (n := 63) (k := 10) (x := "_law_script") rfl (by decide) (by kernel_rfl) ⟨rfl, by decide, by decide⟩ ?F
    intro w mg fa h Y G hmg0
    obtain ⟨K, KX, c, gw, ex⟩ := Y
    have hmg : mg ("law" : PySem.Str) = some (.ref fa) := by
      have e : (HandSHeadRun.topDef (OpenLaw.row PySem.Challenge.rw_needpegs_k20_precedence).prog 88).name = ("law" : PySem.Str) := by kernel_rfl
      rw [← e]
      exact hmg0
    obtain ⟨fd, hb, hF⟩ := Lw.facts (P := (PySem.Challenge.rw_needpegs_k20_precedence).prog) (w := w) KX G hmg c gw ex
    exact ⟨K, fd, Lw.spLaw K, KX, hb, fun H a ns hl _ _ hS => ⟨a, ns, rfl, hS, hl, fun _ => rfl⟩, hF⟩

#print axioms PySem.Challenge.cw_needpegs_k20_precedence_holds
