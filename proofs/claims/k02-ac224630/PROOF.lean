import PyProof.Rows.All
import Wide.All
import OpenK.AllK
import Wide.FinOn
import HandS.ForMost
import HandS.ExcInit
import HandS.IsInst
import HandS.FStr
import KE.KExcInit
import KE.KExcMake
import KE.KExcIs
import HandS.Words
import PyProof.ReprRoads
import PyProof.FString4
import HandS.Exc
import HandS.StrMore
import HandS.More
import HandS.RaiseMore
import HandS.Set
import HandS.SetFor
import HandS.Strs
import PyProof.Rows.SortShellAny
import HandS.Flow
import KE.GoesMore
import KE.GoesEnum
import HandS.CallLocal
import HandS.Property
import HandS.MakeKwOnly
import HandS.OwnEq
import HandS.WrittenGet
import HandS.Codes
import HandS.NoneIn
import HandS.Defaults
import HandS.WordsExc
import HandS.Wide
import HandS.Style
import HandS.ExcField
import HandS.ExcIs
import PyProof.StrBlock2
import PyProof.CallFns
import HandS.ExcOwn
import HandS.SlotsOwn
import HandS.TupAny
import HandS.Ends
import PySem.Challenge.RW_wantedwork_k02_plans_refused
set_option Elab.async false
set_option linter.all false
set_option maxRecDepth 100000
set_option maxHeartbeats 4000000
/-! Own error classes over ValueError, KeyError, LookupError, RuntimeError, OverflowError, as values. -/
namespace PySem
namespace Er
open PySem.W PySem.Calls PyProof.Rows
open Builtin Builtin.ObjectAttr
section
variable {prog : Program} {w : World} {M : Model} {A : Around} {E : Value → Shared → Prop} {R : Result → Shared → Prop}
variable {hh : Heap} {gg : Array GenState} {dr : Drawn} {tk : Nat} {oo : OsState}
variable {nm qn : Str} {C N : Addr} {bs bm bo : List Value} {hd : Bool} {sn : List Str} {sub : List Value} {ab : Bool} {cl : Option Bool} {dd : Option Addr} {k0 k1 k2 k3 k5 : Option Value} {B nw ini : String}

/-- what the making of such an object asks of the classes above it -/
structure Above (B : String) (bm : List Value) : Prop where
  has : bm.contains (.type B) = true
  noA : bm.contains (.type "AttributeError") = false
  noN : bm.contains (.type "NameError") = false
theorem Above.has1 (u : Above B bm) : (Value.ref C :: bm).contains (.type B) = true := by
  rw [List.contains_cons, u.has, Bool.or_true]
theorem Above.noA1 (u : Above B bm) : (Value.ref C :: bm).contains (.type "AttributeError") = false := by
  rw [List.contains_cons, u.noA]
  rfl
theorem Above.noN1 (u : Above B bm) : (Value.ref C :: bm).contains (.type "NameError") = false := by
  rw [List.contains_cons, u.noN]
  rfl
theorem new_check (F : ExcBaseFacts B nw ini bo) (u : Above B bm) {args : List Value} {Q : Unit → Shared → Prop}
    (hC : hh.get? C = some (excClassObj nm qn C N bs bm hd sn sub ab cl dd k0 k1 k2 k3 k5 nw)) (q : Q () ⟨hh, gg, dr, tk, oo⟩) :
    wpAny M A (checkBuiltinCall nw ⟨.ref C :: args, []⟩) Q E ⟨hh, gg, dr, tk, oo⟩ := by
  have c1 := u.has1 (C := C)
  have c2 := F.noStar
  simp only [checkBuiltinCall, F.newKind, F.newSplit, F.newRow]
  repeat (first
    | refine wpAny_loadPart_at hC ?_
    | (refine wpAny_isSubtype_exc hC ?_
       rw [c1])
    | refine wpAny_staticBase_exc hC ?_
    | refine wpAny_madeBy_exc hC ?_
    | simp only [bne_self_eq_false, Bool.false_eq_true, if_false]
    | wp_step)
  exact q
theorem new_run (F : ExcBaseFacts B nw ini bo) (u : Above B bm) {args : List Value}
    (hC : hh.get? C = some (excClassObj nm qn C N bs bm hd sn sub ab cl dd k0 k1 k2 k3 k5 nw))
    (q : R (.ok (.ret (.ref (hh.objs.size + 1)))) ⟨(hh.push (kdv_tup args)).push (HandSPX.excO C hh.objs.size), gg, dr, tk, oo⟩)
    (hz : args.length ≤ sizeLine) : codeAny (model prog w) A (.builtin nw ⟨.ref C :: args, []⟩) R ⟨hh, gg, dr, tk, oo⟩ := by
  have e1 := F.ends
  have c1 := u.has1 (C := C)
  have c2 := u.noA1 (C := C)
  have c3 := u.noN1 (C := C)
  refine codeAny_builtinAt F.entry ?_
  unfold Builtin.«BaseException.__new__»
  refine wpAt_bind ?_
  show wpAt _ _ _ (stack >>= _) _ _ _
  refine wpAt_bind (wpAt_stack fun _ _ => wpAt_of_wpAny ?_)
  wp_walk
  refine wpAt_of_wpAny ?_
  rw [F.owner]
  repeat (first
    | with_reducible refine wpAny_madeHere_exc F.canon hC ?_
    | with_reducible refine wpAny_loadPart_at hC ?_
    | (with_reducible refine wpAny_isSubtype_exc hC ?_
       first | rw [c1] | rw [c2] | rw [c3])
    | wp_step)
  show R _ _
  rw [Heap.size_push]
  exact q
theorem kept2 {o1 o2 : Obj} : ∀ b o, hh.get? b = some o → ((hh.push o1).push o2).get? b = some o := fun b o e =>
  Heap.get?_push_of_some _ (Heap.get?_push_of_some _ e)
theorem type_call (F : ExcBaseFacts B nw ini bo) (u : Above B bm) {args : List Value} {kw : List (Str × Value)} {fI : Addr} {Q : Fin → Shared → Prop}
    (hC : hh.get? C = some (excClassObj nm qn C N bs bm hd sn sub ab cl dd k0 k1 k2 k3 k5 nw)) (ek : kw = [])
    (hi : Looks (model prog w) hh (typeLookup (.ref C) "__init__") (some (.ref fI)))
    (hb : ∀ self, Looks (model prog w) hh (bindSpecial (.ref fI) self) (.ref fI, [self])) (hz : args.length ≤ sizeLine)
    (q : codeAny (model prog w) A (.call (.ref fI) ⟨.ref (hh.objs.size + 1) :: args, kw⟩)
      (fun r s' => match r with | .ok (.ret v) => v = .none ∧ Q (.done (.ret (.ref (hh.objs.size + 1)))) s' | .ok _ => False | .error e => E e s')
      ⟨(hh.push (kdv_tup args)).push (HandSPX.excO C hh.objs.size), gg, dr, tk, oo⟩) :
    wpAny (model prog w) A (Builtin.«type.__call__» ⟨.ref C :: args, kw⟩) Q E ⟨hh, gg, dr, tk, oo⟩ := by
  subst ek
  repeat (first
    | with_reducible refine wpAny_loadPart_at hC ?_
    | with_reducible refine wpAny_madeBy_exc hC ?_
    | wp_step)
  refine codeAny_call_builtin_code (Code.quiet_builtin _ F.quiet) (new_check F u hC ?_)
  refine new_run F u hC ?_ hz
  show wpAny _ _ _ _ _ _
  have hC2 := kept2 (o1 := kdv_tup args) (o2 := HandSPX.excO C hh.objs.size) _ _ hC
  have hnew : ((hh.push (kdv_tup args)).push (HandSPX.excO C hh.objs.size)).get? (hh.objs.size + 1) = some (HandSPX.excO C hh.objs.size) := by heap_get
  have hself : (Value.ref C :: bm).contains (.ref C) = true := by simp
  have i2 := hi.keeps (kept2 (o1 := kdv_tup args) (o2 := HandSPX.excO C hh.objs.size))
  have b2 := (hb (.ref (hh.objs.size + 1))).keeps (kept2 (o1 := kdv_tup args) (o2 := HandSPX.excO C hh.objs.size))
  unfold isInstance
  repeat (first
    | with_reducible refine wpAny_loadPart_at hnew ?_
    | (with_reducible refine wpAny_isSubtype_exc hC2 ?_
       rw [hself])
    | wp_step)
  show wpAny _ _ (typeLookup (.ref C) _) _ _ _
  refine i2.at ?_
  refine wpAny_holding (wpAny_bind (b2.at ?_))
  refine wpAny_bind (wpAny_call (codeAny_mono q fun r s' z => ?_))
  rcases r with e | (v | _ | _ | _) <;> first
    | exact z
    | exact z.elim
    | (obtain ⟨rfl, z⟩ := z
       first
         | exact wpAny_pure (wpAny_pure z)
         | (wp_walk
            exact z))
theorem make_call (F : ExcBaseFacts B nw ini bo) (u : Above B bm) {args : List Value} {fI : Addr}
    (hC : hh.get? C = some (excClassObj nm qn C N bs bm hd sn sub ab cl dd k0 k1 k2 k3 k5 nw))
    (hi : Looks (model prog w) hh (typeLookup (.ref C) "__init__") (some (.ref fI)))
    (hb : ∀ self, Looks (model prog w) hh (bindSpecial (.ref fI) self) (.ref fI, [self])) (hz : args.length ≤ sizeLine)
    (q : codeAny (model prog w) (A.under (.builtin "type.__call__" ⟨.ref C :: args, []⟩)) (.call (.ref fI) ⟨.ref (hh.objs.size + 1) :: args, []⟩)
      (InitBack (hh.objs.size + 1) R) ⟨(hh.push (kdv_tup args)).push (HandSPX.excO C hh.objs.size), gg, dr, tk, oo⟩) :
    codeAny (model prog w) A (.call (.ref C) ⟨args, []⟩) R ⟨hh, gg, dr, tk, oo⟩ := by
  have g1 := tc_lookup
  have g2 := tc_bind (.ref C)
  have gT : (⟨hh, gg, dr, tk, oo⟩ : Shared).TypeIs (.ref C) "type" := ⟨_, hC, rfl⟩
  refine codeAny_of_tree ?_
  show wpAny _ _ (callAny (.ref C) _) _ _ _
  repeat (any_goals (first
    | assumption
    | with_reducible refine wpAny_loadPart_at hC ?_
    | wp_step))
  refine ⟨rfl, ?_⟩
  refine codeAny_call_builtin_at (Code.quiet_builtin _ (by decide +kernel)) entry_typeCall ?_
  refine wpAny_check_type_call_sub hC (type_call F u hC rfl hi hb hz (codeAny_mono q fun r s' z => ?_))
  rcases r with e | (v | _ | _ | _) <;> exact z
/-! the same with one keyword -/
variable {f : Str} {v : Value}
theorem new_checkK (F : ExcBaseFacts B nw ini bo) (u : Above B bm) {Q : Unit → Shared → Prop}
    (hC : hh.get? C = some (excClassObj nm qn C N bs bm hd sn sub ab cl dd k0 k1 k2 k3 k5 nw)) (q : Q () ⟨hh, gg, dr, tk, oo⟩) :
    wpAny M A (checkBuiltinCall nw ⟨[.ref C], [(f, v)]⟩) Q E ⟨hh, gg, dr, tk, oo⟩ := by
  have c1 := u.has1 (C := C)
  have c2 := F.noStar
  simp only [checkBuiltinCall, F.newKind, F.newSplit, F.newRow]
  repeat (first
    | refine wpAny_loadPart_at hC ?_
    | (refine wpAny_isSubtype_exc hC ?_
       rw [c1])
    | refine wpAny_staticBase_exc hC ?_
    | refine wpAny_madeBy_exc hC ?_
    | simp only [bne_self_eq_false, Bool.false_eq_true, if_false]
    | wp_step)
  exact q
theorem new_runK (F : ExcBaseFacts B nw ini bo) (u : Above B bm)
    (hC : hh.get? C = some (excClassObj nm qn C N bs bm hd sn sub ab cl dd k0 k1 k2 k3 k5 nw))
    (q : R (.ok (.ret (.ref (hh.objs.size + 1)))) ⟨(hh.push (kdv_tup [])).push (HandSPX.excO C hh.objs.size), gg, dr, tk, oo⟩) :
    codeAny (model prog w) A (.builtin nw ⟨[.ref C], [(f, v)]⟩) R ⟨hh, gg, dr, tk, oo⟩ := by
  have e1 := F.ends
  have c1 := u.has1 (C := C)
  have c2 := u.noA1 (C := C)
  have c3 := u.noN1 (C := C)
  refine codeAny_builtinAt F.entry ?_
  unfold Builtin.«BaseException.__new__»
  refine wpAt_bind ?_
  show wpAt _ _ _ (stack >>= _) _ _ _
  refine wpAt_bind (wpAt_stack fun _ _ => wpAt_of_wpAny ?_)
  wp_walk
  refine wpAt_of_wpAny ?_
  rw [F.owner]
  repeat (first
    | with_reducible refine wpAny_madeHere_exc F.canon hC ?_
    | with_reducible refine wpAny_loadPart_at hC ?_
    | (with_reducible refine wpAny_isSubtype_exc hC ?_
       first | rw [c1] | rw [c2] | rw [c3])
    | wp_step)
  show R _ _
  rw [Heap.size_push]
  exact q
theorem type_callK (F : ExcBaseFacts B nw ini bo) (u : Above B bm) {fI : Addr} {Q : Fin → Shared → Prop}
    (hC : hh.get? C = some (excClassObj nm qn C N bs bm hd sn sub ab cl dd k0 k1 k2 k3 k5 nw))
    (hi : Looks (model prog w) hh (typeLookup (.ref C) "__init__") (some (.ref fI)))
    (hb : ∀ self, Looks (model prog w) hh (bindSpecial (.ref fI) self) (.ref fI, [self]))
    (q : codeAny (model prog w) A (.call (.ref fI) ⟨[.ref (hh.objs.size + 1)], [(f, v)]⟩)
      (fun r s' => match r with | .ok (.ret v) => v = .none ∧ Q (.done (.ret (.ref (hh.objs.size + 1)))) s' | .ok _ => False | .error e => E e s')
      ⟨(hh.push (kdv_tup [])).push (HandSPX.excO C hh.objs.size), gg, dr, tk, oo⟩) :
    wpAny (model prog w) A (Builtin.«type.__call__» ⟨[.ref C], [(f, v)]⟩) Q E ⟨hh, gg, dr, tk, oo⟩ := by
  repeat (first
    | with_reducible refine wpAny_loadPart_at hC ?_
    | with_reducible refine wpAny_madeBy_exc hC ?_
    | wp_step)
  refine codeAny_call_builtin_code (Code.quiet_builtin _ F.quiet) (new_checkK F u hC ?_)
  refine new_runK F u hC ?_
  show wpAny _ _ _ _ _ _
  have hC2 := kept2 (o1 := kdv_tup []) (o2 := HandSPX.excO C hh.objs.size) _ _ hC
  have hnew : ((hh.push (kdv_tup [])).push (HandSPX.excO C hh.objs.size)).get? (hh.objs.size + 1) = some (HandSPX.excO C hh.objs.size) := by heap_get
  have hself : (Value.ref C :: bm).contains (.ref C) = true := by simp
  have i2 := hi.keeps (kept2 (o1 := kdv_tup []) (o2 := HandSPX.excO C hh.objs.size))
  have b2 := (hb (.ref (hh.objs.size + 1))).keeps (kept2 (o1 := kdv_tup []) (o2 := HandSPX.excO C hh.objs.size))
  unfold isInstance
  repeat (first
    | with_reducible refine wpAny_loadPart_at hnew ?_
    | (with_reducible refine wpAny_isSubtype_exc hC2 ?_
       rw [hself])
    | wp_step)
  show wpAny _ _ (typeLookup (.ref C) _) _ _ _
  refine i2.at ?_
  refine wpAny_holding (wpAny_bind (b2.at ?_))
  refine wpAny_bind (wpAny_call (codeAny_mono q fun r s' z => ?_))
  rcases r with e | (v | _ | _ | _) <;> first
    | exact z
    | exact z.elim
    | (obtain ⟨rfl, z⟩ := z
       first
         | exact wpAny_pure (wpAny_pure z)
         | (wp_walk
            exact z))
theorem type_checkK {Q : Unit → Shared → Prop} (hC : hh.get? C = some (excClassObj nm qn C N bs bm hd sn sub ab cl dd k0 k1 k2 k3 k5 nw))
    (q : Q () ⟨hh, gg, dr, tk, oo⟩) : wpAny M A (checkBuiltinCall "type.__call__" ⟨[.ref C], [(f, v)]⟩) Q E ⟨hh, gg, dr, tk, oo⟩ := by
  have g3 := tc_sub
  have gT : (⟨hh, gg, dr, tk, oo⟩ : Shared).TypeIs (.ref C) "type" := ⟨_, hC, rfl⟩
  simp only [checkBuiltinCall, tc_kind, tc_split]
  repeat (any_goals (first
    | assumption
    | with_reducible refine wpAny_loadPart_at hC ?_
    | with_reducible refine wpAny_onRaise ?_
    | with_reducible refine wpAny_map ?_
    | wp_step))
theorem make_callK (F : ExcBaseFacts B nw ini bo) (u : Above B bm) {fI : Addr}
    (hC : hh.get? C = some (excClassObj nm qn C N bs bm hd sn sub ab cl dd k0 k1 k2 k3 k5 nw))
    (hi : Looks (model prog w) hh (typeLookup (.ref C) "__init__") (some (.ref fI)))
    (hb : ∀ self, Looks (model prog w) hh (bindSpecial (.ref fI) self) (.ref fI, [self]))
    (q : codeAny (model prog w) (A.under (.builtin "type.__call__" ⟨[.ref C], [(f, v)]⟩)) (.call (.ref fI) ⟨[.ref (hh.objs.size + 1)], [(f, v)]⟩)
      (InitBack (hh.objs.size + 1) R) ⟨(hh.push (kdv_tup [])).push (HandSPX.excO C hh.objs.size), gg, dr, tk, oo⟩) :
    codeAny (model prog w) A (.call (.ref C) ⟨[], [(f, v)]⟩) R ⟨hh, gg, dr, tk, oo⟩ := by
  have g1 := tc_lookup
  have g2 := tc_bind (.ref C)
  have gT : (⟨hh, gg, dr, tk, oo⟩ : Shared).TypeIs (.ref C) "type" := ⟨_, hC, rfl⟩
  refine codeAny_of_tree ?_
  show wpAny _ _ (callAny (.ref C) _) _ _ _
  repeat (any_goals (first
    | assumption
    | with_reducible refine wpAny_loadPart_at hC ?_
    | wp_step))
  refine ⟨rfl, ?_⟩
  refine codeAny_call_builtin_at (Code.quiet_builtin _ (by decide +kernel)) entry_typeCall ?_
  refine type_checkK hC (type_callK F u hC hi hb (codeAny_mono q fun r s' z => ?_))
  rcases r with e | (v | _ | _ | _) <;> exact z
end
end Er
end PySem

namespace PySem
namespace Er
open PySem.W PySem.Calls PyProof.Rows
open Builtin Builtin.ObjectAttr
/-- B's own __init__, by the name ini, lays the args anew -/
structure IniB (B ini : String) : Prop where
  slot : Slot B "__init__" ini
  entry : entryFor table ini = some Builtin.«BaseException.__init__»
  split : splitId ini = some (B, "__init__")
  kind : builtinKind ini = some .slot
  row : Manifest.signature? ini = some ⟨.positional, "*", B, .self, [⟨"args", .varPos, false⟩]⟩
  noStar : (B != "*") = true
theorem IniB.of {B nw ini : String} (F : ExcCallFacts B nw ini) : IniB B ini := ⟨F.init, F.initEntry, F.initSplit, F.initKind, F.initRow, F.noStar⟩
theorem ini_KeyError : IniB "KeyError" "KeyError.__init__" where
  slot := .of (owner := "KeyError") (n := "__init__") (by rw [typeLookup_type, builtinLookup_eq_fast]; kernel_rfl) (by decide +kernel) (by decide +kernel)
    (by decide +kernel) (by first | exact .inl (by decide +kernel) | exact .inr (by decide +kernel)) (by rw [isSubtype_type]; kernel_rfl)
  entry := entryFor_alias (id' := "BaseException.__init__") (by rw [fastTable_eq_tree]; kernel_rfl)
    (by first | rfl | decide +kernel) (by decide +kernel) (by rw [fastTable_eq_tree]; kernel_rfl)
  split := by kernel_rfl
  kind := by kernel_rfl
  row := by kernel_rfl
  noStar := by decide +kernel
abbrev keyTail : List Value := [.type "KeyError", .type "LookupError", .type "Exception", .type "BaseException", .type "object"]
theorem store_KeyError : StoreFacts "KeyError" keyTail "object.__setattr__" "object" where
  mro := by kernel_rfl
  slot := .of (owner := "object") (n := "__setattr__") (by rw [typeLookup_type, builtinLookup_eq_fast]; kernel_rfl)
    (by decide +kernel) (by decide +kernel) (by decide +kernel)
    (by first | exact .inl (by decide +kernel) | exact .inr (by decide +kernel)) (by rw [isSubtype_type]; kernel_rfl)
  entry := F.entry_object_sa
  kind := by decide +kernel
  split := by decide +kernel
  hasOwner := by decide +kernel
  args := fun _ _ _ => by unfold argsOk; kernel_rfl
  passes := fun _ => by kernel_rfl
section
variable {prog : Program} {w : World} {M : Model} {A : Around} {E : Value → Shared → Prop} {R : Result → Shared → Prop}
variable {hh : Heap} {gg : Array GenState} {dr : Drawn} {tk : Nat} {oo : OsState}
variable {nm qn : Str} {C N : Addr} {bs bm bo : List Value} {hd : Bool} {sn : List Str} {sub : List Value} {ab : Bool} {cl : Option Bool} {dd : Option Addr} {k0 k1 k2 k3 k5 : Option Value} {B nw ini : String}
theorem ini_check (F : IniB B ini) (hB : bm.contains (.type B) = true) {e : Addr} {oe : Obj} {args : List Value} {Q : Unit → Shared → Prop}
    (hC : hh.get? C = some (excClassObj nm qn C N bs bm hd sn sub ab cl dd k0 k1 k2 k3 k5 nw)) (he : hh.get? e = some oe) (hc : oe.cls = .ref C)
    (q : Q () ⟨hh, gg, dr, tk, oo⟩) : wpAny M A (checkBuiltinCall ini ⟨.ref e :: args, []⟩) Q E ⟨hh, gg, dr, tk, oo⟩ := by
  have c1 : (Value.ref C :: bm).contains (.type B) = true := by
    rw [List.contains_cons, hB, Bool.or_true]
  have c2 := F.noStar
  simp only [checkBuiltinCall, F.kind, F.split, F.row]
  repeat (first
    | (with_reducible refine wpAny_loadPart_at he ?_
       rw [hc])
    | with_reducible refine wpAny_loadPart_at hC ?_
    | (with_reducible refine wpAny_isSubtype_exc hC ?_
       rw [c1])
    | wp_step)
  refine wpAny_onRaise ?_
  have z : ∀ (a b : String) (n : Nat), Bind.check ⟨.positional, "*", B, .self, [⟨"args", .varPos, false⟩]⟩ a b n (List.map (fun x => x.fst) ({ pos := Value.ref e :: args } : Args).kw) = pure () :=
    fun _ _ _ => check_star_args _ _ _ _ _ _
  rw [z]
  exact wpAny_pure q
theorem ini_run (F : IniB B ini) (hB : bm.contains (.type B) = true) {e t0 : Addr} {args : List Value}
    (hC : hh.get? C = some (excClassObj nm qn C N bs bm hd sn sub ab cl dd k0 k1 k2 k3 k5 nw)) (he : hh.get? e = some (HandSPX.excO C t0)) (hz : args.length ≤ sizeLine)
    (q : ∀ h' t1, (∀ b o, b ≠ e → hh.get? b = some o → h'.get? b = some o) → h'.get? e = some (HandSPX.excO C t1) → R (.ok (.ret .none)) ⟨h', gg, dr, tk, oo⟩) :
    codeAny (model prog w) A (.call (.builtin ini) ⟨.ref e :: args, []⟩) R ⟨hh, gg, dr, tk, oo⟩ := by
  refine codeAny_call_builtin F.slot.plain F.entry (ini_check F hB hC he rfl ?_)
  exact exc_init_tree (cls := .ref C) (t0 := t0) (dv := none) (c2 := .none) (c3 := .none) (b4 := .bool false) he hz fun h' k1 k2 _ => q h' _ k1 k2
end
end Er
end PySem

namespace L2
open PySem PySem.Spec PyProof.Rows
/-- an own error class at C, over the built-in class B (whose tail is bo), made by nw -/
structure ErC (K : PySem.W.Frag) (C : Addr) (B nw : String) (bo : List Value) : Prop where
  isn : PySem.W.excInitIn K C bo nw = true
  ovr : PySem.W.excOver K C bo = true
  sa : PySem.W.findIn K (.ref C) "__setattr__" = some (some (.builtin "object.__setattr__"))
  hd : PySem.W.hasDictIn K C = true
  kC : PySem.W.keepIn K (.ref C) = true
  ga : PySem.W.findIn K (.ref C) "__getattribute__" = some (some (.builtin "BaseException.__getattribute__"))
  gg : PySem.W.findIn K (.ref C) "__getattr__" = some none
  exC : PySem.W.subIn K (.ref C) (.type "BaseException") = some true
  ca : PySem.W.findIn K (.ref C) "__class__" = some (some (.builtin "object.__class__"))
  cn : PySem.W.specialIn K (.builtin "object.__class__") "__get__" = some (some (.builtin "getset_descriptor.__get__"))
  ct : PySem.W.takesIn K (.builtin "object.__class__") = some true
  mo : PySem.W.mroIn K C (.type "object") = some true
  hB : bo.contains (.type B) = true
section
variable {X : Cx} {pins : List (Addr × Obj)} {σ : St} {H : Hp} {s : Shared} {a C dx : Addr} {f : Str} {y : V} {u : Value} {fs : List (Str × V)} {E : Value → Shared → Prop} {A : Around} {B nw ini : String} {bo : List Value}
/-- B.__init__(self, ..) -/
theorem er_ini {us : List Value} {Q : Value → Shared → Prop} (T : ErC X.K C B nw bo) (F : PySem.Er.IniB B ini) (I : Inv X pins σ H s) (e : H a = some (exo a C none)) (hl : us.length ≤ sizeLine)
    (h : ∀ s', Inv X pins σ H s' → Q .none s') : wpAny (model X.prog X.w) A (call (.builtin ini) (.ref a :: us)) Q E s := by
  obtain ⟨nm, N, qn, bs, bm, hd, sn, sub, ab, cl, dd, k0, k1, k2, k3, k5, hC, hT⟩ := PySem.W.excInit_of I.kIn T.isn
  obtain ⟨t1, ho⟩ := exo_at I.hok e
  obtain ⟨hp, g, d, t, os⟩ := s
  refine wpAny_call (PySem.Er.ini_run F ((hT B).trans T.hB) hC ho hl fun h' t2 k hx => ?_)
  have J := I.write (t' := t) (x := a) (e := a) (o := exo a C none) (by rw [e]; exact True.intro) (.inl rfl) k ⟨_, hx⟩ (exo_ok hx)
  have eu : upd H a (exo a C none) = H := by
    funext b
    by_cases hb : b = a
    · rw [hb, upd_same, e]
    · rw [upd_ne hb]
  rw [eu] at J
  exact h _ J
end
end L2

namespace PySem
namespace Er
open PySem.W PySem.Calls PyProof.Rows
open Builtin Builtin.ObjectAttr
section
variable {prog : Program} {w : World} {A : Around} {R : Result → Shared → Prop} {hp : Heap} {gg : Array GenState} {dr : Drawn} {tk : Nat} {oo : OsState}
theorem first_store {K : W.Frag} {B : String} {bo : List Value} {name : Str} {tt : Tok} {v : Value} {x C t0 : Addr} (SF : StoreFacts B bo "object.__setattr__" "object")
    (X : K.In hp) (hx : hp.get? x = some (HandSPX.excO C t0)) (ho : W.excOver K C bo = true) (ht : W.takerIn K C name = some none) (hd : W.hasDictIn K C = true)
    (q : ∀ h' t' dx, (∀ b o, b ≠ x → hp.get? b = some o → h'.get? b = some o) → hp.objs.size ≤ dx → dx ≠ x →
      h'.get? x = some { cls := .ref C, dict := some dx, data := .fields #[.ref t0, .none, .none, .none, .bool false, .none] } →
      h'.Ns1 dx (fun y => if y = name then some v else none) → R (.ok (.ret .none)) ⟨h', gg, dr, t', oo⟩) :
    codeAny (model prog w) A (.call (.builtin "object.__setattr__") ⟨[.ref x, .str name tt, v], []⟩) R ⟨hp, gg, dr, tk, oo⟩ := by
  refine osa_openX (s := ⟨hp, gg, dr, tk, oo⟩) (od := none) SF X ⟨hx, rfl, rfl, trivial⟩ ho ht fun b => ?_
  obtain ⟨cd, hc, hd'⟩ := any_some hd
  have hxs : x ≠ hp.objs.size := Nat.ne_of_lt (Heap.lt_size hx)
  refine wpAny_bind (wpAny_pure (wpAny_bind (instanceDict_exc (s := ⟨hp, gg, dr, tk, oo⟩) (t := t0) (c2 := .none) hx (looks_clsIn X hc) hd' ?_)))
  show wpAny _ _ (storeInDict hp.objs.size (.str name tt) name v) _ _ _
  have hx1 : (hp.push (dictOf [] 0)).get? x = some (HandSPX.excO C t0) := Heap.get?_push_of_some _ hx
  have hnew : (hp.push (dictOf [] 0)).get? hp.objs.size = some (dictOf [] 0) := Heap.get?_push_size _ rfl
  refine HandSPX.store_in_new ⟨dictOf [] 0, #[], 0, (Heap.get?_update_ne _ _ _ _ hxs.symm).trans hnew, rfl, fun e he => absurd he (by simp), fun _ => rfl⟩ fun h' t' hn hs => ?_
  refine q h' t' hp.objs.size (fun b o hb hbo => ?_) (Nat.le_refl _) hxs.symm ?_ hn
  · exact (hs.2 b (Nat.ne_of_lt (Heap.lt_size hbo))).trans ((Heap.get?_update_ne _ _ _ _ hb).trans (Heap.get?_push_of_some _ hbo))
  · exact (hs.2 x hxs).trans (Heap.get?_update_self _ hx1 rfl)
end
end Er
end PySem
namespace L2
open PySem PySem.Spec PyProof.Rows
section
variable {X : Cx} {pins : List (Addr × Obj)} {σ : St} {H : Hp} {s : Shared} {a C dx : Addr} {f : Str} {y : V} {u : Value} {fs : List (Str × V)} {E : Value → Shared → Prop} {A : Around} {B nw ini : String} {bo : List Value}
/-- self.f = y on an error that has no dict yet -/
theorem er_set {Q : Unit → Shared → Prop} (T : ErC X.K C B nw bo) (SF : StoreFacts B bo "object.__setattr__" "object") (I : Inv X pins σ H s) (e : H a = some (exo a C none)) (ht : PySem.W.takerIn X.K C f = some none) (ry : RelV y u)
    (h : ∀ dx s', H dx = none → dx ≠ a → Inv X pins σ (upd (upd H dx (exd dx [(f, y)])) a (exo a C (some dx))) s' → Q () s') :
    wpAny (model X.prog X.w) A (setAttr (.ref a) f u) Q E s := by
  obtain ⟨t1, ho⟩ := exo_at I.hok e
  obtain ⟨hp, g, d, t, os⟩ := s
  refine PySem.W.set_plain I.kIn (ox := HandSPX.excO C t1) (od := none) ⟨ho, rfl, rfl, trivial⟩ T.sa ?_
  refine PySem.Er.first_store SF I.kIn ho T.ovr ht T.hd (fun h' tk' dx k dn dne hx hn => ?_)
  have hnd : H dx = none := I.hok.fresh dn
  have nd : ∀ {b : Addr} {o : Obj}, hp.get? b = some o → b ≠ dx := fun {b o} q => Nat.ne_of_lt (Nat.lt_of_lt_of_le (Heap.lt_size q) dn)
  have na : ∀ {b : Addr}, H b = none → b ≠ a := fun {b} n z => by
    rw [z, e] at n
    cases n
  have two : ∀ {b : Addr} {o : HO}, H b = some o → exo a C none ≠ o → upd (upd H dx (exd dx [(f, y)])) a (exo a C (some dx)) b = some o := fun {b o} q ne => by
    rw [upd_ne (at_ne e q ne), upd_ne (ne_of_none q hnd)]
    exact q
  have U : Un X.fs [] H (upd (upd H dx (exd dx [(f, y)])) a (exo a C (some dx))) hp h' := {
    keep := fun b o q n _ _ => k b o (na n) q
    slot := fun b o q n _ _ => ⟨o.slots, k b o (na n) q⟩
    free := fun b o q n _ => by rw [upd_ne (na n), upd_ne (nd q)]; exact n
    there := fun b o q _ => by
      by_cases hb : b = a
      · exact ⟨_, by rw [hb]; exact hx⟩
      · exact ⟨o, k b o hb q⟩
    tups := fun b xs q => two q exo_tup
    frzs := fun b o v q => two q exo_frz
    tbls := fun b ps q => ⟨#[], by rw [two q exo_tbl]; simp⟩ }
  refine h dx _ hnd dne (I.un (t' := tk') U fun b o q => ?_)
  by_cases hb : b = a
  · subst hb
    rw [upd_same] at q
    cases q
    exact exo_ok hx
  · rw [upd_ne hb] at q
    by_cases hd : b = dx
    · subst hd
      rw [upd_same] at q
      cases q
      exact exd_ok hn (relO_put (fs := []) ry fun g => True.intro)
    · rw [upd_ne hd] at q
      refine (I.hok b o q).stay (fun c v hc z => k c v ?_ z) (fun c hc => two hc exo_own) fun c xs hc => two hc exo_tup
      rcases hc with hc | hc
      · rw [hc]
        exact hb
      · exact at_ne e hc exo_own
end
/-! ### the readings -/
/-- Z.__init__(self, ..): Z above the error's class; nothing is told of it -/
def tErI (ta : TA) (B : String) : TE := fun σ H Q => ta σ H fun vs H1 => ∃ (a C : Addr) (ws : List V), vs = .ref a :: ws ∧ ws.length ≤ 1000 ∧ H1 a = some (exo a C none) ∧ Q .non H1
/-- self.f = e, the first -/
def tErS (f : Str) (to te : TE) : TS := fun D σ H => te σ H fun y H1 => to σ H1 fun x H2 => ∃ a C : Addr, x = .ref a ∧ H2 a = some (exo a C none) ∧
  ∀ dx, H2 dx = none → dx ≠ a → D.nx σ (upd (upd H2 dx (exd dx [(f, y)])) a (exo a C (some dx)))
section
variable {X : Cx} {o e : Expr} {es : List Expr} {to te : TE} {ta : TA} {f x : Str} {p p' p1 p2 pos : Pos} {B nw ini : String} {bo : List Value} {W0 : Addr}
/-- self.f = e; all tracked errors without a dict here are of the class at C -/
theorem ps_ers {C : Addr} (T : ErC X.K C B nw bo) (SF : StoreFacts B bo "object.__setattr__" "object") (ht : PySem.W.takerIn X.K C f = some none) (ho : PE X o to) (he : PE X e te)
    (hs : swapsWith e (some (.Attribute o f p')) pos.line X.env = pure false := by rfl) : PS X (.Assign [.Attribute o f p'] e pos)
      (fun D σ H => te σ H fun y H1 => to σ H1 fun x H2 => ∃ a : Addr, x = .ref a ∧ H2 a = some (exo a C none) ∧
        ∀ dx, H2 dx = none → dx ≠ a → D.nx σ (upd (upd H2 dx (exd dx [(f, y)])) a (exo a C (some dx)))) := by
  refine ⟨fun pins s σ H D I h => ?_⟩
  refine plainObj_wpAny_Assign_Attribute (thn (he.run pins s σ H _ I h) fun v s1 ⟨y, H1, I1, r1, q1⟩ => thn (ho.run pins s1 σ H1 _ I1 q1) fun u s2 ⟨x, H2, I2, r2, a, ex, ea, q⟩ => ?_) hs
  subst ex
  obtain rfl : u = Value.ref a := r2
  exact er_set T SF I2 ea ht r1 fun dx s' n ne J => ⟨σ, _, J, q dx n ne⟩
/-- W.__init__(self, ..), W an own class that has its __init__ from B -/
theorem pe_eri {C : Addr} {pl : Sem Bool} (T : ErC X.K C B nw bo) (F : PySem.Er.IniB B ini) (hg : Gl X x) (hm : X.mg x = some (.ref W0))
    (hsp : PySem.W.specialIn X.K (.ref W0) "__getattribute__" = some (some (.builtin "type.__getattribute__"))) (hrd : PySem.W.readsIn X.K W0 (.type "type") = true)
    (hf : PySem.W.findCls X.K (.ref W0) (.type "type") "__init__" = some (.val (.builtin ini))) (hin : PySem.W.handedIn (.builtin ini) = true) (ha : PA X (e :: es) ta) (hdb : (x == ("__debug__" : Str)) = false := by decide)
    (hc : eval (.Call (.Attribute (.Name x p1) "__init__" p2) (e :: es) [] pos) X.env = (do
      let ov ← eval (.Name x p1) X.env
      standAt p2.atName
      let (f, first) ← holding [ov] (getMethod ov "__init__" pl)
      callWith pos f first (backTo pos (starEach (e :: es) X.env)) (backToKw pos (keywordEach [] X.env))) := by rfl)
    (he : starEach (e :: es) X.env = (false, eval e X.env) :: starEach es X.env := by rfl) (hpl : (backTo pos (starEach es X.env)).any (·.1) = false := by rfl) :
    PE X (.Call (.Attribute (.Name x p1) "__init__" p2) (e :: es) [] pos)
      (fun σ H Q => ta σ H fun vs H1 => ∃ (a : Addr) (ws : List V), vs = .ref a :: ws ∧ ws.length ≤ 1000 ∧ H1 a = some (exo a C none) ∧ Q .non H1) := by
  refine ⟨fun pins s σ H Q I h => ?_⟩
  refine PySem.W.methodCall_KW (ld_glob I hg hm ?_ hdb) hc
  refine PySem.W.method_cls I.kIn hsp (PySem.W.cls_value I.kIn hrd hf hin ?_)
  show wpAny _ _ (callWith pos (Value.builtin ini) [] (backTo pos (starEach (e :: es) X.env)) []) _ _ _
  refine PyProof.Rows.callWith_method1 (thn (ha.run pos pins _ σ H _ (I.tok _) h) fun us s1 ⟨vs, H1, I1, r1, a, ws, ev, hl, ea, q⟩ => ?_) he hpl
  subst ev
  cases r1 with
  | @cons _ u0 _ ur ra rw' =>
    obtain rfl : u0 = Value.ref a := ra
    have hlen : ur.length ≤ sizeLine := by
      rw [← Paired.length rw', sizeLine_eq]
      omega
    exact er_ini T F I1 ea hlen fun s' J => ⟨.non, H1, J, rfl, q⟩
/-- the same of a built-in class -/
theorem pe_erb {C : Addr} {pl : Sem Bool} (T : ErC X.K C B nw bo) (F : PySem.Er.IniB B ini) (hg : Gl X x) (hm : X.mg x = none) (hv : bootBuiltins x = some (.type B)) (hty : typeOf (.type B) = pure (.type "type")) (hst : Manifest.isStub B = false)
    (hf : PySem.W.findCls X.K (.type B) (.type "type") "__init__" = some (.val (.builtin ini))) (hin : PySem.W.handedIn (.builtin ini) = true) (ha : PA X (e :: es) ta) (hn : x ≠ "__name__" := by decide) (hdb : (x == ("__debug__" : Str)) = false := by decide)
    (hc : eval (.Call (.Attribute (.Name x p1) "__init__" p2) (e :: es) [] pos) X.env = (do
      let ov ← eval (.Name x p1) X.env
      standAt p2.atName
      let (f, first) ← holding [ov] (getMethod ov "__init__" pl)
      callWith pos f first (backTo pos (starEach (e :: es) X.env)) (backToKw pos (keywordEach [] X.env))) := by rfl)
    (he : starEach (e :: es) X.env = (false, eval e X.env) :: starEach es X.env := by rfl) (hpl : (backTo pos (starEach es X.env)).any (·.1) = false := by rfl) :
    PE X (.Call (.Attribute (.Name x p1) "__init__" p2) (e :: es) [] pos)
      (fun σ H Q => ta σ H fun vs H1 => ∃ (a : Addr) (ws : List V), vs = .ref a :: ws ∧ ws.length ≤ 1000 ∧ H1 a = some (exo a C none) ∧ Q .non H1) := by
  refine ⟨fun pins s σ H Q I h => ?_⟩
  refine PySem.W.methodCall_KW (ld_blt I hg hm hv ?_ hn hdb) hc
  obtain ⟨m, fr⟩ := I.fr
  refine PySem.W.method_type fr I.ok.mod.kin hty hst hf hin ?_
  show wpAny _ _ (callWith pos (Value.builtin ini) [] (backTo pos (starEach (e :: es) X.env)) []) _ _ _
  refine PyProof.Rows.callWith_method1 (thn (ha.run pos pins _ σ H _ (I.tok _) h) fun us s1 ⟨vs, H1, I1, r1, a, ws, ev, hl, ea, q⟩ => ?_) he hpl
  subst ev
  cases r1 with
  | @cons _ u0 _ ur ra rw' =>
    obtain rfl : u0 = Value.ref a := ra
    have hlen : ur.length ≤ sizeLine := by
      rw [← Paired.length rw', sizeLine_eq]
      omega
    exact er_ini T F I1 ea hlen fun s' J => ⟨.non, H1, J, rfl, q⟩
end
end L2

namespace L2
open PySem PySem.Spec PyProof.Rows
/-- a def's promise where no repr is under way -/
structure FnG (P : Program) (w : World) (K : PySem.W.Frag) (mg : Str → Option Value) (base : Heap) (k : Nat) (f : Addr) (fd : FuncData) (ps : List Str) (sp : Sp) : Prop where
  len : ∀ vs H Q, sp vs H Q E0 → vs.length = ps.length
  run : ∀ (A : Around) (outer : List Env) (s : Shared) (H : Hp) (args : Args) (us : List Value) (vs : List V) (Q : VK), Room k A → A.guards = some [] →
    Env0 P w K mg base A outer s H → BindsTo s fd args (ps.zip us) → Vals vs us → sp vs H Q E0 →
    codeAny (model P w) A (.call (.ref f) args) (CR CX0 outer P w H s Q E0) s
theorem FnG.of {P : Program} {w : World} {K : PySem.W.Frag} {mg : Str → Option Value} {base : Heap} {k : Nat} {f : Addr} {fd : FuncData} {ps : List Str} {sp : Sp}
    (F : FnOk P w K mg base CX0 k f fd ps sp) : FnG P w K mg base k f fd ps sp :=
  ⟨fun vs H Q => F.len vs H Q E0, fun A outer s H args us vs Q hr _ e b r q => F.run A outer s H args us vs Q E0 hr e b r q⟩
theorem FnG.mono {P : Program} {w : World} {K : PySem.W.Frag} {mg : Str → Option Value} {base : Heap} {j k : Nat} {f : Addr} {fd : FuncData} {ps : List Str} {sp : Sp}
    (F : FnG P w K mg base j f fd ps sp) (h : j ≤ k) : FnG P w K mg base k f fd ps sp :=
  ⟨F.len, fun A outer s H args us vs Q hr => F.run A outer s H args us vs Q (hr.mono h)⟩
section
variable {P : Program} {w : World} {K : PySem.W.Frag} {mg : Str → Option Value} {base : Heap}
theorem Fun.okG {x qual : Str} {st : Stmt} {f : Addr} {fd : FuncData} {N ps : List Str} {k : Nat} {sp : Sp} (F : Fun K x qual st f fd) (S : FnScope N ps (defScope st))
    (len : ∀ vs H Q, sp vs H Q E0 → vs.length = ps.length)
    (body : ∀ (cdv : Value) (A : Around) (outer : List Env) (s : Shared) (H : Hp) (vs : List V) (Q : VK),
      Room k (A.deeper (envOfC qual (defScope st) s.heap.objs.size f cdv)) → (A.deeper (envOfC qual (defScope st) s.heap.objs.size f cdv)).guards = some [] → sp vs H Q E0 →
      ∃ t, PSs (cxOf CX0 P w K mg base N qual (defScope st) f cdv A outer s H E0).nox (defBody st) t ∧ t { nx := fun _ H' => Q .non H', rt := Q } (start N vs) H) :
    FnG P w K mg base (k + 1) f fd ps sp := by
  obtain ⟨oc, od, kV, doc, pm, an, cdv, ct, osl, rfl, lk, hcd⟩ := F.ex
  refine ⟨len, fun A outer s H args us vs Q hr hg e0 hb r hsp => ?_⟩
  have hl := len _ _ _ hsp
  have KX : K.In s.heap := e0.mod.kin.keeps fun b o e => (e0.bs b o e).1
  have lim : s.heap.NoLimit := e0.mod.nolimit.keeps fun b o e => (e0.bs b o e).1
  refine codeAny_call_function hr.depth (KX _ _ lk) rfl S.co S.gen rfl (PySem.W.codeRec_of KX hcd) (hb _ _ _ _ ?_)
  refine wpAny_newFunctionEnv_cells S.kind (fun ⟨n, v⟩ hy => ?_) fun env he s1 x => ?_
  · rcases S.par n (List.of_mem_zip hy).1 with q | q
    · exact .inl q
    · exact .inr ⟨q, PySem.W.cellsFrom_some _ _ _ (.inl q)⟩
  subst he
  refine ⟨lim.keeps x.toInCall.keep, codeAny_func ?_⟩
  obtain ⟨t, ht, hq⟩ := body cdv A outer s H vs Q (hr.deeper _) hg hsp
  have I := inv_start (CX := CX0) (P := P) (w := w) (E := E0) S hr.hd e0 hl r x
  refine wpAny_mono (ht.run [] s1 (start N vs) H _ (I.wish _) hq) (fun fl s' hs => ?_) fun e s' hs => hs.elim
  cases fl with
  | ret u =>
    obtain ⟨v, σ', H', J, rv, q⟩ := hs
    exact ⟨v, H', J.os, J.bare, J.base, J.hok, rv, q⟩
  | next =>
    obtain ⟨σ', H', J, q⟩ := hs
    exact ⟨V.non, H', J.os, J.bare, J.base, J.hok, rfl, q⟩
  | brk =>
    obtain ⟨_, _, _, z⟩ := hs
    exact False.elim z
  | cont =>
    obtain ⟨_, _, _, z⟩ := hs
    exact False.elim z
end
section
variable {X : Cx} {k : Nat} {f : Addr} {fd : FuncData} {ps : List Str} {sp : Sp} {x : Str} {p pos : Pos} {e : Expr} {es : List Expr} {t : TA}
theorem run_fnG {pins : List (Addr × Obj)} {σ : St} {H : Hp} {s : Shared} {Q : VK} {us : List Value} {vs : List V} (F : FnG X.prog X.w X.K X.mg X.base k f fd ps sp) (hr : Room k X.A)
    (hgd : X.A.guards = some []) (hb : Binds X.K fd ps []) (I : Inv X pins σ H s) (r : Vals vs us) (h : sp vs H Q E0) :
    wpAny (model X.prog X.w) X.A (call (.ref f) us) (EP X pins σ Q) X.xe s := by
  have hl : (us ++ []).length = ps.length := by
    rw [List.append_nil, ← r.length]
    exact F.len _ _ _ h
  have hb' := hb s us I.kIn hl
  rw [List.append_nil] at hb'
  refine wpAny_call (codeAny_mono (F.run X.A X.stack s H ⟨us, []⟩ us vs Q hr hgd I.env0 hb' r h) fun r s' hq => ?_)
  rcases r with er | (u | _ | _ | _)
  all_goals first | exact hq.elim | exact I.after hq
/-- f(e, ..) -/
theorem pe_callG (F : FnG X.prog X.w X.K X.mg X.base k f fd ps sp) (hr : Room k X.A) (hgd : X.A.guards = some []) (hg : Gl X x) (hm : X.mg x = some (.ref f)) (hk : PySem.W.keepIn X.K (.ref f) = true)
    (hb : Binds X.K fd ps []) (ha : PA X (e :: es) t) (hdb : (x == ("__debug__" : Str)) = false := by decide) (he : starEach (e :: es) X.env = (false, eval e X.env) :: starEach es X.env := by rfl)
    (hpl : (backTo pos (starEach es X.env)).any (·.1) = false := by rfl) : PE X (.Call (.Name x p) (e :: es) [] pos) (fun σ H Q => t σ H fun vs H1 => sp vs H1 Q E0) := by
  refine ⟨fun pins s σ H Q I h => ?_⟩
  refine wpAny_Call_Name_kw (ld_glob I hg hm ?_ hdb)
  refine PySem.W.callWith_K (h₀ := X.base) I.ok.mod.kin hk (thn (ha.run pos pins s σ H _ I h) fun us s1 ⟨vs, H1, I1, r, q⟩ => ⟨I1.kIn, ?_⟩) he hpl
  exact run_fnG F hr hgd hb I1 r q
end
/-! ### an error as a value -/
/-- at a: an error of the class at C whose field f is y -/
def ErrAt (H : Hp) (a C : Addr) (f : Str) (y : V) : Prop := ∃ d, H a = some (exo a C (some d)) ∧ H d = some (exd d [(f, y)])
theorem ErrAt.same {H H' : Hp} {a C : Addr} {f : Str} {y : V} (x : ErrAt H a C f y) (e : Same H H') : ErrAt H' a C f y :=
  let ⟨d, h1, h2⟩ := x
  ⟨d, e _ _ h1, e _ _ h2⟩
/-- the promise of an __init__ that keeps its argument in f -/
def spErr (C : Addr) (f : Str) (Ok : V → Hp → Prop) : Sp := fun vs H Q _ => ∃ (a : Addr) (y : V), vs = [.ref a, y] ∧ H a = some (exo a C none) ∧ Ok y H ∧
  ∀ d, H d = none → d ≠ a → Q .non (upd (upd H d (exd d [(f, y)])) a (exo a C (some d)))
section
variable {X : Cx} {k : Nat} {fI C : Addr} {fd : FuncData} {ps : List Str} {f x kn : Str} {p pos kpos : Pos} {e : Expr} {te : TE} {B nw ini nwi : String} {bo bn : List Value} {Ok : V → Hp → Prop}
/-- behind the making -/
theorem er_made {pins : List (Addr × Obj)} {σ : St} {H1 : Hp} {y : V} {s1 : Shared} {args : Args} {R : Result → Shared → Prop} {A1 : Around}
    {tup : Obj} {us : List Value} (F1 : FnG X.prog X.w X.K X.mg X.base k fI fd ps (spErr C f Ok)) (hA : Room k A1) (hA2 : A1.guards = some []) (hA3 : A1.frames = X.A.frames)
    (I1 : Inv X pins σ H1 s1) (hb : BindsTo { s1 with heap := (s1.heap.push tup).push (HandSPX.excO C s1.heap.objs.size) } fd args (ps.zip us))
    (rv : Vals [V.ref (s1.heap.objs.size + 1), y] us) (hOk : ∀ a, H1 a = none → Ok y (upd H1 a (exo a C none)))
    (hR : ∀ s' H2, Inv X pins σ H2 s' → Same H1 H2 → H1 (s1.heap.objs.size + 1) = none → ErrAt H2 (s1.heap.objs.size + 1) C f y → R (.ok (.ret .none)) s') :
    codeAny (model X.prog X.w) A1 (.call (.ref fI) args) R { s1 with heap := (s1.heap.push tup).push (HandSPX.excO C s1.heap.objs.size) } := by
  have hsz : s1.heap.objs.size ≤ s1.heap.objs.size + 1 := Nat.le_succ _
  have hn : H1 (s1.heap.objs.size + 1) = none := I1.hok.fresh hsz
  have hget : ((s1.heap.push tup).push (HandSPX.excO C s1.heap.objs.size)).get? (s1.heap.objs.size + 1) = some (HandSPX.excO C s1.heap.objs.size) := by
    have z := Heap.get?_push_size (s1.heap.push tup) (o := HandSPX.excO C s1.heap.objs.size) rfl
    rw [Heap.size_push] at z
    exact z
  have I2 : Inv X pins σ (upd H1 (s1.heap.objs.size + 1) (exo (s1.heap.objs.size + 1) C none)) { s1 with heap := (s1.heap.push tup).push (HandSPX.excO C s1.heap.objs.size) } :=
    I1.laid (t' := s1.toks) (fun b o q => Heap.get?_push_of_some _ (Heap.get?_push_of_some _ q)) hsz (exo_ok hget)
  have e0 := I2.env0
  refine codeAny_mono (F1.run A1 X.stack _ _ args us _ (fun v H2 => v = .non ∧ Same H1 H2 ∧ ErrAt H2 (s1.heap.objs.size + 1) C f y) hA hA2
    ⟨hA3.trans e0.frames, e0.mod, e0.bs, e0.bsz, e0.funs, e0.frf, e0.hok, e0.bare⟩ hb rv
    ⟨s1.heap.objs.size + 1, y, rfl, upd_same, hOk _ hn, fun d hd nd => ⟨rfl, fun b o q => ?_, d, upd_same, ?_⟩⟩) fun r s' hq => ?_
  · rw [upd_ne (ne_of_none q hn)]
    have nb : b ≠ d := fun z => by
      rw [z] at q
      rw [upd_ne nd, q] at hd
      cases hd
    rw [upd_ne nb, upd_ne (ne_of_none q hn)]
    exact q
  · rw [upd_ne nd, upd_same]
  · cases r with
    | error er => exact False.elim hq
    | ok fl =>
      cases fl with
      | ret u =>
        obtain ⟨v, H2, J, rv2, ev, hs, he⟩ := I2.after hq
        subst ev
        cases (show u = Value.none from rv2)
        exact hR s' H2 J hs hn he
      | next => exact False.elim hq
      | brk => exact False.elim hq
      | cont => exact False.elim hq
end
end L2

namespace L2
open PySem PySem.Spec PyProof.Rows
theorem typeCall_guards {A : Around} {us : List Value} {kw : List (Str × Value)} (h : A.guards = some []) : (A.under (.builtin "type.__call__" ⟨us, kw⟩)).guards = some [] := by
  first
    | exact h
    | (show pushGuards (Code.guards _) A.guards = some []
       rw [show Code.guards (.builtin "type.__call__" ⟨us, kw⟩) = [] from by first | rfl | simp [Code.guards, Code.isGuard, guardIds]]
       exact h)
theorem typeCall_frames {A : Around} {us : List Value} {kw : List (Str × Value)} : (A.under (.builtin "type.__call__" ⟨us, kw⟩)).frames = A.frames := by
  first
    | rfl
    | simp [Around.under, Code.envs, Code.isFrame, pushEnvs]
/-- the reading of C(y) and C(f=y), as a value -/
def tErV (C : Addr) (f : Str) (Ok : V → Hp → Prop) (ta : TA) : TE := fun σ H Q => ta σ H fun vs H1 => ∃ y, vs = [y] ∧ (∀ a, H1 a = none → Ok y (upd H1 a (exo a C none))) ∧
  ∀ H2 a, Same H1 H2 → H1 a = none → ErrAt H2 a C f y → Q (.ref a) H2
section
variable {X : Cx} {k : Nat} {fI C : Addr} {fd : FuncData} {ps : List Str} {f x kn : Str} {p pos kpos : Pos} {e : Expr} {ta : TA} {B nw Bn nwi : String} {bo bn : List Value} {Ok : V → Hp → Prop}
theorem above_of {bm : List Value} (u : PySem.Er.Above Bn bo) (hT : ∀ X : String, bm.contains (.type X) = bo.contains (.type X)) : PySem.Er.Above Bn bm :=
  ⟨(hT _).trans u.has, (hT _).trans u.noA, (hT _).trans u.noN⟩
/-- C(y) -/
theorem pe_errV (T : ErC X.K C B nw bo) (FB : ExcBaseFacts Bn nw nwi bn) (u : PySem.Er.Above Bn bo) (iC : PySem.W.findIn X.K (.ref C) "__init__" = some (some (.ref fI)))
    (tI : PySem.W.typeIn X.K (.ref fI) = some (.type "function")) (F1 : FnG X.prog X.w X.K X.mg X.base k fI fd ["self", f] (spErr C f Ok)) (hr : Room (k + 1) X.A) (hgd : X.A.guards = some [])
    (hb : Binds X.K fd ["self", f] []) (hg : Gl X x) (hm : X.mg x = some (.ref C)) (ha : PA X [e] ta) (hdb : (x == ("__debug__" : Str)) = false := by decide)
    (hs : starEach (e :: []) X.env = (false, eval e X.env) :: starEach [] X.env := by rfl) (hpl : (backTo pos (starEach [] X.env)).any (·.1) = false := by rfl) :
    PE X (.Call (.Name x p) [e] [] pos) (tErV C f Ok ta) := by
  refine ⟨fun pins s σ H Q I h => ?_⟩
  refine wpAny_Call_Name_kw (ld_glob I hg hm ?_ hdb)
  refine PySem.W.callWith_K (h₀ := X.base) I.ok.mod.kin T.kC (thn (ha.run pos pins s σ H _ I h) fun us s1 ⟨vs, H1, I1, r1, y, ev, hOk, hq⟩ => ⟨I1.kIn, ?_⟩) hs hpl
  subst ev
  show wpAny _ _ (call (.ref C) us) _ _ _
  obtain ⟨nm, N, qn, bs, bm, hd, sn, sub, ab, cl, dd, k0, k1, k2, k3, k5, hC, hT⟩ := PySem.W.excInit_of I1.kIn T.isn
  have hus : us.length ≤ sizeLine := by
    rw [← Paired.length r1, sizeLine_eq]
    exact (by decide : 1 ≤ 16777216)
  obtain ⟨hp, gg, dr, tk, oo⟩ := s1
  have hsz : hp.objs.size ≤ hp.objs.size + 1 := Nat.le_succ _
  refine wpAny_call (PySem.Er.make_call FB (above_of u hT) hC (PySem.W.looks_findIn I1.kIn iC) (fun self => PySem.W.bind_fn I1.kIn self tI) hus
    (er_made (s1 := ⟨hp, gg, dr, tk, oo⟩) (A1 := X.A.under (.builtin "type.__call__" ⟨.ref C :: us, []⟩)) (us := Value.ref (hp.objs.size + 1) :: us) F1 (hr.make C us []) (typeCall_guards hgd) typeCall_frames I1 ?_ (.cons rfl r1) hOk fun s' H2 J hsame hn he => ⟨rfl, .ref (hp.objs.size + 1), H2, J, rfl, hq H2 _ hsame hn he⟩))
  · have KX : X.K.In ((hp.push (PySem.W.kdv_tup us)).push (HandSPX.excO C hp.objs.size)) := I1.kIn.keeps PySem.Er.kept2
    have z := hb ⟨(hp.push (PySem.W.kdv_tup us)).push (HandSPX.excO C hp.objs.size), gg, dr, tk, oo⟩ (Value.ref (hp.objs.size + 1) :: us) KX (by
      rw [List.append_nil, List.length_cons, ← Paired.length r1]
      rfl)
    rw [List.append_nil] at z
    exact z
/-- C(f=y) -/
theorem pe_errK {tk : TA} {kws : List Keyword} (T : ErC X.K C B nw bo) (FB : ExcBaseFacts Bn nw nwi bn) (u : PySem.Er.Above Bn bo) (iC : PySem.W.findIn X.K (.ref C) "__init__" = some (some (.ref fI)))
    (tI : PySem.W.typeIn X.K (.ref fI) = some (.type "function")) (F1 : FnG X.prog X.w X.K X.mg X.base k fI fd ["self", f] (spErr C f Ok)) (hr : Room (k + 1) X.A) (hgd : X.A.guards = some [])
    (hb : ∀ (s : Shared) (u v : Value), BindsTo s fd ⟨[u], [(f, v)]⟩ [("self", u), (f, v)]) (hg : Gl X x) (hm : X.mg x = some (.ref C)) (ha : PK X kws tk) (hdb : (x == ("__debug__" : Str)) = false := by decide)
    (hall : (backToKw pos (keywordEach kws X.env)).all (·.1.isSome) = true := by rfl) (hks : (backToKw pos (keywordEach kws X.env)).filterMap (·.1) = [f] := by rfl)
    (hpl : ((backTo pos (starEach [] X.env)).any (·.1) || (backToKw pos (keywordEach kws X.env)).any (·.1.isNone)) = false := by rfl) :
    PE X (.Call (.Name x p) [] kws pos) (tErV C f Ok tk) := by
  refine ⟨fun pins s σ H Q I h => ?_⟩
  refine wpAny_Call_Name_kw (ld_glob I hg hm ?_ hdb)
  refine PySem.W.callWith_KW0 (h₀ := X.base) I.ok.mod.kin T.kC hall (thn (ha.run pos pins s σ H _ I h) fun us s1 ⟨vs, H1, I1, r1, y, ev, hOk, hq⟩ => ⟨I1.kIn, ?_⟩) hpl
  subst ev
  rw [hks]
  cases r1 with
  | @cons _ u1 _ ur ry rn =>
  cases rn
  show wpAny _ _ (call (.ref C) [] [(f, u1)]) _ _ _
  obtain ⟨nm, N, qn, bs, bm, hd, sn, sub, ab, cl, dd, k0, k1, k2, k3, k5, hC, hT⟩ := PySem.W.excInit_of I1.kIn T.isn
  obtain ⟨hp, gg, dr, tk, oo⟩ := s1
  exact wpAny_call (PySem.Er.make_callK FB (above_of u hT) hC (PySem.W.looks_findIn I1.kIn iC) (fun self => PySem.W.bind_fn I1.kIn self tI)
    (er_made (s1 := ⟨hp, gg, dr, tk, oo⟩) (A1 := X.A.under (.builtin "type.__call__" ⟨[.ref C], [(f, u1)]⟩)) (us := [Value.ref (hp.objs.size + 1), u1]) F1 (hr.make C [] [(f, u1)]) (typeCall_guards hgd) typeCall_frames I1
      (hb _ _ _) (.cons rfl (.cons ry .nil)) hOk fun s' H2 J hsame hn he => ⟨rfl, .ref (hp.objs.size + 1), H2, J, rfl, hq H2 _ hsame hn he⟩))
/-! ### what is asked of an error -/
theorem err_inst {pins : List (Addr × Obj)} {σ : St} {H : Hp} {s : Shared} {a : Addr} {y : V} (I : Inv X pins σ H s) (h : ErrAt H a C f y) :
    ∃ ox od mA d, PySem.W.InstAt s.heap a ox C (some od) ∧ s.heap.Ns1 d mA ∧ s.heap.get? d = some od ∧ ∀ g, RelO ([(f, y)].lookup g) (mA g) := by
  obtain ⟨d, h1, h2⟩ := h
  obtain ⟨t1, ho⟩ := exo_at I.hok h1
  obtain ⟨mA, hns, rel⟩ := exd_at I.hok h2
  obtain ⟨od, es, ep, hod, hr⟩ := id hns
  exact ⟨_, od, mA, d, ⟨ho, rfl, rfl, hod⟩, hns, hod, rel⟩
/-- e.f -/
theorem pe_errF {o : Expr} {to : TE} {n : Str} (ho : PE X o to) (hb : attributeBase o n X.env (eval o X.env) = eval o X.env := by rfl) :
    PE X (.Attribute o n pos) (fun σ H Q => to σ H fun x H1 => ∃ (a C : Addr) (y : V) (B nw : String) (bo : List Value), x = .ref a ∧ ErrAt H1 a C n y ∧ ErC X.K C B nw bo ∧ PySem.W.findIn X.K (.ref C) n = some none ∧ Q y H1) := by
  refine ⟨fun pins s σ H Q I h => ?_⟩
  refine attr_of hb (thn (ho.run pins s σ H _ I h) fun u s1 ⟨x, H1, I1, rx, a, C, y, B, nw, bo, ex, he, T, hno, q⟩ => ?_)
  subst ex
  obtain rfl : u = Value.ref a := rx
  obtain ⟨d, h1, h2⟩ := he
  obtain ⟨t1, hoe⟩ := exo_at I1.hok h1
  obtain ⟨mA, hns, rel⟩ := exd_at I1.hok h2
  obtain ⟨od, hod, hl⟩ := lookIn_ns hns
  have r1 := rel n
  have lk : [(n, y)].lookup n = some y := by simp [List.lookup]
  rw [lk] at r1
  obtain ⟨u, hu, ru⟩ := RelO.some_of r1
  have J : PySem.W.InstAt s1.heap a { cls := .ref C, dict := some d, data := .fields #[.ref t1, .none, .none, .none, .bool false, .none] } C (some od) := ⟨hoe, rfl, rfl, hod⟩
  exact HandSPX.exc_get I1.kIn J T.ga T.gg T.exC (PySem.W.findObj_own T.hd hno rfl (by rw [hl, hu])) (handed_of ru) ⟨y, H1, I1.tok _, ru, q⟩
/-- isinstance(e, c) -/
def rIsErr (K : PySem.W.Frag) : List V → Hp → VK → Prop := fun xs H Q => ∃ (a C : Addr) (f : Str) (y c : V) (u : Value) (b : Bool) (B nw : String) (bo : List Value), xs = [.ref a, c] ∧ ErrAt H a C f y ∧ ErC K C B nw bo ∧
  ClsV c u ∧ PySem.W.kitOne K (.ref C) u = some b ∧ Q (.bl b) H
theorem call_isErr : CallR X (.builtin "isinstance") (rIsErr X.K) := by
  intro pins s σ H xs us Q I r h
  obtain ⟨a, C, f, y, c, u, b, B, nw, bo, rfl, he, T, k, e, q⟩ := h
  obtain ⟨u1, u2, rfl, r1, r2⟩ := vals2 r
  have e2 := k.eq r2
  subst e2
  obtain rfl : u1 = Value.ref a := r1
  obtain ⟨ox, od, mA, d, J, _⟩ := err_inst I he
  obtain ⟨cd, hcd, _⟩ := PySem.W.any_some T.hd
  exact PySem.W.kia_one (PySem.W.kitx_exc (gt := none) (ox := ox) (od := some od) (by rw [hcd]; rfl) T.ga T.gg T.exC T.ca T.cn T.ct T.mo) I.kIn J e (fun z => nomatch z) fun tk => ⟨.bl b, H, I.tok tk, rfl, q⟩
end
end L2

namespace L2
open PySem PySem.Spec PyProof.Rows
/-- {'a': 1}, the one dict that is shown here -/
abbrev oneKv : List (Key × V) := [(Sum.inr ("a" : Str), V.int 1)]
abbrev oneDict : PyData := .dict [(.str "a", .int 1)]
/-- v is the data d -/
inductive Dy (K : PySem.W.Frag) (H : Hp) : V → PyData → Prop where
  | plain {v : V} {d : PyData} (h : Dp K H v d) (n : d.hasDict = false) : Dy K H v d
  | dict {a : Addr} (e : H a = some (.dK oneKv)) : Dy K H (.ref a) oneDict
section
variable {X : Cx} {pins : List (Addr × Obj)} {σ : St} {H : Hp} {s : Shared}
theorem Dy.reads (I : Inv X pins σ H s) {v : V} {d : PyData} {u : Value} (h : Dy X.K H v d) (r : RelV v u) : ∃ as, Reads s.heap u d as ∧ (d.hasDict = true → sysModules ∉ as) := by
  cases h with
  | plain h n =>
    obtain ⟨as, q⟩ := Dp.reads I _ _ _ h r
    exact ⟨as, q, fun z => by rw [n] at z; cases z⟩
  | @dict a e =>
    obtain rfl : u = Value.ref a := r
    obtain ⟨_, hm, vs, kv, o, es, ep, ho, ex, hd, _, pr, _⟩ := (show ObjOk X.prog X.w H s.heap a (.dK oneKv) from I.hok a _ e)
    cases kv with
    | @cons _ q _ _ h1 h2 =>
      cases h2
      obtain ⟨k, w⟩ := q
      obtain ⟨e1, t, e2⟩ := h1
      dsimp only at e1 e2
      subst e1 e2
      obtain ⟨es⟩ := es
      dsimp only at pr
      cases pr with
      | @cons en _ _ _ p1 p2 p3 =>
        cases p3
        dsimp only at p1 p2
        obtain ⟨x, tk, e3, e4⟩ : ∃ (x : Str) (tk : Tok), en.key = .str x tk ∧ x = "a" := by
          have p1' : keyIs (Sum.inr ("a" : Str)) en.key = true := p1
          rcases keyIs_shape p1' with ⟨i, t', q1, q2⟩ | ⟨x, t', q1, q2⟩
          · cases q1
          · exact ⟨x, t', q2, (Sum.inr.inj q1).symm⟩
        subst e4
        refine ⟨_, Reads.dict (kvs := [(.str "a", .int 1)]) ho ex.1 hd (as := []) (bs := []) ?_ ?_, fun _ => ?_⟩
        · show ReadsAll _ [en.key] [.str "a"] []
          rw [e3]
          exact .cons (.str _ _) .nil
        · show ReadsAll _ [en.val] [.int 1] []
          rw [p2]
          exact .cons (.int _ _) .nil
        · have na : a ≠ sysModules := by simpa using hm
          simp [Ne.symm na]
theorem Dy.readsAll (I : Inv X pins σ H s) {v : V} {d : PyData} (h : Dy X.K H v d) : ∀ (n : Nat) (us : List Value), Vals (List.replicate n v) us → ∃ as, ReadsAll s.heap us (List.replicate n d) as ∧ (d.hasDict = true → sysModules ∉ as)
  | 0, _, r => by
    cases r
    exact ⟨[], .nil, fun _ => by simp⟩
  | n + 1, _, r => by
    cases r with
    | cons r1 r2 =>
      obtain ⟨as, q1, q2⟩ := Dy.reads I h r1
      obtain ⟨bs, q3, q4⟩ := Dy.readsAll I h n _ r2
      exact ⟨as ++ bs, .cons q1 q3, fun z w => (List.mem_append.mp w).elim (q2 z) (q4 z)⟩
end
/-- what can be shown, shortly -/
structure Short (d : PyData) : Prop where
  sh : d.showable = true
  ln : d.shown.length ≤ 100
  dp : d.depth ≤ 10
  st : ∀ x, d = .str x → x.length ≤ 100
section
variable {X : Cx} {e : Expr} {te : TE} {pos : Pos} {k : Nat}
/-- {x}: some short text -/
theorem pe_fmtD (hr : Room k X.A) (hgd : X.A.guards = some []) (he : PE X e te) : PE X (.FormattedValue e (-1) none pos)
    (fun σ H Q => te σ H fun x H1 => ∃ d, Dy X.K H1 x d ∧ Short d ∧ ∀ m : Str, m.length ≤ 100 → Q (.str m) H1) := by
  refine ⟨fun pins s σ H Q I h => ?_⟩
  refine wpAny_FormattedValue_plain (thn (he.run pins s σ H _ I h) fun v s1 ⟨x, H1, I1, r1, d, hd, sh, q⟩ => ?_)
  have hun := hr.units
  obtain ⟨as, rd, hsm⟩ := Dy.reads I1 hd r1
  have hz : d.shown.length ≤ sizeLine := Nat.le_trans sh.ln (by rw [sizeLine_eq]; decide)
  have fin : ∀ {a : Addr}, v = .ref a → wpAny (model X.prog X.w) X.A (formatField v Str.empty) (EP X pins σ Q) X.xe s1 := fun {a} ev => by
    subst ev
    exact formatField_of_reads rd sh.sh hsm hgd (by have := sh.dp; omega) (fun _ _ z => z) (fun h' u tk hk => ⟨.str d.shown, H1, I1.kept hk, ⟨u, rfl⟩, q _ sh.ln⟩) hz
  cases rd with
  | none => exact wpAny_formatField_none ⟨.str "None", H1, I1.tok _, ⟨_, rfl⟩, q _ sh.ln⟩
  | bool b => exact wpAny_formatField_bool ⟨.str (if b then "True" else "False"), H1, I1.tok _, ⟨_, rfl⟩, q _ sh.ln⟩
  | int i t =>
    have hi : i.natAbs.log2 < 1920 := by
      have z := sh.sh
      simpa [PyData.showable] using z
    exact wpAny_formatField_int hi ⟨.str (toString i), H1, I1.tok _, ⟨_, rfl⟩, q _ sh.ln⟩
  | str x t =>
    have hx := sh.st x rfl
    exact wpAny_formatField_str ⟨.str x, H1, I1, ⟨_, rfl⟩, q _ hx⟩ ⟨.str x, H1, I1.tok _, ⟨_, rfl⟩, q _ hx⟩ (Nat.le_trans hx (by rw [sizeLine_eq]; decide))
  | list => exact fin rfl
  | tuple => exact fin rfl
  | dict => exact fin rfl
theorem dictAll_rep {d : PyData} : ∀ n : Nat, PyData.hasDictAll (List.replicate n d) = true → d.hasDict = true
  | 0, z => by cases z
  | n + 1, z => by
    have z3 : (d.hasDict || PyData.hasDictAll (List.replicate n d)) = true := z
    cases hh : d.hasDict with
    | true => rfl
    | false =>
      rw [hh, Bool.false_or] at z3
      exact hh.symm.trans (dictAll_rep n z3)
/-- repr([v] * n) -/
def rRepr (K : PySem.W.Frag) : List V → Hp → VK → Prop := fun xs H Q => ∃ (l : Addr) (n : Nat) (v : V) (d : PyData), xs = [.ref l] ∧ H l = some (.lst (List.replicate n v)) ∧ Dy K H v d ∧
  (PyData.list (List.replicate n d)).showable = true ∧ (PyData.list (List.replicate n d)).shown.length ≤ 10000 ∧ (PyData.list (List.replicate n d)).depth ≤ 20 ∧
  Q (.str (PyData.list (List.replicate n d)).shown) H
theorem call_reprL (hr : Room k X.A) (hgd : X.A.guards = some []) (hS : ∃ o, X.base.get? sysModules = some o) : CallR X (.builtin "repr") (rRepr X.K) := by
  intro pins s σ H xs us Q I r h
  obtain ⟨l, n, v, d, rfl, hl, hd, h1, h2, h3, q⟩ := h
  cases r with
  | @cons _ u _ ur ru rn =>
  cases rn
  obtain rfl : u = Value.ref l := ru
  obtain ⟨_, its, m, rv, hget⟩ := (show ObjOk X.prog X.w H s.heap l (.lst (List.replicate n v)) from I.hok l _ hl)
  obtain ⟨as, ra, hsm⟩ := Dy.readsAll I hd n its rv
  have hun := hr.units
  have nl : l ≠ sysModules := fun z => by
    obtain ⟨o, ho⟩ := hS
    have w := (I.bs _ _ ho).2
    rw [← z, hl] at w
    cases w
  have rd : Reads s.heap (.ref l) (.list (List.replicate n d)) (l :: as) := Reads.list hget rfl rfl ra
  refine repr_of_reads' rd h1 (fun z w => ?_) hgd (by omega) (fun _ _ z => z) (fun h' u tk hk => ⟨.str _, H, I.kept hk, ⟨u, rfl⟩, q⟩) (Nat.le_trans h2 (by rw [sizeLine_eq]; decide))
  rcases List.mem_cons.mp w with w | w
  · exact nl w.symm
  · exact hsm (dictAll_rep n z) w
end
end L2

namespace L2
open PySem PySem.Spec PyProof.Rows
section
variable {X : Cx} {e : Expr} {te : TE} {pos : Pos}
/-- {x}: None, a text or an int, as a text -/
def tFmtO (te : TE) : TE := fun σ H Q => te σ H fun x H1 => (x = .non ∧ Q (.str "None") H1) ∨ (∃ y : Str, x = .str y ∧ y.length ≤ sizeLine ∧ Q (.str y) H1) ∨ ∃ i : Int, x = .int i ∧ i.natAbs.log2 < 1920 ∧ Q (.str (toString i)) H1
theorem pe_fmtO (he : PE X e te) : PE X (.FormattedValue e (-1) none pos) (tFmtO te) := by
  refine ⟨fun pins s σ H Q I h => ?_⟩
  refine wpAny_FormattedValue_plain (thn (he.run pins s σ H _ I h) fun v s1 hv => ?_)
  obtain ⟨x, H1, I1, r1, q⟩ := hv
  rcases q with ⟨rfl, q⟩ | ⟨y, rfl, hz, q⟩ | ⟨i, rfl, hz, q⟩
  · cases (show v = Value.none from r1)
    exact wpAny_formatField_none ⟨.str "None", H1, I1.tok _, ⟨_, rfl⟩, q⟩
  · obtain ⟨t, rfl⟩ := r1
    exact wpAny_formatField_str ⟨.str y, H1, I1, ⟨t, rfl⟩, q⟩ ⟨.str y, H1, I1.tok _, ⟨_, rfl⟩, q⟩ hz
  · obtain ⟨t, rfl⟩ := r1
    exact wpAny_formatField_int hz ⟨.str (toString i), H1, I1.tok _, ⟨_, rfl⟩, q⟩
end
/-- raise C(y): the reading of the making -/
def tErM (C : Addr) (f : Str) (Ok : V → Hp → Prop) (ta : TA) : St → Hp → XK → Prop := fun σ H Q => ta σ H fun vs H1 => ∃ y, vs = [y] ∧ (∀ a, H1 a = none → Ok y (upd H1 a (exo a C none))) ∧
  ∀ d, H1 d = none → Q (.ref C) (some d) (upd H1 d (.xd [(f, y)]))
section
variable {X : Cx} {k : Nat} {fI C : Addr} {fd : FuncData} {ps : List Str} {f x : Str} {p pos : Pos} {e : Expr} {ta : TA} {B nw Bn nwi : String} {bo bn : List Value} {Ok : V → Hp → Prop}
theorem pmk_err (T : ErC X.K C B nw bo) (tyC : PySem.W.typeIn X.K (.ref C) = some (.type "type")) (FB : ExcBaseFacts Bn nw nwi bn) (u : PySem.Er.Above Bn bo) (iC : PySem.W.findIn X.K (.ref C) "__init__" = some (some (.ref fI)))
    (tI : PySem.W.typeIn X.K (.ref fI) = some (.type "function")) (F1 : FnOk X.prog X.w X.K X.mg X.base CX0 k fI fd ["self", f] (spErr C f Ok)) (hr : Room (k + 1) X.A)
    (hb : Binds X.K fd ["self", f] []) (hg : Gl X x) (hm : X.mg x = some (.ref C)) (ha : PA X [e] ta) (hdb : (x == ("__debug__" : Str)) = false := by decide)
    (hs : starEach (e :: []) X.env = (false, eval e X.env) :: starEach [] X.env := by rfl) (hpl : (backTo pos (starEach [] X.env)).any (·.1) = false := by rfl) :
    PMk X (.Call (.Name x p) [e] [] pos) (tErM C f Ok ta) := by
  intro pins s σ H Q I h
  refine wpAny_Call_Name_kw (ld_glob I hg hm ?_ hdb)
  refine PySem.W.callWith_K (h₀ := X.base) I.ok.mod.kin T.kC (thn (ha.run pos pins s σ H _ I h) fun us s1 ⟨vs, H1, I1, r1, y, ev, hOk, q1⟩ => ⟨I1.kIn, ?_⟩) hs hpl
  subst ev
  show wpAny _ _ (call (.ref C) us) _ _ _
  obtain ⟨nm, N, qn, bs, bm, hd, sn, sub, ab, cl, dd, k0, k1, k2, k3, k5, hC, hT⟩ := PySem.W.excInit_of I1.kIn T.isn
  have hus : us.length ≤ sizeLine := by
    rw [← Paired.length r1, sizeLine_eq]
    exact (by decide : 1 ≤ 16777216)
  obtain ⟨hp, g, dr, tk, os⟩ := s1
  have hsz : hp.objs.size ≤ hp.objs.size + 1 := Nat.le_succ _
  have hn : H1 (hp.objs.size + 1) = none := I1.hok.fresh hsz
  have kk : ∀ b o, hp.get? b = some o → ((hp.push (PySem.W.kdv_tup us)).push (PySem.HandSPX.excO C hp.objs.size)).get? b = some o := fun b o e => Heap.get?_push_of_some _ (Heap.get?_push_of_some _ e)
  have hget : ((hp.push (PySem.W.kdv_tup us)).push (PySem.HandSPX.excO C hp.objs.size)).get? (hp.objs.size + 1) = some (PySem.HandSPX.excO C hp.objs.size) := by
    have z := Heap.get?_push_size (hp.push (PySem.W.kdv_tup us)) (o := HandSPX.excO C hp.objs.size) rfl
    rw [Heap.size_push] at z
    exact z
  have I2 : Inv X pins σ (upd H1 (hp.objs.size + 1) (exo (hp.objs.size + 1) C none)) ⟨(hp.push (PySem.W.kdv_tup us)).push (PySem.HandSPX.excO C hp.objs.size), g, dr, tk, os⟩ :=
    I1.laid (t' := tk) (a := hp.objs.size + 1) (o := exo (hp.objs.size + 1) C none) (h' := (hp.push (PySem.W.kdv_tup us)).push (PySem.HandSPX.excO C hp.objs.size)) kk hsz (exo_ok hget)
  have hl : (Value.ref (hp.objs.size + 1) :: us ++ []).length = (["self", f] : List Str).length := by
    rw [List.append_nil, List.length_cons, ← Paired.length r1]
    rfl
  have hb' := hb ⟨(hp.push (PySem.W.kdv_tup us)).push (HandSPX.excO C hp.objs.size), g, dr, tk, os⟩ (Value.ref (hp.objs.size + 1) :: us) I2.kIn hl
  rw [List.append_nil] at hb'
  refine wpAny_call (PySem.Er.make_call FB (above_of u hT) hC (PySem.W.looks_findIn I1.kIn iC) (fun self => PySem.W.bind_fn I1.kIn self tI) hus
    (codeAny_mono (F1.run _ X.stack _ _ ⟨Value.ref (hp.objs.size + 1) :: us, []⟩ (Value.ref (hp.objs.size + 1) :: us) [V.ref (hp.objs.size + 1), y]
      (fun v H2 => v = .non ∧ ∃ d, H1 d = none ∧ d ≠ hp.objs.size + 1 ∧ H2 = upd (upd (upd H1 (hp.objs.size + 1) (exo (hp.objs.size + 1) C none)) d (exd d [(f, y)])) (hp.objs.size + 1) (exo (hp.objs.size + 1) C (some d))) E0
      (hr.make C us []) (I2.env0.make C us []) hb' (.cons rfl r1)
      ⟨hp.objs.size + 1, y, rfl, upd_same, hOk _ hn, fun d hd nd => ⟨rfl, d, by rw [upd_ne nd] at hd; exact hd, nd, rfl⟩⟩) fun r s' hq' => ?_))
  cases r with
  | error er => exact False.elim hq'
  | ok fl =>
    cases fl with
    | ret u =>
      obtain ⟨v, H2, os2, bare2, un2, hok2, rv, ev, d, hd1, nd, eH⟩ := hq'
      subst ev
      obtain ⟨h2, g2, d2, t2, os'⟩ := s'
      have ea : H2 (hp.objs.size + 1) = some (exo (hp.objs.size + 1) C (some d)) := by rw [eH, upd_same]
      have ed : H2 d = some (exd d [(f, y)]) := by rw [eH, upd_ne nd, upd_same]
      have eq : upd (del H2 (hp.objs.size + 1)) d (.xd [(f, y)]) = upd H1 d (.xd [(f, y)]) := by
        funext b
        by_cases hb : b = d
        · rw [hb, upd_same, upd_same]
        · rw [upd_ne hb, upd_ne hb]
          by_cases ha : b = hp.objs.size + 1
          · rw [ha, del_same, hn]
          · rw [del_ne ha, eH, upd_ne ha, upd_ne hb, upd_ne ha]
      exact ⟨rv, mk_end (raises_own T.exC tyC) I1 hsz kk un2 hok2 os2 bare2 ea ed hd1 (by rw [eq]; exact q1 d hd1)⟩
    | next => exact False.elim hq'
    | brk => exact False.elim hq'
    | cont => exact False.elim hq'
end
end L2

namespace Lg
open PySem PySem.Spec PyProof.Rows L2
inductive Op where
  | plus | minus | times | less | same
deriving DecidableEq
def Op.sign : Op → List Nat
  | .plus => [32, 43, 32]
  | .minus => [32, 45, 32]
  | .times => [32, 42, 32]
  | .less => [32, 60, 32]
  | .same => [32, 61, 61, 32]
def Op.str : Op → Nat
  | .plus => 2
  | .minus => 2
  | .times => 3
  | .less => 1
  | .same => 1
def Op.name : Op → Str
  | .plus => "plus"
  | .minus => "minus"
  | .times => "times"
  | .less => "less"
  | .same => "same"
theorem Op.str_pos (o : Op) : 1 ≤ o.str := by cases o <;> decide
theorem Op.str_le (o : Op) : o.str ≤ 3 := by cases o <;> decide
inductive E where
  | word (z : List Nat)
  | num (n : Nat)
  | ask (q z : List Nat)
  | op (o : Op) (a b : E)
/-- the code points of str(n) -/
def ntx (n : Nat) : List Nat := (Str.ofString (toString (n : Int))).cps.toList
def Dig (c : Nat) : Prop := 48 ≤ c ∧ c ≤ 57
def Let (c : Nat) : Prop := 97 ≤ c ∧ c ≤ 122
instance : DecidablePred Dig := fun c => by unfold Dig; exact inferInstance
instance : DecidablePred Let := fun c => by unfold Let; exact inferInstance
structure WordOk (z : List Nat) : Prop where
  ne : z ≠ []
  len : z.length ≤ 8
  all : ∀ c ∈ z, Let c
structure NumOk (n : Nat) : Prop where
  lt : n < 1000000007
  ne : ntx n ≠ []
  len : (ntx n).length ≤ 10
  all : ∀ c ∈ ntx n, Dig c
  lead : (ntx n)[0]? = some 48 → (ntx n).length ≤ 1
  int : intText? ⟨(ntx n).toArray⟩ = some (n : Int)
/-- the code points of a word -/
def wd (s : String) : List Nat := (Str.ofString s).cps.toList
def Ques (q : List Nat) : Prop := q = wd "known" ∨ q = wd "reason"
def E.Ok : E → Prop
  | .word z => WordOk z
  | .num n => NumOk n
  | .ask q z => Ques q ∧ WordOk z
  | .op _ a b => a.Ok ∧ b.Ok
def E.dep : E → Nat
  | .op _ a b => max a.dep b.dep + 1
  | _ => 1
def E.str : E → Nat
  | .op o _ _ => o.str
  | _ => 4
theorem E.dep_pos (e : E) : 1 ≤ e.dep := by cases e <;> simp [E.dep]
theorem E.str_pos (e : E) : 1 ≤ e.str := by
  cases e with
  | op o a b => exact o.str_pos
  | _ => show 1 ≤ 4; decide
def signAt (l : List Nat) : Option Op :=
  if [32, 43, 32].isPrefixOf l then some .plus else if [32, 45, 32].isPrefixOf l then some .minus else if [32, 42, 32].isPrefixOf l then some .times
  else if [32, 60, 32].isPrefixOf l then some .less else if [32, 61, 61, 32].isPrefixOf l then some .same else none
def NoHead (P : Nat → Prop) (l : List Nat) : Prop := ∀ c r, l = c :: r → ¬ P c
def Bef (l : List Nat) : Prop := ∃ c r, l = 32 :: c :: r ∧ Let c
inductive J where
  | opd
  | ops (least : Nat)
  | loop (least : Nat) (e : E) (d : Nat)
inductive Rd : Nat → Nat → J → List Nat → E → Nat → List Nat → Prop where
  | par {h ar l e d l'} : ar < 20 → Rd h (ar + 1) (.ops 1) l e d (41 :: l') → Rd (h + 1) ar .opd (40 :: l) e d l'
  | num {h ar n l'} : NumOk n → NoHead Dig l' → Rd h ar .opd (ntx n ++ l') (.num n) 1 l'
  | word {h ar z l'} : WordOk z → NoHead Let l' → ¬ (Ques z ∧ Bef l') → Rd h ar .opd (z ++ l') (.word z) 1 l'
  | ask {h ar q z l'} : Ques q → WordOk z → NoHead Let l' → Rd h ar .opd (q ++ 32 :: (z ++ l')) (.ask q z) 1 l'
  | ops {h ar least l e0 d0 l1 e d l'} : Rd h ar .opd l e0 d0 l1 → Rd h ar (.loop least e0 d0) l1 e d l' → Rd (h + 1) ar (.ops least) l e d l'
  | stop {h ar least e d l} : (∀ o, signAt l = some o → o.str < least) → Rd h ar (.loop least e d) l e d l
  | step {h ar least e d o l1 e2 d2 l2 e' d' l'} : signAt (o.sign ++ l1) = some o → least ≤ o.str → Rd h ar (.ops (o.str + 1)) l1 e2 d2 l2 → max d d2 + 1 ≤ 6 →
      Rd h ar (.loop least (.op o e e2) (max d d2 + 1)) l2 e' d' l' → Rd h ar (.loop least e d) (o.sign ++ l1) e' d' l'
theorem Rd.mono {h ar j l e d l'} (r : Rd h ar j l e d l') : ∀ {h2}, h ≤ h2 → Rd h2 ar j l e d l' := by
  induction r with
  | par a _ ih => intro h2 z; obtain ⟨m, rfl⟩ : ∃ m, h2 = m + 1 := ⟨h2 - 1, by omega⟩; exact .par a (ih (by omega))
  | num a b => intro h2 z; exact .num a b
  | word a b c => intro h2 z; exact .word a b c
  | ask a b c => intro h2 z; exact .ask a b c
  | ops _ _ i1 i2 => intro h2 z; obtain ⟨m, rfl⟩ : ∃ m, h2 = m + 1 := ⟨h2 - 1, by omega⟩; exact .ops (i1 (by omega)) (i2 (by omega))
  | stop a => intro h2 z; exact .stop a
  | step a b _ c _ i1 i2 => intro h2 z; exact .step a b (i1 z) c (i2 z)
/-! ### what stands behind is left -/
theorem split_one {P : Nat → Prop} : ∀ {a b r s : List Nat}, (∀ c ∈ a, P c) → (∀ c ∈ b, P c) → NoHead P r → NoHead P s → a ++ r = b ++ s → a = b ∧ r = s
  | [], [], _, _, _, _, _, _, e => ⟨rfl, e⟩
  | [], c :: b, r, s, _, hb, hr, _, e => absurd (hb c (by simp)) (hr c _ (by simpa using e))
  | c :: a, [], r, s, ha, _, _, hs, e => absurd (ha c (by simp)) (hs c _ (by simpa using e.symm))
  | c :: a, c2 :: b, r, s, ha, hb, hr, hs, e => by
    have e' : c :: (a ++ r) = c2 :: (b ++ s) := e
    injection e' with e1 e2
    obtain ⟨x, y⟩ := split_one (fun q hq => ha q (by simp [hq])) (fun q hq => hb q (by simp [hq])) hr hs e2
    exact ⟨by rw [e1, x], y⟩
theorem WordOk.head {z : List Nat} (w : WordOk z) : ∃ c r, z = c :: r ∧ Let c := by
  cases z with
  | nil => exact absurd rfl w.ne
  | cons c r => exact ⟨c, r, rfl, w.all c (by simp)⟩
theorem Ques.word {q : List Nat} (h : Ques q) : WordOk q := by
  rcases h with rfl | rfl
  · exact ⟨by decide +kernel, by decide +kernel, by decide +kernel⟩
  · exact ⟨by decide +kernel, by decide +kernel, by decide +kernel⟩
theorem NumOk.head {n : Nat} (w : NumOk n) : ∃ c r, ntx n = c :: r ∧ Dig c := by
  cases z : ntx n with
  | nil => exact absurd z w.ne
  | cons c r => exact ⟨c, r, rfl, w.all c (by rw [z]; simp)⟩
theorem let_dig {c : Nat} (h : Let c) (g : Dig c) : False := by
  obtain ⟨a, b⟩ := h
  obtain ⟨x, y⟩ := g
  omega
theorem let_open {c : Nat} (h : Let c) : c ≠ 40 := by
  obtain ⟨a, b⟩ := h
  omega
theorem dig_open {c : Nat} (h : Dig c) : c ≠ 40 := by
  obtain ⟨a, b⟩ := h
  omega
theorem nohead32 (r : List Nat) : NoHead Let (32 :: r) := fun c r' e => by
  injection e with e1 _
  rw [← e1]
  decide
theorem ntx_inj {n m : Nat} (hn : NumOk n) (hm : NumOk m) (e : ntx n = ntx m) : n = m := by
  have a := hn.int
  rw [e, hm.int] at a
  have b := Option.some.inj a
  omega
theorem det {h ar j l e d l'} (r : Rd h ar j l e d l') : ∀ {h2 e2 d2 l2}, Rd h2 ar j l e2 d2 l2 → e = e2 ∧ d = d2 ∧ l' = l2 := by
  induction r with
  | @par h ar l e d l' a _ ih =>
    intro h2 e2 d2 l2 r2
    generalize hl : 40 :: l = L at r2
    cases r2 with
    | par _ q =>
      injection hl with _ hl
      subst hl
      obtain ⟨x, y, z⟩ := ih q
      injection z with _ z
      exact ⟨x, y, z⟩
    | num w _ =>
      obtain ⟨c, r, e1, hc⟩ := w.head
      rw [e1] at hl
      injection hl with q _
      exact absurd q.symm (dig_open hc)
    | word w _ _ =>
      obtain ⟨c, r, e1, hc⟩ := w.head
      rw [e1] at hl
      injection hl with q _
      exact absurd q.symm (let_open hc)
    | ask w _ _ =>
      obtain ⟨c, r, e1, hc⟩ := w.word.head
      rw [e1] at hl
      injection hl with q _
      exact absurd q.symm (let_open hc)
  | @num h ar n l' hn hl' =>
    intro h2 e2 d2 l2 r2
    generalize hl : ntx n ++ l' = L at r2
    obtain ⟨c0, r0, en, hc0⟩ := hn.head
    cases r2 with
    | par _ q =>
      rw [en] at hl
      injection hl with q _
      exact absurd q (dig_open hc0)
    | num w k =>
      obtain ⟨x, y⟩ := split_one hn.all w.all hl' k hl
      exact ⟨by rw [ntx_inj hn w x], rfl, y⟩
    | word w _ _ =>
      obtain ⟨c, r, e1, hc⟩ := w.head
      rw [e1, en] at hl
      injection hl with q _
      exact (let_dig hc (q ▸ hc0)).elim
    | ask w _ _ =>
      obtain ⟨c, r, e1, hc⟩ := w.word.head
      rw [e1, en] at hl
      injection hl with q _
      exact (let_dig hc (q ▸ hc0)).elim
  | @word h ar z l' hn hl' nq =>
    intro h2 e2 d2 l2 r2
    generalize hl : z ++ l' = L at r2
    obtain ⟨c0, r0, en, hc0⟩ := hn.head
    cases r2 with
    | par _ q =>
      rw [en] at hl
      injection hl with q _
      exact absurd q (let_open hc0)
    | num w k =>
      obtain ⟨c, r, e1, hc⟩ := w.head
      rw [e1, en] at hl
      injection hl with q _
      exact (let_dig hc0 (q.symm ▸ hc)).elim
    | word w k _ =>
      obtain ⟨x, y⟩ := split_one hn.all w.all hl' k hl
      exact ⟨by rw [x], rfl, y⟩
    | ask w u k =>
      obtain ⟨x, y⟩ := split_one hn.all w.word.all hl' (nohead32 _) hl
      obtain ⟨c, r, e1, hc⟩ := u.head
      exact absurd ⟨x ▸ w, c, r ++ l2, by rw [y, e1]; rfl, hc⟩ nq
  | @ask h ar q z l' hq hz hl' =>
    intro h2 e2 d2 l2 r2
    generalize hl : q ++ 32 :: (z ++ l') = L at r2
    obtain ⟨c0, r0, en, hc0⟩ := hq.word.head
    cases r2 with
    | par _ q =>
      rw [en] at hl
      injection hl with q _
      exact absurd q (let_open hc0)
    | num w k =>
      obtain ⟨c, r, e1, hc⟩ := w.head
      rw [e1, en] at hl
      injection hl with q _
      exact (let_dig hc0 (q.symm ▸ hc)).elim
    | word w k nq =>
      obtain ⟨x, y⟩ := split_one hq.word.all w.all (nohead32 _) k hl
      obtain ⟨c, r, e1, hc⟩ := hz.head
      exact absurd ⟨x ▸ hq, c, r ++ l', by rw [← y, e1]; rfl, hc⟩ nq
    | ask w u k =>
      obtain ⟨x, y⟩ := split_one hq.word.all w.word.all (nohead32 _) (nohead32 _) hl
      injection y with _ y
      obtain ⟨y1, y2⟩ := split_one hz.all u.all hl' k y
      exact ⟨by rw [x, y1], rfl, y2⟩
  | ops _ _ i1 i2 =>
    intro h2 e2 d2 l2 r2
    cases r2 with
    | ops p q =>
      obtain ⟨x, y, z⟩ := i1 p
      subst x y z
      exact i2 q
  | @stop h ar least e d l a =>
    intro h2 e2 d2 l2 r2
    cases r2 with
    | stop _ => exact ⟨rfl, rfl, rfl⟩
    | step s k _ _ _ => exact absurd k (Nat.not_le.mpr (a _ s))
  | @step h ar least e d o l1 e2 d2 l2 e' d' l' s k _ _ _ i1 i2 =>
    intro h2 e2 d2 l2 r2
    generalize hl : o.sign ++ l1 = L at r2
    cases r2 with
    | stop a => exact absurd k (Nat.not_le.mpr (a _ (hl ▸ s)))
    | @step _ _ _ _ _ o2 l12 _ _ _ _ _ _ s2 k2 p m q =>
      have eo : o = o2 := by
        rw [← hl, s] at s2
        exact Option.some.inj s2
      subst eo
      have el := List.append_cancel_left hl
      subst el
      obtain ⟨x, y, z⟩ := i1 p
      subst x y z
      exact i2 q
end Lg

namespace Lg
open PySem PySem.Spec PyProof.Rows L2
def paren (s : List Nat) : List Nat := 40 :: (s ++ [41])
inductive Shw : E → List Nat → Prop where
  | word {z} : Shw (.word z) z
  | num {n} : Shw (.num n) (ntx n)
  | ask {q z} : Shw (.ask q z) (q ++ 32 :: z)
  | op {o a b sa sb xa xb} : Shw a sa → Shw b sb → (xa = paren sa ∨ (xa = sa ∧ o.str ≤ a.str)) → (xb = paren sb ∨ (xb = sb ∧ o.str < b.str)) → Shw (.op o a b) (xa ++ o.sign ++ xb)
def fmt : E → List Nat
  | .word z => z
  | .num n => ntx n
  | .ask q z => q ++ 32 :: z
  | .op o a b => (if a.str < o.str then paren (fmt a) else fmt a) ++ o.sign ++ (if b.str < o.str + 1 then paren (fmt b) else fmt b)
theorem shw_fmt : ∀ e : E, Shw e (fmt e)
  | .word _ => .word
  | .num _ => .num
  | .ask _ _ => .ask
  | .op o a b => by
    refine .op (shw_fmt a) (shw_fmt b) ?_ ?_
    · by_cases c : a.str < o.str
      · rw [if_pos c]; exact .inl rfl
      · rw [if_neg c]; exact .inr ⟨rfl, by omega⟩
    · by_cases c : b.str < o.str + 1
      · rw [if_pos c]; exact .inl rfl
      · rw [if_neg c]; exact .inr ⟨rfl, by omega⟩
/-- what may stand behind an expression so strong -/
def Fol (k : Nat) (r : List Nat) : Prop := r = [] ∨ (∃ r', r = 41 :: r') ∨ ∃ (o : Op) (r' : List Nat), r = o.sign ++ r' ∧ o.str ≤ k
theorem Fol.let {k : Nat} {r : List Nat} (f : Fol k r) : NoHead Let r := by
  intro c x e
  rcases f with rfl | ⟨r', rfl⟩ | ⟨o, r', rfl, _⟩
  · cases e
  · injection e with e _; rw [← e]; decide
  · cases o <;> (injection e with e _; rw [← e]; decide)
theorem Fol.dig {k : Nat} {r : List Nat} (f : Fol k r) : NoHead Dig r := by
  intro c x e
  rcases f with rfl | ⟨r', rfl⟩ | ⟨o, r', rfl, _⟩
  · cases e
  · injection e with e _; rw [← e]; decide
  · cases o <;> (injection e with e _; rw [← e]; decide)
theorem Fol.bef {k : Nat} {r : List Nat} (f : Fol k r) : ¬ Bef r := by
  rintro ⟨c, x, e, hc⟩
  rcases f with rfl | ⟨r', rfl⟩ | ⟨o, r', rfl, _⟩
  · cases e
  · injection e with e _; cases e
  · cases o <;> (injection e with _ e; injection e with e _; rw [← e] at hc; revert hc; decide)
theorem signAt_sign (o : Op) (r : List Nat) : signAt (o.sign ++ r) = some o := by
  cases o <;> rfl
theorem signAt_shut (r : List Nat) : signAt (41 :: r) = none := rfl
theorem Fol.stop {k : Nat} {r : List Nat} (f : Fol k r) : ∀ o, signAt r = some o → o.str < k + 1 := by
  intro o e
  rcases f with rfl | ⟨r', rfl⟩ | ⟨o2, r', rfl, h⟩
  · cases e
  · cases e
  · rw [signAt_sign] at e
    cases e
    omega
theorem Fol.up {k m : Nat} {r : List Nat} (f : Fol k r) (h : k ≤ m) : Fol m r := by
  rcases f with a | a | ⟨o, r', e, q⟩
  · exact .inl a
  · exact .inr (.inl a)
  · exact .inr (.inr ⟨o, r', e, by omega⟩)
theorem fol_shut {k : Nat} {r : List Nat} : Fol k (41 :: r) := .inr (.inl ⟨r, rfl⟩)
/-- a reading of the text of e, and of what comes behind it -/
theorem reads {e : E} {s : List Nat} (S : Shw e s) : e.Ok → e.dep ≤ 6 → ∀ {least h ar r e' d' l'}, least ≤ e.str → 3 * e.dep ≤ h → ar + e.dep ≤ 20 → Fol e.str r →
    Rd h ar (.loop least e e.dep) r e' d' l' → Rd (h + 1) ar (.ops least) (s ++ r) e' d' l' := by
  induction S with
  | word => intro ok _ least h ar r e' d' l' _ _ _ f k; exact .ops (.word ok f.let fun z => f.bef z.2) k
  | num => intro ok _ least h ar r e' d' l' _ _ _ f k; exact .ops (.num ok f.dig) k
  | ask =>
    intro ok _ least h ar r e' d' l' _ _ _ f k
    have q := Rd.ask (h := h) (ar := ar) ok.1 ok.2 f.let
    rw [List.append_assoc]
    exact .ops q k
  | @op o a b sa sb xa xb SA SB ha hb ia ib =>
    intro ok dp least h ar r e' d' l' hl hh har f k
    have dm : (E.op o a b).dep = max a.dep b.dep + 1 := rfl
    have d1 : a.dep ≤ max a.dep b.dep := Nat.le_max_left _ _
    have d2 : b.dep ≤ max a.dep b.dep := Nat.le_max_right _ _
    have p1 := a.dep_pos
    have p2 := b.dep_pos
    have hl' : least ≤ o.str := hl
    rw [dm] at dp hh har
    -- the second part
    have second : Rd h ar (.ops (o.str + 1)) (xb ++ r) b b.dep r := by
      obtain ⟨g, rfl⟩ : ∃ g, h = g + 1 := ⟨h - 1, by omega⟩
      rcases hb with rfl | ⟨rfl, hb⟩
      · have f' : Fol 0 (41 :: r) := fol_shut
        obtain ⟨g2, rfl⟩ : ∃ g2, g = g2 + 2 := ⟨g - 2, by omega⟩
        have inn : Rd (g2 + 1) (ar + 1) (.ops 1) (sb ++ 41 :: r) b b.dep (41 :: r) :=
          ib ok.2 (by omega) b.str_pos (by omega) (by omega) fol_shut (.stop fun o z => by cases z)
        have e1 : paren sb ++ r = 40 :: (sb ++ 41 :: r) := by simp [paren]
        rw [e1]
        exact .ops (.par (by omega) inn) (.stop fun o2 z => f.stop o2 z)
      · refine ib ok.2 (by omega) hb (by omega) (by omega) (f.up ?_) (.stop fun o2 z => f.stop o2 z)
        show o.str ≤ _
        omega
    have cont : Rd h ar (.loop least a a.dep) (o.sign ++ (xb ++ r)) e' d' l' := .step (signAt_sign o _) hl' second (by omega) k
    have ea : xa ++ o.sign ++ xb ++ r = xa ++ (o.sign ++ (xb ++ r)) := by simp
    rw [ea]
    rcases ha with rfl | ⟨rfl, ha⟩
    · obtain ⟨g2, rfl⟩ : ∃ g2, h = g2 + 2 := ⟨h - 2, by omega⟩
      have inn : Rd (g2 + 1) (ar + 1) (.ops 1) (sa ++ 41 :: (o.sign ++ (xb ++ r))) a a.dep (41 :: (o.sign ++ (xb ++ r))) :=
        ia ok.1 (by omega) a.str_pos (by omega) (by omega) fol_shut (.stop fun o z => by cases z)
      have e1 : paren sa ++ (o.sign ++ (xb ++ r)) = 40 :: (sa ++ 41 :: (o.sign ++ (xb ++ r))) := by simp [paren]
      rw [e1]
      exact .ops (.par (by omega) inn) cont
    · exact ia ok.1 (by omega) (by omega) (by omega) (by omega) (.inr (.inr ⟨o, _, rfl, ha⟩)) cont
/-- the whole text, in up to m parentheses more -/
theorem reads_all {e : E} {s : List Nat} (S : Shw e s) (ok : e.Ok) (dp : e.dep ≤ 6) {ar : Nat} (har : ar ≤ 4) {r : List Nat} (hr : r = [] ∨ ∃ r', r = 41 :: r') : Rd 19 ar (.ops 1) (s ++ r) e e.dep r := by
  refine reads S ok dp e.str_pos (by omega) (by omega) ?_ (.stop fun o z => ?_)
  · rcases hr with h | h
    · exact .inl h
    · exact .inr (.inl h)
  · rcases hr with rfl | ⟨r', rfl⟩ <;> cases z
theorem reads_par {e : E} {s : List Nat} (S : Shw e s) (ok : e.Ok) (dp : e.dep ≤ 6) : Rd 24 0 (.ops 1) (40 :: 40 :: (s ++ [41, 41])) e e.dep [] := by
  have a : Rd 19 2 (.ops 1) (s ++ [41, 41]) e e.dep [41, 41] := reads_all S ok dp (by omega) (.inr ⟨_, rfl⟩)
  have b : Rd 21 1 (.ops 1) (40 :: (s ++ [41, 41])) e e.dep [41] := .ops (.par (by omega) a) (.stop fun o z => by cases z)
  have c : Rd 23 0 (.ops 1) (40 :: 40 :: (s ++ [41, 41])) e e.dep [] := .ops (.par (by omega) b) (.stop fun o z => by cases z)
  exact c.mono (by omega)
theorem shw_inj {e e2 : E} {s : List Nat} (S : Shw e s) (S2 : Shw e2 s) (ok : e.Ok) (ok2 : e2.Ok) (dp : e.dep ≤ 6) (dp2 : e2.dep ≤ 6) : e = e2 :=
  (det (reads_all (ar := 0) S ok dp (by omega) (r := []) (.inl rfl)) (reads_all (ar := 0) S2 ok2 dp2 (by omega) (r := []) (.inl rfl))).1
end Lg

namespace Lg
open PySem PySem.Spec PyProof.Rows L2
abbrev st (z : List Nat) : Str := ⟨z.toArray⟩
def dat : E → PyData
  | .word z => .str (st z)
  | .num n => .int n
  | .ask q z => .tuple [.str (st q), .str (st z)]
  | .op o a b => .tuple [.str o.name, dat a, dat b]
def nm (o : Op) : List Nat := o.name.cps.toList
def rp : E → List Nat
  | .word z => 39 :: (z ++ [39])
  | .num n => ntx n
  | .ask q z => 40 :: 39 :: (q ++ 39 :: 44 :: 32 :: 39 :: (z ++ [39, 41]))
  | .op o a b => 40 :: 39 :: (nm o ++ 39 :: 44 :: 32 :: (rp a ++ 44 :: 32 :: (rp b ++ [41])))
theorem nm_let (o : Op) : ∀ c ∈ nm o, Let c := by cases o <;> decide +kernel
theorem nm_inj {o o2 : Op} (e : nm o = nm o2) : o = o2 := by
  revert e
  cases o <;> cases o2 <;> decide +kernel
theorem nm_ques {o : Op} (h : Ques (nm o)) : False := by
  rcases h with h | h <;> (revert h; cases o <;> decide +kernel)
theorem repr_char {c : Nat} (h : Let c) : Builtin.Str.reprChar 39 c = [c] := by
  obtain ⟨h1, h2⟩ := h
  have : ∀ c, c < 123 → 97 ≤ c → Builtin.Str.reprChar 39 c = [c] := by decide +kernel
  exact this c (by omega) h1
theorem fold_repr : ∀ (z : List Nat) (acc : Array Nat), (∀ c ∈ z, Let c) → (z.foldl (fun out c => out ++ (Builtin.Str.reprChar 39 c).toArray) acc).toList = acc.toList ++ z
  | [], acc, _ => by simp
  | c :: z, acc, h => by
    rw [List.foldl_cons, fold_repr z _ fun q hq => h q (by simp [hq]), repr_char (h c (by simp))]
    simp
theorem quote_let {z : List Nat} (h : ∀ c ∈ z, Let c) : reprQuote (st z) = 39 := by
  unfold reprQuote
  have n : ¬ (39 ∈ z) := fun q => by
    obtain ⟨a, b⟩ := h _ q
    omega
  simp [n]
theorem repr_word {z : List Nat} (h : ∀ c ∈ z, Let c) : (reprText (st z)).cps.toList = 39 :: (z ++ [39]) := by
  unfold reprText
  rw [quote_let h]
  rw [Array.toList_push, ← Array.foldl_toList, fold_repr _ _ h]
  simp
theorem strExt {a b : Str} (h : a.cps.toList = b.cps.toList) : a = b := by
  obtain ⟨⟨a⟩⟩ := a
  obtain ⟨⟨b⟩⟩ := b
  simp at h
  rw [h]
theorem app_list (a b : Str) : (a ++ b).cps.toList = a.cps.toList ++ b.cps.toList := by
  show (a.cps ++ b.cps).toList = _
  simp
theorem comma_list : (Str.ofString ", ").cps.toList = [44, 32] := by decide +kernel
theorem open_list : (Str.ofString "(").cps.toList = [40] := by decide +kernel
theorem shut_list : (Str.ofString ")").cps.toList = [41] := by decide +kernel
theorem name_list (o : Op) : (st (nm o)) = o.name := by cases o <;> rfl
theorem tup2 (a b : Str) : (tupleText [a, b]).cps.toList = 40 :: (a.cps.toList ++ 44 :: 32 :: (b.cps.toList ++ [41])) := by
  unfold tupleText
  rw [app_list, app_list, open_list]
  rw [if_neg (show ¬ (([a, b].length == 1) = true) by simp), shut_list]
  show [40] ++ (a ++ Str.ofString ", " ++ b).cps.toList ++ [41] = _
  rw [app_list, app_list, comma_list]
  simp
theorem tup3 (a b c : Str) : (tupleText [a, b, c]).cps.toList = 40 :: (a.cps.toList ++ 44 :: 32 :: (b.cps.toList ++ 44 :: 32 :: (c.cps.toList ++ [41]))) := by
  unfold tupleText
  rw [app_list, app_list, open_list]
  rw [if_neg (show ¬ (([a, b, c].length == 1) = true) by simp), shut_list]
  show [40] ++ (a ++ Str.ofString ", " ++ (b ++ Str.ofString ", " ++ c)).cps.toList ++ [41] = _
  rw [app_list, app_list, app_list, app_list, comma_list]
  simp
theorem shown_dat : ∀ e : E, e.Ok → (dat e).shown.cps.toList = rp e
  | .word z, ok => by
    show (PyData.shown (.str (st z))).cps.toList = _
    rw [PyData.shown.eq_4]
    exact repr_word ok.all
  | .num n, ok => by
    show (PyData.shown (.int n)).cps.toList = _
    rw [PyData.shown.eq_3]
    rfl
  | .ask q z, ok => by
    show (PyData.shown (.tuple [.str (st q), .str (st z)])).cps.toList = _
    rw [PyData.shown.eq_6, PyData.shownAll.eq_2, PyData.shownAll.eq_2, PyData.shownAll.eq_1, tup2, PyData.shown.eq_4, PyData.shown.eq_4, repr_word ok.1.word.all, repr_word ok.2.all]
    simp [rp]
  | .op o a b, ok => by
    show (PyData.shown (.tuple [.str o.name, dat a, dat b])).cps.toList = _
    rw [PyData.shown.eq_6, PyData.shownAll.eq_2, PyData.shownAll.eq_2, PyData.shownAll.eq_2, PyData.shownAll.eq_1, tup3, PyData.shown.eq_4, ← name_list, repr_word (nm_let o), shown_dat a ok.1, shown_dat b ok.2]
    simp [rp]
theorem nh39 (r : List Nat) : NoHead Let (39 :: r) := fun c r' e => by
  injection e with e1 _
  rw [← e1]
  decide
theorem nd44 (r : List Nat) : NoHead Dig (44 :: r) := fun c r' e => by
  injection e with e1 _
  rw [← e1]
  decide
theorem nd41 (r : List Nat) : NoHead Dig (41 :: r) := fun c r' e => by
  injection e with e1 _
  rw [← e1]
  decide
theorem rp_head (e : E) : e.Ok → ∃ c r, rp e = c :: r ∧ ((∃ z, e = .word z) ∧ c = 39 ∨ (∃ n, e = .num n) ∧ Dig c ∨ ((∃ q z, e = .ask q z) ∨ ∃ o a b, e = .op o a b) ∧ c = 40) := by
  cases e with
  | word z => intro _; exact ⟨_, _, rfl, .inl ⟨⟨_, rfl⟩, rfl⟩⟩
  | num n => intro ok; obtain ⟨c, r, h1, h2⟩ := NumOk.head ok; exact ⟨c, r, h1, .inr (.inl ⟨⟨_, rfl⟩, h2⟩)⟩
  | ask q z => intro _; exact ⟨_, _, rfl, .inr (.inr ⟨.inl ⟨_, _, rfl⟩, rfl⟩)⟩
  | op o a b => intro _; exact ⟨_, _, rfl, .inr (.inr ⟨.inr ⟨_, _, _, rfl⟩, rfl⟩)⟩
theorem rp_inj : ∀ (e e2 : E), e.Ok → e2.Ok → ∀ {r r2 : List Nat}, NoHead Dig r → NoHead Dig r2 → rp e ++ r = rp e2 ++ r2 → e = e2 ∧ r = r2
  | .word z, e2, ok, ok2, r, r2, n1, n2, h => by
    obtain ⟨c, x, hx, w⟩ := rp_head e2 ok2
    rw [hx] at h
    have hc : (39 : Nat) = c := by injection h
    rcases w with ⟨⟨z2, rfl⟩, _⟩ | ⟨_, w⟩ | ⟨_, w⟩
    · have h' : 39 :: (z ++ 39 :: r) = 39 :: (z2 ++ 39 :: r2) := by
        rw [← hx] at h
        simpa [rp] using h
      injection h' with _ h'
      obtain ⟨a, b⟩ := split_one ok.all ok2.all (nh39 _) (nh39 _) h'
      injection b with _ b
      exact ⟨by rw [a], b⟩
    · rw [← hc] at w; exact absurd w (by decide)
    · rw [← hc] at w; cases w
  | .num n, e2, ok, ok2, r, r2, n1, n2, h => by
    obtain ⟨c0, x0, hx0, w0⟩ := NumOk.head ok
    obtain ⟨c, x, hx, w⟩ := rp_head e2 ok2
    have hc : c0 = c := by
      have h' : ntx n ++ r = rp e2 ++ r2 := h
      rw [hx0, hx] at h'
      injection h'
    rcases w with ⟨_, w⟩ | ⟨⟨m, rfl⟩, _⟩ | ⟨_, w⟩
    · rw [← hc] at w; rw [w] at w0; exact absurd w0 (by decide)
    · obtain ⟨a, b⟩ := split_one ok.all ok2.all n1 n2 h
      exact ⟨by rw [ntx_inj ok ok2 a], b⟩
    · rw [← hc] at w; rw [w] at w0; exact absurd w0 (by decide)
  | .ask q z, e2, ok, ok2, r, r2, n1, n2, h => by
    obtain ⟨c, x, hx, w⟩ := rp_head e2 ok2
    have hc : (40 : Nat) = c := by
      rw [hx] at h
      injection h
    rcases w with ⟨_, w⟩ | ⟨_, w⟩ | ⟨w, _⟩
    · rw [← hc] at w; cases w
    · rw [← hc] at w; exact absurd w (by decide)
    · rcases w with ⟨q2, z2, rfl⟩ | ⟨o, a, b, rfl⟩
      · have h' : q ++ 39 :: (44 :: 32 :: 39 :: (z ++ 39 :: 41 :: r)) = q2 ++ 39 :: (44 :: 32 :: 39 :: (z2 ++ 39 :: 41 :: r2)) := by simpa [rp] using h
        obtain ⟨a, b⟩ := split_one ok.1.word.all ok2.1.word.all (nh39 _) (nh39 _) h'
        have b' : z ++ 39 :: 41 :: r = z2 ++ 39 :: 41 :: r2 := by simpa using b
        obtain ⟨a2, b2⟩ := split_one ok.2.all ok2.2.all (nh39 _) (nh39 _) b'
        exact ⟨by rw [a, a2], by simpa using b2⟩
      · have h' : q ++ 39 :: (44 :: 32 :: 39 :: (z ++ 39 :: 41 :: r)) = nm o ++ 39 :: (44 :: 32 :: (rp a ++ 44 :: 32 :: (rp b ++ 41 :: r2))) := by simpa [rp] using h
        obtain ⟨a, _⟩ := split_one ok.1.word.all (nm_let o) (nh39 _) (nh39 _) h'
        exact (nm_ques (a ▸ ok.1)).elim
  | .op o a b, e2, ok, ok2, r, r2, n1, n2, h => by
    obtain ⟨c, x, hx, w⟩ := rp_head e2 ok2
    have hc : (40 : Nat) = c := by
      rw [hx] at h
      injection h
    rcases w with ⟨_, w⟩ | ⟨_, w⟩ | ⟨w, _⟩
    · rw [← hc] at w; cases w
    · rw [← hc] at w; exact absurd w (by decide)
    · rcases w with ⟨q2, z2, rfl⟩ | ⟨o2, a2, b2, rfl⟩
      · have h' : nm o ++ 39 :: (44 :: 32 :: (rp a ++ 44 :: 32 :: (rp b ++ 41 :: r))) = q2 ++ 39 :: (44 :: 32 :: 39 :: (z2 ++ 39 :: 41 :: r2)) := by simpa [rp] using h
        obtain ⟨a, _⟩ := split_one (nm_let o) ok2.1.word.all (nh39 _) (nh39 _) h'
        exact (nm_ques (a ▸ ok2.1)).elim
      · have h' : nm o ++ 39 :: (44 :: 32 :: (rp a ++ 44 :: 32 :: (rp b ++ 41 :: r))) = nm o2 ++ 39 :: (44 :: 32 :: (rp a2 ++ 44 :: 32 :: (rp b2 ++ 41 :: r2))) := by simpa [rp] using h
        obtain ⟨x1, x2⟩ := split_one (nm_let o) (nm_let o2) (nh39 _) (nh39 _) h'
        have x3 : rp a ++ 44 :: 32 :: (rp b ++ 41 :: r) = rp a2 ++ 44 :: 32 :: (rp b2 ++ 41 :: r2) := by simpa using x2
        obtain ⟨x4, x5⟩ := rp_inj a a2 ok.1 ok2.1 (nd44 _) (nd44 _) x3
        have x6 : rp b ++ 41 :: r = rp b2 ++ 41 :: r2 := by simpa using x5
        obtain ⟨x7, x8⟩ := rp_inj b b2 ok.2 ok2.2 (nd41 _) (nd41 _) x6
        exact ⟨by rw [nm_inj x1, x4, x7], by simpa using x8⟩
theorem shown_inj {e e2 : E} (ok : e.Ok) (ok2 : e2.Ok) (h : (dat e).shown = (dat e2).shown) : e = e2 := by
  have h' : rp e ++ [] = rp e2 ++ [] := by rw [← shown_dat e ok, ← shown_dat e2 ok2, h]
  exact (rp_inj e e2 ok ok2 (fun c r z => by cases z) (fun c r z => by cases z) h').1
end Lg

namespace Lg
open PySem PySem.Spec PyProof.Rows L2
/-! ### for k in d, d a dict of the written part with text keys -/
structure KKeys (K : PySem.W.Frag) (d : Addr) (ks : List Str) : Prop where
  ex : ∃ (es : Array DictEntry) (ep : Nat), K.lookup d = some ⟨.type "dict", none, .dict es ep, #[]⟩ ∧ es.toList.map (fun en => match en.key with | .str x _ => some x | _ => none) = ks.map some
  ns : (d == sysModules) = false
def Itw (ks : List Str) : It := ⟨fun i _ => i < ks.length, fun i H x H' => H' = H ∧ ∃ z, ks[i]? = some z ∧ x = .str z, fun i _ => ks.length ≤ i⟩
theorem KKeys.at {es : Array DictEntry} {ks : List Str} (h : es.toList.map (fun en => match en.key with | .str x _ => some x | _ => none) = ks.map some) {i : Nat} (hi : i < ks.length) :
    ∃ (en : DictEntry) (z : Str) (t : Tok), es[i]? = some en ∧ ks[i]? = some z ∧ en.key = .str z t := by
  have hz : ks[i]? = some ks[i] := List.getElem?_eq_getElem hi
  have q : (es.toList.map (fun en => match en.key with | .str x _ => some x | _ => none))[i]? = some (some ks[i]) := by rw [h, List.getElem?_map, hz]; rfl
  rw [List.getElem?_map] at q
  cases he : es.toList[i]? with
  | none => rw [he] at q; cases q
  | some en =>
    rw [he] at q
    have q' : (match en.key with | .str x _ => some x | _ => none) = some ks[i] := Option.some.inj q
    refine ⟨en, ks[i], ?_⟩
    cases hk : en.key with
    | str x t =>
      rw [hk] at q'
      have q2 : x = ks[i] := Option.some.inj q'
      exact ⟨t, by simpa using he, hz, by rw [q2]⟩
    | _ => rw [hk] at q'; cases q'
theorem turn_kkeys {P : Program} {w : World} {K : PySem.W.Frag} {tg : Expr} {d : Addr} {ks : List Str} {es : Array DictEntry} {ep : Nat} (it : Addr) (hl : K.lookup d = some ⟨.type "dict", none, .dict es ep, #[]⟩)
    (hk : es.toList.map (fun en => match en.key with | .str x _ => some x | _ => none) = ks.map some) : Turn P w K tg (Itw ks) [it] it (fun i h => h.IsKeyIter it d i ks.length ep) where
  mem := by simp
  obj := fun i h st b hb => by
    have e : b = it := by simpa using hb
    subst e
    obtain ⟨oi, e, c, dd⟩ := st
    exact ⟨oi, e, fun v z => by rw [dd] at z; cases z⟩
  keep := fun i h h' st k => st.at fun oi e => k it (by simp) oi e
  item := by
    intro X hP hw hK hc i pins s σ H E I hf st hg
    subst hP hw hK
    obtain ⟨f0, f1, f2, f3, f4, f5⟩ := hf it (by simp)
    obtain ⟨en, z, t, e1, e2, e3⟩ := KKeys.at hk hg
    have hsz : es.size = ks.length := by
      have := congrArg List.length hk
      simpa using this
    refine next_key_item st (I.kIn _ _ hl) rfl hsz e1 fun h' st' sb => ?_
    have I1 : Inv X pins σ H { s with heap := h' } := I.turned (t' := s.toks) (fun b ob hb e => (sb.2 b hb).trans e) f0 f1 f3 f4 f5
    obtain ⟨oi, e, c, dd⟩ := id st'
    exact ⟨en.key, rfl, go_of (s := { s with heap := h' }) e c dd (by decide) ⟨.str z, H, I1, ⟨t, e3⟩, ⟨rfl, z, e2, rfl⟩, st', fun b hb => (hf b hb).1⟩⟩
  done := by
    intro X hP hw hK hc i pins s σ H E I hf st hg
    subst hP hw hK
    obtain ⟨f0, f1, f2, f3, f4, f5⟩ := hf it (by simp)
    have hsz : es.size = ks.length := by
      have := congrArg List.length hk
      simpa using this
    exact next_key_end (I.ok.hd hc) st (I.kIn _ _ hl) rfl hsz hg fun h' eb => ⟨rfl, I.turned (t' := s.toks) (fun b ob hb e => eb b ob hb e) f0 f1 f3 f4 f5⟩
  self := fun A i s Q E st h => by
    refine wpAny_pyIter_slot st.typeIs F.slot_dict_keyiterator_iter (wpAny_call_entry F.slot_dict_keyiterator_iter st.typeIs F.entry_dict_keyiterator_iter ?_ (F.args_dict_keyiterator_iter_1 _))
    show wpAny _ _ (ret (.ref it)) _ _ s
    exact wpAny_pure ⟨_, rfl, "dict_keyiterator", _, st.typeIs, F.slot_dict_keyiterator_next.lookup, h⟩
def iKKeys (K : PySem.W.Frag) (td : TE) : TI := fun σ H R => td σ H fun x H1 => ∃ d ks, x = .ref d ∧ KKeys K d ks ∧ R (Itw ks) H1
theorem pi_kkeys {X : Cx} {tg e : Expr} {td : TE} (he : PE X e td) : PI X tg e (iKKeys X.K td) := by
  refine ⟨fun pins s σ H R I h => ?_⟩
  refine thn (he.run pins s σ H _ I h) fun u s1 ⟨x, H1, I1, rx, d, ks, ex, ⟨⟨es, ep, hl, hk⟩, hns⟩, q⟩ => ?_
  subst ex
  obtain rfl : u = Value.ref d := rx
  have hsz : es.size = ks.length := by
    have := congrArg List.length hk
    simpa using this
  refine iter_keys hns (I1.kIn _ _ hl) ⟨rfl, rfl, rfl⟩ rfl (pi_one (tk := s1.toks) I1 _ (turn_kkeys _ hl hk) ⟨_, Heap.get?_push_size _ rfl, rfl, ?_⟩ q)
  rw [hsz] <;> rfl
end Lg

namespace Sx
open PySem PySem.Spec PyProof.Rows L2
/-! sets of texts: a list of different texts, in no known order -/
def tx : Int × Value → Str
  | (_, .str z _) => z
  | _ => Str.empty
def Te (P : Program) (w : World) (e : Int × Value) : Prop := ∃ z tk, e = ((strKind P w).hash z, Value.str z tk)
def SetS (P : Program) (w : World) (h : Heap) (a : Addr) (L : List Str) : Prop :=
  ∃ o es ep t, h.get? a = some o ∧ (o.ExactSet ∧ o.data = .set es ep t) ∧ (∀ e ∈ es.toList, Te P w e) ∧ (es.toList.map tx).Perm L ∧ L.Nodup ∧
    (es.size < scanBound ∧ t.fits es.size = true) ∧ Ris t.place.toList ∧ (w.params.followText "set-order" = true ∨ t.led = true)
def ins (L : List Str) (z : Str) : List Str := if z ∈ L then L else L ++ [z]
def ded (xs : List Str) : List Str := xs.foldl ins []
theorem ded_snoc (xs : List Str) (z : Str) : ded (xs ++ [z]) = ins (ded xs) z := by
  unfold ded
  rw [List.foldl_append]
  rfl
theorem mem_ins {L : List Str} {z y : Str} : y ∈ ins L z ↔ y ∈ L ∨ y = z := by
  unfold ins
  by_cases h : z ∈ L
  · rw [if_pos h]
    exact ⟨.inl, fun q => q.elim id (fun e => e ▸ h)⟩
  · rw [if_neg h, List.mem_append, List.mem_singleton]
theorem nodup_ins {L : List Str} {z : Str} (h : L.Nodup) : (ins L z).Nodup := by
  unfold ins
  by_cases q : z ∈ L
  · rw [if_pos q]; exact h
  · rw [if_neg q, List.nodup_append]
    refine ⟨h, by simp, ?_⟩
    intro x hx y hy e
    rw [List.mem_singleton] at hy
    exact q (by rw [← hy, ← e]; exact hx)
theorem len_ins_le (L : List Str) (z : Str) : (ins L z).length ≤ L.length + 1 := by
  unfold ins
  split
  · omega
  · rw [List.length_append]; simp
theorem ded_ind {p : List Str → List Str → Prop} (h0 : p [] []) (hs : ∀ xs L z, p xs L → p (xs ++ [z]) (ins L z)) (xs : List Str) : p xs (ded xs) := by
  have key : ∀ n, ∀ xs : List Str, xs.length = n → p xs (ded xs) := by
    intro n
    induction n with
    | zero =>
      intro xs hx
      rw [List.eq_nil_of_length_eq_zero hx]
      exact h0
    | succ n ih =>
      intro xs hx
      have hne : xs ≠ [] := fun z => by rw [z] at hx; cases hx
      have e := List.dropLast_concat_getLast hne
      have hl : xs.dropLast.length = n := by rw [List.length_dropLast, hx]; rfl
      have q := hs _ _ (xs.getLast hne) (ih _ hl)
      rw [← ded_snoc, e] at q
      exact q
  exact key _ xs rfl
theorem mem_ded (xs : List Str) : ∀ y, y ∈ ded xs ↔ y ∈ xs := ded_ind (p := fun xs L => ∀ y, y ∈ L ↔ y ∈ xs) (fun _ => Iff.rfl) (fun xs L z ih y => by
  rw [mem_ins, ih, List.mem_append, List.mem_singleton]) xs
theorem nodup_ded (xs : List Str) : (ded xs).Nodup := ded_ind (p := fun _ L => L.Nodup) List.nodup_nil (fun _ _ _ h => nodup_ins h) xs
theorem len_ded (xs : List Str) : (ded xs).length ≤ xs.length := ded_ind (p := fun xs L => L.length ≤ xs.length) (Nat.le_refl _) (fun xs L z h => by
  have := len_ins_le L z
  rw [List.length_append]
  simp
  omega) xs
theorem len_ded_iff (xs : List Str) : (ded xs).length = xs.length ↔ xs.Nodup := by
  have key : ((ded xs).length = xs.length → xs.Nodup) ∧ (xs.Nodup → ded xs = xs) := ded_ind (p := fun xs L => ((∀ y, y ∈ L ↔ y ∈ xs) ∧ L.length ≤ xs.length) ∧ (L.length = xs.length → xs.Nodup) ∧ (xs.Nodup → L = xs)) ⟨⟨fun _ => Iff.rfl, Nat.le_refl _⟩, fun _ => List.nodup_nil, fun _ => rfl⟩ (fun xs L z ih => by
    obtain ⟨⟨i1, i2⟩, i3, i4⟩ := ih
    refine ⟨⟨fun y => by rw [mem_ins, i1, List.mem_append, List.mem_singleton], ?_⟩, ?_, ?_⟩
    · have := len_ins_le L z
      rw [List.length_append]
      simp
      omega
    · intro h
      rw [List.length_append] at h
      have h1 : (ins L z).length = xs.length + 1 := h
      unfold ins at h1
      by_cases q : z ∈ L
      · rw [if_pos q] at h1
        omega
      · rw [if_neg q, List.length_append] at h1
        have h2 : L.length = xs.length := by simpa using h1
        rw [List.nodup_append]
        refine ⟨i3 h2, by simp, ?_⟩
        intro x hx y hy e
        rw [List.mem_singleton] at hy
        exact q ((i1 z).2 (by rw [← hy, ← e]; exact hx))
    · intro h
      rw [List.nodup_append] at h
      obtain ⟨h1, _, h3⟩ := h
      have q : z ∉ L := fun m => h3 z ((i1 z).1 m) z (by simp) rfl
      unfold ins
      rw [if_neg q, i4 h1]) xs |>.2
  exact ⟨key.1, fun h => by rw [key.2 h]⟩
section
variable {P : Program} {w : World} {h h' : Heap} {a : Addr} {L : List Str}
theorem is_tx {e : Int × Value} (g : Te P w e) (z : Str) : (strKind P w).is z e.2 = true ↔ tx e = z := by
  obtain ⟨y, tk, rfl⟩ := g
  constructor
  · intro q
    exact ((strKind P w).inj _ _ _ q (strKind_is P w y tk)).symm
  · intro q
    have q' : y = z := q
    subst q'
    exact strKind_is P w y tk
theorem SetS.at (R : SetS P w h a L) (k : ∀ o, h.get? a = some o → h'.get? a = some o) : SetS P w h' a L := by
  obtain ⟨o, es, ep, t, ho, r⟩ := R
  exact ⟨o, es, ep, t, k o ho, r⟩
theorem elems_te {l : List (Int × Value)} (g : ∀ e ∈ l, Te P w e) : ElemsOf (strKind P w) l := fun e he => by
  obtain ⟨z, tk, rfl⟩ := g e he
  exact ⟨⟨z, strKind_is P w z tk, rfl⟩, rfl⟩
theorem mem_te {l : List (Int × Value)} (g : ∀ e ∈ l, Te P w e) (z : Str) : (∃ e ∈ l, (strKind P w).is z e.2 = true) ↔ z ∈ l.map tx := by
  rw [List.mem_map]
  exact ⟨fun ⟨e, he, q⟩ => ⟨e, he, (is_tx (g e he) z).1 q⟩, fun ⟨e, he, q⟩ => ⟨e, he, (is_tx (g e he) z).2 q⟩⟩
theorem SetS.size (R : SetS P w h a L) : L.length < scanBound := by
  obtain ⟨o, es, ep, t, _, _, _, pm, _, hb, _⟩ := R
  rw [← pm.length_eq, List.length_map, Array.length_toList]
  exact hb.1
theorem SetS.of (R : SetS P w h a L) : h.SetOf (strKind P w) a (fun z => decide (z ∈ L)) L.length := by
  obtain ⟨o, es, ep, t, ho, ⟨hx, hd⟩, g, pm, nd, ⟨hb, hf⟩, _⟩ := R
  refine ⟨o, es, ep, t, ho, hx, hd, elems_te g, fun z => ?_, hb, hf, ?_⟩
  · rw [decide_eq_true_eq, mem_te g, pm.mem_iff]
  · rw [← pm.length_eq, List.length_map, Array.length_toList]
end
section
variable {P : Program} {w : World} {A : Around} {E : Value → Shared → Prop} {s : Shared} {a : Addr} {L : List Str}
theorem put_end {gv : Bool → Sem Unit} (hgv : ∀ (b : Bool) (s1 : Shared) (Z : Unit → Shared → Prop), Z () s1 → wpAny (model P w) A (gv b) Z E s1)
    {o : Obj} {es es1 : Array (Int × Value)} {ep : Nat} {t t2 : SetTable} {L1 : List Str} (ho : s.heap.get? a = some o) (hx : o.ExactSet) (hd : o.data = .set es ep t)
    (g1 : ∀ e ∈ es1.toList, Te P w e) (pm1 : (es1.toList.map tx).Perm L1) (nd1 : L1.Nodup) (hb1 : es1.size < scanBound) (hf2 : t2.fits es1.size = true) (hr : Ris t2.place.toList)
    (hl : w.params.followText "set-order" = true ∨ t2.led = true) {wd : Bool} {Z : Option Bool → Shared → Prop}
    (k : ∀ h', Heap.SameBut a s.heap h' → SetS P w h' a L1 → Z (some true) { s with heap := h' }) :
    wpAny (model P w) A (do
      storeSet a es1 t2
      if (!wd && t2.tooFull) = true then do
          gv (relayAll t2 es1 (SetTable.grown es1.size)).2.2
          storeSet a (relayAll t2 es1 (SetTable.grown es1.size)).1 (relayAll t2 es1 (SetTable.grown es1.size)).2.1
          pure (some true)
        else pure (some true)) Z E s := by
  refine wpAny_bind (wpAny_storeSet_of (es' := es1) (t' := t2) ho hd ?_ (fits_of_scanBound hb1))
  have at1 := L2.store_at (es' := es1) (t' := t2) ho hd
  have same1 := Heap.SameBut.update s.heap a (Obj.putSet es1 t2)
  split
  · have pmR := relayAll_perm t2 es1 (SetTable.grown es1.size)
    have fR := relayAll_fits t2 es1 (SetTable.grown es1.size)
    have rR := L2.relayAll_ris t2 es1 (SetTable.grown es1.size)
    have lR := L2.relayAll_led t2 es1 (SetTable.grown es1.size)
    generalize relayAll t2 es1 (SetTable.grown es1.size) = Y at pmR fR rR lR ⊢
    obtain ⟨es2, t3, gave⟩ := Y
    have sz : es2.size = es1.size := by
      have := pmR.length_eq
      rwa [Array.length_toList, Array.length_toList] at this
    have hb2 : es2.size < scanBound := sz ▸ hb1
    refine wpAny_bind (hgv gave _ _ (wpAny_bind (wpAny_storeSet_of at1 rfl ?_ (fits_of_scanBound hb2))))
    have at2 := L2.store_at (es' := es2) (t' := t3) at1 rfl
    refine wpAny_pure (k _ (same1.trans (Heap.SameBut.update _ a (Obj.putSet es2 t3))) ?_)
    exact ⟨_, es2, _, t3, at2, ⟨hx, rfl⟩, fun e he => g1 e (pmR.mem_iff.mp he), (pmR.map tx).trans pm1, nd1, ⟨hb2, fR⟩, rR, hl.imp id fun z => lR.trans z⟩
  · exact wpAny_pure (k _ same1 ⟨_, es1, _, t2, at1, ⟨hx, rfl⟩, g1, pm1, nd1, ⟨hb1, hf2⟩, hr, hl⟩)
theorem put_text {z : Str} {tk : Tok} {Q : Bool → Shared → Prop} (R : SetS P w s.heap a L) (room : L.length + 1 < scanBound)
    (k : ∀ h', Heap.SameBut a s.heap h' → SetS P w h' a (ins L z) → Q (!decide (z ∈ L)) { s with heap := h' }) :
    wpAny (model P w) A (setAddHashed a (.str z tk) ((strKind P w).hash z)) Q E s := by
  have R0 := R
  obtain ⟨o, es, ep, t, ho, ⟨hx, hd⟩, g, pm, nd, ⟨hb, hf⟩, hr, hl⟩ := R
  have kz := strKind_is P w z tk
  have sc : (Value.str z tk).scannable = true := rfl
  have el := elems_te g
  have mz : (∃ e ∈ es.toList, (strKind P w).is z e.2 = true) ↔ z ∈ L := (mem_te g z).trans pm.mem_iff
  unfold setAddHashed
  unfold setAddHashedIn
  refine wpAny_holding (wpAny_bind (wpAny_setState_of ho hd hf ?_))
  dsimp only
  rw [byScan_of sc hb el, if_pos rfl]
  unfold setAddByScan
  refine wpAny_bind (wpAny_bind (wpAny_rule (wpAny_bind (wpAny_setScan_of kz ho hd hf el ?_))))
  cases hfi : List.findIdx? (fun e => (strKind P w).is z e.2) es.toList with
  | some j =>
    dsimp only
    have ⟨hj, pj, _⟩ := List.findIdx?_eq_some_iff_getElem.mp hfi
    have hz : z ∈ L := mz.1 ⟨_, List.getElem_mem hj, pj⟩
    have q := k s.heap (Heap.SameBut.refl a s.heap) (by unfold ins; rw [if_pos hz]; exact R0)
    rw [decide_eq_true hz] at q
    exact wpAny_pure (wpAny_pure q)
  | none =>
    dsimp only
    have hz : z ∉ L := fun m => by
      obtain ⟨e, he, q⟩ := mz.2 m
      have c := List.findIdx?_eq_none_iff.mp hfi e he
      exact Bool.noConfusion (c.symm.trans q)
    have ei : ins L z = L ++ [z] := if_neg hz
    have gw : ∀ (b : Bool) (s1 : Shared) (Z : Unit → Shared → Prop), Z () s1 → wpAny (model P w) A (match b with | true => rule "set.scan.the-table-gave-way" | false => pure ()) Z E s1 := by
      intro b s1 Z q
      cases b
      · exact wpAny_pure q
      · exact wpAny_rule q
    have pmN := layNew_perm t es ((strKind P w).hash z) (.str z tk)
    have fN := layNew_fits t es ((strKind P w).hash z) (.str z tk)
    have rN := L2.layNew_ris t es ((strKind P w).hash z) (.str z tk) hr
    have lN := L2.layNew_led t es ((strKind P w).hash z) (.str z tk)
    generalize layNew t es ((strKind P w).hash z) (.str z tk) = Y at pmN fN rN lN ⊢
    obtain ⟨es1, t1, wd, gave⟩ := Y
    dsimp only at pmN fN rN lN ⊢
    rw [Array.toList_push] at pmN
    have g1 : ∀ e ∈ es1.toList, Te P w e := fun e he => by
      rcases List.mem_append.mp (pmN.mem_iff.mp he) with m | m
      · exact g e m
      · exact ⟨z, tk, List.mem_singleton.mp m⟩
    have pm1 : (es1.toList.map tx).Perm (ins L z) := by
      rw [ei]
      have q := pmN.map tx
      rw [List.map_append] at q
      exact q.trans (pm.append_right _)
    have nd1 : (ins L z).Nodup := nodup_ins nd
    have hb1 : es1.size < scanBound := by
      have q := pm1.length_eq
      rw [List.length_map, Array.length_toList] at q
      rw [q]
      exact Nat.lt_of_le_of_lt (len_ins_le L z) room
    have hl1 : w.params.followText "set-order" = true ∨ t1.led = true := hl.imp id fun q => lN.trans q
    rw [decide_eq_false hz] at k
    refine wpAny_bind (gw gave _ _ ?_)
    split
    · refine wpAny_bind ?_
      rw [hashByValue_scannable 8 sc]
      refine wpAny_pure ?_
      refine put_end ?_ ho hx hd g1 pm1 nd1 hb1 ?_ ?_ ?_ ?_
      · intro b s1 Z q; cases b
        · exact wpAny_pure q
        · exact wpAny_rule q
      · first | (split <;> first | exact fN | exact SetTable.fits_plain_off fN) | exact fN
      · first | (split <;> exact rN) | exact rN
      · first | (split <;> exact hl1) | exact hl1
      · intro h' sb r
        exact wpAny_pure (k h' sb r)
    · refine wpAny_bind (wpAny_pure ?_)
      rw [if_pos rfl]
      refine put_end ?_ ho hx hd g1 pm1 nd1 hb1 fN rN hl1 ?_
      · intro b s1 Z q; cases b
        · exact wpAny_pure q
        · exact wpAny_rule q
      · intro h' sb r
        exact wpAny_pure (k h' sb r)
end
end Sx

namespace Sx
open PySem PySem.Spec PyProof.Rows L2
section
variable {P : Program} {w : World} {A : Around} {R : Result → Shared → Prop} {I : Addr} {fp wr : List Addr} {G : Array GenState → Array GenState → Prop} {n : Nat} {Pv : Nat → Value → Prop} {St : Nat → Shared → Prop}
theorem put_all (W : WalksS P w A.in1 I fp wr G n Pv St) (S : Addr) (out : S ∉ fp) (xs : List Str) (len : xs.length = n) (room : n + 1 < scanBound)
    (val : ∀ i v, Pv i v → ∃ z tk, xs[i]? = some z ∧ v = Value.str z tk) : ∀ (k i : Nat) (s : Shared), i + k = n → St i s → SetS P w s.heap S (ded (xs.take i)) →
      (∀ s', Moved (S :: wr) G s s' → SetS P w s'.heap S (ded xs) → R (.ok (.ret .none)) s') →
      codeAny (model P w) A (.builtin "set.update.loop" ⟨[.ref S, .ref I], []⟩) R s := by
  have outw : S ∉ wr := fun q => out (W.sub _ q)
  have more : ∀ b ∈ wr, b ∈ S :: wr := fun b q => .tail _ q
  have keep : ∀ {s s' : Shared} {L : List Str}, Moved wr G s s' → SetS P w s.heap S L → SetS P w s'.heap S L := fun m r => r.at fun o e => m.heap S o outw e
  intro k
  induction k with
  | zero =>
    intro i s hi st hS hR
    obtain rfl : i = n := hi
    rw [← len, List.take_length] at hS
    refine codeAny_builtin PyProof.Rows.F.entry_set_update_loop ?_
    rw [Around.under_plainId PyProof.Rows.F.plain_set_update_loop _]
    change wpAny _ A.in1 (pyNext (.ref I) >>= _) _ _ s
    refine wpAny_bind (W.done s _ _ st fun s' m => ?_)
    change wpAny _ A.in1 (ret Value.none) _ _ s'
    exact wpAny_pure (hR s' (m.mono more) (keep m hS))
  | succ k ih =>
    intro i s hi st hS hR
    have lt : i < n := by omega
    refine codeAny_builtin PyProof.Rows.F.entry_set_update_loop ?_
    rw [Around.under_plainId PyProof.Rows.F.plain_set_update_loop _]
    change wpAny _ A.in1 (pyNext (.ref I) >>= _) _ _ s
    refine wpAny_bind (W.item i s _ _ lt st fun v s' hv st' m => ?_)
    obtain ⟨z, tk, hz, rfl⟩ := val i v hv
    have hS1 := keep m hS
    change wpAny _ A.in1 (holding [Value.str z tk] (setAdd S (.str z tk)) >>= _) _ _ s'
    refine wpAny_bind (wpAny_holding ?_)
    unfold setAdd
    refine wpAny_holding (wpAny_bind ((strKind P w).pyHash (k := z) (strKind_is P w z tk) ?_))
    have r1 : (ded (xs.take i)).length + 1 < scanBound := by
      have h1 := len_ded (xs.take i)
      rw [List.length_take] at h1
      omega
    refine put_text (s := { s' with toks := s'.toks + 1 }) hS1 r1 fun h2 sb hS2 => ?_
    have e2 : ins (ded (xs.take i)) z = ded (xs.take (i + 1)) := by
      rw [← ded_snoc, List.take_succ, hz]
      rfl
    rw [e2] at hS2
    refine wpAny_pure ⟨plainId_quiet PyProof.Rows.F.plain_set_update_loop _, ih (i + 1) _ (by omega) (W.frame _ s' h2 _ st' (Nat.le_succ _) fun b hb o e => ?_) hS2 fun s3 m3 hS3 => ?_⟩
    · exact (sb.2 b fun q => out (q ▸ hb)).trans e
    · refine hR s3 (Moved.trans W.gtrans ((m.mono more).then_heap (Nat.le_succ _) fun b o hb e => ?_) m3) hS3
      exact (sb.2 b fun q => hb (q ▸ .head _)).trans e
end
section
variable {P : Program} {w : World} {A : Around} {E : Value → Shared → Prop} {s : Shared}
abbrev newS (w : World) : Obj := { cls := .type "set", dict := none, data := .set #[] 0 (.fresh 0 0 (!w.params.followText "set-order")) }
theorem setS_new {h : Heap} {a : Addr} (e : h.get? a = some (newS w)) : SetS P w h a [] :=
  ⟨_, #[], 0, _, e, ⟨⟨rfl, rfl, rfl⟩, rfl⟩, fun e he => by simp at he, .refl _, .nil, ⟨by decide, by rfl⟩, .nil, by
    show _ ∨ (!w.params.followText "set-order") = true
    cases w.params.followText "set-order"
    · exact .inr rfl
    · exact .inl rfl⟩
set_option maxHeartbeats 3200000 in
theorem set_of_list {l : Addr} {items : Array Value} {xs : List Str} {Q : Value → Shared → Prop} (hh : A.handled = none) (hl : s.heap.IsList l items) (hi : StrsAre items.toList xs) (room : xs.length + 1 < scanBound)
    (k : ∀ (h2 : Heap) (tk : Nat), SetS P w h2 s.heap.objs.size (ded xs) → (∀ b o, s.heap.get? b = some o → h2.get? b = some o) → Q (.ref s.heap.objs.size) { s with heap := h2, toks := tk }) :
    wpAny (model P w) A (call (.type "set") [.ref l]) Q E s := by
  have len : xs.length = items.size := by rw [← StrsAre.len_eq hi, Array.length_toList]
  have ⟨mc, mtl, hmro⟩ := PySem.F.called_set.mro
  have hmade := PySem.F.called_set.made
  have hsub := PySem.F.called_set.sub
  refine wpAny_call (codeAny_of_tree ?_)
  change wpAny _ _ (callAny (.type "set") _) _ _ _
  refine wpAny_pure ⟨Code.quiet_builtin _ (by decide +kernel), codeAny_builtin PySem.F.entry_type_call ?_⟩
  rw [Around.under_plain (weight_type_call_type "set" [.ref l] []) rfl]
  have t1 := PySem.F.called_set.notType
  have t2 := PySem.F.called_set.canCreate
  have t3 := PySem.F.typeCall_set_1 (.ref l)
  repeat (any_goals (first | assumption | wp_step))
  have atN : (s.heap.push (newS w)).get? s.heap.objs.size = some (newS w) := Heap.get?_push_size _ rfl
  have old : ∀ {b : Addr} {o : Obj}, s.heap.get? b = some o → (s.heap.push (newS w)).get? b = some o := fun e => Heap.get?_push_of_some _ e
  refine codeAny_mono (L2.code_set_led1 (.ref l) (E := E) (Q₁ := fun v s1 => v = .ref s.heap.objs.size ∧ s1 = { s with heap := s.heap.push (newS w) }) ⟨rfl, rfl⟩) fun r s1 hr => ?_
  cases r with
  | error e => exact hr
  | ok fl =>
    cases fl with
    | next => exact hr.elim
    | brk => exact hr.elim
    | cont => exact hr.elim
    | ret v =>
      obtain ⟨rfl, rfl⟩ := hr
      have hT : Shared.TypeIs { s with heap := s.heap.push (newS w) } (.ref s.heap.objs.size) "set" := ⟨_, atN, rfl⟩
      have i1 := PySem.F.called_set.init.lookup
      have i2 := PySem.F.called_set.init.bind (.ref s.heap.objs.size)
      repeat (any_goals (first | assumption | wp_step))
      refine codeAny_mono (codeAny_call_builtin (R := wants (fun v s2 => v = .none ∧ ∃ h2 tk, s2 = { s with heap := h2, toks := tk } ∧ SetS P w h2 s.heap.objs.size (ded xs) ∧ ∀ b o, s.heap.get? b = some o → h2.get? b = some o) E)
        PySem.F.called_set.init.plain PySem.F.entry_set_init (check_set_init_1 hT ?_)) fun r2 s2 hr2 => ?_
      · have ⟨ob, hob, hcl, nl, hdt⟩ := hl
        obtain ⟨oc, od, odt, osl⟩ := ob
        dsimp only at hcl hdt
        subst hcl
        subst hdt
        have hob2 : (s.heap.push (newS w)).get? l = some { cls := .type "list", dict := od, data := .seq items nl, slots := osl } := old hob
        have u1 := PySem.F.sub_list_set
        have u2 := PySem.F.sub_list_frozenset
        have u3 : (Value.type "list" == Value.type "dict") = false := by decide
        have hl1 : (s.heap.push (newS w)).IsList l items := ⟨_, hob2, rfl, nl, rfl⟩
        unfold Builtin.«set.__init__»
        unfold noKeywords Builtin.Frozenset.updateFrom
        generalize hPI : pyIter = PI
        wp_walk
        subst hPI
        refine wpAny_pyIter_list hl1 ?_
        refine wpAny_bind (wpAny_runValue ?_)
        have lt := Heap.lt_size hob
        have sz : (s.heap.push (newS w)).objs.size = s.heap.objs.size + 1 := Heap.size_push ..
        have nI : l ≠ (s.heap.push (newS w)).objs.size := Nat.ne_of_lt (sz ▸ Nat.lt_succ_of_lt lt)
        have nf : s.heap.objs.size ∉ [(s.heap.push (newS w)).objs.size, l] := by
          rw [sz]
          intro q
          rcases List.mem_cons.mp q with q | q
          · exact absurd q (Nat.ne_of_lt (Nat.lt_succ_self _))
          · exact absurd (List.mem_singleton.mp q) (Nat.ne_of_gt lt)
        have h3 : A.in1.in1.in1.handled = none := by simp [hh]
        refine put_all ((Walks.list h3 _ l nI items).toS) s.heap.objs.size nf xs len (by rw [← len]; exact room) (fun i v hv => ?_) items.size 0 _ (by omega) ⟨⟨_, Heap.get?_push_size _ rfl, rfl, rfl⟩, hl1.push _⟩ ?_ ?_
        · have li : i < xs.length := by
            rw [len]
            exact (Array.getElem?_eq_some_iff.mp hv).1
          obtain ⟨tk, e⟩ := SS.strs_at hi i v (by rw [Array.getElem?_toList]; exact hv)
          rw [List.getD_eq_getElem?_getD, List.getElem?_eq_getElem li] at e
          exact ⟨xs[i], tk, List.getElem?_eq_getElem li, e⟩
        · exact setS_new (Heap.get?_push_of_some _ atN)
        · intro s3 m hS
          obtain ⟨h3', g3, d3, tk3, os3⟩ := s3
          obtain rfl : g3 = s.gens := m.gens
          obtain rfl : d3 = s.drawn := m.drawn
          obtain rfl : os3 = s.os := m.os
          change wpAny _ _ _ _ _ _
          refine wpAny_pure ?_
          change wpAny _ _ (ret Value.none) _ _ _
          refine wpAny_pure ⟨rfl, h3', tk3, rfl, hS, fun b o e => ?_⟩
          have lb := Heap.lt_size e
          refine m.heap b o (fun q => ?_) (Heap.get?_push_of_some _ (old e))
          rcases List.mem_cons.mp q with q | q
          · exact absurd q (Nat.ne_of_lt lb)
          · have q2 := (List.mem_singleton.mp q).trans sz
            exact absurd q2 (Nat.ne_of_lt (Nat.lt_succ_of_lt lb))
      · cases r2 with
        | error e => exact hr2
        | ok f2 =>
          cases f2 with
          | next => exact hr2.elim
          | brk => exact hr2.elim
          | cont => exact hr2.elim
          | ret v =>
            obtain ⟨rfl, h2, tk, rfl, hS, kp⟩ := hr2
            repeat (any_goals (first | assumption | wp_step))
            exact k _ _ hS kp
set_option maxHeartbeats 3200000 in
theorem set_of_tuple {l : Addr} {items : Array Value} {xs : List Str} {Q : Value → Shared → Prop} (hh : A.handled = none) (hl : s.heap.IsTuple l items) (hi : StrsAre items.toList xs) (room : xs.length + 1 < scanBound)
    (k : ∀ (h2 : Heap) (tk : Nat), SetS P w h2 s.heap.objs.size (ded xs) → (∀ b o, s.heap.get? b = some o → h2.get? b = some o) → Q (.ref s.heap.objs.size) { s with heap := h2, toks := tk }) :
    wpAny (model P w) A (call (.type "set") [.ref l]) Q E s := by
  have len : xs.length = items.size := by rw [← StrsAre.len_eq hi, Array.length_toList]
  have ⟨mc, mtl, hmro⟩ := PySem.F.called_set.mro
  have hmade := PySem.F.called_set.made
  have hsub := PySem.F.called_set.sub
  refine wpAny_call (codeAny_of_tree ?_)
  change wpAny _ _ (callAny (.type "set") _) _ _ _
  refine wpAny_pure ⟨Code.quiet_builtin _ (by decide +kernel), codeAny_builtin PySem.F.entry_type_call ?_⟩
  rw [Around.under_plain (weight_type_call_type "set" [.ref l] []) rfl]
  have t1 := PySem.F.called_set.notType
  have t2 := PySem.F.called_set.canCreate
  have t3 := PySem.F.typeCall_set_1 (.ref l)
  repeat (any_goals (first | assumption | wp_step))
  have atN : (s.heap.push (newS w)).get? s.heap.objs.size = some (newS w) := Heap.get?_push_size _ rfl
  have old : ∀ {b : Addr} {o : Obj}, s.heap.get? b = some o → (s.heap.push (newS w)).get? b = some o := fun e => Heap.get?_push_of_some _ e
  refine codeAny_mono (L2.code_set_led1 (.ref l) (E := E) (Q₁ := fun v s1 => v = .ref s.heap.objs.size ∧ s1 = { s with heap := s.heap.push (newS w) }) ⟨rfl, rfl⟩) fun r s1 hr => ?_
  cases r with
  | error e => exact hr
  | ok fl =>
    cases fl with
    | next => exact hr.elim
    | brk => exact hr.elim
    | cont => exact hr.elim
    | ret v =>
      obtain ⟨rfl, rfl⟩ := hr
      have hT : Shared.TypeIs { s with heap := s.heap.push (newS w) } (.ref s.heap.objs.size) "set" := ⟨_, atN, rfl⟩
      have i1 := PySem.F.called_set.init.lookup
      have i2 := PySem.F.called_set.init.bind (.ref s.heap.objs.size)
      repeat (any_goals (first | assumption | wp_step))
      refine codeAny_mono (codeAny_call_builtin (R := wants (fun v s2 => v = .none ∧ ∃ h2 tk, s2 = { s with heap := h2, toks := tk } ∧ SetS P w h2 s.heap.objs.size (ded xs) ∧ ∀ b o, s.heap.get? b = some o → h2.get? b = some o) E)
        PySem.F.called_set.init.plain PySem.F.entry_set_init (check_set_init_1 hT ?_)) fun r2 s2 hr2 => ?_
      · have ⟨ob, hob, hcl, nl, hdt⟩ := hl
        obtain ⟨oc, od, odt, osl⟩ := ob
        dsimp only at hcl hdt
        subst hcl
        subst hdt
        have hob2 : (s.heap.push (newS w)).get? l = some { cls := .type "tuple", dict := od, data := .seq items nl, slots := osl } := old hob
        have u1 := PySem.F.sub_tuple_set
        have u2 := PySem.F.sub_tuple_frozenset
        have u3 : (Value.type "tuple" == Value.type "dict") = false := by decide
        have hl1 : (s.heap.push (newS w)).IsTuple l items := ⟨_, hob2, rfl, nl, rfl⟩
        unfold Builtin.«set.__init__»
        unfold noKeywords Builtin.Frozenset.updateFrom
        generalize hPI : pyIter = PI
        wp_walk
        subst hPI
        refine wpAny_pyIter_tuple hl1 ?_
        refine wpAny_bind (wpAny_runValue ?_)
        have lt := Heap.lt_size hob
        have sz : (s.heap.push (newS w)).objs.size = s.heap.objs.size + 1 := Heap.size_push ..
        have nI : l ≠ (s.heap.push (newS w)).objs.size := Nat.ne_of_lt (sz ▸ Nat.lt_succ_of_lt lt)
        have nf : s.heap.objs.size ∉ [(s.heap.push (newS w)).objs.size, l] := by
          rw [sz]
          intro q
          rcases List.mem_cons.mp q with q | q
          · exact absurd q (Nat.ne_of_lt (Nat.lt_succ_self _))
          · exact absurd (List.mem_singleton.mp q) (Nat.ne_of_gt lt)
        have h3 : A.in1.in1.in1.handled = none := by simp [hh]
        refine put_all ((Walks.tuple h3 _ l nI items).toS) s.heap.objs.size nf xs len (by rw [← len]; exact room) (fun i v hv => ?_) items.size 0 _ (by omega) ⟨⟨_, Heap.get?_push_size _ rfl, rfl, rfl⟩, hl1.push _⟩ ?_ ?_
        · have li : i < xs.length := by
            rw [len]
            exact (Array.getElem?_eq_some_iff.mp hv).1
          obtain ⟨tk, e⟩ := SS.strs_at hi i v (by rw [Array.getElem?_toList]; exact hv)
          rw [List.getD_eq_getElem?_getD, List.getElem?_eq_getElem li] at e
          exact ⟨xs[i], tk, List.getElem?_eq_getElem li, e⟩
        · exact setS_new (Heap.get?_push_of_some _ atN)
        · intro s3 m hS
          obtain ⟨h3', g3, d3, tk3, os3⟩ := s3
          obtain rfl : g3 = s.gens := m.gens
          obtain rfl : d3 = s.drawn := m.drawn
          obtain rfl : os3 = s.os := m.os
          change wpAny _ _ _ _ _ _
          refine wpAny_pure ?_
          change wpAny _ _ (ret Value.none) _ _ _
          refine wpAny_pure ⟨rfl, h3', tk3, rfl, hS, fun b o e => ?_⟩
          have lb := Heap.lt_size e
          refine m.heap b o (fun q => ?_) (Heap.get?_push_of_some _ (old e))
          rcases List.mem_cons.mp q with q | q
          · exact absurd q (Nat.ne_of_lt lb)
          · have q2 := (List.mem_singleton.mp q).trans sz
            exact absurd q2 (Nat.ne_of_lt (Nat.lt_succ_of_lt lb))
      · cases r2 with
        | error e => exact hr2
        | ok f2 =>
          cases f2 with
          | next => exact hr2.elim
          | brk => exact hr2.elim
          | cont => exact hr2.elim
          | ret v =>
            obtain ⟨rfl, h2, tk, rfl, hS, kp⟩ := hr2
            repeat (any_goals (first | assumption | wp_step))
            exact k _ _ hS kp
end
end Sx

namespace Sx
open PySem PySem.Spec PyProof.Rows L2
section
variable {P : Program} {w : World} {A : Around} {E : Value → Shared → Prop} {s : Shared} {a : Addr} {L : List Str}
theorem sorted_texts {Q : Value → Shared → Prop} (R : SetS P w s.heap a L) (hh : A.handled = none)
    (k : ∀ s2 p (out : Array Value) (c : Nat) (ys : List Str), (∀ b o, s.heap.get? b = some o → s2.heap.get? b = some o) → (s2.gens = s.gens ∧ s2.os = s.os) → s.heap.objs.size ≤ p →
      s2.heap.get? p = some (seqObj "list" out c) → StrsAre out.toList ys → ys.Perm L → sortedS ys = true → Q (.ref p) s2) :
    wpAny (model P w) A (call (.builtin "sorted") [.ref a]) Q E s := by
  have lS := R.size
  obtain ⟨o, es, ep, t, ho, ⟨hx, hd⟩, g, pm, nd, ⟨hb, hf⟩, hr, hl⟩ := R
  refine Calls.call_function_entry kind_sorted plain_sorted entry_sorted (args_sorted1 _) ?_
  unfold Builtin.«sorted»
  refine wpAny_bind (m := checkCount "sorted" 1 1 _) (wpAny_pure (wpAny_bind ?_))
  refine collect_set (A := A.in1) hh ⟨o, ho, hx.1, hd⟩ hf hb hr hl fun s1 vs kp sz g1 o1 pv => ?_
  have txt : ∀ v, v ∈ vs → ∃ z tk, v = Value.str z tk := fun v hv => by
    obtain ⟨e, he, q⟩ := List.mem_map.mp (pv.mem_iff.mp hv)
    obtain ⟨z, tk, rfl⟩ := g e he
    exact ⟨z, tk, q.symm⟩
  have hS : StrsAre vs (vs.map strOf) := strsAre_map vs txt
  have same : (es.toList.map (·.2)).map strOf = es.toList.map tx := by
    rw [List.map_map]
    refine List.map_congr_left fun e he => ?_
    obtain ⟨z, tk, rfl⟩ := g e he
    rfl
  have pL : (vs.map strOf).Perm L := by
    have q := pv.map strOf
    rw [same] at q
    exact q.trans pm
  have lv : vs.length ≤ sizeLine := by
    have q := pL.length_eq
    rw [List.length_map] at q
    rw [q]
    exact fits_of_scanBound lS
  refine wpAny_bind (wpAny_newList ?_ lv)
  have atL : (s1.heap.push (seqObj "list" vs.toArray 0)).get? s1.heap.objs.size = some (seqObj "list" vs.toArray 0) := Heap.get?_push_size _ rfl
  refine wpAny_bind (wpAny_holding (wpAny_call_entry slot_list_sort ⟨_, atL, rfl⟩ entry_list_sort (list_sort_treeKAny strKind_oneLt atL hS.keysOf (fun v1 v2 rest e => keyKind_strs (e ▸ hS)) lv fun st hp hs => ⟨_, rfl, ?_⟩) (args_list_sort _)))
  obtain ⟨ys, y1, y2, y3⟩ := sorted_out_str hS hp hs
  obtain ⟨c, hc⟩ := sortedHeap_at (vs := vs) (out := (arrOf st).map (·.2)) atL
  refine wpAny_pure ⟨_, rfl, k _ s1.heap.objs.size _ c ys (fun b u e => ?_) ⟨g1, o1⟩ sz hc y1 (y2.trans pL) y3⟩
  have e1 := kp b u e
  have lt := Heap.lt_size e1
  show (sortedHeap (s1.heap.push (seqObj "list" vs.toArray 0)) s1.heap.objs.size vs _).get? b = some u
  rw [sortedHeap_old (Nat.ne_of_lt lt) (by rw [size_push']; exact Nat.lt_succ_of_lt lt)]
  exact Heap.get?_push_of_some _ e1
theorem noBool_set : typeLookup (.type "set") "__bool__" = pure none := by rw [typeLookup_type, builtinLookup_eq_fast]; kernel_rfl
theorem truthy_texts {Q : Bool → Shared → Prop} (R : SetS P w s.heap a L) (k : Q (!L.isEmpty) { s with toks := s.toks + 1 + 1 }) : wpAny (model P w) A (truthy (.ref a)) Q E s := by
  have lS := R.size
  obtain ⟨o, es, ep, t, ho, ⟨hx, hd⟩, g, pm, nd, ⟨hb, hf⟩, hr, hl⟩ := R
  have hT : s.TypeIs (.ref a) "set" := ⟨o, ho, hx.1⟩
  have sz : es.size = L.length := by
    have q := pm.length_eq
    rwa [List.length_map, Array.length_toList] at q
  have fit : (es.size : Int) < 2 ^ 63 := by
    rw [sz]
    have h4 : scanBound = 4096 := rfl
    omega
  have ne : ((es.size : Int) != 0) = !L.isEmpty := by
    rw [sz]
    cases L
    · rfl
    · simp
      omega
  have key : wpAny (model P w) A (runValue (.builtin "len" ⟨[.ref a], []⟩)) (fun r s2 => r = .int es.size (s.toks + 1) ∧ Q (!L.isEmpty) s2) E s := by
    refine wpAny_runValue (codeAny_builtin entry_len ?_)
    rw [Around.under_plainId plain_len _]
    refine wpAny_mono (wpAny_len_body_set (Q := fun r s2 => r = .int es.size (s.toks + 1) ∧ Q (!L.isEmpty) s2) ho hx hd hf fit ⟨rfl, k⟩) (fun fin s2 q => ?_) fun _ _ e => e
    obtain ⟨r, rfl, q⟩ := q
    exact q
  unfold truthy
  first
    | refine wpAny_bind (wpAny_callSpecial?_none (name := Str.ofString "__bool__") hT noBool_set ?_)
    | refine wpAny_bind (wpAny_pure (wpAny_bind (wpAny_callSpecial?_none (name := Str.ofString "__bool__") hT noBool_set ?_)))
  first
    | refine wpAny_bind (wpAny_specialOf (name := Str.ofString "__len__") hT F.slot_set_len.lookup ?_)
    | refine wpAny_bind (wpAny_pure (wpAny_bind (wpAny_specialOf (name := Str.ofString "__len__") hT F.slot_set_len.lookup ?_)))
  first
    | exact wpAny_bind (wpAny_mono key (fun r s2 q => by obtain ⟨rfl, q⟩ := q; exact wpAny_pure (ne ▸ q)) fun _ _ e => e)
    | exact wpAny_bind (wpAny_pure (wpAny_bind (wpAny_mono key (fun r s2 q => by obtain ⟨rfl, q⟩ := q; exact wpAny_pure (ne ▸ q)) fun _ _ e => e)))
end
/-! over the abstract heap -/
def SetT (P : Program) (w : World) (a : Addr) (L : List Str) : HO := .ext fun h => SetS P w h a L
section
variable {X : Cx}
theorem setT_ok {P : Program} {w : World} {H : Hp} {h : Heap} {a : Addr} {L : List Str} (R : SetS P w h a L) : ObjOk P w H h a (SetT P w a L) := by
  have ⟨o, _, _, _, ho, _⟩ := R
  exact ⟨R, ⟨o, ho⟩, fun h1 h2 p k => p.at k⟩
theorem setT_get {pins : List (Addr × Obj)} {σ : L2.St} {H : Hp} {s : Shared} {a : Addr} {L : List Str} (I : Inv X pins σ H s) (ha : H a = some (SetT X.prog X.w a L)) : SetS X.prog X.w s.heap a L := (I.hok a _ ha).1
theorem strs_of : ∀ {xs : List Str} {us : List Value}, Vals (xs.map V.str) us → StrsAre us xs
  | [], _, .nil => .nil
  | x :: xs, _, .cons r t => by
    obtain ⟨tk, rfl⟩ := r
    exact .cons x tk (strs_of t)
/-- set(xs), xs a list or a tuple of texts -/
def rSetOf (K : PySem.W.Frag) (P : Program) (w : World) : List V → Hp → VK → Prop := fun vs H Q => ∃ (l : Addr) (xs : List Str), vs = [.ref l] ∧ (SqL K H l (xs.map V.str) ∨ SqT K H l (xs.map V.str)) ∧ xs.length ≤ 4000 ∧
  ∀ p, H p = none → Q (.ref p) (upd H p (SetT P w p (ded xs)))
theorem cr_setOf (hc : X.calm = true) : CallR X (.type "set") (rSetOf X.K X.prog X.w) := by
  intro pins s σ H vs us Q I r h
  obtain ⟨l, xs, rfl, hq, hz, q⟩ := h
  rw [Vals.ref1 r]
  have room : xs.length + 1 < scanBound := by
    have h4 : scanBound = 4096 := rfl
    omega
  have done : ∀ (h2 : Heap) (tk : Nat), SetS X.prog X.w h2 s.heap.objs.size (ded xs) → (∀ b o, s.heap.get? b = some o → h2.get? b = some o) → EP X pins σ Q (.ref s.heap.objs.size) { s with heap := h2, toks := tk } := fun h2 tk hS kp =>
    ⟨.ref _, upd H s.heap.objs.size (SetT X.prog X.w s.heap.objs.size (ded xs)), I.laid (t' := tk) kp (Nat.le_refl _) (setT_ok hS), rfl, q _ (I.hok.fresh (Nat.le_refl _))⟩
  rcases hq with hq | hq
  · obtain ⟨its, rv, pl, _⟩ := I.list hq
    exact set_of_list (I.ok.hd hc) pl.isList (by simpa using strs_of rv) room done
  · obtain ⟨its, rv, pl, _⟩ := I.tuple hq
    exact set_of_tuple (I.ok.hd hc) pl (by simpa using strs_of rv) room done
/-- len of such a set -/
def rLenSet (P : Program) (w : World) : List V → Hp → VK → Prop := fun vs H Q => ∃ (a : Addr) (L : List Str), vs = [.ref a] ∧ H a = some (SetT P w a L) ∧ Q (.int L.length) H
theorem cr_lenSet : CallR X (.builtin "len") (rLenSet X.prog X.w) := by
  intro pins s σ H vs us Q I r h
  obtain ⟨a, L, rfl, ha, q⟩ := h
  rw [Vals.ref1 r]
  have R := setT_get I ha
  have lS := R.size
  obtain ⟨o, es, ep, t, ho, ⟨hx, hd⟩, g, pm, nd, ⟨hb, hf⟩, hr, hl⟩ := R
  have sz : es.size = L.length := by
    have q := pm.length_eq
    rwa [List.length_map, Array.length_toList] at q
  have h4 : scanBound = 4096 := rfl
  exact call_len_set ho hx hd hf (by omega) ⟨.int L.length, H, I.tok _, ⟨_, by rw [sz]⟩, q⟩
/-- sorted of such a set -/
def rSortSet (P : Program) (w : World) : List V → Hp → VK → Prop := fun vs H Q => ∃ (a : Addr) (L : List Str), vs = [.ref a] ∧ H a = some (SetT P w a L) ∧
  ∀ (ys : List Str) (p : Addr), ys.Perm L → sortedS ys = true → H p = none → Q (.ref p) (upd H p (.lst (ys.map V.str)))
theorem cr_sortSet (hc : X.calm = true) : CallR X (.builtin "sorted") (rSortSet X.prog X.w) := by
  intro pins s σ H vs us Q I r h
  obtain ⟨a, L, rfl, ha, q⟩ := h
  have R := setT_get I ha
  have lS := R.size
  rw [Vals.ref1 r]
  refine sorted_texts R (I.ok.hd hc) fun s2 p out c ys kp go sz atp hS pL so => ?_
  have hlen : (ys.map V.str).length ≤ sizeLine := by
    rw [List.length_map, pL.length_eq]
    exact fits_of_scanBound lS
  have hn : H p = none := I.hok.fresh sz
  have J : Inv X pins σ (upd H p (.lst (ys.map V.str))) { s with heap := s2.heap, gens := s2.gens, drawn := s2.drawn, toks := s2.toks } :=
    I.call (ch := []) (Un.laid kp sz hn) (I.hok.laid kp sz ⟨hlen, out.toList, c, vals_of_strs hS, atp⟩) (by rw [go.1]; exact I.bare) (fun _ z => nomatch z)
  have e : s2 = { s with heap := s2.heap, gens := s2.gens, drawn := s2.drawn, toks := s2.toks } := by
    obtain ⟨_, o2⟩ := go
    cases s2
    cases s
    cases o2
    rfl
  rw [e]
  exact ⟨.ref p, _, J, rfl, q ys p pL so hn⟩
/-- xs or ys, the left one such a set -/
def tOrSet (P : Program) (w : World) (ta tb : TE) : TE := fun σ H Q => ta σ H fun x H1 => ∃ (a : Addr) (L : List Str), x = .ref a ∧ H1 a = some (SetT P w a L) ∧ if (!L.isEmpty) = true then Q x H1 else tb σ H1 Q
theorem pe_orSet {a b : Expr} {ta tb : TE} {rest : List Expr} {pos : Pos} (ha : PE X a ta) (hb : PE X (.BoolOp .Or (b :: rest) pos) tb) : PE X (.BoolOp .Or (a :: b :: rest) pos) (tOrSet X.prog X.w ta tb) := by
  refine ⟨fun pins s σ H Q I h => BoolOp_or (thn (ha.run pins s σ H _ I h) fun v s1 ⟨x, H1, I1, r1, q1⟩ => ?_)⟩
  obtain ⟨p, L, rfl, hp, q1⟩ := q1
  have r1' : v = Value.ref p := r1
  subst r1'
  refine truthy_texts (setT_get I1 hp) ?_
  cases e : (!L.isEmpty) with
  | true =>
    rw [e, if_pos rfl] at q1
    exact ⟨.ref p, H1, I1.tok _, rfl, q1⟩
  | false =>
    rw [e, if_neg (by simp)] at q1
    exact hb.run pins _ σ H1 Q (I1.tok _) q1
end
end Sx

namespace Sx
open PySem PySem.Spec PyProof.Rows L2
/-! enumerate(t) of a tuple -/
set_option maxHeartbeats 1000000 in
theorem enum_new1 {v : Value} {o : Obj} {Hk : Heap → Prop} (B : Begins v o Hk) :
    Meets (Builtin.«enumerate.__new__» ⟨[.type "enumerate", v], []⟩) (fun _ R s => Hk s.heap ∧
      R (.ok (.ret (.ref (s.heap.push o).objs.size))) { s with heap := (s.heap.push o).push { cls := .type "enumerate", data := .fields #[.none, .bool false, .ref s.heap.objs.size, rawInt 0, .none, .none] } }) :=
  .of_wp fun prog w A R s h => by
    obtain ⟨hp, g, d, tk, os⟩ := s
    obtain ⟨h1, h2⟩ := h
    have hsub := sub_enumerate
    have it1 : ∀ {A1 : Around} {E : Value → Shared → Prop} {Q : Value → Shared → Prop}, Q (.ref hp.objs.size) ⟨hp.push o, g, d, tk, os⟩ → wpAny (model prog w) A1 (pyIter v) Q E ⟨hp, g, d, tk, os⟩ :=
      fun q => B.iter prog w _ _ ⟨hp, g, d, tk, os⟩ _ h1 q
    wp_walk using it1
    refine wpAny_stack_any fun st => wpAny_pure ?_
    split
    · rename_i c _ _ _ _ _
      cases (c == Value.type "enumerate") <;> (wp_walk using it1; exact ⟨_, rfl, h2⟩)
    · wp_walk using it1
      exact ⟨_, rfl, h2⟩
theorem call_enum1 {prog : Program} {w : World} {A : Around} {E : Value → Shared → Prop} {s : Shared} {v : Value} {o : Obj} {Hk : Heap → Prop} {Q : Value → Shared → Prop} (B : Begins v o Hk) (h1 : Hk s.heap)
    (k : ∀ h2, IsEnum h2 (s.heap.objs.size + 1) s.heap.objs.size 0 .none → h2.get? s.heap.objs.size = some o → (∀ b u, s.heap.get? b = some u → h2.get? b = some u) → Q (.ref (s.heap.objs.size + 1)) { s with heap := h2 }) :
    wpAny (model prog w) A (call (.type "enumerate") [v]) Q E s := by
  refine callType_new F.called_enumerate (by decide) (F.typeCall_enumerate_1 _) (F.newCall_enumerate_1 _) (fun ob => F.args_object_init_2 ob _) F.entry_enumerate_new (enum_new1 B) ⟨h1, ?_⟩
  have sz : (s.heap.push o).objs.size = s.heap.objs.size + 1 := Heap.size_push ..
  have he : IsEnum ((s.heap.push o).push { cls := .type "enumerate", data := .fields #[.none, .bool false, .ref s.heap.objs.size, rawInt 0, .none, .none] }) (s.heap.objs.size + 1) s.heap.objs.size 0 .none := by
    have q := Heap.get?_push_size (s.heap.push o) (o := { cls := .type "enumerate", data := .fields #[.none, .bool false, .ref s.heap.objs.size, rawInt 0, .none, .none] }) rfl
    rwa [sz] at q
  show _ ∧ _
  rw [sz]
  exact ⟨⟨_, he, rfl⟩, k _ he (Heap.get?_push_of_some _ (Heap.get?_push_size _ B.free)) fun b u e => Heap.get?_push_of_some _ (Heap.get?_push_of_some _ e)⟩
/-- the items of the tuple at a, each in a new pair with its place -/
def Itet (K : PySem.W.Frag) (a : Addr) : It :=
  ⟨fun i H => ∃ (xs : List V) (x : V), SqT K H a xs ∧ xs[i]? = some x, fun i H v H2 => ∃ T x, v = .ref T ∧ H T = none ∧ H2 = upd H T (.tup [.int (i : Nat), x]) ∧ ∀ xs, SqT K H a xs → xs[i]? = some x, fun i H => ∃ xs : List V, SqT K H a xs ∧ xs.length = i⟩
theorem turn_enumT {P : Program} {w : World} {K : PySem.W.Frag} {elts : List Expr} {kk : Nat} {tpos : Pos} (a e it : Addr) :
    Turn P w K (.Tuple elts kk tpos) (Itet K a) [e, it] e (fun i h => (∃ old, IsEnum h e it ((i : Nat) : Int) old) ∧ h.IsTupleIter it a i ∧ e ≠ it) where
  mem := by simp
  obj := fun i h st b hb => by
    obtain ⟨⟨old, he⟩, ⟨o, ho, hc, hd⟩, _⟩ := st
    rcases List.mem_cons.mp hb with z | z
    · subst z
      exact ⟨_, he, fun v q => nomatch q⟩
    · have z2 := List.mem_singleton.mp z
      subst z2
      exact ⟨o, ho, fun v q => nomatch hd.symm.trans q⟩
  keep := fun i h h2 st k => by
    obtain ⟨⟨old, he⟩, hi, hne⟩ := st
    exact ⟨⟨old, k e (by simp) _ he⟩, hi.at fun o q => k it (by simp) o q, hne⟩
  item := by
    intro X hP hw hK hc i pins s σ H E I hf st hg
    subst hP hw hK
    obtain ⟨⟨old, he⟩, hit, hne⟩ := st
    obtain ⟨xs, x, hq, hx⟩ := hg
    obtain ⟨its, rv, p, hz⟩ := I.tuple hq
    obtain ⟨u, hu, ru⟩ := rv.get hx
    have le := Heap.lt_size he
    have li : it < s.heap.objs.size := let ⟨_, q, _⟩ := hit; Heap.lt_size q
    have hu' : its.toArray[i]? = some u := by simpa using hu
    have na : a ≠ it := fun z => by
      obtain ⟨o, ho, hcl, _⟩ := hit
      obtain ⟨o2, ho2, hcl2, _⟩ := (show s.heap.IsTuple a its.toArray from p)
      rw [z, ho] at ho2
      cases ho2
      rw [hcl] at hcl2
      simp at hcl2
    have nae : a ≠ e := fun z => by
      obtain ⟨o2, ho2, hcl2, _⟩ := (show s.heap.IsTuple a its.toArray from p)
      rw [z, he] at ho2
      cases ho2
      have q : Value.type "enumerate" = Value.type "tuple" := hcl2
      simp at q
    refine wpAny_pyNext_enum_itemD (Draws.tuple (prog := X.prog) (w := X.w) (A := X.A.in1) (I.ok.hd hc) it a na its.toArray) he ⟨hit, p⟩ (Array.getElem?_eq_some_iff.mp hu').1 hne (by simp [hne, Ne.symm nae]) fun x2 h2 tk hx2 ho hst hT hsz hk => ?_
    have ex : x2 = u := Option.some.inj (hx2.symm.trans hu')
    subst ex
    refine ⟨_, rfl, wpAny_letOwnedTupleGo_enum (s := { s with heap := h2, toks := tk + 1 }) ho fun h3 he3 sb => ?_⟩
    have hT3 : h3.get? s.heap.objs.size = some { cls := .type "tuple", data := .seq #[.int i tk, x2] } := (sb.2 _ (Nat.ne_of_gt le)).trans hT
    have new : ObjOk X.prog X.w (upd H s.heap.objs.size (.tup [.int (i : Nat), x])) h3 s.heap.objs.size (.tup [.int (i : Nat), x]) :=
      ⟨by show 2 ≤ sizeLine; decide, [.int i tk, x2], .cons ⟨_, rfl⟩ (.cons ru .nil), ⟨_, hT3, rfl, _, rfl⟩⟩
    have I1 : Inv X pins σ (upd H s.heap.objs.size (.tup [.int (i : Nat), x])) { s with heap := h3, toks := tk + 1 } :=
      I.turnedNew (ch := [e, it]) (fun b ob hb q => (sb.2 b (fun z => hb (by simp [z]))).trans (hk b ob (fun z => hb (by simp [z])) (fun z => hb (by simp [z])) q)) hf (Nat.le_refl _) new
    refine ⟨.ref s.heap.objs.size, _, I1, rfl, ⟨_, x, rfl, I.hok.fresh (Nat.le_refl _), rfl, fun ys hy => by rw [I.tuple_inj hy hq]; exact hx⟩, ⟨⟨x2, he3⟩, hst.1.at fun o q => (sb.2 it (Ne.symm hne)).trans q, hne⟩, fun b hb => ?_⟩
    have lb : b < s.heap.objs.size := by
      rcases List.mem_cons.mp hb with z | z
      · exact z ▸ le
      · exact (List.mem_singleton.mp z) ▸ li
    rw [upd_ne (Nat.ne_of_lt lb)]
    exact (hf b hb).1
  done := by
    intro X hP hw hK hc i pins s σ H E I hf st hg
    subst hP hw hK
    obtain ⟨⟨old, he⟩, hit, hne⟩ := st
    obtain ⟨xs, hq, hx⟩ := hg
    obtain ⟨its, rv, p, hz⟩ := I.tuple hq
    obtain ⟨f0, f1, f2, f3, f4, f5⟩ := hf it (by simp)
    have hl := rv.length
    have na : a ≠ it := fun z => by
      obtain ⟨o, ho, hcl, _⟩ := hit
      obtain ⟨o2, ho2, hcl2, _⟩ := (show s.heap.IsTuple a its.toArray from p)
      rw [z, ho] at ho2
      cases ho2
      rw [hcl] at hcl2
      simp at hcl2
    have en : i = its.toArray.size := by rw [List.size_toArray, ← hl, hx]
    subst en
    exact wpAny_pyNext_enum_endD (Draws.tuple (prog := X.prog) (w := X.w) (A := X.A.in1) (I.ok.hd hc) it a na its.toArray) he ⟨hit, p⟩ fun h2 eb => ⟨rfl, I.turned (t' := s.toks) (fun b o hb q => eb b o hb q) f0 f1 f3 f4 f5⟩
  self := fun A i s Q E st k => by
    obtain ⟨⟨old, he⟩, _⟩ := st
    exact wpAny_pyIter_enum he k
def iEnumT (K : PySem.W.Frag) (ta : TA) : TI := fun σ H R => ta σ H fun vs H1 => ∃ a xs, vs = [.ref a] ∧ SqT K H1 a xs ∧ R (Itet K a) H1
theorem pi_enumT {X : Cx} {e : Expr} {ta : TA} {p pos tpos : Pos} {elts : List Expr} {kk : Nat} (hg : Gl X "enumerate") (hm : X.mg "enumerate" = none) (ha : PA X [e] ta) (hs : starEach [e] X.env = [(false, eval e X.env)] := by rfl) :
    PI X (.Tuple elts kk tpos) (.Call (.Name "enumerate" p) [e] [] pos) (iEnumT X.K ta) := by
  refine ⟨fun pins s σ H R I h => Call_ (ld_blt I hg hm boot_enumerate (PyProof.Rows.callWith_type1 (thn (ha.run pos pins s σ H _ I h) fun us s1 ⟨vs, H1, I1, r1, a, xs, ev, hq, q⟩ => ?_) hs rfl))⟩
  subst ev
  cases r1 with
  | cons r rr =>
    cases rr
    cases r
    obtain ⟨its, rv, pt, hz⟩ := I1.tuple hq
    refine call_enum1 (begins_tuple a its.toArray) pt fun h2 he hit hk => wpAny_pyIter_enum he ?_
    have I2 : Inv X pins σ H1 { s1 with heap := h2 } := I1.kept (t' := s1.toks) hk
    refine ⟨s1.heap.objs.size + 1, [s1.heap.objs.size + 1, s1.heap.objs.size], _, _, H1, rfl, I2, turn_enumT a (s1.heap.objs.size + 1) s1.heap.objs.size, ⟨⟨.none, he⟩, ⟨_, hit, rfl, rfl⟩, Nat.succ_ne_self _⟩, fun b hb => ?_, q⟩
    have lb : s1.heap.objs.size ≤ b := by
      rcases List.mem_cons.mp hb with z | z
      · rw [z]; exact Nat.le_succ _
      · rw [List.mem_singleton.mp z]; exact Nat.le_refl _
    exact I1.fpOk lb (I1.hok.fresh lb)
/-- such a walk by an invariant -/
theorem for_enumT {K : PySem.W.Frag} {a : Addr} {xs : List V} {g : TG} {tb : TS} {D : Ends} {σ : L2.St} {H : Hp} (Pv : Nat → L2.St → Hp → Prop) (h0 : Pv 0 σ H) (hl : ∀ i σ H, i ≤ xs.length → Pv i σ H → SqT K H a xs)
    (hs : ∀ i x T σ H, xs[i]? = some x → H T = none → Pv i σ H → g (.ref T) σ (upd H T (.tup [.int (i : Nat), x])) fun σ2 H2 => tb { D with nx := Pv (i + 1), ct := Pv (i + 1), bk := D.nx } σ2 H2)
    (hd : ∀ σ H, Pv xs.length σ H → D.nx σ H) :
    ∃ W : Nat → Nat → L2.St → Hp → Prop, (∃ m, W 0 m σ H) ∧ ∀ i m σ H, W i m σ H →
      ((Itet K a).stop i H ∧ D.nx σ H) ∨ ((Itet K a).go i H ∧ ∃ N : L2.St → Hp → Prop, (∀ σ' H', N σ' H' → ∃ m', m' < m ∧ W (i + 1) m' σ' H') ∧
        ∀ x H', (Itet K a).yld i H x H' → g x σ H' fun σ2 H2 => tb { D with nx := N, ct := N, bk := D.nx } σ2 H2) := by
  refine ⟨fun i m σ H => m = xs.length - i ∧ i ≤ xs.length ∧ Pv i σ H, ⟨xs.length, by simp, Nat.zero_le _, h0⟩, ?_⟩
  rintro i m σ H ⟨rfl, hi, p⟩
  have q := hl i σ H hi p
  by_cases hlt : i < xs.length
  · refine .inr ⟨⟨xs, xs[i], q, by simp [hlt]⟩, Pv (i + 1), fun σ' H' p' => ⟨xs.length - (i + 1), by omega, rfl, hlt, p'⟩, fun v H' y => ?_⟩
    obtain ⟨T, x, e1, hT, e2, hx⟩ := y
    subst e1 e2
    exact hs i x T σ H (hx xs q) hT p
  · have e : i = xs.length := by omega
    subst e
    exact .inl ⟨⟨xs, q, rfl⟩, hd σ H p⟩
end Sx

namespace Pl
open PySem PySem.Spec PyProof.Rows L2
def top (i : Nat) : Stmt := PySem.Challenge.pw_wantedwork_k02_plans_refused.main.body.getD i (.Pass ⟨0, 0, 0, 0⟩)
abbrev sInitE : Stmt := inClass (top 3) 0
abbrev sMadeOf : Stmt := top 10
abbrev sInteger : Stmt := top 11
abbrev sNumber : Stmt := top 12
abbrev sWord : Stmt := top 13
abbrev sEffect : Stmt := top 14
abbrev sNameOf : Stmt := top 15
abbrev sExpr : Stmt := top 20
abbrev sQues : Stmt := top 21
abbrev sOper : Stmt := top 22
abbrev sScInit : Stmt := inClass (top 28) 0
abbrev sEnter : Stmt := inClass (top 28) 1
abbrev sLeave : Stmt := inClass (top 28) 2
abbrev sEnd : Stmt := top 29
abbrev sVar : Stmt := top 30
abbrev sCalled : Stmt := top 31
abbrev sAreCalled : Stmt := top 32
abbrev sWorth : Stmt := top 33
abbrev sIsWork : Stmt := top 34
abbrev sIsSet : Stmt := top 35
abbrev sIsFail : Stmt := top 36
abbrev sIsCall : Stmt := top 37
abbrev sIsWait : Stmt := top 38
abbrev sIsCatch : Stmt := top 39
abbrev sIsDrop : Stmt := top 40
abbrev sIsSay : Stmt := top 41
abbrev sIsBlock : Stmt := top 42
abbrev sInstr : Stmt := top 45
abbrev sArgs : Stmt := top 48
abbrev sChecked : Stmt := top 49
abbrev sPlInit : Stmt := inClass (top 50) 0
abbrev sPlArgs : Stmt := inClass (top 50) 1
abbrev sPlBody : Stmt := inClass (top 50) 2
abbrev sPlRes : Stmt := inClass (top 50) 3
abbrev sPlMust : Stmt := inClass (top 50) 4
abbrev sPlDet : Stmt := inClass (top 50) 5
abbrev sPlEq : Stmt := inClass (top 50) 6
abbrev sTape : Stmt := top 52
abbrev sDraw : Stmt := top 53
abbrev sOne : Stmt := top 54
abbrev sLExpr : Stmt := top 55
abbrev sSmall : Stmt := top 56
abbrev sLInstr : Stmt := top 57
abbrev sLPlan : Stmt := top 58
abbrev sOwn : Stmt := top 59
abbrev sPart : Stmt := top 60
abbrev sWrong : Stmt := top 61
abbrev sBlocks : Stmt := top 62
abbrev sLaw : Stmt := top 63
end Pl

namespace Pl
open PySem PySem.Spec PyProof.Rows L2
structure DefX (K : PySem.W.Frag) (mg : Str → Option Value) (nm : Str) (s : Stmt) (ps : List Str) (f : Addr) (fd : FuncData) : Prop where
  mg : mg nm = some (.ref f)
  F : Fun K nm nm s f fd
  b : Binds K fd ps []
/-! ### data -/
mutual
/-- texts of it are short, dicts are not in it -/
def fine : PyData → Bool
  | .str z => decide (z.length ≤ 40000)
  | .list ds => fineAll ds
  | .tuple ds => fineAll ds
  | .dict _ => false
  | _ => true
def fineAll : List PyData → Bool
  | [] => true
  | d :: ds => fine d && fineAll ds
end
theorem fine_mem : ∀ {ds : List PyData}, fineAll ds = true → ∀ d ∈ ds, fine d = true
  | [], _, d, h => by simp at h
  | e :: ds, q, d, h => by
    have q' : (fine e && fineAll ds) = true := q
    rw [Bool.and_eq_true] at q'
    rcases List.mem_cons.mp h with rfl | h
    · exact q'.1
    · exact fine_mem q'.2 d h
def tyN : PyData → String
  | .none => "NoneType"
  | .bool _ => "bool"
  | .int _ => "int"
  | .str _ => "str"
  | .list _ => "list"
  | .tuple _ => "tuple"
  | .dict _ => "dict"
theorem dp_ty {K : PySem.W.Frag} {H : Hp} {v : V} {d : PyData} (h : Dp K H v d) : TyX K H v (.type (tyN d)) := by
  cases h with
  | non => exact .base .non
  | bl b => exact .base (.bl b)
  | int i => exact .base (.int i)
  | str x => exact .base (.str x)
  | lst h _ =>
    rcases h with (h | ⟨o, h⟩) | ⟨o, its, n, hk, hc, _⟩
    · exact .base (.lst h)
    · exact .base (.frz h)
    · exact .kList hk hc
  | tup h _ =>
    rcases h with (h | ⟨o, h⟩) | ⟨o, its, n, hk, hc, _⟩
    · exact .base (.tup h)
    · exact .fTuple h
    · exact .kTuple hk hc
theorem same_upd {H : Hp} {a : Addr} {o : HO} (h : H a = none) : Same H (upd H a o) := fun b q e => by
  rw [upd_ne (ne_of_none e h)]
  exact e
theorem Same.tup {K : PySem.W.Frag} {H H' : Hp} {a : Addr} {xs : List V} (e : Same H H') (h : SqT K H a xs) : SqT K H' a xs := by
  rcases h with (h | ⟨o, h⟩) | h
  · exact .inl (.inl (e _ _ h))
  · exact .inl (.inr ⟨o, e _ _ h⟩)
  · exact .inr h
mutual
theorem dp_same {K : PySem.W.Frag} {H H' : Hp} (e : Same H H') : ∀ {v : V} {d : PyData}, Dp K H v d → Dp K H' v d
  | _, _, .non => .non
  | _, _, .bl b => .bl b
  | _, _, .int i => .int i
  | _, _, .str x => .str x
  | _, _, .lst h q => .lst (e.seq h) (dp_sameAll e q)
  | _, _, .tup h q => .tup (Same.tup e h) (dp_sameAll e q)
theorem dp_sameAll {K : PySem.W.Frag} {H H' : Hp} (e : Same H H') : ∀ {vs : List V} {ds : List PyData}, DpAll K H vs ds → DpAll K H' vs ds
  | _, _, .nil => .nil
  | _, _, .cons h q => .cons (dp_same e h) (dp_sameAll e q)
end
theorem dpAll_len {K : PySem.W.Frag} {H : Hp} : ∀ {vs : List V} {ds : List PyData}, DpAll K H vs ds → vs.length = ds.length
  | _, _, .nil => rfl
  | _, _, .cons _ q => by rw [List.length_cons, List.length_cons, dpAll_len q]
theorem dpAll_at {K : PySem.W.Frag} {H : Hp} : ∀ {vs : List V} {ds : List PyData}, DpAll K H vs ds → ∀ (i : Nat) (v : V), vs[i]? = some v → ∃ d, ds[i]? = some d ∧ Dp K H v d
  | _, _, .nil, i, v, h => by simp at h
  | _, _, .cons h q, 0, v, e => by
    simp at e
    subst e
    exact ⟨_, rfl, h⟩
  | _, _, .cons h q, i + 1, v, e => by
    rw [List.getElem?_cons_succ] at e
    obtain ⟨d, h1, h2⟩ := dpAll_at q i v e
    exact ⟨d, by rw [List.getElem?_cons_succ]; exact h1, h2⟩
/-- texts alone -/
theorem dpAll_strs {K : PySem.W.Frag} {H : Hp} : ∀ {vs : List V} {ds : List PyData} {zs : List Str}, DpAll K H vs ds → ds = zs.map PyData.str → vs = zs.map V.str
  | _, _, [], .nil, _ => rfl
  | _, _, z :: zs, .nil, e => by simp at e
  | _, _, [], .cons h q, e => by simp at e
  | _, _, z :: zs, .cons h q, e => by
    rw [List.map_cons] at e
    injection e with e1 e2
    subst e1
    cases h
    rw [dpAll_strs q e2, List.map_cons]
theorem strs_dpAll {K : PySem.W.Frag} {H : Hp} : ∀ (zs : List Str), DpAll K H (zs.map V.str) (zs.map PyData.str)
  | [] => .nil
  | z :: zs => .cons (.str z) (strs_dpAll zs)
/-! ### what makes a word, a number -/
abbrev sLetters : Str := "abcdefghijklmnopqrstuvwxyz"
abbrev sCapitals : Str := "ABCDEFGHIJKLMNOPQRSTUVWXYZ"
abbrev sDigits : Str := "0123456789"
def isWord (z : Str) : Bool := decide (1 ≤ z.length) && decide (z.length ≤ 8) && decide (∀ c ∈ z.cps.toList, c ∈ sLetters.cps.toList)
def wordD : PyData → Bool
  | .str z => isWord z
  | _ => false
def intD (lo hi : Int) : PyData → Bool
  | .int i => decide (lo ≤ i) && decide (i ≤ hi)
  | _ => false
def strD : PyData → Bool
  | .str _ => true
  | _ => false
def intL : PyData → Bool
  | .int _ => true
  | .bool _ => true
  | _ => false
def boolD : PyData → Bool
  | .bool _ => true
  | _ => false
def tupD : PyData → Bool
  | .tuple _ => true
  | _ => false
def lstD : PyData → Bool
  | .list _ => true
  | _ => false
theorem isB_str (d : PyData) : kitB (tyN d) "str" = some (strD d) := by cases d <;> first | rfl | decide +kernel
theorem isB_int (d : PyData) : kitB (tyN d) "int" = some (intL d) := by cases d <;> first | rfl | decide +kernel
theorem isB_bool (d : PyData) : kitB (tyN d) "bool" = some (boolD d) := by cases d <;> first | rfl | decide +kernel
theorem isB_tuple (d : PyData) : kitB (tyN d) "tuple" = some (tupD d) := by cases d <;> first | rfl | decide +kernel
theorem isB_list (d : PyData) : kitB (tyN d) "list" = some (lstD d) := by cases d <;> first | rfl | decide +kernel
theorem len_list (z : Str) : z.cps.toList.length = z.length := by simp [PySem.Str.length]
theorem iteN {p A B : Prop} [Decidable p] (h : ¬ p) (k : B) : if decide p = true then A else B := by
  rw [decide_eq_false h]
  exact iteF k
theorem iteY {p A B : Prop} [Decidable p] (h : p) (k : A) : if decide p = true then A else B := by
  rw [decide_eq_true h]
  exact iteT k
theorem ite_b {A B : Prop} {b : Bool} (h1 : b = true → A) (h2 : b = false → B) : if b = true then A else B := by
  cases b with
  | true => exact iteT (h1 rfl)
  | false => exact iteF (h2 rfl)
theorem ite_n {A B : Prop} {b : Bool} (h1 : b = false → A) (h2 : b = true → B) : if (!b) = true then A else B := by
  cases b with
  | true => exact iteF (h2 rfl)
  | false => exact iteT (h1 rfl)
end Pl

namespace Pl
open PySem PySem.Spec PyProof.Rows L2
/-- the module's names that all need -/
structure Tx (mg : Str → Option Value) : Prop where
  all : mg "all" = none
  len : mg "len" = none
  int : mg "int" = none
  bool : mg "bool" = none
  isi : mg "isinstance" = none
  str : mg "str" = none
  tuple : mg "tuple" = none
  list : mg "list" = none
  set : mg "set" = none
  min : mg "min" = none
  enum : mg "enumerate" = none
  letters : ∃ t, mg "LETTERS" = some (.str sLetters t)
  capitals : ∃ t, mg "CAPITALS" = some (.str sCapitals t)
  digits : ∃ t, mg "DIGITS" = some (.str sDigits t)
  modulus : ∃ t, mg "MODULUS" = some (.int 1000000007 t)
theorem scMade : FnScope ["text", "allowed", "character"] ["text", "allowed"] (defScope sMadeOf) := ⟨rfl, rfl, rfl, by decide +kernel, rfl, by decide +kernel, by decide +kernel⟩
theorem scInteger : FnScope ["value", "low", "high"] ["value", "low", "high"] (defScope sInteger) := ⟨rfl, rfl, rfl, by decide +kernel, rfl, by decide +kernel, by decide +kernel⟩
theorem scNumber : FnScope ["value"] ["value"] (defScope sNumber) := ⟨rfl, rfl, rfl, by decide +kernel, rfl, by decide +kernel, by decide +kernel⟩
theorem scWord : FnScope ["value"] ["value"] (defScope sWord) := ⟨rfl, rfl, rfl, by decide +kernel, rfl, by decide +kernel, by decide +kernel⟩
theorem scEffect : FnScope ["value"] ["value"] (defScope sEffect) := ⟨rfl, rfl, rfl, by decide +kernel, rfl, by decide +kernel, by decide +kernel⟩
def spMadeOf : Sp := fun vs H Q _ => ∃ z al : Str, vs = [.str z, .str al] ∧ z.length ≤ 40000 ∧ ∀ H', Same H H' → Q (.bl (decide (∀ c ∈ z.cps.toList, c ∈ al.cps.toList))) H'
def spInteger (K : PySem.W.Frag) : Sp := fun vs H Q _ => ∃ (v : V) (d : PyData) (lo hi : Int), vs = [v, .int lo, .int hi] ∧ Dp K H v d ∧ Q (.bl (intD lo hi d)) H
def spNumber (K : PySem.W.Frag) : Sp := fun vs H Q _ => ∃ (v : V) (d : PyData), vs = [v] ∧ Dp K H v d ∧ Q (.bl (intD 0 1000000006 d)) H
def spWord (K : PySem.W.Frag) : Sp := fun vs H Q _ => ∃ (v : V) (d : PyData), vs = [v] ∧ Dp K H v d ∧ fine d = true ∧ ∀ H', Same H H' → Q (.bl (wordD d)) H'
/-! ### over the signs of a text -/
theorem lc_text {z : Str} {g : TG} {tt : TT} {te : TE} {vs : List Nat} {σ : L2.St} {H1 : Hp} {D : Addr} {Qd : Hp → Prop} (Pv : Nat → Hp → Prop) (h0 : Pv 0 (upd H1 D (.lst [])))
    (hs : ∀ i c H, z.cps.toList[i]? = some c → Pv i H → g (.str ⟨#[c]⟩) (wipe σ vs) H fun σ2 H2 => wipe σ2 vs = wipe σ vs ∧ tt σ2 H2 fun b H3 =>
      if b = true then te σ2 H3 fun y H4 => ∃ acc, H4 D = some (.lst acc) ∧ acc.length < sizeLine ∧ Pv (i + 1) (upd H4 D (.lst (acc ++ [y]))) else Pv (i + 1) H3) (hd : ∀ H, Pv z.cps.size H → Qd H) :
    ∃ W : Nat → Nat → Hp → Prop, (∃ m, W 0 m (upd H1 D (.lst []))) ∧ ∀ i m H, W i m H →
      ((Its z).stop i H ∧ Qd H) ∨ ((Its z).go i H ∧ ∃ Nx : Hp → Prop, (∀ H', Nx H' → ∃ m', m' < m ∧ W (i + 1) m' H') ∧ ∀ x H', (Its z).yld i H x H' → g x (wipe σ vs) H' fun σ2 H2 => wipe σ2 vs = wipe σ vs ∧ tt σ2 H2 fun b H3 =>
        if b = true then te σ2 H3 fun y H4 => ∃ acc, H4 D = some (.lst acc) ∧ acc.length < sizeLine ∧ Nx (upd H4 D (.lst (acc ++ [y]))) else Nx H3) := by
  refine ⟨fun i m H => m = z.cps.size - i ∧ i ≤ z.cps.size ∧ Pv i H, ⟨_, rfl, Nat.zero_le _, h0⟩, ?_⟩
  rintro i m H ⟨rfl, hi, p⟩
  by_cases hlt : i < z.cps.size
  · refine .inr ⟨hlt, Pv (i + 1), fun H' p' => ⟨z.cps.size - (i + 1), by omega, rfl, hlt, p'⟩, fun x H' y => ?_⟩
    obtain ⟨e, c, hc, rfl⟩ := y
    subst e
    exact hs i c _ (by simpa using hc) p
  · have e : i = z.cps.size := by omega
    subst e
    exact .inl ⟨Nat.le_refl _, hd H p⟩
theorem all_taken {α : Type} : ∀ (l : List α) (p : α → Bool), (l.map p).all id = l.all p
  | [], _ => rfl
  | c :: l, p => by simp [all_taken l p]
section
variable {P : Program} {w : World} {K : PySem.W.Frag} {mg : Str → Option Value} {base : Heap} {f fm fi : Addr} {fd fdm fdi : FuncData}
theorem ok_madeOf (F : Fun K "is_made_of" "is_made_of" sMadeOf f fd) (T : Tx mg) : FnOk P w K mg base CX0 1 f fd ["text", "allowed"] spMadeOf := by
  refine F.ok scMade (fun vs H Q E h => ?_) (fun cdv A outer s H vs Q E hr h => ?_)
  · obtain ⟨z, al, rfl, _⟩ := h
    rfl
  · obtain ⟨z, al, rfl, hz, k⟩ := h
    refine ⟨_, pss_one (ps_ret (pe_callB (cr_all rfl) (by rfl) T.all (by decide +kernel) (pa_cons
      (pe_lc (own := [("character", 2)]) (g := gName 2) (tt := tYes) (by rfl) scMade.nd (pi_str (pv 0)) (blkOk_by (own := [("character", 2)]) (N := ["text", "allowed", "character"]) (sc := defScope sMadeOf) (by decide +kernel))
        (fun _ _ _ _ _ => pg_name (i := 2) scMade.nd rfl (Or.inl rfl)) (fun _ _ _ _ _ => pts_nil) (fun _ _ _ _ _ => pe_cmpR op_in_sign (pv 2) (pv 1) rfl)) pa_nil))), ?_⟩
    refine ⟨_, rfl, z, rfl, fun D hD => lc_text (z := z) (fun i H' => Same H H' ∧ H' D = some (.lst ((z.cps.toList.take i).map fun c => V.bl (decide (c ∈ al.cps.toList))))) ⟨same_upd hD, upd_same⟩ ?_ ?_⟩
    · rintro i c H' hc ⟨q1, q2⟩
      refine ⟨rfl, ?_⟩
      unfold tYes
      refine iteT ?_
      have hi : i < z.cps.toList.length := by
        rcases Nat.lt_or_ge i z.cps.toList.length with h | h
        · exact h
        · rw [List.getElem?_eq_none h] at hc; cases hc
      refine ⟨_, rfl, _, rfl, c, al, rfl, rfl, _, q2, ?_, ?_, ?_⟩
      · rw [List.length_map, List.length_take, sizeLine_eq]
        have := len_list z
        omega
      · intro b o e
        rw [upd_ne (ne_of_none e hD)]
        exact q1 b o e
      · rw [upd_same, List.take_succ, hc, List.map_append]
        rfl
    · rintro H' ⟨q1, q2⟩
      refine ⟨D, z.cps.toList.map fun c => decide (c ∈ al.cps.toList), rfl, SqL.of ?_, ?_⟩
      · rw [q2]
        have e : z.cps.toList.take z.cps.size = z.cps.toList := List.take_of_length_le (by simp)
        rw [e, List.map_map]
        rfl
      · have e : (List.map (fun c => decide (c ∈ al.cps.toList)) z.cps.toList).all id = decide (∀ c ∈ z.cps.toList, c ∈ al.cps.toList) := by
          rw [all_taken, Bool.eq_iff_iff, List.all_eq_true, decide_eq_true_iff]
          exact forall_congr' fun c => forall_congr' fun _ => by rw [decide_eq_true_iff]
        rw [e]
        exact k H' q1
theorem ok_integer (F : Fun K "is_integer" "is_integer" sInteger f fd) (T : Tx mg) : FnOk P w K mg base CX0 1 f fd ["value", "low", "high"] (spInteger K) := by
  refine F.ok scInteger (fun vs H Q E h => ?_) (fun cdv A outer s H vs Q E hr h => ?_)
  · obtain ⟨v, d, lo, hi, rfl, _⟩ := h
    rfl
  · obtain ⟨v, d, lo, hi, rfl, hd, k⟩ := h
    refine ⟨_, pss_one (ps_ret (pe_and (pe_callB call_isi (by rfl) T.isi (by decide +kernel) (pa_cons (pv 0) (pa_cons (pe_bltn (v := .ty "int") (by rfl) T.int (by decide +kernel) rfl) pa_nil)))
      (pe_and (pe_not (pe_callB call_isi (by rfl) T.isi (by decide +kernel) (pa_cons (pv 0) (pa_cons (pe_bltn (v := .ty "bool") (by rfl) T.bool (by decide +kernel) rfl) pa_nil))))
        (pe_one (pe_chain op_le op_le (pv 1) (pv 0) (pv 2)))))), ?_⟩
    refine ⟨_, rfl, _, _, _, _, _, rfl, .ty "int", dp_ty hd, kit_ty (isB_int d), ?_⟩
    refine ⟨_, rfl, ?_⟩
    have other : intL d = false → intD lo hi d = false := by
      intro e
      cases d <;> first | rfl | (exact Bool.noConfusion e)
    refine ite_b (fun c1 => ?_) (fun c1 => ?_)
    · refine ⟨_, rfl, _, _, _, _, _, rfl, .ty "bool", dp_ty hd, kit_ty (isB_bool d), ?_⟩
      refine ⟨_, rfl, _, rfl, ?_⟩
      cases d with
      | bool b => exact iteF k
      | int i =>
        cases hd
        refine iteT ?_
        refine ⟨_, rfl, _, rfl, lo, i, rfl, rfl, decide (lo ≤ i), rfl, ?_⟩
        refine ite_b (fun c2 => ?_) (fun c2 => ?_)
        · refine ⟨_, rfl, i, hi, rfl, rfl, ?_⟩
          have e : intD lo hi (.int i) = decide (i ≤ hi) := by
            show (decide (lo ≤ i) && decide (i ≤ hi)) = _
            rw [c2, Bool.true_and]
          rw [e] at k
          exact k
        · have e : intD lo hi (.int i) = false := by
            show (decide (lo ≤ i) && decide (i ≤ hi)) = _
            rw [c2, Bool.false_and]
          rw [e] at k
          exact k
      | _ => exact Bool.noConfusion c1
    · rw [other c1] at k
      exact k
theorem ok_number (F : Fun K "is_number" "is_number" sNumber f fd) (T : Tx mg) (I : DefX K mg "is_integer" sInteger ["value", "low", "high"] fi fdi) : FnOk P w K mg base CX0 2 f fd ["value"] (spNumber K) := by
  have GI : FnOk P w K mg base CX0 1 _ _ _ (spInteger K) := ok_integer I.F T
  obtain ⟨tm, hm⟩ := T.modulus
  refine F.ok scNumber (fun vs H Q E h => ?_) (fun cdv A outer s H vs Q E hr h => ?_)
  · obtain ⟨v, d, rfl, _⟩ := h
    rfl
  · obtain ⟨v, d, rfl, hd, k⟩ := h
    refine ⟨_, pss_one (ps_ret (pe_call GI hr (by rfl) I.mg I.F.kp I.b .nil pass0 (pa_cons (pv 0) (pa_cons pe_int (pa_cons (pe_op op_sub (pe_glob (v := .int 1000000007) rfl hm ⟨_, rfl⟩) pe_int) pa_nil))))), ?_⟩
    exact ⟨_, rfl, _, _, rfl, rfl, v, d, 0, 1000000006, rfl, hd, k⟩
theorem ok_isWord (F : Fun K "is_word" "is_word" sWord f fd) (T : Tx mg) (M : DefX K mg "is_made_of" sMadeOf ["text", "allowed"] fm fdm) : FnOk P w K mg base CX0 2 f fd ["value"] (spWord K) := by
  have GM : FnOk P w K mg base CX0 1 _ _ ["text", "allowed"] spMadeOf := ok_madeOf M.F T
  obtain ⟨tl, hlet⟩ := T.letters
  refine F.ok scWord (fun vs H Q E h => ?_) (fun cdv A outer s H vs Q E hr h => ?_)
  · obtain ⟨v, d, rfl, _⟩ := h
    rfl
  · obtain ⟨v, d, rfl, hd, hf, k⟩ := h
    refine ⟨_, pss_one (ps_ret (pe_and (pe_callB call_isi (by rfl) T.isi (by decide +kernel) (pa_cons (pv 0) (pa_cons (pe_bltn (v := .ty "str") (by rfl) T.str (by decide +kernel) rfl) pa_nil)))
      (pe_and (pe_chain op_le op_le pe_int (pe_callB call_len_str (by rfl) T.len (by decide +kernel) (pa_cons (pv 0) pa_nil)) pe_int)
        (pe_one (pe_call GM hr (by rfl) M.mg M.F.kp M.b .nil pass0 (pa_cons (pv 0) (pa_cons (pe_glob (v := .str sLetters) rfl hlet ⟨_, rfl⟩) pa_nil))))))), ?_⟩
    refine ⟨_, rfl, _, _, _, _, _, rfl, .ty "str", dp_ty hd, kit_ty (isB_str d), ?_⟩
    refine ⟨_, rfl, ?_⟩
    cases d with
    | str z =>
      cases hd
      have hz : z.length ≤ 40000 := of_decide_eq_true hf
      have hsz : z.length ≤ sizeLine := by rw [sizeLine_eq]; omega
      refine iteT ?_
      refine ⟨_, rfl, _, rfl, hsz, 1, _, rfl, rfl, decide ((1 : Int) ≤ (z.length : Int)), rfl, ?_⟩
      have no : isWord z = false → V.bl (wordD (.str z)) = V.bl false := fun e => congrArg V.bl e
      refine ite_b (fun c1 => ?_) (fun c1 => ?_)
      · refine ⟨_, _, rfl, rfl, ?_⟩
        refine ⟨decide ((z.length : Int) ≤ 8), rfl, ite_b (fun c2 => ?_) (fun c2 => ?_)⟩
        · refine ⟨_, rfl, z, sLetters, rfl, hz, fun H' sm => ?_⟩
          have e1 := of_decide_eq_true c1
          have e2 := of_decide_eq_true c2
          have e : wordD (.str z) = decide (∀ c ∈ z.cps.toList, c ∈ sLetters.cps.toList) := by
            show (decide _ && decide _ && decide _) = _
            rw [decide_eq_true (show 1 ≤ z.length by omega), decide_eq_true (show z.length ≤ 8 by omega)]
            rfl
          rw [← e]
          exact k H' sm
        · have e2 := of_decide_eq_false c2
          have e : isWord z = false := by
            unfold isWord
            rw [decide_eq_false (show ¬ z.length ≤ 8 by omega), Bool.and_false, Bool.false_and]
          have q := k H (fun _ _ e => e)
          rw [no e] at q
          exact q
      · have e1 := of_decide_eq_false c1
        have e : isWord z = false := by
          unfold isWord
          rw [decide_eq_false (show ¬ 1 ≤ z.length by omega), Bool.false_and, Bool.false_and]
        have q := k H (fun _ _ e => e)
        rw [no e] at q
        exact ⟨false, rfl, iteF q⟩
    | _ => exact iteF (k H (fun _ _ e => e))
end
end Pl

namespace Pl
open PySem PySem.Spec PyProof.Rows L2
abbrev sAll : Str := sLetters ++ sCapitals ++ sDigits ++ " "
/-- the text of an effect -/
def isEff (z : Str) : Bool := decide (1 ≤ z.length) && decide (z.length ≤ 20) && decide (Txt.stripChars z " " = z) && decide (∀ c ∈ z.cps.toList, c ∈ sAll.cps.toList)
def effD : PyData → Bool
  | .str z => isEff z
  | _ => false
def spEffect (K : PySem.W.Frag) : Sp := fun vs H Q _ => ∃ (v : V) (d : PyData), vs = [v] ∧ Dp K H v d ∧ fine d = true ∧ ∀ H', Same H H' → Q (.bl (effD d)) H'
section
variable {P : Program} {w : World} {K : PySem.W.Frag} {mg : Str → Option Value} {base : Heap} {f fm fi : Addr} {fd fdm fdi : FuncData}
theorem ok_effect (F : Fun K "is_effect" "is_effect" sEffect f fd) (T : Tx mg) (M : DefX K mg "is_made_of" sMadeOf ["text", "allowed"] fm fdm) : FnOk P w K mg base CX0 2 f fd ["value"] (spEffect K) := by
  have GM : FnOk P w K mg base CX0 1 _ _ ["text", "allowed"] spMadeOf := ok_madeOf M.F T
  obtain ⟨tl, hl⟩ := T.letters
  obtain ⟨tc, hc⟩ := T.capitals
  obtain ⟨td, hdg⟩ := T.digits
  refine F.ok scEffect (fun vs H Q E h => ?_) (fun cdv A outer s H vs Q E hr h => ?_)
  · obtain ⟨v, d, rfl, _⟩ := h
    rfl
  · obtain ⟨v, d, rfl, hd, hf, k⟩ := h
    refine ⟨_, pss_cons (ps_if (PW.pt (pw_or (pt_not (pt_val (pe_callB call_isi (by rfl) T.isi (by decide +kernel) (pa_cons (pv 0) (pa_cons (pe_bltn (v := .ty "str") (by rfl) T.str (by decide +kernel) rfl) pa_nil)))))
        (pw_or1 (pt_not (pt_chain op_le op_le pe_int (pe_callB call_len_str (by rfl) T.len (by decide +kernel) (pa_cons (pv 0) pa_nil)) pe_int))))) (pss_one (ps_ret pe_bl)) pss_nil)
      (pss_one (ps_ret (pe_and (pe_cmpR op_eq (pe_bm PySem.F.plainAttrs_str PySem.F.slot_str_strip PySem.F.type_str_strip mt_stripChars (pv 0) (pa_cons pe_str pa_nil)) (pv 0) (nomark _))
        (pe_one (pe_call GM hr (by rfl) M.mg M.F.kp M.b .nil pass0 (pa_cons (pv 0) (pa_cons (pe_op op_add_str (pe_op op_add_str (pe_op op_add_str (pe_glob (v := .str sLetters) rfl hl ⟨_, rfl⟩) (pe_glob (v := .str sCapitals) rfl hc ⟨_, rfl⟩)) (pe_glob (v := .str sDigits) rfl hdg ⟨_, rfl⟩)) pe_str) pa_nil))))))), ?_⟩
    refine ⟨_, rfl, _, _, _, _, _, rfl, .ty "str", dp_ty hd, kit_ty (isB_str d), ?_⟩
    refine ⟨_, rfl, ?_⟩
    cases d with
    | str z =>
      cases hd
      have hz : z.length ≤ 40000 := of_decide_eq_true hf
      have hsz : z.length ≤ sizeLine := by rw [sizeLine_eq]; omega
      refine iteF ?_
      refine ⟨_, rfl, _, rfl, hsz, 1, _, rfl, rfl, decide ((1 : Int) ≤ (z.length : Int)), rfl, ?_⟩
      have no : isEff z = false → Q (V.bl false) H := fun e => by
        have q := k H (fun _ _ e => e)
        rw [show effD (.str z) = false from e] at q
        exact q
      refine ite_b (fun c1 => ?_) (fun c1 => ?_)
      · refine ⟨_, _, rfl, rfl, ?_⟩
        refine ⟨decide ((z.length : Int) ≤ 20), rfl, ?_⟩
        have e1 := of_decide_eq_true c1
        refine ite_n (fun c2 => ?_) (fun c2 => ?_)
        · have e2 := of_decide_eq_false c2
          exact no (by unfold isEff; rw [decide_eq_false (show ¬ z.length ≤ 20 by omega), Bool.and_false, Bool.false_and, Bool.false_and])
        · have e2 := of_decide_eq_true c2
          refine ⟨_, rfl, rfl, z, _, rfl, rfl, hsz, _, rfl, rfl, _, rfl, ?_⟩
          have eq : (V.str (Txt.stripChars z (Str.ofString " ")) = V.str z) ↔ Txt.stripChars z (Str.ofString " ") = z := ⟨fun e => by injection e, fun e => congrArg V.str e⟩
          have l1 : 1 ≤ z.length := by omega
          have l2 : z.length ≤ 20 := by omega
          refine ite_b (fun c3 => ?_) (fun c3 => ?_)
          · have e3 := eq.mp (of_decide_eq_true c3)
            refine ⟨_, rfl, _, _, rfl, rfl, by decide +kernel, _, _, rfl, rfl, by decide +kernel, _, _, rfl, rfl, by decide +kernel, z, sAll, rfl, hz, fun H' sm => ?_⟩
            have e : effD (.str z) = decide (∀ c ∈ z.cps.toList, c ∈ sAll.cps.toList) := by
              show (decide _ && decide _ && decide _ && decide _) = _
              rw [decide_eq_true l1, decide_eq_true l2, decide_eq_true e3]
              rfl
            rw [← e]
            exact k H' sm
          · have e3 : ¬ Txt.stripChars z (Str.ofString " ") = z := fun e => of_decide_eq_false c3 (eq.mpr e)
            exact no (by unfold isEff; rw [decide_eq_false e3, Bool.and_false, Bool.false_and])
      · have e1 := of_decide_eq_false c1
        refine ⟨false, rfl, iteT ?_⟩
        exact no (by unfold isEff; rw [decide_eq_false (show ¬ 1 ≤ z.length by omega), Bool.false_and, Bool.false_and, Bool.false_and])
    | _ => exact iteT (k H (fun _ _ e => e))
end
end Pl

namespace Pl
open PySem PySem.Spec PyProof.Rows L2
abbrev opNames : List Str := ["plus", "minus", "times", "less", "same"]
abbrev quNames : List Str := ["known", "reason"]
def quesB (vars : List Str) : List PyData → Bool
  | [.str q, .str z] => decide (q ∈ quNames) && decide (z ∈ vars)
  | _ => false
def operW (ex : PyData → Bool) (n : Nat) : List PyData → Bool
  | [.str o, a, b] => decide (n ≠ 0) && decide (o ∈ opNames) && (ex a && ex b)
  | _ => false
/-- which data are expressions, nested so deep at most -/
def exprB (args vars : List Str) : Nat → PyData → Bool
  | 0, _ => false
  | n + 1, .tuple ds => quesB vars ds || operW (exprB args vars n) n ds
  | _ + 1, .str z => decide (z ∈ args) || decide (z ∈ vars)
  | _ + 1, d => intD 0 1000000006 d
def operB (args vars : List Str) (n : Nat) (ds : List PyData) : Bool := operW (exprB args vars (n - 1)) (n - 1) ds
theorem two_of {α : Type} : ∀ {l : List α}, l.length = 2 → ∃ a b, l = [a, b]
  | [a, b], _ => ⟨a, b, rfl⟩
theorem three_of {α : Type} : ∀ {l : List α}, l.length = 3 → ∃ a b c, l = [a, b, c]
  | [a, b, c], _ => ⟨a, b, c, rfl⟩
theorem four_of {α : Type} : ∀ {l : List α}, l.length = 4 → ∃ a b c d, l = [a, b, c, d]
  | [a, b, c, d], _ => ⟨a, b, c, d, rfl⟩
theorem quesB_no {vars : List Str} {ds : List PyData} (h : ds.length ≠ 2) : quesB vars ds = false := by
  unfold quesB
  split
  · exact absurd rfl h
  · rfl
theorem operB_no {args vars : List Str} {n : Nat} {ds : List PyData} (h : ds.length ≠ 3) : operB args vars n ds = false := by
  unfold operB operW
  split
  · exact absurd rfl h
  · rfl
/-- a dict with these keys -/
def DictN (H : Hp) (a : Addr) (vars : List Str) : Prop := ∃ kvs, H a = some (.dK kvs) ∧ ∀ z, (valV kvs (Sum.inr z)).isSome = decide (z ∈ vars)
def spQues (K : PySem.W.Frag) : Sp := fun vs H Q _ => ∃ (t nd : Addr) (xs : List V) (ds : List PyData) (vars : List Str), vs = [.ref t, .ref nd] ∧ SqT K H t xs ∧ DpAll K H xs ds ∧ DictN H nd vars ∧ Q (.bl (quesB vars ds)) H
def spOper (K : PySem.W.Frag) (n : Nat) : Sp := fun vs H Q _ => ∃ (t g nd : Addr) (xs : List V) (ds : List PyData) (args vars : List Str), vs = [.ref t, .ref g, .ref nd, .int (n : Nat)] ∧ SqT K H t xs ∧ DpAll K H xs ds ∧ SqT K H g (args.map V.str) ∧ DictN H nd vars ∧ Q (.bl (operB args vars n ds)) H
def spExpr (K : PySem.W.Frag) (n : Nat) : Sp := fun vs H Q _ => 1 ≤ n ∧ ∃ (v : V) (d : PyData) (g nd : Addr) (args vars : List Str), vs = [v, .ref g, .ref nd, .int (n : Nat)] ∧ Dp K H v d ∧ SqT K H g (args.map V.str) ∧ DictN H nd vars ∧ Q (.bl (exprB args vars n d)) H
theorem scExpr : FnScope ["value", "arguments", "variables", "deepest"] ["value", "arguments", "variables", "deepest"] (defScope sExpr) := ⟨rfl, rfl, rfl, by decide +kernel, rfl, by decide +kernel, by decide +kernel⟩
theorem scQues : FnScope ["value", "variables", "question", "variable"] ["value", "variables"] (defScope sQues) := ⟨rfl, rfl, rfl, by decide +kernel, rfl, by decide +kernel, by decide +kernel⟩
theorem scOper : FnScope ["value", "arguments", "variables", "deepest", "operation", "first", "second"] ["value", "arguments", "variables", "deepest"] (defScope sOper) := ⟨rfl, rfl, rfl, by decide +kernel, rfl, by decide +kernel, by decide +kernel⟩
structure TxE (K : PySem.W.Frag) (mg : Str → Option Value) : Prop where
  quests : ∃ t, mg "QUESTIONS" = some (.ref t) ∧ ∀ H, SqT K H t (quNames.map V.str)
  opers : ∃ t, mg "OPERATIONS" = some (.ref t) ∧ ∀ H, SqT K H t (opNames.map V.str)
theorem inV_strs (z : Str) : ∀ zs : List Str, inV (.str z) (zs.map V.str) = decide (z ∈ zs)
  | [] => rfl
  | y :: ys => by
    have ih := inV_strs z ys
    unfold inV at ih ⊢
    rw [List.map_cons, List.any_cons, ih]
    show (y == z || decide (z ∈ ys)) = _
    rw [Bool.eq_iff_iff, Bool.or_eq_true, beq_iff_eq, decide_eq_true_iff, decide_eq_true_iff, List.mem_cons]
    exact ⟨fun h => h.imp Eq.symm id, fun h => h.imp Eq.symm id⟩
theorem flat_strs (zs : List Str) : (zs.map V.str).all flatV = true := by
  induction zs with
  | nil => rfl
  | cons y ys ih => rw [List.map_cons, List.all_cons, ih]; rfl
theorem iteNN {c A B : Prop} [Decidable c] (hc : ¬ c) (h : A) : if (!decide c) = true then A else B := by
  rw [decide_eq_false hc]
  exact iteT h
theorem fnNever {CX : CXT} {P : Program} {w : World} {K : PySem.W.Frag} {mg : Str → Option Value} {base : Heap} {k : Nat} {f : Addr} {fd : FuncData} {ps : List Str} {sp : Sp} (h : ∀ vs H Q E, ¬ sp vs H Q E) : FnOk P w K mg base CX k f fd ps sp :=
  ⟨fun vs H Q E z => absurd z (h vs H Q E), fun A outer s H args us vs Q E _ _ _ _ z => absurd z (h vs H Q E)⟩
section
variable {P : Program} {w : World} {K : PySem.W.Frag} {mg : Str → Option Value} {base : Heap} {f fe fi fn fq fo : Addr} {fd fde fdi fdn fdq fdo : FuncData}
theorem ok_ques (F : Fun K "_is_question" "_is_question" sQues f fd) (T : Tx mg) (TE : TxE K mg) : FnOk P w K mg base CX0 1 f fd ["value", "variables"] (spQues K) := by
  obtain ⟨qa, hqu, hqs⟩ := TE.quests
  refine F.ok scQues (fun vs H Q E h => ?_) (fun cdv A outer s H vs Q E hr h => ?_)
  · obtain ⟨t, nd, xs, ds, vars, rfl, _⟩ := h
    rfl
  · obtain ⟨t, nd, xs, ds, vars, rfl, hT, hA, ⟨kvs, hN, hK⟩, k⟩ := h
    have hu := hu_of hr
    refine ⟨_, pss_cons (ps_if (pt_cmpR op_ne (pe_callB call_len_seq (by rfl) T.len (by decide +kernel) (pa_cons (pv 0) pa_nil)) pe_int (nomark _)) (pss_one (ps_ret pe_bl)) pss_nil)
      (pss_cons (ps_asg (pv 0) (pg_tup (by rfl) (pgs_cons (pg_name (i := 2) scQues.nd rfl (Or.inl rfl)) (pgs_cons (pg_name (i := 3) scQues.nd rfl (Or.inl rfl)) pgs_nil))))
      (pss_cons (ps_if (PW.pt (pw_or (pt_not (pt_val (pe_callB call_isi (by rfl) T.isi (by decide +kernel) (pa_cons (pv 2) (pa_cons (pe_bltn (v := .ty "str") (by rfl) T.str (by decide +kernel) rfl) pa_nil)))))
          (pw_or1 (pt_not (pt_val (pe_callB call_isi (by rfl) T.isi (by decide +kernel) (pa_cons (pv 3) (pa_cons (pe_bltn (v := .ty "str") (by rfl) T.str (by decide +kernel) rfl) pa_nil)))))))) (pss_one (ps_ret pe_bl)) pss_nil)
      (pss_one (ps_ret (pe_and (pe_cmpR op_in_seq (pv 2) (pe_glob (v := .ref qa) rfl hqu rfl) (by rfl)) (pe_one (pe_cmp (pc_din hu (pv 3) (pv 1)) rfl))))))), ?_⟩
    refine ⟨_, rfl, t, xs, rfl, .inr hT, rfl, _, rfl, ?_⟩
    have hl := dpAll_len hA
    by_cases h2 : ds.length = 2
    · obtain ⟨d1, d2, rfl⟩ := two_of h2
      obtain _ | ⟨h1, hA⟩ := hA
      obtain _ | ⟨hd2, hA⟩ := hA
      cases hA
      refine iteNS rfl ?_
      refine ⟨_, rfl, t, _, rfl, hT, rfl, _, _, rfl, _, _, rfl, rfl, ?_⟩
      refine ⟨_, rfl, _, _, _, _, _, rfl, .ty "str", dp_ty h1, kit_ty (isB_str d1), ?_⟩
      refine ⟨_, rfl, ?_⟩
      have no1 : strD d1 = false → quesB vars [d1, d2] = false := by
        intro e
        cases d1 <;> first | rfl | exact Bool.noConfusion e
      have no2 : strD d2 = false → quesB vars [d1, d2] = false := by
        intro e
        cases d1 <;> cases d2 <;> first | rfl | exact Bool.noConfusion e
      refine ite_n (fun c1 => ?_) (fun c1 => ?_)
      · rw [no1 c1] at k
        exact k
      · refine ⟨_, rfl, _, _, _, _, _, rfl, .ty "str", dp_ty hd2, kit_ty (isB_str d2), ?_⟩
        refine ⟨_, rfl, ?_⟩
        refine ite_n (fun c2 => ?_) (fun c2 => ?_)
        · rw [no2 c2] at k
          exact k
        · cases d1 <;> first | exact Bool.noConfusion c1 | skip
          cases d2 <;> first | exact Bool.noConfusion c2 | skip
          rename_i q z
          cases h1
          cases hd2
          refine ⟨_, rfl, qa, _, rfl, .inr (hqs H), rfl, flat_strs quNames, ?_⟩
          rw [if_neg Bool.false_ne_true, inV_strs]
          refine ⟨_, rfl, ite_b (fun c3 => ?_) (fun c3 => ?_)⟩
          · refine ⟨_, rfl, _, rfl, nd, _, rfl, DGet.k (k := Sum.inr z) hN, ?_⟩
            rw [hK]
            have e : quesB vars [.str q, .str z] = decide (z ∈ vars) := by
              show (decide _ && decide _) = _
              rw [c3, Bool.true_and]
            rw [e] at k
            exact k
          · have e : quesB vars [.str q, .str z] = false := by
              show (decide _ && decide _) = _
              rw [c3, Bool.false_and]
            rw [e] at k
            exact k
    · rw [quesB_no h2] at k
      refine iteNN (fun e => h2 ?_) k
      injection e with e
      omega
end
end Pl

namespace Pl
open PySem PySem.Spec PyProof.Rows L2
/-- is_expression as it stands, with its default -/
structure ExprX (K : PySem.W.Frag) (mg : Str → Option Value) (f : Addr) (fd : FuncData) : Prop where
  mg : mg "is_expression" = some (.ref f)
  F : FunD K "is_expression" "is_expression" (defArgs sExpr) (defBody sExpr) (defScope sExpr) [.int 6] [] f fd
  b4 : Binds K fd ["value", "arguments", "variables", "deepest"] []
  b3 : ∃ ds, Vals [V.int 6] ds ∧ Binds K fd ["value", "arguments", "variables", "deepest"] ds
section
variable {P : Program} {w : World} {K : PySem.W.Frag} {mg : Str → Option Value} {base : Heap} {f fe fi fn fq fo : Addr} {fd fde fdi fdn fdq fdo : FuncData}
theorem ok_oper {n : Nat} (F : Fun K "_is_operation" "_is_operation" sOper f fd) (T : Tx mg) (TE : TxE K mg) (EX : ExprX K mg fe fde) {j : Nat}
    (GE : FnOk P w K mg base CX0 j fe fde ["value", "arguments", "variables", "deepest"] (spExpr K n)) : FnOk P w K mg base CX0 (j + 1) f fd ["value", "arguments", "variables", "deepest"] (spOper K (n + 1)) := by
  obtain ⟨oa, hop, hops⟩ := TE.opers
  refine F.ok scOper (fun vs H Q E h => ?_) (fun cdv A outer s H vs Q E hr h => ?_)
  · obtain ⟨t, g, nd, xs, ds, args, vars, rfl, _⟩ := h
    rfl
  · obtain ⟨t, g, nd, xs, ds, args, vars, rfl, hT, hA, hG, hN, k⟩ := h
    refine ⟨_, pss_cons (ps_if (PW.pt (pw_or (pt_cmpR op_ne (pe_callB call_len_seq (by rfl) T.len (by decide +kernel) (pa_cons (pv 0) pa_nil)) pe_int (nomark _)) (pw_or1 (pt_cmpR op_eq (pv 3) pe_int (nomark _))))) (pss_one (ps_ret pe_bl)) pss_nil)
      (pss_cons (ps_asg (pv 0) (pg_tup (by rfl) (pgs_cons (pg_name (i := 4) scOper.nd rfl (Or.inl rfl)) (pgs_cons (pg_name (i := 5) scOper.nd rfl (Or.inl rfl)) (pgs_cons (pg_name (i := 6) scOper.nd rfl (Or.inl rfl)) pgs_nil)))))
      (pss_cons (ps_if (PW.pt (pw_or (pt_not (pt_val (pe_callB call_isi (by rfl) T.isi (by decide +kernel) (pa_cons (pv 4) (pa_cons (pe_bltn (v := .ty "str") (by rfl) T.str (by decide +kernel) rfl) pa_nil)))))
          (pw_or1 (pt_cmpR op_notIn_seq (pv 4) (pe_glob (v := .ref oa) rfl hop rfl) (by rfl))))) (pss_one (ps_ret pe_bl)) pss_nil)
      (pss_cons (ps_if (pt_not (pt_val (pe_call GE hr (by rfl) EX.mg EX.F.kp EX.b4 .nil pass0 (pa_cons (pv 5) (pa_cons (pv 1) (pa_cons (pv 2) (pa_cons (pe_op op_sub (pv 3) pe_int) pa_nil))))))) (pss_one (ps_ret pe_bl)) pss_nil)
      (pss_one (ps_ret (pe_call GE hr (by rfl) EX.mg EX.F.kp EX.b4 .nil pass0 (pa_cons (pv 6) (pa_cons (pv 1) (pa_cons (pv 2) (pa_cons (pe_op op_sub (pv 3) pe_int) pa_nil)))))))))), ?_⟩
    refine ⟨_, rfl, t, xs, rfl, .inr hT, rfl, _, rfl, ?_⟩
    have hl := dpAll_len hA
    by_cases h3 : ds.length = 3
    · obtain ⟨d1, d2, d3, rfl⟩ := three_of h3
      obtain _ | ⟨h1, hA⟩ := hA
      obtain _ | ⟨hd2, hA⟩ := hA
      obtain _ | ⟨hd3, hA⟩ := hA
      cases hA
      refine iteNS rfl ?_
      refine ⟨_, rfl, rfl, _, rfl, ?_⟩
      have e0 : operB args vars (n + 1) [d1, d2, d3] = operW (exprB args vars n) n [d1, d2, d3] := rfl
      rw [e0] at k
      have hn : (V.int ((n + 1 : Nat) : Int) = V.int 1) ↔ n = 0 := ⟨fun e => by injection e with e; omega, fun e => by subst e; rfl⟩
      refine ite_b (fun c0 => ?_) (fun c0 => ?_)
      · have z := hn.mp (of_decide_eq_true c0)
        subst z
        have e : operW (exprB args vars 0) 0 [d1, d2, d3] = false := by
          cases d1 <;> rfl
        rw [e] at k
        exact k
      · have nz : n ≠ 0 := fun z => of_decide_eq_false c0 (hn.mpr z)
        refine ⟨_, rfl, t, _, rfl, hT, rfl, _, _, rfl, _, _, rfl, _, _, rfl, rfl, ?_⟩
        refine ⟨_, rfl, _, _, _, _, _, rfl, .ty "str", dp_ty h1, kit_ty (isB_str d1), ?_⟩
        refine ⟨_, rfl, ?_⟩
        have no1 : strD d1 = false → operW (exprB args vars n) n [d1, d2, d3] = false := by
          intro e
          cases d1 <;> first | rfl | exact Bool.noConfusion e
        refine ite_n (fun c1 => ?_) (fun c1 => ?_)
        · rw [no1 c1] at k
          exact k
        · cases d1 <;> first | exact Bool.noConfusion c1 | skip
          rename_i o
          cases h1
          refine ⟨_, rfl, oa, _, rfl, .inr (hops H), rfl, flat_strs opNames, ?_⟩
          rw [if_pos rfl, inV_strs]
          refine ⟨_, rfl, ?_⟩
          have e1 : operW (exprB args vars n) n [.str o, d2, d3] = (decide (o ∈ opNames) && (exprB args vars n d2 && exprB args vars n d3)) := by
            show (decide (n ≠ 0) && decide _ && _) = _
            rw [decide_eq_true nz, Bool.true_and]
          rw [e1] at k
          refine ite_n (fun c2 => ?_) (fun c2 => ?_)
          · rw [c2, Bool.false_and] at k
            exact k
          · rw [c2, Bool.true_and] at k
            have em : ((n + 1 : Nat) : Int) - 1 = (n : Nat) := by omega
            refine ⟨_, rfl, _, rfl, _, rfl, _, rfl, _, _, rfl, rfl, by omega, _, d2, g, nd, args, vars, congrArg (fun z => [_, V.ref g, V.ref nd, V.int z]) em, hd2, hG, hN, ?_⟩
            refine ⟨_, rfl, ?_⟩
            refine ite_n (fun c3 => ?_) (fun c3 => ?_)
            · rw [c3, Bool.false_and] at k
              exact k
            · rw [c3, Bool.true_and] at k
              exact ⟨_, rfl, _, rfl, _, rfl, _, rfl, _, _, rfl, rfl, by omega, _, d3, g, nd, args, vars, congrArg (fun z => [_, V.ref g, V.ref nd, V.int z]) em, hd3, hG, hN, k⟩
    · rw [operB_no h3] at k
      refine iteNN (fun e => h3 ?_) k
      injection e with e
      omega
theorem ok_expr1 {n : Nat} (T : Tx mg) (EX : ExprX K mg f fd) (QX : DefX K mg "_is_question" sQues ["value", "variables"] fq fdq) (OX : DefX K mg "_is_operation" sOper ["value", "arguments", "variables", "deepest"] fo fdo)
    (NX : DefX K mg "is_number" sNumber ["value"] fn fdn) (IX : DefX K mg "is_integer" sInteger ["value", "low", "high"] fi fdi) (TE : TxE K mg) {j : Nat} (hj : 2 ≤ j)
    (GO : FnOk P w K mg base CX0 j fo fdo ["value", "arguments", "variables", "deepest"] (spOper K (n + 1))) : FnOk P w K mg base CX0 (j + 1) f fd ["value", "arguments", "variables", "deepest"] (spExpr K (n + 1)) := by
  have GQ : FnOk P w K mg base CX0 1 _ _ ["value", "variables"] (spQues K) := ok_ques QX.F T TE
  have GN : FnOk P w K mg base CX0 2 _ _ ["value"] (spNumber K) := ok_number NX.F T IX
  refine EX.F.ok scExpr (fun vs H Q E h => ?_) (fun cdv A outer s H vs Q E hr h => ?_)
  · obtain ⟨_, v, d, g, nd, args, vars, rfl, _⟩ := h
    rfl
  · obtain ⟨_, v, d, g, nd, args, vars, rfl, hd, hG, hN, k⟩ := h
    have hr1 : Room 1 _ := hr.mono (by omega)
    have hr2 : Room 2 _ := hr.mono hj
    have hu := hu_of hr
    refine ⟨_, pss_cons (ps_if (pt_val (pe_callB call_isi (by rfl) T.isi (by decide +kernel) (pa_cons (pv 0) (pa_cons (pe_bltn (v := .ty "tuple") (by rfl) T.tuple (by decide +kernel) rfl) pa_nil))))
        (pss_one (ps_ret (pe_or (pe_call GQ hr1 (by rfl) QX.mg QX.F.kp QX.b .nil pass0 (pa_cons (pv 0) (pa_cons (pv 2) pa_nil)))
          (pe_one (pe_call GO hr (by rfl) OX.mg OX.F.kp OX.b .nil pass0 (pa_cons (pv 0) (pa_cons (pv 1) (pa_cons (pv 2) (pa_cons (pv 3) pa_nil))))))))) pss_nil)
      (pss_cons (ps_if (pt_val (pe_callB call_isi (by rfl) T.isi (by decide +kernel) (pa_cons (pv 0) (pa_cons (pe_bltn (v := .ty "str") (by rfl) T.str (by decide +kernel) rfl) pa_nil))))
        (pss_one (ps_ret (pe_or (pe_cmpR op_in_seq (pv 0) (pv 1) (by rfl)) (pe_one (pe_cmp (pc_din hu (pv 0) (pv 2)) rfl))))) pss_nil)
      (pss_one (ps_ret (pe_call GN hr2 (by rfl) NX.mg NX.F.kp NX.b .nil pass0 (pa_cons (pv 0) pa_nil))))), ?_⟩
    refine ⟨_, rfl, _, _, _, _, _, rfl, .ty "tuple", dp_ty hd, kit_ty (isB_tuple d), ?_⟩
    refine ⟨_, rfl, ?_⟩
    have rest : tupD d = false → strD d = false → exprB args vars (n + 1) d = intD 0 1000000006 d := by
      intro e1 e2
      cases d <;> first | rfl | exact Bool.noConfusion e1 | exact Bool.noConfusion e2
    refine ite_b (fun c1 => ?_) (fun c1 => ?_)
    · cases d <;> first | exact Bool.noConfusion c1 | skip
      rename_i ds
      obtain ⟨t, xs, rfl, hT, hA⟩ : ∃ t xs, v = .ref t ∧ SqT K H t xs ∧ DpAll K H xs ds := by
        cases hd with
        | tup h q => exact ⟨_, _, rfl, h, q⟩
      refine ⟨_, rfl, _, rfl, t, nd, xs, ds, vars, rfl, hT, hA, hN, ?_⟩
      have e : exprB args vars (n + 1) (.tuple ds) = (quesB vars ds || operB args vars (n + 1) ds) := rfl
      rw [e] at k
      refine ⟨_, rfl, ite_b (fun c2 => ?_) (fun c2 => ?_)⟩
      · rw [c2, Bool.true_or] at k
        exact k
      · rw [c2, Bool.false_or] at k
        exact ⟨_, rfl, _, rfl, _, rfl, _, rfl, t, g, nd, xs, ds, args, vars, rfl, hT, hA, hG, hN, k⟩
    · refine ⟨_, rfl, _, _, _, _, _, rfl, .ty "str", dp_ty hd, kit_ty (isB_str d), ?_⟩
      refine ⟨_, rfl, ?_⟩
      refine ite_b (fun c2 => ?_) (fun c2 => ?_)
      · cases d <;> first | exact Bool.noConfusion c2 | skip
        rename_i z
        cases hd
        obtain ⟨kvs, hN1, hK⟩ := hN
        refine ⟨_, rfl, _, rfl, g, _, rfl, .inr hG, rfl, flat_strs args, ?_⟩
        rw [if_neg Bool.false_ne_true, inV_strs]
        have e : exprB args vars (n + 1) (.str z) = (decide (z ∈ args) || decide (z ∈ vars)) := rfl
        rw [e] at k
        refine ⟨_, rfl, ite_b (fun c3 => ?_) (fun c3 => ?_)⟩
        · rw [c3, Bool.true_or] at k
          exact k
        · rw [c3, Bool.false_or] at k
          refine ⟨_, rfl, _, rfl, nd, _, rfl, DGet.k (k := Sum.inr z) hN1, ?_⟩
          rw [hK]
          exact k
      · rw [rest c1 c2] at k
        exact ⟨_, rfl, v, d, rfl, hd, k⟩
/-- is_expression at each depth -/
theorem ok_expr (T : Tx mg) (EX : ExprX K mg f fd) (QX : DefX K mg "_is_question" sQues ["value", "variables"] fq fdq) (OX : DefX K mg "_is_operation" sOper ["value", "arguments", "variables", "deepest"] fo fdo)
    (NX : DefX K mg "is_number" sNumber ["value"] fn fdn) (IX : DefX K mg "is_integer" sInteger ["value", "low", "high"] fi fdi) (TE : TxE K mg) : ∀ n : Nat, FnOk P w K mg base CX0 (2 * n + 2) f fd ["value", "arguments", "variables", "deepest"] (spExpr K n)
  | 0 => fnNever fun vs H Q E h => absurd h.1 (by omega)
  | n + 1 => by
    have ih := ok_expr T EX QX OX NX IX TE n
    have h := ok_expr1 T EX QX OX NX IX TE (j := 2 * n + 3) (by omega) (ok_oper OX.F T TE EX ih)
    exact h
end
end Pl

namespace L2
open PySem PySem.Spec PyProof.Rows
/-- a call of a local name that holds one of several defs, each with its promise -/
def tCallD (i : Nat) (S : Addr → Sp → Prop) (t : TA) : TE := fun σ H Q => ∃ f sp, σ[i]? = some (some (.ref f)) ∧ S f sp ∧ t σ H fun vs H1 => sp vs H1 Q (fun _ _ _ => False)
theorem pe_callD {X : Cx} {k i : Nat} {x : Str} {p pos : Pos} {e : Expr} {es : List Expr} {t : TA} {S : Addr → Sp → Prop} (A : ∀ f sp, S f sp → Held X.prog X.w X.K X.mg X.base k f sp) (hr : Room k X.A) (hN : X.N[i]? = some x) (hv : Vis X.env.scope x) (ha : PA X (e :: es) t)
    (hdb : (x == ("__debug__" : Str)) = false := by decide) (hcd : (x == ("__classdict__" : Str)) = false := by decide)
    (he : starEach (e :: es) X.env = (false, eval e X.env) :: starEach es X.env := by rfl) (hpl : (backTo pos (starEach es X.env)).any (·.1) = false := by rfl) : PE X (.Call (.Name x p) (e :: es) [] pos) (tCallD i S t) := by
  refine ⟨fun pins s σ H Q I ⟨f, sp, hs, hS, ht⟩ => ?_⟩
  have ⟨fd, ps, F, hk, hb⟩ := (A f sp hS).ex
  have R := (pe_callL (p := p) (i := i) (dvs := []) (E := fun _ _ _ => False) F hr hN hv hk hb .nil (fun _ _ _ _ _ _ _ z => False.elim z) ha hdb hcd he hpl).run pins s σ H Q I
  refine R ⟨hs, ?_⟩
  have en : ∀ vs : List V, vs ++ [] = vs := List.append_nil
  simpa only [en] using ht
end L2
namespace Pl
open PySem PySem.Spec PyProof.Rows L2
/-! ### the scope of a plan's body -/
structure Sc where
  given : List Str
  named : List Str
  called : List Str
  ends : List Int
  room : Int
/-- a dict whose keys are these texts, each with some value -/
def DictS (H : Hp) (a : Addr) (vars : List Str) : Prop := ∃ kvs, H a = some (.dK kvs) ∧ (∀ z, (valV kvs (Sum.inr z)).isSome = decide (z ∈ vars)) ∧ kvs.length ≤ vars.length
theorem DictS.n {H : Hp} {a : Addr} {vars : List Str} (h : DictS H a vars) : DictN H a vars := let ⟨kvs, h1, h2, _⟩ := h; ⟨kvs, h1, h2⟩
theorem DictS.same {H H' : Hp} {a : Addr} {vars : List Str} (h : DictS H a vars) (e : Same H H') : DictS H' a vars := let ⟨kvs, h1, h2⟩ := h; ⟨kvs, e _ _ h1, h2⟩
structure ScX (K : PySem.W.Frag) (mg : Str → Option Value) (C : Addr) : Prop where
  cls : Cls K C
  nG : NoAttr K C "given"
  nN : NoAttr K C "named"
  nC : NoAttr K C "called"
  nE : NoAttr K C "ends"
  nR : NoAttr K C "room"
  mgC : mg "Scope" = some (.ref C)
abbrev scFs (g n c e : Addr) (room : Int) : List (Str × V) := [("given", .ref g), ("named", .ref n), ("called", .ref c), ("ends", .ref e), ("room", .int room)]
/-- the scope S stands at r -/
structure ScAt (K : PySem.W.Frag) (C r : Addr) (S : Sc) (H : Hp) (dx g n c e : Addr) : Prop where
  ins : H r = some (.ins C dx (scFs g n c e S.room))
  given : SqT K H g (S.given.map V.str)
  named : DictS H n S.named
  called : DictS H c S.called
  ends : H e = some (.lst (S.ends.map V.int))
  nc : n ≠ c
  few : S.named.length ≤ 1000 ∧ S.called.length ≤ 1000 ∧ S.ends.length ≤ 1000
theorem ScAt.same {K : PySem.W.Frag} {C r : Addr} {S : Sc} {H H' : Hp} {dx g n c e : Addr} (h : ScAt K C r S H dx g n c e) (s : Same H H') : ScAt K C r S H' dx g n c e :=
  ⟨s _ _ h.ins, Same.tup s h.given, h.named.same s, h.called.same s, s _ _ h.ends, h.nc, h.few⟩
/-- a new scope -/
def scNew (given : List Str) (n : Int) : Sc := ⟨given, [], [], [n], 0⟩
theorem scScInit : FnScope ["self", "arguments", "length"] ["self", "arguments", "length"] (defScope sScInit) := ⟨rfl, rfl, rfl, by decide +kernel, rfl, by decide +kernel, by decide +kernel⟩
theorem scEnter : FnScope ["self", "at", "end"] ["self", "at"] (defScope sEnter) := ⟨rfl, rfl, rfl, by decide +kernel, rfl, by decide +kernel, by decide +kernel⟩
theorem scLeave : FnScope ["self", "at", "instruction", "name"] ["self", "at", "instruction"] (defScope sLeave) := ⟨rfl, rfl, rfl, by decide +kernel, rfl, by decide +kernel, by decide +kernel⟩
theorem scEnd : FnScope ["instruction", "at"] ["instruction", "at"] (defScope sEnd) := ⟨rfl, rfl, rfl, by decide +kernel, rfl, by decide +kernel, by decide +kernel⟩
theorem upd_old {H : Hp} {q p : Addr} {o o2 : HO} (e : H q = some o) (h : H p = none) : upd H p o2 q = some o := (upd_ne (ne_of_none e h)).trans e
theorem two_size (a b : V) : [a, b].length ≤ sizeLine := by
  rw [sizeLine_eq]
  exact (by decide : 2 ≤ 16777216)
theorem one_size (a : V) : [a].length ≤ sizeLine := by
  rw [sizeLine_eq]
  exact (by decide : 1 ≤ 16777216)
def spScInit (K : PySem.W.Frag) (C : Addr) : Sp := fun vs H Q _ => ∃ (r g dx : Addr) (args : List Str) (len : Int), vs = [.ref r, .ref g, .int len] ∧ H r = some (.ins C dx []) ∧ SqT K H g (args.map V.str) ∧
  ∀ H' n c e, (∀ b, b ≠ r → ∀ o, H b = some o → H' b = some o) → H n = none → H c = none → H e = none → ScAt K C r (scNew args len) H' dx g n c e → Q .non H'
section
variable {P : Program} {w : World} {K : PySem.W.Frag} {mg : Str → Option Value} {base : Heap} {C f : Addr} {fd : FuncData}
theorem ok_scInit (F : Fun K "__init__" "Scope.__init__" sScInit f fd) (X : ScX K mg C) : FnOk P w K mg base CX0 1 f fd ["self", "arguments", "length"] (spScInit K C) := by
  refine F.ok scScInit (fun vs H Q E h => ?_) (fun cdv A outer s H vs Q E hr h => ?_)
  · obtain ⟨r, g, dx, args, len, rfl, _⟩ := h
    rfl
  · obtain ⟨r, g, dx, args, len, rfl, hR, hG, k⟩ := h
    refine ⟨_, pss_cons (ps_fld (pv 0) (pv 1) rfl) (pss_cons (ps_fld (pv 0) pe_dnewK rfl) (pss_cons (ps_fld (pv 0) pe_dnewK rfl) (pss_cons (ps_fld (pv 0) (pe_lst (pa_cons (pv 2) pa_nil)) rfl) (pss_one (ps_fld (pv 0) pe_int rfl))))), ?_⟩
    refine ⟨_, rfl, _, rfl, r, C, dx, _, rfl, hR, X.cls, X.nG, by decide, ?_⟩
    refine fun n hn => ⟨_, rfl, r, C, dx, _, rfl, (upd_old upd_same hn), X.cls, X.nN, (show 1 < 1000 by decide), ?_⟩
    have nr : n ≠ r := Ne.symm (ne_of_none upd_same hn)
    have hn0 : H n = none := by rw [upd_ne nr] at hn; exact hn
    refine fun c hc => ⟨_, rfl, r, C, dx, _, rfl, (upd_old upd_same hc), X.cls, X.nC, (show 2 < 1000 by decide), ?_⟩
    have cr : c ≠ r := Ne.symm (ne_of_none upd_same hc)
    have nc : n ≠ c := fun z => by
      rw [← z, upd_ne nr, upd_same] at hc
      cases hc
    have hc0 : H c = none := by rw [upd_ne cr, upd_ne (Ne.symm nc), upd_ne cr] at hc; exact hc
    refine ⟨_, rfl, one_size _, fun e he => ⟨_, rfl, r, C, dx, _, rfl, (upd_old upd_same he), X.cls, X.nE, (show 3 < 1000 by decide), ?_⟩⟩
    have er : e ≠ r := Ne.symm (ne_of_none upd_same he)
    have en : e ≠ n := fun z => by
      rw [z, upd_ne nr, upd_ne nc, upd_ne nr, upd_same] at he
      cases he
    have ec : e ≠ c := fun z => by
      rw [z, upd_ne cr, upd_same] at he
      cases he
    have he0 : H e = none := by rw [upd_ne er, upd_ne ec, upd_ne er, upd_ne en, upd_ne er] at he; exact he
    refine ⟨_, rfl, r, C, dx, _, rfl, upd_same, X.cls, X.nR, (show 4 < 1000 by decide), ?_⟩
    have keep : ∀ b, b ≠ r → ∀ o, H b = some o → upd (upd (upd (upd (upd (upd (upd (upd H r (.ins C dx (putF "given" (.ref g) []))) n (.dK [])) r (.ins C dx (putF "named" (.ref n) (putF "given" (.ref g) [])))) c (.dK [])) r
        (.ins C dx (putF "called" (.ref c) (putF "named" (.ref n) (putF "given" (.ref g) []))))) e (.lst [.int len])) r (.ins C dx (putF "ends" (.ref e) (putF "called" (.ref c) (putF "named" (.ref n) (putF "given" (.ref g) [])))))) r
        (.ins C dx (putF "room" (.int 0) (putF "ends" (.ref e) (putF "called" (.ref c) (putF "named" (.ref n) (putF "given" (.ref g) [])))))) b = some o := by
      intro b br o ho
      have bn : b ≠ n := ne_of_none ho hn0
      have bc : b ≠ c := ne_of_none ho hc0
      have be : b ≠ e := ne_of_none ho he0
      rw [upd_ne br, upd_ne br, upd_ne be, upd_ne br, upd_ne bc, upd_ne br, upd_ne bn, upd_ne br]
      exact ho
    refine k _ n c e keep hn0 hc0 he0 ⟨upd_same, ?_, ⟨[], ?_, fun z => rfl, Nat.le_refl _⟩, ⟨[], ?_, fun z => rfl, Nat.le_refl _⟩, ?_, nc, (show 0 ≤ 1000 ∧ 0 ≤ 1000 ∧ 1 ≤ 1000 by decide)⟩
    · rcases hG with (h | ⟨o, h⟩) | h
      · exact .inl (.inl (keep g (fun z => by rw [z, hR] at h; cases h) _ h))
      · exact .inl (.inr ⟨o, keep g (fun z => by rw [z, hR] at h; cases h) _ h⟩)
      · exact .inr h
    · rw [upd_ne nr, upd_ne nr, upd_ne (Ne.symm en), upd_ne nr, upd_ne nc, upd_ne nr, upd_same]
    · rw [upd_ne cr, upd_ne cr, upd_ne (Ne.symm ec), upd_ne cr, upd_same]
    · rw [upd_ne er, upd_ne er, upd_same]
      rfl
end
end Pl

namespace Pl
open PySem PySem.Spec PyProof.Rows L2
/-- nothing that stood changed but what these addresses hold -/
def Off4 (r n c e : Addr) (H H' : Hp) : Prop := ∀ b o, b ≠ r → b ≠ n → b ≠ c → b ≠ e → H b = some o → H' b = some o
theorem Off4.trans {r n c e : Addr} {H H1 H2 : Hp} (h1 : Off4 r n c e H H1) (h2 : Off4 r n c e H1 H2) : Off4 r n c e H H2 := fun b o a1 a2 a3 a4 q => h2 b o a1 a2 a3 a4 (h1 b o a1 a2 a3 a4 q)
theorem Off4.of {r n c e : Addr} {H H1 : Hp} (h : Same H H1) : Off4 r n c e H H1 := fun b o _ _ _ _ q => h b o q
/-- the room behind the index at, with these ends -/
def RoomIs (ends : List Int) (i m : Int) : Prop := m ∈ ends ∧ i < m ∧ ∀ x ∈ ends, i < x → m ≤ x
def spEnter (K : PySem.W.Frag) (C : Addr) : Sp := fun vs H Q _ => ∃ (r dx g n c e : Addr) (S : Sc) (i m : Int), vs = [.ref r, .int i] ∧ ScAt K C r S H dx g n c e ∧ RoomIs S.ends i m ∧
  ∀ H', Off4 r n c e H H' → ScAt K C r { S with room := m - i - 1 } H' dx g n c e → Q .non H'
section
variable {P : Program} {w : World} {K : PySem.W.Frag} {mg : Str → Option Value} {base : Heap} {C f fe : Addr} {fd fde : FuncData}
theorem ok_enter (F : Fun K "enter" "Scope.enter" sEnter f fd) (T : Tx mg) (X : ScX K mg C) : FnOk P w K mg base CX0 1 f fd ["self", "at"] (spEnter K C) := by
  refine F.ok scEnter (fun vs H Q E h => ?_) (fun cdv A outer s H vs Q E hr h => ?_)
  · obtain ⟨r, dx, g, n, c, e, S, i, m, rfl, _⟩ := h
    rfl
  · obtain ⟨r, dx, g, n, c, e, S, i, m, rfl, hS, hm, k⟩ := h
    refine ⟨_, pss_one (ps_fld (pv 0) (pe_op op_sub (pe_op op_sub (pe_callB (cr_min rfl) (by rfl) T.min (by decide +kernel) (pa_cons
      (pe_lc (own := [("end", 2)]) (g := gName 2) (tt := _) (by rfl) scEnter.nd (pi_list (pe_fld (pv 0) rfl)) (blkOk_by (own := [("end", 2)]) (N := ["self", "at", "end"]) (sc := defScope sEnter) (by decide +kernel))
        (fun _ _ _ _ _ => pg_name (i := 2) scEnter.nd rfl (Or.inl rfl)) (fun _ _ _ _ _ => pts_one (pt_cmpR op_gt (pv 2) (pv 1) (nomark _))) (fun _ _ _ _ _ => pv 2)) pa_nil)) (pv 1)) pe_int) rfl), ?_⟩
    refine ⟨_, rfl, r, C, dx, _, .ref e, rfl, hS.ins, X.cls, X.nE, rfl, e, rfl, ⟨_, SqL.of hS.ends⟩, fun D hD => lc_list (xs := S.ends.map V.int)
      (fun j H' => Same H H' ∧ H' D = some (.lst (((S.ends.take j).filter fun x => decide (i < x)).map V.int))) ⟨same_upd hD, upd_same⟩ (fun j H' _ q => SqL.of (q.1 _ _ hS.ends)) ?_ ?_⟩
    · rintro j x H' hx ⟨q1, q2⟩
      rw [List.getElem?_map] at hx
      obtain ⟨y, hy, rfl⟩ := Option.map_eq_some_iff.mp hx
      have ht : S.ends.take (j + 1) = S.ends.take j ++ [y] := by
        rw [List.take_succ, hy]
        rfl
      refine ⟨rfl, ?_⟩
      refine ⟨_, rfl, _, rfl, y, i, rfl, rfl, _, rfl, ?_⟩
      have gt : (decide (y > i)) = decide (i < y) := rfl
      refine ite_b (fun c1 => ?_) (fun c1 => ?_)
      · refine ⟨_, rfl, _, q2, ?_, ?_, ?_⟩
        · rw [List.length_map, sizeLine_eq]
          have h1 := List.length_filter_le (fun x => decide (i < x)) (S.ends.take j)
          rw [List.length_take] at h1
          have := hS.few.2.2
          omega
        · intro b o q
          rw [upd_ne (ne_of_none q hD)]
          exact q1 b o q
        · rw [upd_same, ht, List.filter_append, List.map_append]
          have e1 : [y].filter (fun x => decide (i < x)) = [y] := by
            rw [List.filter_cons, if_pos c1]
            rfl
          rw [e1]
          rfl
      · refine ⟨q1, ?_⟩
        have e1 : [y].filter (fun x => decide (i < x)) = [] := by
          rw [List.filter_cons, if_neg (by rw [← gt, c1]; exact Bool.false_ne_true)]
          rfl
        rw [ht, List.filter_append, e1, List.append_nil]
        exact q2
    · rintro H' ⟨q1, q2⟩
      have ln : (S.ends.map V.int).length = S.ends.length := List.length_map _
      rw [ln, List.take_length] at q2
      have hin : m ∈ S.ends.filter fun x => decide (i < x) := List.mem_filter.mpr ⟨hm.1, decide_eq_true hm.2.1⟩
      refine ⟨D, S.ends.filter fun x => decide (i < x), rfl, SqL.of q2, List.length_pos_of_mem hin, fun m2 hm2 hle => ?_⟩
      have h2 := List.mem_filter.mp hm2
      have em : m2 = m := by
        have a1 := hle m hin
        have a2 := hm.2.2 m2 h2.1 (of_decide_eq_true h2.2)
        omega
      subst em
      have hS' := hS.same q1
      refine ⟨_, rfl, _, _, rfl, rfl, _, _, rfl, rfl, ?_⟩
      refine ⟨_, rfl, r, C, dx, _, rfl, hS'.ins, X.cls, X.nR, (show 5 < 1000 by decide), ?_⟩
      have off : Off4 r n c e H (upd H' r (.ins C dx (scFs g n c e (m2 - i - 1)))) := fun b o a1 _ _ _ q => by
        rw [upd_ne a1]
        exact q1 b o q
      have rn : n ≠ r := fun z => by
        obtain ⟨kvs, h1, _⟩ := hS'.named
        rw [z, hS'.ins] at h1
        cases h1
      have rc : c ≠ r := fun z => by
        obtain ⟨kvs, h1, _⟩ := hS'.called
        rw [z, hS'.ins] at h1
        cases h1
      have re : e ≠ r := fun z => by
        have h1 := hS'.ends
        rw [z, hS'.ins] at h1
        cases h1
      refine k _ off ⟨upd_same, ?_, ?_, ?_, by rw [upd_ne re]; exact hS'.ends, hS.nc, hS.few⟩
      · rcases hS'.given with (h | ⟨o, h⟩) | h
        · exact .inl (.inl (by rw [upd_ne (fun z => by rw [z, hS'.ins] at h; cases h)]; exact h))
        · exact .inl (.inr ⟨o, by rw [upd_ne (fun z => by rw [z, hS'.ins] at h; cases h)]; exact h⟩)
        · exact .inr h
      · obtain ⟨kvs, h1, h2⟩ := hS'.named
        exact ⟨kvs, by rw [upd_ne rn]; exact h1, h2⟩
      · obtain ⟨kvs, h1, h2⟩ := hS'.called
        exact ⟨kvs, by rw [upd_ne rc]; exact h1, h2⟩
end
end Pl

namespace Pl
open PySem PySem.Spec PyProof.Rows L2
def strAt (ds : List PyData) (k : Nat) : Str := match ds[k]? with
  | some (.str z) => z
  | _ => Str.empty
def intAt (ds : List PyData) (k : Nat) : Int := match ds[k]? with
  | some (.int m) => m
  | _ => 0
abbrev blNames : List Str := ["if", "while"]
/-- the scope behind a valid instruction, whose parts these are -/
def leaveS (S : Sc) (i : Int) (ds : List PyData) : Sc :=
  { S with
    named := if strAt ds 0 ∈ (["set", "call"] : List Str) then S.named ++ [strAt ds 1] else S.named
    called := if strAt ds 0 = "call" then S.called ++ [strAt ds 1] else S.called
    ends := if strAt ds 0 ∈ blNames then S.ends ++ [i + 1 + intAt ds 2] else S.ends }
structure TxB (K : PySem.W.Frag) (mg : Str → Option Value) : Prop where
  blocks : ∃ t, mg "BLOCKS" = some (.ref t) ∧ ∀ H, SqT K H t (blNames.map V.str)
def spEnd (K : PySem.W.Frag) : Sp := fun vs H Q _ => ∃ (t : Addr) (xs : List V) (i m : Int), vs = [.ref t, .int i] ∧ SqT K H t xs ∧ xs[2]? = some (.int m) ∧ Q (.int (i + 1 + m)) H
/-- what leave asks of an instruction -/
structure Leaves (ds : List PyData) : Prop where
  nm : ∃ z, ds[0]? = some (.str z)
  va : strAt ds 0 ∈ (["set", "call"] : List Str) → ∃ z, ds[1]? = some (.str z)
  nu : strAt ds 0 ∈ blNames → ∃ m, ds[2]? = some (.int m)
def spLeave (K : PySem.W.Frag) (C : Addr) : Sp := fun vs H Q _ => ∃ (r dx g n c e t : Addr) (S : Sc) (i : Int) (xs : List V) (ds : List PyData), vs = [.ref r, .int i, .ref t] ∧ ScAt K C r S H dx g n c e ∧ SqT K H t xs ∧ DpAll K H xs ds ∧ Leaves ds ∧
  S.named.length ≤ 900 ∧ S.called.length ≤ 900 ∧ S.ends.length ≤ 900 ∧ ∀ H', Off4 r n c e H H' → ScAt K C r (leaveS S i ds) H' dx g n c e → Q .non H'
theorem dp_at {K : PySem.W.Frag} {H : Hp} : ∀ {vs : List V} {ds : List PyData}, DpAll K H vs ds → ∀ (i : Nat) (d : PyData), ds[i]? = some d → ∃ v, vs[i]? = some v ∧ Dp K H v d
  | _, _, .nil, i, d, h => by simp at h
  | _, _, .cons h q, 0, d, e => by
    simp at e
    subst e
    exact ⟨_, rfl, h⟩
  | _, _, .cons h q, i + 1, d, e => by
    rw [List.getElem?_cons_succ] at e
    obtain ⟨v, h1, h2⟩ := dp_at q i d e
    exact ⟨v, by rw [List.getElem?_cons_succ]; exact h1, h2⟩
theorem dp_str {K : PySem.W.Frag} {H : Hp} {vs : List V} {ds : List PyData} (h : DpAll K H vs ds) {i : Nat} {z : Str} (e : ds[i]? = some (.str z)) : vs[i]? = some (.str z) := by
  obtain ⟨v, h1, h2⟩ := dp_at h i _ e
  cases h2
  exact h1
theorem dp_int {K : PySem.W.Frag} {H : Hp} {vs : List V} {ds : List PyData} (h : DpAll K H vs ds) {i : Nat} {m : Int} (e : ds[i]? = some (.int m)) : vs[i]? = some (.int m) := by
  obtain ⟨v, h1, h2⟩ := dp_at h i _ e
  cases h2
  exact h1
theorem DictS.put {H : Hp} {a : Addr} {vars : List Str} {kvs : List (Key × V)} {z : Str} {v : V} (h2 : ∀ z, (valV kvs (Sum.inr z)).isSome = decide (z ∈ vars)) (h3 : kvs.length ≤ vars.length) :
    DictS (upd H a (.dK (putK kvs (Sum.inr z) v))) a (vars ++ [z]) := by
  refine ⟨_, upd_same, fun y => ?_, ?_⟩
  · rw [valV_put]
    by_cases e : y = z
    · subst e
      rw [if_pos rfl]
      simp
    · rw [if_neg (fun q => e (by injection q)), h2]
      rw [Bool.eq_iff_iff, decide_eq_true_iff, decide_eq_true_iff, List.mem_append, List.mem_singleton]
      exact ⟨.inl, fun q => q.resolve_right e⟩
  · have := length_putK kvs (Sum.inr z) v
    rw [List.length_append]
    simp
    omega
theorem ScAt.ne {K : PySem.W.Frag} {C r : Addr} {S : Sc} {H : Hp} {dx g n c e : Addr} (h : ScAt K C r S H dx g n c e) : n ≠ r ∧ c ≠ r ∧ e ≠ r ∧ e ≠ n ∧ e ≠ c := by
  obtain ⟨k1, h1, _⟩ := h.named
  obtain ⟨k2, h2, _⟩ := h.called
  refine ⟨fun z => ?_, fun z => ?_, fun z => ?_, fun z => ?_, fun z => ?_⟩
  · rw [z, h.ins] at h1; cases h1
  · rw [z, h.ins] at h2; cases h2
  · have q := h.ends; rw [z, h.ins] at q; cases q
  · have q := h.ends; rw [z, h1] at q; cases q
  · have q := h.ends; rw [z, h2] at q; cases q
/-- tuples stay where only these objects changed -/
theorem ScAt.off {K : PySem.W.Frag} {C r : Addr} {S : Sc} {H H' : Hp} {dx g n c e : Addr} (h : ScAt K C r S H dx g n c e) (o4 : Off4 r n c e H H') {a : Addr} {ys : List V} (hT : SqT K H a ys) : SqT K H' a ys := by
  obtain ⟨k1, h1, _⟩ := h.named
  obtain ⟨k2, h2, _⟩ := h.called
  rcases hT with (q | ⟨o, q⟩) | q
  · exact .inl (.inl (o4 _ _ (fun z => by rw [z, h.ins] at q; cases q) (fun z => by rw [z, h1] at q; cases q) (fun z => by rw [z, h2] at q; cases q) (fun z => by rw [z, h.ends] at q; cases q) q))
  · exact .inl (.inr ⟨o, o4 _ _ (fun z => by rw [z, h.ins] at q; cases q) (fun z => by rw [z, h1] at q; cases q) (fun z => by rw [z, h2] at q; cases q) (fun z => by rw [z, h.ends] at q; cases q) q⟩)
  · exact .inr q
section
variable {P : Program} {w : World} {K : PySem.W.Frag} {mg : Str → Option Value} {base : Heap} {C f fe : Addr} {fd fde : FuncData}
theorem ok_end (F : Fun K "end_of_block" "end_of_block" sEnd f fd) : FnOk P w K mg base CX0 1 f fd ["instruction", "at"] (spEnd K) := by
  refine F.ok scEnd (fun vs H Q E h => ?_) (fun cdv A outer s H vs Q E hr h => ?_)
  · obtain ⟨t, xs, i, m, rfl, _⟩ := h
    rfl
  · obtain ⟨t, xs, i, m, rfl, hT, hx, k⟩ := h
    refine ⟨_, pss_one (ps_ret (pe_op op_add (pe_op op_add (pv 1) pe_int) (pe_ix ix_tup (pv 0) pe_int (fun _ _ => rfl)))), ?_⟩
    exact ⟨_, rfl, _, _, rfl, rfl, _, rfl, t, xs, 2, .int m, rfl, rfl, hT, atI_nat (j := 2) hx, _, _, rfl, rfl, k⟩
theorem ok_leave (F : Fun K "leave" "Scope.leave" sLeave f fd) (T : Tx mg) (B : TxB K mg) (X : ScX K mg C) (EX : DefX K mg "end_of_block" sEnd ["instruction", "at"] fe fde) : FnOk P w K mg base CX0 2 f fd ["self", "at", "instruction"] (spLeave K C) := by
  have GE : FnOk P w K mg base CX0 1 _ _ ["instruction", "at"] (spEnd K) := ok_end EX.F
  obtain ⟨ba, hba, hbs⟩ := B.blocks
  refine F.ok scLeave (fun vs H Q E h => ?_) (fun cdv A outer s H vs Q E hr h => ?_)
  · obtain ⟨r, dx, g, n, c, e, t, S, i, xs, ds, rfl, _⟩ := h
    rfl
  · obtain ⟨r, dx, g, n, c, e, t, S, i, xs, ds, rfl, hS, hT, hA, hL, l1, l2, l3, k⟩ := h
    have hu := hu_of hr
    refine ⟨_, pss_cons (ps_set (i := 3) scLeave.nd rfl (Or.inl rfl) (pe_ix ix_tup (pv 2) pe_int (fun _ _ => rfl)))
      (C8.pss_cut (ps_if (pt_cmpR op_in_seq (pv 3) (pe_tup (pa_cons pe_str (pa_cons pe_str pa_nil))) (by rfl)) (pss_one (ps_dput hu (pe_fld (pv 0) rfl) (pe_ix ix_tup (pv 2) pe_int (fun _ _ => rfl)) pe_bl rfl)) pss_nil)
      (C8.pss_cut (ps_if (pt_cmpR op_eq (pv 3) pe_str (nomark _)) (pss_one (ps_dput hu (pe_fld (pv 0) rfl) (pe_ix ix_tup (pv 2) pe_int (fun _ _ => rfl)) pe_bl rfl)) pss_nil)
      (pss_one (ps_if (pt_cmpR op_in_seq (pv 3) (pe_glob (v := .ref ba) rfl hba rfl) (by rfl)) (pss_one (ps_expr (pe_bm PySem.F.plainAttrs_list PySem.F.slot_list_append PySem.F.type_list_append mt_append (pe_fld (pv 0) rfl)
        (pa_cons (pe_call GE hr (by rfl) EX.mg EX.F.kp EX.b .nil pass0 (pa_cons (pv 2) (pa_cons (pv 1) pa_nil))) pa_nil)))) pss_nil)))), ?_⟩
    obtain ⟨nm, hnm⟩ := hL.nm
    have enm : strAt ds 0 = nm := by unfold strAt; rw [hnm]
    refine ⟨_, rfl, t, xs, 0, .str nm, rfl, rfl, hT, atI_nat (j := 0) (dp_str hA hnm), ?_⟩
    have hva := hL.va
    have hnu := hL.nu
    rw [enm] at hva hnu
    have eqs : ∀ z : Str, (V.str nm = V.str z) ↔ nm = z := fun z => ⟨fun q => by injection q, fun q => congrArg V.str q⟩
    obtain ⟨nr, cr, er, en, ec⟩ := hS.ne
    let S1 : Sc := { S with named := if nm ∈ (["set", "call"] : List Str) then S.named ++ [strAt ds 1] else S.named }
    let S2 : Sc := { S1 with called := if nm = "call" then S.called ++ [strAt ds 1] else S.called }
    have lv : leaveS S i ds = { S2 with ends := if nm ∈ blNames then S.ends ++ [i + 1 + intAt ds 2] else S.ends } := by
      unfold leaveS
      rw [enm]
    rw [lv] at k
    let σ0 : List (Option V) := [some (.ref r), some (.int i), some (.ref t), some (.str nm)]
    refine ⟨fun σ' H' => σ' = σ0 ∧ Off4 r n c e H H' ∧ ScAt K C r S1 H' dx g n c e, ?_, ?_⟩
    · refine ⟨_, rfl, two_size _ _, fun B1 hB1 => ?_⟩
      refine ⟨B1, [V.str "set", V.str "call"], rfl, .inr (.inl (.inl upd_same)), rfl, rfl, ?_⟩
      have hS1 := hS.same (same_upd (o := HO.tup [V.str "set", V.str "call"]) hB1)
      have hT1 := Same.tup (same_upd (o := HO.tup [V.str "set", V.str "call"]) hB1) hT
      have o1 : Off4 r n c e H (upd H B1 (.tup [V.str "set", V.str "call"])) := .of (same_upd hB1)
      generalize upd H B1 _ = H1 at hS1 hT1 o1 ⊢
      rw [if_neg Bool.false_ne_true, show ([V.str "set", V.str "call"] : List V) = (["set", "call"] : List Str).map V.str from rfl, inV_strs]
      refine ⟨_, rfl, ?_⟩
      refine ite2 (fun c1 => ?_) (fun c1 => ?_)
      · have m1 := of_decide_eq_true c1
        obtain ⟨z, hz⟩ := hva m1
        have ez : strAt ds 1 = z := by unfold strAt; rw [hz]
        obtain ⟨kvs, h1, h2, h3⟩ := hS1.named
        refine ⟨_, rfl, r, C, dx, _, .ref n, rfl, hS1.ins, X.cls, X.nN, rfl, _, rfl, t, xs, 1, .str z, rfl, rfl, hT1, atI_nat (j := 1) (dp_str hA hz), n, _, rfl, DPut.k (k := Sum.inr z) h1 (by rw [sizeLine_eq]; have := hS1.few.1; omega), ?_⟩
        have e1 : S1 = { S with named := S.named ++ [z] } := by
          show ({ S with named := if nm ∈ (["set", "call"] : List Str) then S.named ++ [strAt ds 1] else S.named } : Sc) = _
          rw [if_pos m1, ez]
        refine ⟨rfl, o1.trans fun b o a1 a2 _ _ q => by rw [upd_ne a2]; exact q, ?_⟩
        rw [e1]
        have o2 : Off4 r n c e H1 (upd H1 n (.dK (putK kvs (Sum.inr z) (.bl true)))) := fun b o a1 a2 _ _ q => by rw [upd_ne a2]; exact q
        exact ⟨by rw [upd_ne (Ne.symm nr)]; exact hS1.ins, hS1.off o2 hS1.given, .put h2 h3, by
          obtain ⟨kv2, g1, g2⟩ := hS1.called
          exact ⟨kv2, by rw [upd_ne (Ne.symm hS1.nc)]; exact g1, g2⟩, by rw [upd_ne en]; exact hS1.ends, hS1.nc, by
          refine ⟨?_, hS1.few.2⟩
          show (S.named ++ [z]).length ≤ 1000
          rw [List.length_append]
          simp
          omega⟩
      · have m1 : ¬ nm ∈ (["set", "call"] : List Str) := fun q => c1 (decide_eq_true q)
        have e1 : S1 = S := by
          show ({ S with named := if nm ∈ (["set", "call"] : List Str) then S.named ++ [strAt ds 1] else S.named } : Sc) = _
          rw [if_neg m1]
        exact ⟨rfl, o1, by rw [e1]; exact hS1⟩
    rintro σ' H1 ⟨rfl, o1, hS1⟩
    have hT1 := hS.off o1 hT
    refine ⟨fun σ' H' => σ' = σ0 ∧ Off4 r n c e H H' ∧ ScAt K C r S2 H' dx g n c e, ?_, ?_⟩
    · refine ⟨_, rfl, rfl, _, rfl, ?_⟩
      refine ite2 (fun c1 => ?_) (fun c1 => ?_)
      · have m1 := (eqs "call").mp (of_decide_eq_true c1)
        obtain ⟨z, hz⟩ := hva (by rw [m1]; exact List.mem_cons_of_mem _ (List.mem_singleton.mpr rfl))
        have ez : strAt ds 1 = z := by unfold strAt; rw [hz]
        obtain ⟨kvs, h1, h2, h3⟩ := hS1.called
        refine ⟨_, rfl, r, C, dx, _, .ref c, rfl, hS1.ins, X.cls, X.nC, rfl, _, rfl, t, xs, 1, .str z, rfl, rfl, hT1, atI_nat (j := 1) (dp_str hA hz), c, _, rfl, DPut.k (k := Sum.inr z) h1 (by rw [sizeLine_eq]; have := hS1.few.2.1; omega), ?_⟩
        have e1 : S2 = { S1 with called := S.called ++ [z] } := by
          show ({ S1 with called := if nm = "call" then S.called ++ [strAt ds 1] else S.called } : Sc) = _
          rw [if_pos m1, ez]
        refine ⟨rfl, o1.trans fun b o a1 _ a3 _ q => by rw [upd_ne a3]; exact q, ?_⟩
        rw [e1]
        have o2 : Off4 r n c e H1 (upd H1 c (.dK (putK kvs (Sum.inr z) (.bl true)))) := fun b o a1 _ a3 _ q => by rw [upd_ne a3]; exact q
        exact ⟨by rw [upd_ne (Ne.symm cr)]; exact hS1.ins, hS1.off o2 hS1.given, by
          obtain ⟨kv2, g1, g2⟩ := hS1.named
          exact ⟨kv2, by rw [upd_ne hS1.nc]; exact g1, g2⟩, .put h2 h3, by rw [upd_ne ec]; exact hS1.ends, hS1.nc, by
          refine ⟨hS1.few.1, ?_, hS1.few.2.2⟩
          show (S.called ++ [z]).length ≤ 1000
          rw [List.length_append]
          simp
          omega⟩
      · have m1 : ¬ nm = "call" := fun q => c1 (decide_eq_true ((eqs "call").mpr q))
        have e1 : S2 = S1 := by
          show ({ S1 with called := if nm = "call" then S.called ++ [strAt ds 1] else S.called } : Sc) = _
          rw [if_neg m1]
        exact ⟨rfl, o1, by rw [e1]; exact hS1⟩
    rintro σ' H2 ⟨rfl, o2, hS2⟩
    have hT2 := hS.off o2 hT
    refine ⟨_, rfl, ba, _, rfl, .inr (hbs H2), rfl, flat_strs blNames, ?_⟩
    rw [if_neg Bool.false_ne_true, inV_strs]
    refine ⟨_, rfl, ?_⟩
    refine ite2 (fun c1 => ?_) (fun c1 => ?_)
    · have m1 := of_decide_eq_true c1
      obtain ⟨m, hm⟩ := hnu m1
      have em : intAt ds 2 = m := by unfold intAt; rw [hm]
      rw [if_pos m1, em] at k
      refine ⟨_, rfl, r, C, dx, _, .ref e, rfl, hS2.ins, X.cls, X.nE, rfl, .inl ⟨rfl, _, SqL.of hS2.ends⟩, _, rfl, _, rfl, t, xs, i, m, rfl, hT2, dp_int hA hm, e, _, _, rfl, rfl, hS2.ends, by rw [List.length_map, sizeLine_eq]; have := hS2.few.2.2; omega, ?_⟩
      have o3 : Off4 r n c e H2 (upd H2 e (.lst (S2.ends.map V.int ++ [.int (i + 1 + m)]))) := fun b o a1 _ _ a4 q => by rw [upd_ne a4]; exact q
      refine k _ (o2.trans o3) ⟨by rw [upd_ne (Ne.symm er)]; exact hS2.ins, hS2.off o3 hS2.given, ?_, ?_, ?_, hS2.nc, ?_⟩
      · obtain ⟨kv2, g1, g2⟩ := hS2.named
        exact ⟨kv2, by rw [upd_ne (Ne.symm en)]; exact g1, g2⟩
      · obtain ⟨kv2, g1, g2⟩ := hS2.called
        exact ⟨kv2, by rw [upd_ne (Ne.symm ec)]; exact g1, g2⟩
      · rw [upd_same]
        show _ = some (HO.lst ((S.ends ++ [i + 1 + m]).map V.int))
        rw [List.map_append]
        rfl
      · refine ⟨hS2.few.1, hS2.few.2.1, ?_⟩
        show (S.ends ++ [i + 1 + m]).length ≤ 1000
        rw [List.length_append]
        simp
        omega
    · have m1 : ¬ nm ∈ blNames := fun q => c1 (decide_eq_true q)
      rw [if_neg m1] at k
      exact k _ o2 hS2
end
end Pl

namespace Pl
open PySem PySem.Spec PyProof.Rows L2
def memS (zs : List Str) : PyData → Bool
  | .str z => decide (z ∈ zs)
  | _ => false
def varB (S : Sc) (d : PyData) : Bool := wordD d && !memS S.given d
def calledB (S : Sc) (d : PyData) : Bool := memS S.called d
def worthB (S : Sc) (d : PyData) : Bool := exprB S.given S.named 6 d
def strsOf (ds : List PyData) : List Str := ds.filterMap fun d => match d with | .str z => some z | _ => none
def areCalledB (S : Sc) : PyData → Bool
  | .tuple ds => decide (1 ≤ ds.length) && decide (ds.length ≤ 6) && ds.all (calledB S) && decide (strsOf ds).Nodup
  | _ => false
theorem strsOf_all {S : Sc} : ∀ {ds : List PyData}, ds.all (calledB S) = true → ds = (strsOf ds).map PyData.str
  | [], _ => rfl
  | d :: ds, h => by
    rw [List.all_cons, Bool.and_eq_true] at h
    cases d with
    | str z =>
      have ih := strsOf_all h.2
      show _ = PyData.str z :: (strsOf ds).map PyData.str
      rw [← ih]
    | _ => exact Bool.noConfusion h.1
def spVal (K : PySem.W.Frag) (C : Addr) (B : Sc → PyData → Bool) : Sp := fun vs H Q _ => ∃ (v : V) (d : PyData) (r dx g n c e : Addr) (S : Sc), vs = [v, .ref r] ∧ Dp K H v d ∧ fine d = true ∧ ScAt K C r S H dx g n c e ∧ ∀ H', Same H H' → Q (.bl (B S d)) H'
theorem scVar : FnScope ["value", "scope"] ["value", "scope"] (defScope sVar) := ⟨rfl, rfl, rfl, by decide +kernel, rfl, by decide +kernel, by decide +kernel⟩
theorem scCalled : FnScope ["value", "scope"] ["value", "scope"] (defScope sCalled) := ⟨rfl, rfl, rfl, by decide +kernel, rfl, by decide +kernel, by decide +kernel⟩
theorem scWorth : FnScope ["value", "scope"] ["value", "scope"] (defScope sWorth) := ⟨rfl, rfl, rfl, by decide +kernel, rfl, by decide +kernel, by decide +kernel⟩
theorem scAreCalled : FnScope ["value", "scope", "variable"] ["value", "scope"] (defScope sAreCalled) := ⟨rfl, rfl, rfl, by decide +kernel, rfl, by decide +kernel, by decide +kernel⟩
/-- the module's numbers -/
structure TxN (mg : Str → Option Value) : Prop where
  vars : ∃ t, mg "MOST_VARIABLES" = some (.int 6 t)
  exprs : ∃ t, mg "MOST_EXPRESSIONS" = some (.int 3 t)
  cost : ∃ t, mg "HIGHEST_COST" = some (.int 1000 t)
section
variable {P : Program} {w : World} {K : PySem.W.Frag} {mg : Str → Option Value} {base : Heap} {C f fe fw : Addr} {fd fde fdw : FuncData}
theorem ok_var (F : Fun K "_is_variable" "_is_variable" sVar f fd) (X : ScX K mg C) (WX : DefX K mg "is_word" sWord ["value"] fw fdw) (GW : FnOk P w K mg base CX0 2 fw fdw ["value"] (spWord K)) : FnOk P w K mg base CX0 3 f fd ["value", "scope"] (spVal K C varB) := by
  refine F.ok scVar (fun vs H Q E h => ?_) (fun cdv A outer s H vs Q E hr h => ?_)
  · obtain ⟨v, d, r, dx, g, n, c, e, S, rfl, _⟩ := h
    rfl
  · obtain ⟨v, d, r, dx, g, n, c, e, S, rfl, hd, hf, hS, k⟩ := h
    refine ⟨_, pss_one (ps_ret (pe_and (pe_call GW hr (by rfl) WX.mg WX.F.kp WX.b .nil pass0 (pa_cons (pv 0) pa_nil)) (pe_one (pe_cmpR op_notIn_seq (pv 0) (pe_fld (pv 1) rfl) (by rfl))))), ?_⟩
    refine ⟨_, rfl, v, d, rfl, hd, hf, fun H' sm => ⟨_, rfl, ?_⟩⟩
    have q := k H' sm
    unfold varB at q
    refine ite_b (fun c1 => ?_) (fun c1 => ?_)
    · cases d <;> first | exact Bool.noConfusion c1 | skip
      rename_i z
      cases hd
      have hS' := hS.same sm
      refine ⟨_, rfl, _, rfl, r, C, dx, _, .ref g, rfl, hS'.ins, X.cls, X.nG, rfl, g, _, rfl, .inr hS'.given, rfl, flat_strs S.given, ?_⟩
      rw [if_pos rfl, inV_strs]
      rw [c1, Bool.true_and] at q
      exact q
    · rw [c1, Bool.false_and] at q
      exact q
theorem ok_called (F : Fun K "_is_called" "_is_called" sCalled f fd) (T : Tx mg) (X : ScX K mg C) : FnOk P w K mg base CX0 1 f fd ["value", "scope"] (spVal K C calledB) := by
  refine F.ok scCalled (fun vs H Q E h => ?_) (fun cdv A outer s H vs Q E hr h => ?_)
  · obtain ⟨v, d, r, dx, g, n, c, e, S, rfl, _⟩ := h
    rfl
  · obtain ⟨v, d, r, dx, g, n, c, e, S, rfl, hd, hf, hS, k⟩ := h
    have hu := hu_of hr
    refine ⟨_, pss_one (ps_ret (pe_and (pe_callB call_isi (by rfl) T.isi (by decide +kernel) (pa_cons (pv 0) (pa_cons (pe_bltn (v := .ty "str") (by rfl) T.str (by decide +kernel) rfl) pa_nil))) (pe_one (pe_cmp (pc_din hu (pv 0) (pe_fld (pv 1) rfl)) rfl)))), ?_⟩
    refine ⟨_, rfl, _, _, _, _, _, rfl, .ty "str", dp_ty hd, kit_ty (isB_str d), ?_⟩
    have q := k H (fun _ _ e => e)
    refine ⟨_, rfl, ite_b (fun c1 => ?_) (fun c1 => ?_)⟩
    · cases d <;> first | exact Bool.noConfusion c1 | skip
      rename_i z
      cases hd
      obtain ⟨kvs, h1, h2, h3⟩ := hS.called
      refine ⟨_, rfl, _, rfl, r, C, dx, _, .ref c, rfl, hS.ins, X.cls, X.nC, rfl, c, _, rfl, DGet.k (k := Sum.inr z) h1, ?_⟩
      rw [h2]
      exact q
    · cases d <;> first | exact q | exact Bool.noConfusion c1
theorem ok_worth (F : Fun K "_is_worth" "_is_worth" sWorth f fd) (X : ScX K mg C) (EX : ExprX K mg fe fde) (GE : FnOk P w K mg base CX0 14 fe fde ["value", "arguments", "variables", "deepest"] (spExpr K 6)) : FnOk P w K mg base CX0 15 f fd ["value", "scope"] (spVal K C worthB) := by
  obtain ⟨ds3, v3, b3⟩ := EX.b3
  refine F.ok scWorth (fun vs H Q E h => ?_) (fun cdv A outer s H vs Q E hr h => ?_)
  · obtain ⟨v, d, r, dx, g, n, c, e, S, rfl, _⟩ := h
    rfl
  · obtain ⟨v, d, r, dx, g, n, c, e, S, rfl, hd, hf, hS, k⟩ := h
    refine ⟨_, pss_one (ps_ret (pe_call GE hr (by rfl) EX.mg EX.F.kp b3 v3 pass0 (pa_cons (pv 0) (pa_cons (pe_fld (pv 1) rfl) (pa_cons (pe_fld (pv 1) rfl) pa_nil))))), ?_⟩
    exact ⟨_, rfl, _, rfl, r, C, dx, _, .ref g, rfl, hS.ins, X.cls, X.nG, rfl, _, rfl, r, C, dx, _, .ref n, rfl, hS.ins, X.cls, X.nN, rfl, by decide, v, d, g, n, S.given, S.named, rfl, hd, hS.given, hS.named.n, k H (fun _ _ e => e)⟩
theorem ok_areCalled (F : Fun K "_are_called" "_are_called" sAreCalled f fd) (T : Tx mg) (N : TxN mg) (X : ScX K mg C) (CX : DefX K mg "_is_called" sCalled ["value", "scope"] fw fdw) : FnOk P w K mg base CX0 2 f fd ["value", "scope"] (spVal K C areCalledB) := by
  have GC : FnOk P w K mg base CX0 1 _ _ ["value", "scope"] (spVal K C calledB) := ok_called CX.F T X
  obtain ⟨tv, hv⟩ := N.vars
  refine F.ok scAreCalled (fun vs H Q E h => ?_) (fun cdv A outer s H vs Q E hr h => ?_)
  · obtain ⟨v, d, r, dx, g, n, c, e, S, rfl, _⟩ := h
    rfl
  · obtain ⟨v, d, r, dx, g, n, c, e, S, rfl, hd, hf, hS, k⟩ := h
    refine ⟨_, pss_cons (ps_if (PW.pt (pw_or (pt_not (pt_val (pe_callB call_isi (by rfl) T.isi (by decide +kernel) (pa_cons (pv 0) (pa_cons (pe_bltn (v := .ty "tuple") (by rfl) T.tuple (by decide +kernel) rfl) pa_nil)))))
        (pw_or1 (pt_not (pt_chain op_le op_le pe_int (pe_callB call_len_seq (by rfl) T.len (by decide +kernel) (pa_cons (pv 0) pa_nil)) (pe_glob (v := .int 6) rfl hv ⟨_, rfl⟩)))))) (pss_one (ps_ret pe_bl)) pss_nil)
      (pss_cons (ps_if (pt_not (pt_val (pe_callB (cr_all rfl) (by rfl) T.all (by decide +kernel) (pa_cons
        (pe_lc (own := [("variable", 2)]) (g := gName 2) (tt := tYes) (by rfl) scAreCalled.nd (pi_tup (pv 0)) (blkOk_by (own := [("variable", 2)]) (N := ["value", "scope", "variable"]) (sc := defScope sAreCalled) (by decide +kernel))
          (fun _ _ _ _ _ => pg_name (i := 2) scAreCalled.nd rfl (Or.inl rfl)) (fun _ _ _ _ _ => pts_nil) (fun _ _ _ _ _ => pe_call GC hr (by rfl) CX.mg CX.F.kp CX.b .nil pass0 (pa_cons (pv 2) (pa_cons (pv 1) pa_nil)))) pa_nil)))) (pss_one (ps_ret pe_bl)) pss_nil)
      (pss_one (ps_ret (pe_cmpR op_eq (pe_callB Sx.cr_lenSet (by rfl) T.len (by decide +kernel) (pa_cons (pe_callTy (Sx.cr_setOf rfl) (by rfl) T.set (by decide +kernel) (pa_cons (pv 0) pa_nil)) pa_nil))
        (pe_callB call_len_seq (by rfl) T.len (by decide +kernel) (pa_cons (pv 0) pa_nil)) (nomark _))))), ?_⟩
    refine ⟨_, rfl, _, _, _, _, _, rfl, .ty "tuple", dp_ty hd, kit_ty (isB_tuple d), ?_⟩
    refine ⟨_, rfl, ?_⟩
    have k0 := k H (fun _ _ e => e)
    refine ite_n (fun c1 => ?_) (fun c1 => ?_)
    · have e1 : areCalledB S d = false := by cases d <;> first | rfl | exact Bool.noConfusion c1
      rw [e1] at k0
      exact k0
    · cases d <;> first | exact Bool.noConfusion c1 | skip
      rename_i ds
      obtain ⟨t, xs, rfl, hT, hA⟩ : ∃ t xs, v = .ref t ∧ SqT K H t xs ∧ DpAll K H xs ds := by
        cases hd with
        | tup h q => exact ⟨_, _, rfl, h, q⟩
      have hl := dpAll_len hA
      refine ⟨_, rfl, t, xs, rfl, .inr hT, 1, _, rfl, rfl, decide ((1 : Int) ≤ (xs.length : Int)), rfl, ?_⟩
      refine ite_b (fun c2 => ?_) (fun c2 => ?_)
      · have g1 := of_decide_eq_true c2
        refine ⟨_, _, rfl, rfl, ?_⟩
        refine ⟨decide ((xs.length : Int) ≤ 6), rfl, ?_⟩
        refine ite_n (fun c3 => ?_) (fun c3 => ?_)
        · have g2 := of_decide_eq_false c3
          have e1 : areCalledB S (.tuple ds) = false := by
            show (decide _ && decide _ && _ && _) = _
            rw [decide_eq_false (show ¬ ds.length ≤ 6 by omega), Bool.and_false, Bool.false_and, Bool.false_and]
          rw [e1] at k0
          exact k0
        · have g2 := of_decide_eq_true c3
          have e1 : areCalledB S (.tuple ds) = (ds.all (calledB S) && decide (strsOf ds).Nodup) := by
            show (decide _ && decide _ && _ && _) = _
            rw [decide_eq_true (show 1 ≤ ds.length by omega), decide_eq_true (show ds.length ≤ 6 by omega)]
            rfl
          rw [e1] at k
          have hfa : fineAll ds = true := hf
          refine ⟨_, rfl, t, rfl, ⟨_, hT⟩, fun D hD => lc_tup (xs := xs) (fun j H' => Same H H' ∧ H' D = some (.lst ((ds.take j).map fun d => V.bl (calledB S d)))) ⟨same_upd hD, upd_same⟩ (fun j H' _ q => Same.tup q.1 hT) ?_ ?_⟩
          · rintro j x H' hx ⟨q1, q2⟩
            refine ⟨rfl, ?_⟩
            unfold tYes
            refine iteT ?_
            obtain ⟨d, hdj, hdx⟩ := dpAll_at hA j x hx
            have hS' := hS.same q1
            refine ⟨_, rfl, _, rfl, x, d, r, dx, g, n, c, e, S, rfl, dp_same q1 hdx, fine_mem hfa d (List.mem_of_getElem? hdj), hS', fun H2 sm => ?_⟩
            refine ⟨_, sm _ _ q2, ?_, ?_, ?_⟩
            · rw [List.length_map, List.length_take, sizeLine_eq]
              omega
            · intro b o q
              rw [upd_ne (ne_of_none q hD)]
              exact sm _ _ (q1 b o q)
            · rw [upd_same, List.take_succ, hdj, List.map_append]
              rfl
          · rintro H' ⟨q1, q2⟩
            rw [show ds.take xs.length = ds from by rw [hl, List.take_length]] at q2
            refine ⟨D, ds.map (calledB S), rfl, SqL.of (by rw [q2, List.map_map]; rfl), ?_⟩
            rw [all_taken]
            refine ⟨_, rfl, ?_⟩
            have kk := k H' q1
            refine ite_n (fun c4 => ?_) (fun c4 => ?_)
            · rw [c4, Bool.false_and] at kk
              exact kk
            · rw [c4, Bool.true_and] at k
              have es := strsOf_all c4
              have hT' := Same.tup q1 hT
              have ex : xs = (strsOf ds).map V.str := dpAll_strs hA es
              have lz : (strsOf ds).length = xs.length := by rw [ex, List.length_map]
              refine ⟨_, rfl, t, strsOf ds, rfl, .inr (by rw [← ex]; exact hT'), by omega, fun p hp => ?_⟩
              refine ⟨p, _, rfl, upd_same, _, rfl, t, xs, rfl, .inr (Same.tup (same_upd hp) hT'), rfl, ?_⟩
              have e5 : decide (V.int ((Sx.ded (strsOf ds)).length : Nat) = V.int (xs.length : Nat)) = decide (strsOf ds).Nodup := by
                rw [Bool.eq_iff_iff, decide_eq_true_iff, decide_eq_true_iff, ← Sx.len_ded_iff]
                constructor
                · intro q
                  injection q with q
                  omega
                · intro q
                  rw [q, lz]
              have kf := k (upd H' p (Sx.SetT P w p (Sx.ded (strsOf ds)))) (q1.trans (same_upd hp))
              rw [← e5] at kf
              exact kf
      · have g1 := of_decide_eq_false c2
        refine ⟨false, rfl, iteT ?_⟩
        have e1 : areCalledB S (.tuple ds) = false := by
          show (decide _ && decide _ && _ && _) = _
          rw [decide_eq_false (show ¬ 1 ≤ ds.length by omega), Bool.false_and, Bool.false_and, Bool.false_and]
        rw [e1] at k0
        exact k0
end
end Pl

namespace L2
open PySem PySem.Spec PyProof.Rows
/-- a dict of the written part, its keys these texts -/
structure KKw (K : PySem.W.Frag) (w : World) (d : Addr) (ks : List Str) : Prop where
  ex : ∃ (es : Array DictEntry) (ep : Nat), K.lookup d = some ⟨.type "dict", none, .dict es ep, #[]⟩ ∧ PySem.W.KeysLit w.params es.toList ∧ es.toList.map (fun en => match en.key with | .str x _ => some x | _ => none) = ks.map some
  ns : (d == sysModules) = false
theorem find_keys {z : Str} : ∀ {l : List DictEntry} {ks : List Str}, l.map (fun en => match en.key with | .str x _ => some x | _ => none) = ks.map some → (l.find? fun en => Value.isStrOf z en.key).isSome = decide (z ∈ ks)
  | [], [], _ => rfl
  | [], _ :: _, h => by simp at h
  | _ :: _, [], h => by simp at h
  | en :: l, k :: ks, h => by
    rw [List.map_cons, List.map_cons] at h
    injection h with h1 h2
    have ih := find_keys (z := z) h2
    cases hk : en.key with
    | str x t =>
      rw [hk] at h1
      have ex : x = k := Option.some.inj h1
      subst ex
      rw [List.find?_cons, hk]
      by_cases e : x = z
      · subst e
        rw [show Value.isStrOf x (.str x t) = true from by simp [Value.isStrOf]]
        simp
      · rw [show Value.isStrOf z (.str x t) = false from by simp [Value.isStrOf, e, Ne.symm e]]
        show (l.find? fun en => Value.isStrOf z en.key).isSome = _
        rw [ih, Bool.eq_iff_iff, decide_eq_true_iff, decide_eq_true_iff, List.mem_cons]
        exact ⟨.inr, fun q => q.resolve_left (fun q2 => e q2.symm)⟩
    | _ => rw [hk] at h1; cases h1
/-- a text or None -/
def optV : Option Str → V
  | some z => .str z
  | none => .non
def optIn (o : Option Str) (ks : List Str) : Bool := match o with
  | some z => decide (z ∈ ks)
  | none => false
section
variable {X : Cx}
/-- z not in d, d such a dict -/
theorem op_notInW : OpR X (compareOp .NotIn) (fun x y H Q => ∃ (z : Str) (d : Addr) (ks : List Str), x = .str z ∧ y = .ref d ∧ KKw X.K X.w d ks ∧ Q (.bl (!decide (z ∈ ks))) H) := by
  intro pins s σ H x y v u Q I rx ry h
  obtain ⟨z, d, ks, rfl, rfl, ⟨⟨es, ep, hl, hk, hm⟩, hs⟩, q⟩ := h
  obtain rfl : u = Value.ref d := ry
  obtain ⟨t, rfl⟩ := rx
  have mp := PySem.W.mapOf_K (prog := X.prog) (w := X.w) I.kIn hl hk
  refine wpAny_notIn_of (strKind_is X.prog X.w z t) hs mp ?_
  have e : (findBy Value.isStrOf es z).isSome = decide (z ∈ ks) := by
    rw [← find_keys hm]
    obtain ⟨l⟩ := es
    unfold findBy
    rw [List.find?_toArray]
    cases (List.find? (fun en => Value.isStrOf z en.key) l) <;> rfl
  first
    | exact ⟨.bl _, H, I.tok _, (by rw [e]; rfl), q⟩
    | (rw [← e] at q; exact ⟨.bl _, H, I.tok _, rfl, q⟩)
/-- None, or z, not in d -/
theorem op_notInWN : OpR X (compareOp .NotIn) (fun x y H Q => ∃ (o : Option Str) (d : Addr) (ks : List Str), x = optV o ∧ y = .ref d ∧ KKw X.K X.w d ks ∧ Q (.bl (!optIn o ks)) H) := by
  intro pins s σ H x y v u Q I rx ry h
  obtain ⟨o, d, ks, ex, ey, kk, q⟩ := h
  cases o with
  | some z => exact op_notInW pins s σ H x y v u Q I rx ry ⟨z, d, ks, ex, ey, kk, q⟩
  | none =>
    subst ex ey
    obtain ⟨⟨es, ep, hl, hk, hm⟩, hs⟩ := kk
    obtain rfl : u = Value.ref d := ry
    obtain rfl : v = Value.none := rx
    have mp : s.heap.MapOf (noneKind X.prog X.w) d (fun k => findBy nkIs es k) := ⟨_, es, ep, I.kIn _ _ hl, ⟨rfl, rfl, rfl⟩, rfl, fun e he => by
      obtain ⟨x, t, e1, e2⟩ := hk.all e (Array.mem_toList_iff.mpr he)
      exact ⟨some (Sum.inr x), by rw [e1]; exact (show keyIs (Sum.inr x) (.str x t) = true by simp [keyIs, Value.isStrOf]), e2⟩, fun _ => rfl⟩
    have en : findBy nkIs es none = none := by
      have q : (es.find? fun e => nkIs none e.key) = none := by
        rw [Array.find?_eq_none]
        intro e he hq
        obtain ⟨x, t, e1, _⟩ := hk.all e (Array.mem_toList_iff.mpr he)
        rw [nk_none hq] at e1
        cases e1
      show (es.find? fun e => nkIs none e.key).map (·.val) = none
      rw [q]; rfl
    refine wpAny_notIn_of (show (noneKind X.prog X.w).is none .none = true from rfl) hs mp ?_
    rw [en]
    exact ⟨.bl _, H, I.tok _, rfl, q⟩
end
end L2

namespace Pl
open PySem PySem.Spec PyProof.Rows L2
theorem dp_tupOf {K : PySem.W.Frag} {H : Hp} {v : V} {es : List PyData} (h : Dp K H v (.tuple es)) : ∃ u ys, v = .ref u ∧ SqT K H u ys ∧ DpAll K H ys es := by
  cases h with
  | tup h q => exact ⟨_, _, rfl, h, q⟩
def lenD : PyData → Int
  | .tuple ds => ds.length
  | _ => 0
def workB (_ : Sc) : List PyData → Bool
  | [_, c] => intD 1 1000 c
  | _ => false
def setB (S : Sc) : List PyData → Bool
  | [_, v, x] => varB S v && worthB S x
  | _ => false
def failB (S : Sc) : List PyData → Bool
  | [_, x] => worthB S x
  | _ => false
def argsB (S : Sc) : PyData → Bool
  | .tuple es => decide (es.length ≤ 3) && es.all (worthB S)
  | _ => false
def callB (S : Sc) : List PyData → Bool
  | [_, v, p, es] => varB S v && wordD p && argsB S es
  | _ => false
def waitB (S : Sc) : List PyData → Bool
  | [_, k, vs] => areCalledB S vs && intD 1 (lenD vs) k
  | _ => false
def catchB (S : Sc) : List PyData → Bool
  | [_, vs] => areCalledB S vs
  | _ => false
def dropB (S : Sc) : List PyData → Bool
  | [_, v] => calledB S v
  | _ => false
def sayB (_ : Sc) : List PyData → Bool
  | [_, t] => effD t
  | _ => false
def blockB (S : Sc) : List PyData → Bool
  | [_, x, n] => worthB S x && intD 1 S.room n
  | _ => false
/-- the promise of a check -/
def spCk (K : PySem.W.Frag) (C : Addr) (B : Sc → List PyData → Bool) (len : Nat) : Sp := fun vs H Q _ => ∃ (t r dx g n c e : Addr) (S : Sc) (xs : List V) (ds : List PyData), vs = [.ref t, .ref r] ∧ ScAt K C r S H dx g n c e ∧ SqT K H t xs ∧ DpAll K H xs ds ∧ fineAll ds = true ∧ ds.length = len ∧
  ∀ H', Same H H' → Q (.bl (B S ds)) H'
theorem scIsWork : FnScope ["instruction", "scope"] ["instruction", "scope"] (defScope sIsWork) := ⟨rfl, rfl, rfl, by decide +kernel, rfl, by decide +kernel, by decide +kernel⟩
theorem scIsSet : FnScope ["instruction", "scope"] ["instruction", "scope"] (defScope sIsSet) := ⟨rfl, rfl, rfl, by decide +kernel, rfl, by decide +kernel, by decide +kernel⟩
theorem scIsFail : FnScope ["instruction", "scope"] ["instruction", "scope"] (defScope sIsFail) := ⟨rfl, rfl, rfl, by decide +kernel, rfl, by decide +kernel, by decide +kernel⟩
theorem scIsCall : FnScope ["instruction", "scope", "_", "variable", "plan", "expressions", "expression"] ["instruction", "scope"] (defScope sIsCall) := ⟨rfl, rfl, rfl, by decide +kernel, rfl, by decide +kernel, by decide +kernel⟩
theorem scIsWait : FnScope ["instruction", "scope", "_", "number", "variables"] ["instruction", "scope"] (defScope sIsWait) := ⟨rfl, rfl, rfl, by decide +kernel, rfl, by decide +kernel, by decide +kernel⟩
theorem scIsCatch : FnScope ["instruction", "scope"] ["instruction", "scope"] (defScope sIsCatch) := ⟨rfl, rfl, rfl, by decide +kernel, rfl, by decide +kernel, by decide +kernel⟩
theorem scIsDrop : FnScope ["instruction", "scope"] ["instruction", "scope"] (defScope sIsDrop) := ⟨rfl, rfl, rfl, by decide +kernel, rfl, by decide +kernel, by decide +kernel⟩
theorem scIsSay : FnScope ["instruction", "scope"] ["instruction", "scope"] (defScope sIsSay) := ⟨rfl, rfl, rfl, by decide +kernel, rfl, by decide +kernel, by decide +kernel⟩
theorem scIsBlock : FnScope ["instruction", "scope"] ["instruction", "scope"] (defScope sIsBlock) := ⟨rfl, rfl, rfl, by decide +kernel, rfl, by decide +kernel, by decide +kernel⟩
/-- the defs that the checks call -/
structure Cx0 (P : Program) (w : World) (K : PySem.W.Frag) (mg : Str → Option Value) (base : Heap) (C : Addr) (f : Nat → Addr) (fd : Nat → FuncData) : Prop where
  int : DefX K mg "is_integer" sInteger ["value", "low", "high"] (f 9) (fd 9)
  word : DefX K mg "is_word" sWord ["value"] (f 11) (fd 11)
  eff : DefX K mg "is_effect" sEffect ["value"] (f 12) (fd 12)
  var : DefX K mg "_is_variable" sVar ["value", "scope"] (f 27) (fd 27)
  called : DefX K mg "_is_called" sCalled ["value", "scope"] (f 28) (fd 28)
  are : DefX K mg "_are_called" sAreCalled ["value", "scope"] (f 29) (fd 29)
  worth : DefX K mg "_is_worth" sWorth ["value", "scope"] (f 30) (fd 30)
  gInt : FnOk P w K mg base CX0 1 (f 9) (fd 9) ["value", "low", "high"] (spInteger K)
  gWord : FnOk P w K mg base CX0 2 (f 11) (fd 11) ["value"] (spWord K)
  gEff : FnOk P w K mg base CX0 2 (f 12) (fd 12) ["value"] (spEffect K)
  gVar : FnOk P w K mg base CX0 3 (f 27) (fd 27) ["value", "scope"] (spVal K C varB)
  gCalled : FnOk P w K mg base CX0 1 (f 28) (fd 28) ["value", "scope"] (spVal K C calledB)
  gAre : FnOk P w K mg base CX0 2 (f 29) (fd 29) ["value", "scope"] (spVal K C areCalledB)
  gWorth : FnOk P w K mg base CX0 15 (f 30) (fd 30) ["value", "scope"] (spVal K C worthB)
section
variable {P : Program} {w : World} {K : PySem.W.Frag} {mg : Str → Option Value} {base : Heap} {C fc : Addr} {fdc : FuncData} {f : Nat → Addr} {fd : Nat → FuncData}
theorem ok_isWork (F : Fun K "_is_work" "_is_work" sIsWork fc fdc) (T : Tx mg) (N : TxN mg) (X : ScX K mg C) (D : Cx0 P w K mg base C f fd) : FnOk P w K mg base CX0 16 fc fdc ["instruction", "scope"] (spCk K C workB 2) := by
  obtain ⟨tc, hc⟩ := N.cost
  refine F.ok scIsWork (fun vs H Q E h => ?_) (fun cdv A outer s H vs Q E hr h => ?_)
  · obtain ⟨t, r, dx, g, n, c, e, S, xs, ds, rfl, _⟩ := h
    rfl
  · obtain ⟨t, r, dx, g, n, c, e, S, xs, ds, rfl, hS, hT, hA, hf, hlen, k⟩ := h
    obtain ⟨d1, d2, rfl⟩ := two_of hlen
    obtain _ | ⟨h1, hA⟩ := hA
    obtain _ | ⟨h2, hA⟩ := hA
    cases hA
    have f2 := fine_mem hf d2 (by simp)
    refine ⟨_, pss_one (ps_ret (pe_call D.gInt (hr.mono (by decide)) (by rfl) D.int.mg D.int.F.kp D.int.b .nil pass0 (pa_cons (pe_ix ix_tup (pv 0) pe_int (fun _ _ => rfl)) (pa_cons pe_int (pa_cons (pe_glob (v := .int 1000) rfl hc ⟨_, rfl⟩) pa_nil))))), ?_⟩
    exact ⟨_, rfl, t, _, 1, _, rfl, rfl, hT, rfl, _, d2, 1, 1000, rfl, h2, k H fun _ _ q => q⟩
theorem ok_isFail (F : Fun K "_is_fail" "_is_fail" sIsFail fc fdc) (T : Tx mg) (N : TxN mg) (X : ScX K mg C) (D : Cx0 P w K mg base C f fd) : FnOk P w K mg base CX0 16 fc fdc ["instruction", "scope"] (spCk K C failB 2) := by
  refine F.ok scIsFail (fun vs H Q E h => ?_) (fun cdv A outer s H vs Q E hr h => ?_)
  · obtain ⟨t, r, dx, g, n, c, e, S, xs, ds, rfl, _⟩ := h
    rfl
  · obtain ⟨t, r, dx, g, n, c, e, S, xs, ds, rfl, hS, hT, hA, hf, hlen, k⟩ := h
    obtain ⟨d1, d2, rfl⟩ := two_of hlen
    obtain _ | ⟨h1, hA⟩ := hA
    obtain _ | ⟨h2, hA⟩ := hA
    cases hA
    have f2 := fine_mem hf d2 (by simp)
    refine ⟨_, pss_one (ps_ret (pe_call D.gWorth (hr.mono (by decide)) (by rfl) D.worth.mg D.worth.F.kp D.worth.b .nil pass0 (pa_cons (pe_ix ix_tup (pv 0) pe_int (fun _ _ => rfl)) (pa_cons (pv 1) pa_nil)))), ?_⟩
    exact ⟨_, rfl, t, _, 1, _, rfl, rfl, hT, rfl, _, rfl, _, d2, r, dx, g, n, c, e, S, rfl, h2, f2, hS, k⟩
theorem ok_isCatch (F : Fun K "_is_catch" "_is_catch" sIsCatch fc fdc) (T : Tx mg) (N : TxN mg) (X : ScX K mg C) (D : Cx0 P w K mg base C f fd) : FnOk P w K mg base CX0 16 fc fdc ["instruction", "scope"] (spCk K C catchB 2) := by
  refine F.ok scIsCatch (fun vs H Q E h => ?_) (fun cdv A outer s H vs Q E hr h => ?_)
  · obtain ⟨t, r, dx, g, n, c, e, S, xs, ds, rfl, _⟩ := h
    rfl
  · obtain ⟨t, r, dx, g, n, c, e, S, xs, ds, rfl, hS, hT, hA, hf, hlen, k⟩ := h
    obtain ⟨d1, d2, rfl⟩ := two_of hlen
    obtain _ | ⟨h1, hA⟩ := hA
    obtain _ | ⟨h2, hA⟩ := hA
    cases hA
    have f2 := fine_mem hf d2 (by simp)
    refine ⟨_, pss_one (ps_ret (pe_call D.gAre (hr.mono (by decide)) (by rfl) D.are.mg D.are.F.kp D.are.b .nil pass0 (pa_cons (pe_ix ix_tup (pv 0) pe_int (fun _ _ => rfl)) (pa_cons (pv 1) pa_nil)))), ?_⟩
    exact ⟨_, rfl, t, _, 1, _, rfl, rfl, hT, rfl, _, rfl, _, d2, r, dx, g, n, c, e, S, rfl, h2, f2, hS, k⟩
theorem ok_isDrop (F : Fun K "_is_drop" "_is_drop" sIsDrop fc fdc) (T : Tx mg) (N : TxN mg) (X : ScX K mg C) (D : Cx0 P w K mg base C f fd) : FnOk P w K mg base CX0 16 fc fdc ["instruction", "scope"] (spCk K C dropB 2) := by
  refine F.ok scIsDrop (fun vs H Q E h => ?_) (fun cdv A outer s H vs Q E hr h => ?_)
  · obtain ⟨t, r, dx, g, n, c, e, S, xs, ds, rfl, _⟩ := h
    rfl
  · obtain ⟨t, r, dx, g, n, c, e, S, xs, ds, rfl, hS, hT, hA, hf, hlen, k⟩ := h
    obtain ⟨d1, d2, rfl⟩ := two_of hlen
    obtain _ | ⟨h1, hA⟩ := hA
    obtain _ | ⟨h2, hA⟩ := hA
    cases hA
    have f2 := fine_mem hf d2 (by simp)
    refine ⟨_, pss_one (ps_ret (pe_call D.gCalled (hr.mono (by decide)) (by rfl) D.called.mg D.called.F.kp D.called.b .nil pass0 (pa_cons (pe_ix ix_tup (pv 0) pe_int (fun _ _ => rfl)) (pa_cons (pv 1) pa_nil)))), ?_⟩
    exact ⟨_, rfl, t, _, 1, _, rfl, rfl, hT, rfl, _, rfl, _, d2, r, dx, g, n, c, e, S, rfl, h2, f2, hS, k⟩
theorem ok_isSay (F : Fun K "_is_say" "_is_say" sIsSay fc fdc) (T : Tx mg) (N : TxN mg) (X : ScX K mg C) (D : Cx0 P w K mg base C f fd) : FnOk P w K mg base CX0 16 fc fdc ["instruction", "scope"] (spCk K C sayB 2) := by
  refine F.ok scIsSay (fun vs H Q E h => ?_) (fun cdv A outer s H vs Q E hr h => ?_)
  · obtain ⟨t, r, dx, g, n, c, e, S, xs, ds, rfl, _⟩ := h
    rfl
  · obtain ⟨t, r, dx, g, n, c, e, S, xs, ds, rfl, hS, hT, hA, hf, hlen, k⟩ := h
    obtain ⟨d1, d2, rfl⟩ := two_of hlen
    obtain _ | ⟨h1, hA⟩ := hA
    obtain _ | ⟨h2, hA⟩ := hA
    cases hA
    have f2 := fine_mem hf d2 (by simp)
    refine ⟨_, pss_one (ps_ret (pe_call D.gEff (hr.mono (by decide)) (by rfl) D.eff.mg D.eff.F.kp D.eff.b .nil pass0 (pa_cons (pe_ix ix_tup (pv 0) pe_int (fun _ _ => rfl)) pa_nil))), ?_⟩
    exact ⟨_, rfl, t, _, 1, _, rfl, rfl, hT, rfl, _, d2, rfl, h2, f2, k⟩
theorem ok_isSet (F : Fun K "_is_set" "_is_set" sIsSet fc fdc) (T : Tx mg) (N : TxN mg) (X : ScX K mg C) (D : Cx0 P w K mg base C f fd) : FnOk P w K mg base CX0 16 fc fdc ["instruction", "scope"] (spCk K C setB 3) := by
  refine F.ok scIsSet (fun vs H Q E h => ?_) (fun cdv A outer s H vs Q E hr h => ?_)
  · obtain ⟨t, r, dx, g, n, c, e, S, xs, ds, rfl, _⟩ := h
    rfl
  · obtain ⟨t, r, dx, g, n, c, e, S, xs, ds, rfl, hS, hT, hA, hf, hlen, k⟩ := h
    obtain ⟨d1, d2, d3, rfl⟩ := three_of hlen
    obtain _ | ⟨h1, hA⟩ := hA
    obtain _ | ⟨h2, hA⟩ := hA
    obtain _ | ⟨h3, hA⟩ := hA
    cases hA
    have f2 := fine_mem hf d2 (by simp)
    have f3 := fine_mem hf d3 (by simp)
    have eB : setB S [d1, d2, d3] = (varB S d2 && worthB S d3) := rfl
    rw [eB] at k
    refine ⟨_, pss_one (ps_ret (pe_and (pe_call D.gVar (hr.mono (by decide)) (by rfl) D.var.mg D.var.F.kp D.var.b .nil pass0 (pa_cons (pe_ix ix_tup (pv 0) pe_int (fun _ _ => rfl)) (pa_cons (pv 1) pa_nil))) (pe_one (pe_call D.gWorth (hr.mono (by decide)) (by rfl) D.worth.mg D.worth.F.kp D.worth.b .nil pass0 (pa_cons (pe_ix ix_tup (pv 0) pe_int (fun _ _ => rfl)) (pa_cons (pv 1) pa_nil)))))), ?_⟩
    refine ⟨_, rfl, t, _, 1, _, rfl, rfl, hT, rfl, _, rfl, _, d2, r, dx, g, n, c, e, S, rfl, h2, f2, hS, fun H' sm => ⟨_, rfl, ?_⟩⟩
    have q := k H' sm
    refine ite_b (fun c1 => ?_) (fun c1 => ?_)
    · have hT' := Same.tup sm hT
      refine ⟨_, rfl, t, _, 2, _, rfl, rfl, hT', rfl, _, rfl, _, d3, r, dx, g, n, c, e, S, rfl, dp_same sm h3, f3, hS.same sm, fun H2 sm2 => ?_⟩
      have q2 := k H2 (sm.trans sm2)
      rw [c1, Bool.true_and] at q2
      exact q2
    · rw [c1, Bool.false_and] at q
      exact q
theorem ok_isBlock (F : Fun K "_is_block" "_is_block" sIsBlock fc fdc) (T : Tx mg) (N : TxN mg) (X : ScX K mg C) (D : Cx0 P w K mg base C f fd) : FnOk P w K mg base CX0 16 fc fdc ["instruction", "scope"] (spCk K C blockB 3) := by
  refine F.ok scIsBlock (fun vs H Q E h => ?_) (fun cdv A outer s H vs Q E hr h => ?_)
  · obtain ⟨t, r, dx, g, n, c, e, S, xs, ds, rfl, _⟩ := h
    rfl
  · obtain ⟨t, r, dx, g, n, c, e, S, xs, ds, rfl, hS, hT, hA, hf, hlen, k⟩ := h
    obtain ⟨d1, d2, d3, rfl⟩ := three_of hlen
    obtain _ | ⟨h1, hA⟩ := hA
    obtain _ | ⟨h2, hA⟩ := hA
    obtain _ | ⟨h3, hA⟩ := hA
    cases hA
    have f2 := fine_mem hf d2 (by simp)
    have f3 := fine_mem hf d3 (by simp)
    have eB : blockB S [d1, d2, d3] = (worthB S d2 && intD 1 S.room d3) := rfl
    rw [eB] at k
    refine ⟨_, pss_one (ps_ret (pe_and (pe_call D.gWorth (hr.mono (by decide)) (by rfl) D.worth.mg D.worth.F.kp D.worth.b .nil pass0 (pa_cons (pe_ix ix_tup (pv 0) pe_int (fun _ _ => rfl)) (pa_cons (pv 1) pa_nil))) (pe_one (pe_call D.gInt (hr.mono (by decide)) (by rfl) D.int.mg D.int.F.kp D.int.b .nil pass0 (pa_cons (pe_ix ix_tup (pv 0) pe_int (fun _ _ => rfl)) (pa_cons pe_int (pa_cons (pe_fld (pv 1) rfl) pa_nil))))))), ?_⟩
    refine ⟨_, rfl, t, _, 1, _, rfl, rfl, hT, rfl, _, rfl, _, d2, r, dx, g, n, c, e, S, rfl, h2, f2, hS, fun H' sm => ⟨_, rfl, ?_⟩⟩
    have q := k H' sm
    refine ite_b (fun c1 => ?_) (fun c1 => ?_)
    · have hT' := Same.tup sm hT
      have hS' := hS.same sm
      rw [c1, Bool.true_and] at q
      exact ⟨_, rfl, t, _, 2, _, rfl, rfl, hT', rfl, _, rfl, r, C, dx, _, .int S.room, rfl, hS'.ins, X.cls, X.nR, rfl, _, d3, 1, S.room, rfl, dp_same sm h3, q⟩
    · rw [c1, Bool.false_and] at q
      exact q
theorem ok_isWait (F : Fun K "_is_wait" "_is_wait" sIsWait fc fdc) (T : Tx mg) (N : TxN mg) (X : ScX K mg C) (D : Cx0 P w K mg base C f fd) : FnOk P w K mg base CX0 16 fc fdc ["instruction", "scope"] (spCk K C waitB 3) := by
  refine F.ok scIsWait (fun vs H Q E h => ?_) (fun cdv A outer s H vs Q E hr h => ?_)
  · obtain ⟨t, r, dx, g, n, c, e, S, xs, ds, rfl, _⟩ := h
    rfl
  · obtain ⟨t, r, dx, g, n, c, e, S, xs, ds, rfl, hS, hT, hA, hf, hlen, k⟩ := h
    obtain ⟨d1, d2, d3, rfl⟩ := three_of hlen
    obtain _ | ⟨h1, hA⟩ := hA
    obtain _ | ⟨h2, hA⟩ := hA
    obtain _ | ⟨h3, hA⟩ := hA
    cases hA
    have f2 := fine_mem hf d2 (by simp)
    have f3 := fine_mem hf d3 (by simp)
    have eB : waitB S [d1, d2, d3] = (areCalledB S d3 && intD 1 (lenD d3) d2) := rfl
    rw [eB] at k
    refine ⟨_, pss_cons (ps_asg (pv 0) (pg_tup (by rfl) (pgs_cons (pg_name (i := 2) scIsWait.nd rfl (Or.inl rfl)) (pgs_cons (pg_name (i := 3) scIsWait.nd rfl (Or.inl rfl)) (pgs_cons (pg_name (i := 4) scIsWait.nd rfl (Or.inl rfl)) pgs_nil)))))
      (pss_one (ps_ret (pe_and (pe_call D.gAre (hr.mono (by decide)) (by rfl) D.are.mg D.are.F.kp D.are.b .nil pass0 (pa_cons (pv 4) (pa_cons (pv 1) pa_nil))) (pe_one (pe_call D.gInt (hr.mono (by decide)) (by rfl) D.int.mg D.int.F.kp D.int.b .nil pass0 (pa_cons (pv 3) (pa_cons pe_int (pa_cons (pe_callB call_len_seq (by rfl) T.len (by decide +kernel) (pa_cons (pv 4) pa_nil)) pa_nil)))))))), ?_⟩
    refine ⟨_, rfl, t, _, rfl, hT, rfl, _, _, rfl, _, _, rfl, _, _, rfl, rfl, ?_⟩
    refine ⟨_, rfl, _, rfl, _, d3, r, dx, g, n, c, e, S, rfl, h3, f3, hS, fun H' sm => ⟨_, rfl, ?_⟩⟩
    have q := k H' sm
    refine ite_b (fun c1 => ?_) (fun c1 => ?_)
    · cases d3 <;> first | exact Bool.noConfusion c1 | skip
      rename_i es
      obtain ⟨u, ys, rfl, hU, hB⟩ := dp_tupOf h3
      have ly := dpAll_len hB
      rw [c1, Bool.true_and] at q
      refine ⟨_, rfl, _, rfl, u, ys, rfl, .inr (Same.tup sm hU), _, d2, 1, (ys.length : Int), rfl, dp_same sm h2, ?_⟩
      rw [ly]
      exact q
    · rw [c1, Bool.false_and] at q
      exact q
theorem ok_isCall (F : Fun K "_is_call" "_is_call" sIsCall fc fdc) (T : Tx mg) (N : TxN mg) (X : ScX K mg C) (D : Cx0 P w K mg base C f fd) : FnOk P w K mg base CX0 16 fc fdc ["instruction", "scope"] (spCk K C callB 4) := by
  obtain ⟨te, he⟩ := N.exprs
  refine F.ok scIsCall (fun vs H Q E h => ?_) (fun cdv A outer s H vs Q E hr h => ?_)
  · obtain ⟨t, r, dx, g, n, c, e, S, xs, ds, rfl, _⟩ := h
    rfl
  · obtain ⟨t, r, dx, g, n, c, e, S, xs, ds, rfl, hS, hT, hA, hf, hlen, k⟩ := h
    obtain ⟨d1, d2, d3, d4, rfl⟩ := four_of hlen
    obtain _ | ⟨h1, hA⟩ := hA
    obtain _ | ⟨h2, hA⟩ := hA
    obtain _ | ⟨h3, hA⟩ := hA
    obtain _ | ⟨h4, hA⟩ := hA
    cases hA
    have f2 := fine_mem hf d2 (by simp)
    have f3 := fine_mem hf d3 (by simp)
    have f4 := fine_mem hf d4 (by simp)
    have eB : callB S [d1, d2, d3, d4] = (varB S d2 && wordD d3 && argsB S d4) := rfl
    rw [eB] at k
    refine ⟨_, pss_cons (ps_asg (pv 0) (pg_tup (by rfl) (pgs_cons (pg_name (i := 2) scIsCall.nd rfl (Or.inl rfl)) (pgs_cons (pg_name (i := 3) scIsCall.nd rfl (Or.inl rfl)) (pgs_cons (pg_name (i := 4) scIsCall.nd rfl (Or.inl rfl)) (pgs_cons (pg_name (i := 5) scIsCall.nd rfl (Or.inl rfl)) pgs_nil))))))
      (pss_cons (ps_if (PW.pt (pw_or (pt_not (pt_val (pe_call D.gVar (hr.mono (by decide)) (by rfl) D.var.mg D.var.F.kp D.var.b .nil pass0 (pa_cons (pv 3) (pa_cons (pv 1) pa_nil))))) (pw_or1 (pt_not (pt_val (pe_call D.gWord (hr.mono (by decide)) (by rfl) D.word.mg D.word.F.kp D.word.b .nil pass0 (pa_cons (pv 4) pa_nil))))))) (pss_one (ps_ret pe_bl)) pss_nil)
      (pss_cons (ps_if (PW.pt (pw_or (pt_not (pt_val (pe_callB call_isi (by rfl) T.isi (by decide +kernel) (pa_cons (pv 5) (pa_cons (pe_bltn (v := .ty "tuple") (by rfl) T.tuple (by decide +kernel) rfl) pa_nil)))))
          (pw_or1 (pt_cmpR op_gt (pe_callB call_len_seq (by rfl) T.len (by decide +kernel) (pa_cons (pv 5) pa_nil)) (pe_glob (v := .int 3) rfl he ⟨_, rfl⟩) (nomark _))))) (pss_one (ps_ret pe_bl)) pss_nil)
      (pss_one (ps_ret (pe_callB (cr_all rfl) (by rfl) T.all (by decide +kernel) (pa_cons
        (pe_lc (own := [("expression", 6)]) (g := gName 6) (tt := tYes) (by rfl) scIsCall.nd (pi_tup (pv 5)) (blkOk_by (own := [("expression", 6)]) (N := ["instruction", "scope", "_", "variable", "plan", "expressions", "expression"]) (sc := defScope sIsCall) (by decide +kernel))
          (fun _ _ _ _ _ => pg_name (i := 6) scIsCall.nd rfl (Or.inl rfl)) (fun _ _ _ _ _ => pts_nil) (fun _ _ _ _ _ => (pe_call D.gWorth (hr.mono (by decide)) (by rfl) D.worth.mg D.worth.F.kp D.worth.b .nil pass0 (pa_cons (pv 6) (pa_cons (pv 1) pa_nil))))) pa_nil)))))), ?_⟩
    refine ⟨_, rfl, t, _, rfl, hT, rfl, _, _, rfl, _, _, rfl, _, _, rfl, _, _, rfl, rfl, ?_⟩
    refine ⟨_, rfl, _, rfl, _, d2, r, dx, g, n, c, e, S, rfl, h2, f2, hS, fun H1 sm1 => ⟨_, rfl, ?_⟩⟩
    have q1 := k H1 sm1
    refine ite_n (fun c1 => ?_) (fun c1 => ?_)
    · rw [c1, Bool.false_and, Bool.false_and] at q1
      exact q1
    refine ⟨_, rfl, _, d3, rfl, dp_same sm1 h3, f3, fun H2 sm2 => ⟨_, rfl, ?_⟩⟩
    have s12 := sm1.trans sm2
    have q2 := k H2 s12
    rw [c1, Bool.true_and] at q2
    refine ite_n (fun c2 => ?_) (fun c2 => ?_)
    · rw [c2, Bool.false_and] at q2
      exact q2
    rw [c2, Bool.true_and] at q2
    refine ⟨_, rfl, _, _, _, _, _, rfl, .ty "tuple", dp_ty (dp_same s12 h4), kit_ty (isB_tuple d4), ?_⟩
    refine ⟨_, rfl, ?_⟩
    refine ite_n (fun c3 => ?_) (fun c3 => ?_)
    · have e4 : argsB S d4 = false := by cases d4 <;> first | rfl | exact Bool.noConfusion c3
      rw [e4] at q2
      exact q2
    cases d4 <;> first | exact Bool.noConfusion c3 | skip
    rename_i es
    obtain ⟨u, ys, rfl, hU, hB⟩ := dp_tupOf h4
    have ly := dpAll_len hB
    have hU2 := Same.tup s12 hU
    refine ⟨_, rfl, u, ys, rfl, .inr hU2, _, _, rfl, rfl, _, rfl, ?_⟩
    have ea : argsB S (.tuple es) = (decide (es.length ≤ 3) && es.all (worthB S)) := rfl
    refine ite_b (fun c4 => ?_) (fun c4 => ?_)
    · have g4 := of_decide_eq_true c4
      rw [ea, decide_eq_false (show ¬ es.length ≤ 3 by omega), Bool.false_and] at q2
      exact q2
    have g4 := of_decide_eq_false c4
    have fe : fineAll es = true := f4
    refine ⟨_, rfl, u, rfl, ⟨_, hU2⟩, fun D1 hD => lc_tup (xs := ys) (fun j H' => Same H2 H' ∧ H' D1 = some (.lst ((es.take j).map fun d => V.bl (worthB S d)))) ⟨same_upd hD, upd_same⟩ (fun j H' _ q => Same.tup q.1 hU2) ?_ ?_⟩
    · rintro j x H' hx ⟨p1, p2⟩
      refine ⟨rfl, ?_⟩
      unfold tYes
      refine iteT ?_
      obtain ⟨d, hdj, hdx⟩ := dpAll_at hB j x hx
      refine ⟨_, rfl, _, rfl, x, d, r, dx, g, n, c, e, S, rfl, dp_same (s12.trans p1) hdx, fine_mem fe d (List.mem_of_getElem? hdj), hS.same (s12.trans p1), fun H3 sm => ?_⟩
      refine ⟨_, sm _ _ p2, ?_, ?_, ?_⟩
      · rw [List.length_map, List.length_take, sizeLine_eq]
        omega
      · intro b o q
        rw [upd_ne (ne_of_none q hD)]
        exact sm _ _ (p1 b o q)
      · rw [upd_same, List.take_succ, hdj, List.map_append]
        rfl
    · rintro H' ⟨p1, p2⟩
      rw [show es.take ys.length = es from by rw [ly, List.take_length]] at p2
      refine ⟨D1, es.map (worthB S), rfl, SqL.of (by rw [p2, List.map_map]; rfl), ?_⟩
      rw [all_taken]
      have q3 := k H' (s12.trans p1)
      rw [c1, c2, ea, decide_eq_true (show es.length ≤ 3 by omega), Bool.true_and, Bool.true_and, Bool.true_and] at q3
      exact q3
end
end Pl

namespace Pl
open PySem PySem.Spec PyProof.Rows L2
structure Ck where
  nm : Str
  B : Sc → List PyData → Bool
  len : Nat
  at_ : Nat
def ckTab : List Ck := [⟨"work", workB, 2, 31⟩, ⟨"set", setB, 3, 32⟩, ⟨"fail", failB, 2, 33⟩, ⟨"call", callB, 4, 34⟩, ⟨"wait", waitB, 3, 35⟩, ⟨"catch", catchB, 2, 36⟩, ⟨"drop", dropB, 2, 37⟩, ⟨"effect", sayB, 2, 38⟩, ⟨"if", blockB, 3, 39⟩, ⟨"while", blockB, 3, 39⟩]
abbrev ckNames : List Str := ["work", "set", "fail", "call", "wait", "catch", "drop", "effect", "if", "while"]
def ckOf (nm : Str) : Option Ck := ckTab.find? fun e => decide (e.nm = nm)
def partsB (S : Sc) : List PyData → Bool
  | .str nm :: r => (match ckOf nm with
    | some e => e.B S (.str nm :: r)
    | none => false)
  | _ => false
/-- which data are instructions, where the scope is S -/
def instrB (S : Sc) : PyData → Bool
  | .tuple ds => partsB S ds
  | _ => false
theorem ck_len : ∀ e ∈ ckTab, ∀ (S : Sc) (ds : List PyData), ds.length ≠ e.len → e.B S ds = false := by
  intro e he S ds h
  simp only [ckTab, List.mem_cons, List.not_mem_nil, or_false] at he
  rcases he with rfl | rfl | rfl | rfl | rfl | rfl | rfl | rfl | rfl | rfl
  · dsimp only at h ⊢; unfold workB; split <;> first | rfl | exact absurd rfl h
  · dsimp only at h ⊢; unfold setB; split <;> first | rfl | exact absurd rfl h
  · dsimp only at h ⊢; unfold failB; split <;> first | rfl | exact absurd rfl h
  · dsimp only at h ⊢; unfold callB; split <;> first | rfl | exact absurd rfl h
  · dsimp only at h ⊢; unfold waitB; split <;> first | rfl | exact absurd rfl h
  · dsimp only at h ⊢; unfold catchB; split <;> first | rfl | exact absurd rfl h
  · dsimp only at h ⊢; unfold dropB; split <;> first | rfl | exact absurd rfl h
  · dsimp only at h ⊢; unfold sayB; split <;> first | rfl | exact absurd rfl h
  · dsimp only at h ⊢; unfold blockB; split <;> first | rfl | exact absurd rfl h
  · dsimp only at h ⊢; unfold blockB; split <;> first | rfl | exact absurd rfl h
theorem ckOf_some {nm : Str} {e : Ck} (h : ckOf nm = some e) : e ∈ ckTab ∧ e.nm = nm := ⟨List.mem_of_find?_eq_some h, of_decide_eq_true (List.find?_some (p := fun e : Ck => decide (e.nm = nm)) h)⟩
theorem ckOf_none {nm : Str} (h : ckOf nm = none) : nm ∉ ckNames := by
  intro q
  have n := List.find?_eq_none.mp h
  have e : ckNames = ckTab.map Ck.nm := rfl
  rw [e] at q
  obtain ⟨x, hx, rfl⟩ := List.mem_map.mp q
  exact n x hx (decide_eq_true rfl)
theorem ck_in {e : Ck} (h : e ∈ ckTab) : e.nm ∈ ckNames := by
  have q : e.nm ∈ ckTab.map Ck.nm := List.mem_map.mpr ⟨e, h, rfl⟩
  exact q
/-- the module's two dicts -/
structure CkX (P : Program) (w : World) (K : PySem.W.Frag) (mg : Str → Option Value) (base : Heap) (C : Addr) (f : Nat → Addr) : Prop where
  checks : ∃ d, mg "CHECKS" = some (.ref d) ∧ KKw K w d ckNames ∧ ∀ e ∈ ckTab, KDct K w d e.nm (.ref (f e.at_))
  sizes : ∃ d, mg "SIZES" = some (.ref d) ∧ ∀ e ∈ ckTab, KDct K w d e.nm (.int (e.len : Nat))
  held : ∀ e ∈ ckTab, Held P w K mg base 16 (f e.at_) (spCk K C e.B e.len)
theorem scNameOf : FnScope ["value"] ["value"] (defScope sNameOf) := ⟨rfl, rfl, rfl, by decide +kernel, rfl, by decide +kernel, by decide +kernel⟩
/-- the text with which a datum begins, if it is such a tuple -/
def nameD : PyData → Option Str
  | .tuple (.str nm :: _) => some nm
  | _ => none
def spName (K : PySem.W.Frag) : Sp := fun vs H Q _ => ∃ (v : V) (d : PyData), vs = [v] ∧ Dp K H v d ∧ Q (optV (nameD d)) H
theorem scInstr : FnScope ["value", "scope", "name", "check"] ["value", "scope"] (defScope sInstr) := ⟨rfl, rfl, rfl, by decide +kernel, rfl, by decide +kernel, by decide +kernel⟩
section
variable {P : Program} {w : World} {K : PySem.W.Frag} {mg : Str → Option Value} {base : Heap} {C fi fn : Addr} {fdi fdn : FuncData} {f : Nat → Addr}
theorem ok_name (F : Fun K "name_of" "name_of" sNameOf fn fdn) (T : Tx mg) : FnOk P w K mg base CX0 1 fn fdn ["value"] (spName K) := by
  refine F.ok scNameOf (fun vs H Q E h => ?_) (fun cdv A outer s H vs Q E hr h => ?_)
  · obtain ⟨v, d, rfl, _⟩ := h
    rfl
  · obtain ⟨v, d, rfl, hd, k⟩ := h
    refine ⟨_, pss_cons (ps_if (PW.pt (pw_and (pt_val (pe_callB call_isi (by rfl) T.isi (by decide +kernel) (pa_cons (pv 0) (pa_cons (pe_bltn (v := .ty "tuple") (by rfl) T.tuple (by decide +kernel) rfl) pa_nil))))
        (pw_and (pt_cmpR op_gt (pe_callB call_len_seq (by rfl) T.len (by decide +kernel) (pa_cons (pv 0) pa_nil)) pe_int (nomark _))
          (pw_and1 (pt_val (pe_callB call_isi (by rfl) T.isi (by decide +kernel) (pa_cons (pe_ix ix_tup (pv 0) pe_int (fun _ _ => rfl)) (pa_cons (pe_bltn (v := .ty "str") (by rfl) T.str (by decide +kernel) rfl) pa_nil))))))))
        (pss_one (ps_ret (pe_ix ix_tup (pv 0) pe_int (fun _ _ => rfl)))) pss_nil)
      (pss_one (ps_ret pe_non)), ?_⟩
    refine ⟨_, rfl, _, _, _, _, _, rfl, .ty "tuple", dp_ty hd, kit_ty (isB_tuple d), ?_⟩
    refine ⟨_, rfl, ?_⟩
    refine ite_b (fun c1 => ?_) (fun c1 => ?_)
    · cases d <;> first | exact Bool.noConfusion c1 | skip
      rename_i ds
      obtain ⟨t, xs, rfl, hT, hA⟩ := dp_tupOf hd
      refine ⟨_, rfl, t, xs, rfl, .inr hT, _, _, rfl, rfl, _, rfl, ?_⟩
      cases ds with
      | nil =>
        cases hA
        exact iteF k
      | cons d1 rs =>
        obtain _ | ⟨h1, hA'⟩ := id hA
        rename_i x1 xr
        refine iteY (by simp) ?_
        refine ⟨_, rfl, t, _, 0, x1, rfl, rfl, hT, atI_nat (j := 0) rfl, ?_⟩
        refine ⟨_, _, _, _, _, rfl, .ty "str", dp_ty h1, kit_ty (isB_str d1), ?_⟩
        refine ⟨_, rfl, ?_⟩
        refine ite_b (fun c2 => ?_) (fun c2 => ?_)
        · cases d1 <;> first | exact Bool.noConfusion c2 | skip
          cases h1
          exact ⟨_, rfl, t, _, 0, _, rfl, rfl, hT, atI_nat (j := 0) rfl, k⟩
        · have e1 : nameD (.tuple (d1 :: rs)) = none := by cases d1 <;> first | rfl | exact Bool.noConfusion c2
          rw [e1] at k
          exact k
    · have e1 : nameD d = none := by cases d <;> first | rfl | exact Bool.noConfusion c1
      rw [e1] at k
      exact k
theorem nameD_some {d : PyData} {nm : Str} (h : nameD d = some nm) : ∃ rs, d = .tuple (.str nm :: rs) := by
  cases d <;> first | cases h | skip
  rename_i ds
  cases ds with
  | nil => cases h
  | cons d1 rs =>
    cases d1 <;> first | cases h | skip
    exact ⟨rs, rfl⟩
theorem nameD_none {S : Sc} {d : PyData} (h : nameD d = none) : instrB S d = false := by
  cases d <;> first | rfl | skip
  rename_i ds
  cases ds with
  | nil => rfl
  | cons d1 rs => cases d1 <;> first | rfl | cases h
theorem ok_instr (F : Fun K "is_instruction" "is_instruction" sInstr fi fdi) (T : Tx mg) (NX : DefX K mg "name_of" sNameOf ["value"] fn fdn) (D : CkX P w K mg base C f) : FnOk P w K mg base CX0 17 fi fdi ["value", "scope"] (spVal K C instrB) := by
  have GN : FnOk P w K mg base CX0 1 fn fdn ["value"] (spName K) := ok_name NX.F T
  obtain ⟨dC, hC, kC, cC⟩ := D.checks
  obtain ⟨dS, hS0, cS⟩ := D.sizes
  refine F.ok scInstr (fun vs H Q E h => ?_) (fun cdv A outer s H vs Q E hr h => ?_)
  · obtain ⟨v, d, r, dx, g, n, c, e, S, rfl, _⟩ := h
    rfl
  · obtain ⟨v, d, r, dx, g, n, c, e, S, rfl, hd, hf, hS, k⟩ := h
    refine ⟨_, pss_cons (ps_set (i := 2) scInstr.nd rfl (Or.inl rfl) (pe_call GN (hr.mono (by decide)) (by rfl) NX.mg NX.F.kp NX.b .nil pass0 (pa_cons (pv 0) pa_nil)))
      (pss_cons (ps_if (PW.pt (pw_or (pt_cmpR op_notInWN (pv 2) (pe_glob (v := .ref dC) rfl hC rfl) (by rfl))
            (pw_or1 (pt_cmpR op_ne (pe_callB call_len_seq (by rfl) T.len (by decide +kernel) (pa_cons (pv 0) pa_nil)) (pe_ix ix_kdict (pe_glob (v := .ref dS) rfl hS0 rfl) (pv 2) (fun _ _ => rfl)) (nomark _))))) (pss_one (ps_ret pe_bl)) pss_nil)
      (pss_cons (ps_set (i := 3) scInstr.nd rfl (Or.inl rfl) (pe_ix ix_kdict (pe_glob (v := .ref dC) rfl hC rfl) (pv 2) (fun _ _ => rfl)))
      (pss_one (ps_ret (pe_callD (i := 3) (S := fun fa sp => ∃ e ∈ ckTab, fa = f e.at_ ∧ sp = spCk K C e.B e.len) (fun fa sp ⟨e, he, h1, h2⟩ => by rw [h1, h2]; exact D.held e he) hr rfl (Or.inl rfl) (pa_cons (pv 0) (pa_cons (pv 1) pa_nil))))))), ?_⟩
    have k0 := k H (fun _ _ q => q)
    refine ⟨_, rfl, v, d, rfl, hd, ?_⟩
    refine ⟨_, rfl, nameD d, dC, ckNames, rfl, rfl, kC, ?_⟩
    cases hn : nameD d with
    | none =>
      rw [nameD_none hn] at k0
      exact ⟨_, rfl, iteT k0⟩
    | some nm =>
      obtain ⟨rs, rfl⟩ := nameD_some hn
      obtain ⟨t, xs, rfl, hT, hA⟩ := dp_tupOf hd
      obtain _ | ⟨h1, hA'⟩ := id hA
      rename_i x1 xr
      cases h1
      have hl := dpAll_len hA
      have hfa : fineAll (PyData.str nm :: rs) = true := hf
      have e0 : instrB S (.tuple (.str nm :: rs)) = (match ckOf nm with | some ck => ck.B S (.str nm :: rs) | none => false) := rfl
      rw [e0] at k k0
      have ei : optIn (some nm) ckNames = decide (nm ∈ ckNames) := rfl
      cases hck : ckOf nm with
      | none =>
        rw [hck] at k0
        rw [ei, decide_eq_false (ckOf_none hck)]
        exact ⟨_, rfl, iteT k0⟩
      | some ck =>
        rw [hck] at k k0
        obtain ⟨he, rfl⟩ := ckOf_some hck
        rw [ei, decide_eq_true (ck_in he)]
        refine ⟨_, rfl, iteF ?_⟩
        refine ⟨_, rfl, t, _, rfl, .inr hT, _, rfl, dS, ck.nm, _, rfl, rfl, cS ck he, rfl, _, rfl, ?_⟩
        have hl2 : (V.str ck.nm :: xr).length = (PyData.str ck.nm :: rs).length := hl
        by_cases hln : (PyData.str ck.nm :: rs).length = ck.len
        · refine iteNS (by rw [hl2, hln]) ?_
          refine ⟨_, rfl, dC, ck.nm, _, rfl, rfl, cC ck he, ?_⟩
          exact ⟨_, _, rfl, ⟨ck, he, rfl, rfl⟩, _, rfl, _, rfl, t, _, _, _, _, _, _, S, _, _, rfl, hS, hT, hA, hfa, hln, k⟩
        · refine iteNN (fun q => hln (by injection q with q; omega)) ?_
          have e3 : ck.B S (.str ck.nm :: rs) = false := ck_len ck he S _ hln
          have k1 : Q (V.bl (ck.B S (.str ck.nm :: rs))) H := k0
          rw [e3] at k1
          exact k1
end
end Pl

namespace L2
open PySem PySem.Spec PyProof.Rows
/-- for x in v, v a list or a tuple -/
def iSeqA (K : PySem.W.Frag) (tl : TE) : TI := fun σ H R => tl σ H fun x H1 => ∃ a xs, x = .ref a ∧ ((SqL K H1 a xs ∧ R (Itl K a) H1) ∨ (SqT K H1 a xs ∧ R (Itt K a) H1))
theorem pi_seqA {X : Cx} {tg l : Expr} {tl : TE} (hl : PE X l tl) : PI X tg l (iSeqA X.K tl) := by
  refine ⟨fun pins s σ H R I h => thn (hl.run pins s σ H _ I h) fun v s1 ⟨x, H1, I1, r1, a, xs, ex, q⟩ => ?_⟩
  subst ex
  obtain rfl : v = Value.ref a := r1
  have fresh : ∀ b ∈ [s1.heap.objs.size], FpOk X pins H1 b := fun b hb => by
    rw [List.mem_singleton.mp hb]
    exact I1.fpOk (Nat.le_refl _) (I1.hok.fresh (Nat.le_refl _))
  rcases q with ⟨hq, q⟩ | ⟨hq, q⟩
  · have ⟨its, rv, pl, _⟩ := I1.list hq
    refine wpAny_pyIter_list pl.isList ⟨s1.heap.objs.size, [s1.heap.objs.size], _, _, H1, rfl, I1.kept (t' := s1.toks) fun b o e => Heap.get?_push_of_some _ e, turn_list a _, ⟨_, Heap.get?_push_size _ rfl, rfl, rfl⟩, fresh, q⟩
  · have ⟨its, rv, pl, _⟩ := I1.tuple hq
    refine wpAny_pyIter_tuple (show s1.heap.IsTuple a its.toArray from pl) ⟨s1.heap.objs.size, [s1.heap.objs.size], _, _, H1, rfl, I1.kept (t' := s1.toks) fun b o e => Heap.get?_push_of_some _ e, turn_tuple a _, ⟨_, Heap.get?_push_size _ rfl, rfl, rfl⟩, fresh, q⟩
end L2
namespace Pl
open PySem PySem.Spec PyProof.Rows L2
structure MethX (K : PySem.W.Frag) (C : Addr) (m qual : Str) (s : Stmt) (ps : List Str) (f : Addr) (fd : FuncData) : Prop where
  M : Meth K C m f
  F : Fun K m qual s f fd
  b : Binds K fd ps []
/-! ### InvalidPlan -/
abbrev veT : List Value := [.type "ValueError", .type "Exception", .type "BaseException", .type "object"]
theorem abVE : PySem.Er.Above "ValueError" veT := ⟨by decide +kernel, by decide +kernel, by decide +kernel⟩
theorem iniVE : PySem.Er.IniB "ValueError" "ValueError.__init__" := .of PySem.F.excCall_ValueError
structure WorkC (K : PySem.W.Frag) (mg : Str → Option Value) (W0 : Addr) : Prop where
  mg : mg "WorkError" = some (.ref W0)
  sp : PySem.W.specialIn K (.ref W0) "__getattribute__" = some (some (.builtin "type.__getattribute__"))
  rd : PySem.W.readsIn K W0 (.type "type") = true
  fc : PySem.W.findCls K (.ref W0) (.type "type") "__init__" = some (.val (.builtin "ValueError.__init__"))
/-- what an InvalidPlan may tell -/
def PartOk (y : V) : Prop := (∃ z : Str, y = .str z ∧ z.length ≤ 100) ∨ ∃ i : Int, y = .int i ∧ i.natAbs ≤ 100
structure ErX (K : PySem.W.Frag) (mg : Str → Option Value) (C W0 fI : Addr) (fdI : FuncData) : Prop where
  er : ErC K C "ValueError" "ValueError.__new__" veT
  ty : PySem.W.typeIn K (.ref C) = some (.type "type")
  mgC : mg "InvalidPlan" = some (.ref C)
  iC : PySem.W.findIn K (.ref C) "__init__" = some (some (.ref fI))
  tI : PySem.W.typeIn K (.ref fI) = some (.type "function")
  F : Fun K "__init__" "InvalidPlan.__init__" sInitE fI fdI
  b : Binds K fdI ["self", "part"] []
  ht : PySem.W.takerIn K C "part" = some none
  wk : WorkC K mg W0
theorem scInitE : FnScope ["self", "part"] ["self", "part"] (defScope sInitE) := ⟨rfl, rfl, rfl, by decide +kernel, rfl, by decide +kernel, by decide +kernel⟩
section
variable {P : Program} {w : World} {K : PySem.W.Frag} {mg : Str → Option Value} {base : Heap} {f fw : Addr} {fd fdw : FuncData}
theorem ok_initE {C W0 fI : Addr} {fdI : FuncData} (T : ErX K mg C W0 fI fdI) : FnOk P w K mg base CX0 1 fI fdI ["self", "part"] (spErr C "part" fun y _ => PartOk y) := by
  refine T.F.ok scInitE (fun vs H Q E h => ?_) (fun cdv A outer s H vs Q E hr h => ?_)
  · obtain ⟨a, y, rfl, _⟩ := h
    rfl
  · obtain ⟨a, y, rfl, ea, hy, q⟩ := h
    refine ⟨_, pss_cons (ps_expr (pe_eri T.er iniVE (by rfl) T.wk.mg T.wk.sp T.wk.rd T.wk.fc (by decide +kernel) (pa_cons (pv 0) (pa_cons (pe_joined (PJ.cons pe_str (PJ.cons (pe_fmtO (pv 1)) PJ.nil))) pa_nil)))) (pss_one (ps_ers T.er PySem.F.store_ValueError T.ht (pv 0) (pv 1))), ?_⟩
    refine ⟨_, rfl, _, rfl, by size_fits, _, rfl, ?_⟩
    have l12 : (Str.empty ++ Str.ofString "not a plan: ").length = 12 := by decide +kernel
    rcases hy with ⟨z, rfl, hz⟩ | ⟨i, rfl, hi⟩
    · refine .inr (.inl ⟨z, rfl, by rw [sizeLine_eq]; omega, _, rfl, by rw [strLen_append, sizeLine_eq, l12]; omega, a, [_], rfl, Nat.le_of_ble_eq_true rfl, ea, ?_⟩)
      exact ⟨_, rfl, _, rfl, a, rfl, ea, fun dx h1 h2 => q dx h1 h2⟩
    · have lg : i.natAbs.log2 < 1920 := by
        rcases Nat.eq_zero_or_pos i.natAbs with h0 | h0
        · rw [h0]; decide
        · have h1 := Nat.log2_self_le (n := i.natAbs) (by omega)
          rcases Nat.lt_or_ge i.natAbs.log2 1920 with h2 | h2
          · exact h2
          · have h3 : 2 ^ 7 ≤ 2 ^ i.natAbs.log2 := Nat.pow_le_pow_right (by decide) (by omega)
            omega
      refine .inr (.inr ⟨i, rfl, lg, _, rfl, ?_, a, [_], rfl, Nat.le_of_ble_eq_true rfl, ea, ?_⟩)
      · have small : ∀ j : Fin 201, (Str.ofString (toString ((j.val : Int) - 100))).length ≤ 10 := by decide +kernel
        have h1 := small ⟨(i + 100).toNat, by omega⟩
        have e1 : (((i + 100).toNat : Nat) : Int) - 100 = i := by omega
        rw [show ((⟨(i + 100).toNat, by omega⟩ : Fin 201).val : Int) - 100 = i from e1] at h1
        rw [strLen_append, sizeLine_eq, l12]
        omega
      · exact ⟨_, rfl, _, rfl, a, rfl, ea, fun dx h1 h2 => q dx h1 h2⟩
end
/-! ### arguments -/
def argumentsL (ds : List PyData) : Bool := decide (ds.length ≤ 3) && ds.all wordD && decide (strsOf ds).Nodup
def argumentsB : PyData → Bool
  | .list ds => argumentsL ds
  | .tuple ds => argumentsL ds
  | _ => false
def seqD : PyData → Bool
  | .list _ => true
  | .tuple _ => true
  | _ => false
theorem seq_kit {K : PySem.W.Frag} (d : PyData) : PySem.W.kitAny K (.type (tyN d)) [.type "list", .type "tuple"] = some (seqD d) := by
  refine kitAny_cons (kit_ty (isB_list d)) (fun h => kitAny_cons (kit_ty (isB_tuple d)) (fun h2 => ?_) (fun h2 => ?_)) (fun h => ?_)
  · cases d <;> first | exact kitAny_nil | exact Bool.noConfusion h | exact Bool.noConfusion h2
  · cases d <;> first | rfl | exact Bool.noConfusion h2
  · cases d <;> first | rfl | exact Bool.noConfusion h
/-- data of a list or a tuple -/
theorem dp_seqOf {K : PySem.W.Frag} {H : Hp} {v : V} {d : PyData} (h : Dp K H v d) (s : seqD d = true) : ∃ u ys es, v = .ref u ∧ (SqL K H u ys ∨ SqT K H u ys) ∧ DpAll K H ys es ∧ (d = .list es ∨ d = .tuple es) := by
  cases h with
  | lst h q => exact ⟨_, _, _, rfl, .inl h, q, .inl rfl⟩
  | tup h q => exact ⟨_, _, _, rfl, .inr h, q, .inr rfl⟩
  | _ => exact Bool.noConfusion s
theorem strsOf_words : ∀ {ds : List PyData}, ds.all wordD = true → ds = (strsOf ds).map PyData.str
  | [], _ => rfl
  | d :: ds, h => by
    rw [List.all_cons, Bool.and_eq_true] at h
    cases d with
    | str z =>
      have ih := strsOf_words h.2
      show _ = PyData.str z :: (strsOf ds).map PyData.str
      rw [← ih]
    | _ => exact Bool.noConfusion h.1
def spArgs (K : PySem.W.Frag) : Sp := fun vs H Q _ => ∃ (v : V) (d : PyData), vs = [v] ∧ Dp K H v d ∧ fine d = true ∧ ∀ H', Same H H' → Q (.bl (argumentsB d)) H'
theorem scArgs : FnScope ["value", "word"] ["value"] (defScope sArgs) := ⟨rfl, rfl, rfl, by decide +kernel, rfl, by decide +kernel, by decide +kernel⟩
structure TxP (mg : Str → Option Value) : Prop where
  args : ∃ t, mg "MOST_ARGUMENTS" = some (.int 3 t)
  instr : ∃ t, mg "MOST_INSTRUCTIONS" = some (.int 24 t)
theorem Same.seqA {K : PySem.W.Frag} {H H' : Hp} {u : Addr} {ys : List V} (e : Same H H') (h : SqL K H u ys ∨ SqT K H u ys) : SqL K H' u ys ∨ SqT K H' u ys := h.imp (fun q => e.seq q) (fun q => Same.tup e q)
section
variable {P : Program} {w : World} {K : PySem.W.Frag} {mg : Str → Option Value} {base : Heap} {f fw : Addr} {fd fdw : FuncData}
theorem ok_args (F : Fun K "_are_arguments" "_are_arguments" sArgs f fd) (T : Tx mg) (N : TxP mg) (WX : DefX K mg "is_word" sWord ["value"] fw fdw) (GW : FnOk P w K mg base CX0 2 fw fdw ["value"] (spWord K)) : FnOk P w K mg base CX0 3 f fd ["value"] (spArgs K) := by
  obtain ⟨ta, ha⟩ := N.args
  refine F.ok scArgs (fun vs H Q E h => ?_) (fun cdv A outer s H vs Q E hr h => ?_)
  · obtain ⟨v, d, rfl, _⟩ := h
    rfl
  · obtain ⟨v, d, rfl, hd, hf, k⟩ := h
    refine ⟨_, pss_cons (ps_if (PW.pt (pw_or (pt_not (pt_val (pe_callB call_isiT (by rfl) T.isi (by decide +kernel) (pa_cons (pv 0) (pa_cons (pe_tup (pa_cons (pe_bltn (v := .ty "list") (by rfl) T.list (by decide +kernel) rfl) (pa_cons (pe_bltn (v := .ty "tuple") (by rfl) T.tuple (by decide +kernel) rfl) pa_nil))) pa_nil)))))
        (pw_or1 (pt_cmpR op_gt (pe_callB call_len_seq (by rfl) T.len (by decide +kernel) (pa_cons (pv 0) pa_nil)) (pe_glob (v := .int 3) rfl ha ⟨_, rfl⟩) (nomark _))))) (pss_one (ps_ret pe_bl)) pss_nil)
      (pss_one (ps_ret (pe_and (pe_callB (cr_all rfl) (by rfl) T.all (by decide +kernel) (pa_cons
        (pe_lc (own := [("word", 1)]) (g := gName 1) (tt := tYes) (by rfl) scArgs.nd (pi_seqA (pv 0)) (blkOk_by (own := [("word", 1)]) (N := ["value", "word"]) (sc := defScope sArgs) (by decide +kernel))
          (fun _ _ _ _ _ => pg_name (i := 1) scArgs.nd rfl (Or.inl rfl)) (fun _ _ _ _ _ => pts_nil) (fun _ _ _ _ _ => pe_call GW hr (by rfl) WX.mg WX.F.kp WX.b .nil pass0 (pa_cons (pv 1) pa_nil))) pa_nil))
        (pe_one (pe_cmpR op_eq (pe_callB Sx.cr_lenSet (by rfl) T.len (by decide +kernel) (pa_cons (pe_callTy (Sx.cr_setOf rfl) (by rfl) T.set (by decide +kernel) (pa_cons (pv 0) pa_nil)) pa_nil))
          (pe_callB call_len_seq (by rfl) T.len (by decide +kernel) (pa_cons (pv 0) pa_nil)) (nomark _)))))), ?_⟩
    refine ⟨_, rfl, two_size _ _, fun B1 hB1 => ?_⟩
    have sB := same_upd (o := HO.tup [V.ty "list", V.ty "tuple"]) hB1
    have hd1 := dp_same sB hd
    refine ⟨_, B1, _, _, _, _, rfl, upd_same, .cons (.ty "list") (.cons (.ty "tuple") .nil), dp_ty hd1, seq_kit d, ?_⟩
    have k : ∀ H', Same (upd H B1 (.tup [V.ty "list", V.ty "tuple"])) H' → Q (.bl (argumentsB d)) H' := fun H' sm => k H' (sB.trans sm)
    generalize upd H B1 _ = H1 at hd1 k ⊢
    refine ⟨_, rfl, ?_⟩
    have k0 := k H1 (fun _ _ q => q)
    refine ite_n (fun c1 => ?_) (fun c1 => ?_)
    · have e1 : argumentsB d = false := by cases d <;> first | rfl | exact Bool.noConfusion c1
      rw [e1] at k0
      exact k0
    obtain ⟨u, ys, es, rfl, hq, hA, hde⟩ := dp_seqOf hd1 c1
    have eB : argumentsB d = argumentsL es := by rcases hde with rfl | rfl <;> rfl
    have fe : fineAll es = true := by rcases hde with rfl | rfl <;> exact hf
    rw [eB] at k k0
    have ly := dpAll_len hA
    refine ⟨_, rfl, u, ys, rfl, hq, _, _, rfl, rfl, _, rfl, ?_⟩
    refine ite_b (fun c2 => ?_) (fun c2 => ?_)
    · have g2 := of_decide_eq_true c2
      unfold argumentsL at k0
      rw [decide_eq_false (show ¬ es.length ≤ 3 by omega), Bool.false_and, Bool.false_and] at k0
      exact k0
    have g2 := of_decide_eq_false c2
    have eL : argumentsL es = (es.all wordD && decide (strsOf es).Nodup) := by
      unfold argumentsL
      rw [decide_eq_true (show es.length ≤ 3 by omega), Bool.true_and]
    rw [eL] at k
    rcases hq with hq | hq
    · refine ⟨_, rfl, u, ys, rfl, .inl ⟨hq, fun D hD => lc_list (xs := ys) (fun j H' => Same H1 H' ∧ H' D = some (.lst ((es.take j).map fun d => V.bl (wordD d)))) ⟨same_upd hD, upd_same⟩ (fun j H' _ q => q.1.seq hq) ?_ ?_⟩⟩
      · rintro j x H' hx ⟨p1, p2⟩
        refine ⟨rfl, ?_⟩
        unfold tYes
        refine iteT ?_
        obtain ⟨d, hdj, hdx⟩ := dpAll_at hA j x hx
        refine ⟨_, rfl, x, d, rfl, dp_same p1 hdx, fine_mem fe d (List.mem_of_getElem? hdj), fun H3 sm => ?_⟩
        refine ⟨_, sm _ _ p2, ?_, ?_, ?_⟩
        · rw [List.length_map, List.length_take, sizeLine_eq]
          omega
        · intro b o q
          rw [upd_ne (ne_of_none q hD)]
          exact sm _ _ (p1 b o q)
        · rw [upd_same, List.take_succ, hdj, List.map_append]
          rfl
      · rintro H' ⟨p1, p2⟩
        rw [show es.take ys.length = es from by rw [ly, List.take_length]] at p2
        refine ⟨D, es.map wordD, rfl, SqL.of (by rw [p2, List.map_map]; rfl), ?_⟩
        rw [all_taken]
        have hq2 := Same.seqA (K := K) p1 (.inl hq)
        have kk := k H' p1
        refine ⟨_, rfl, ite_b (fun c4 => ?_) (fun c4 => ?_)⟩
        · rw [c4, Bool.true_and] at k
          have es1 := strsOf_words c4
          have ex : ys = (strsOf es).map V.str := dpAll_strs hA es1
          have lz : (strsOf es).length = ys.length := by rw [ex, List.length_map]
          refine ⟨_, rfl, u, strsOf es, rfl, by rw [← ex]; exact hq2, by omega, fun p hp => ?_⟩
          refine ⟨p, _, rfl, upd_same, _, rfl, u, ys, rfl, Same.seqA (same_upd hp) hq2, rfl, ?_⟩
          have e5 : decide (V.int ((Sx.ded (strsOf es)).length : Nat) = V.int (ys.length : Nat)) = decide (strsOf es).Nodup := by
            rw [Bool.eq_iff_iff, decide_eq_true_iff, decide_eq_true_iff, ← Sx.len_ded_iff]
            constructor
            · intro q
              injection q with q
              omega
            · intro q
              rw [q, lz]
          have kf := k (upd H' p (Sx.SetT P w p (Sx.ded (strsOf es)))) (p1.trans (same_upd hp))
          rw [← e5] at kf
          exact kf
        · rw [c4, Bool.false_and] at kk
          exact kk
    · refine ⟨_, rfl, u, ys, rfl, .inr ⟨hq, fun D hD => lc_tup (xs := ys) (fun j H' => Same H1 H' ∧ H' D = some (.lst ((es.take j).map fun d => V.bl (wordD d)))) ⟨same_upd hD, upd_same⟩ (fun j H' _ q => Same.tup q.1 hq) ?_ ?_⟩⟩
      · rintro j x H' hx ⟨p1, p2⟩
        refine ⟨rfl, ?_⟩
        unfold tYes
        refine iteT ?_
        obtain ⟨d, hdj, hdx⟩ := dpAll_at hA j x hx
        refine ⟨_, rfl, x, d, rfl, dp_same p1 hdx, fine_mem fe d (List.mem_of_getElem? hdj), fun H3 sm => ?_⟩
        refine ⟨_, sm _ _ p2, ?_, ?_, ?_⟩
        · rw [List.length_map, List.length_take, sizeLine_eq]
          omega
        · intro b o q
          rw [upd_ne (ne_of_none q hD)]
          exact sm _ _ (p1 b o q)
        · rw [upd_same, List.take_succ, hdj, List.map_append]
          rfl
      · rintro H' ⟨p1, p2⟩
        rw [show es.take ys.length = es from by rw [ly, List.take_length]] at p2
        refine ⟨D, es.map wordD, rfl, SqL.of (by rw [p2, List.map_map]; rfl), ?_⟩
        rw [all_taken]
        have hq2 := Same.seqA (K := K) p1 (.inr hq)
        have kk := k H' p1
        refine ⟨_, rfl, ite_b (fun c4 => ?_) (fun c4 => ?_)⟩
        · rw [c4, Bool.true_and] at k
          have es1 := strsOf_words c4
          have ex : ys = (strsOf es).map V.str := dpAll_strs hA es1
          have lz : (strsOf es).length = ys.length := by rw [ex, List.length_map]
          refine ⟨_, rfl, u, strsOf es, rfl, by rw [← ex]; exact hq2, by omega, fun p hp => ?_⟩
          refine ⟨p, _, rfl, upd_same, _, rfl, u, ys, rfl, Same.seqA (same_upd hp) hq2, rfl, ?_⟩
          have e5 : decide (V.int ((Sx.ded (strsOf es)).length : Nat) = V.int (ys.length : Nat)) = decide (strsOf es).Nodup := by
            rw [Bool.eq_iff_iff, decide_eq_true_iff, decide_eq_true_iff, ← Sx.len_ded_iff]
            constructor
            · intro q
              injection q with q
              omega
            · intro q
              rw [q, lz]
          have kf := k (upd H' p (Sx.SetT P w p (Sx.ded (strsOf es)))) (p1.trans (same_upd hp))
          rw [← e5] at kf
          exact kf
        · rw [c4, Bool.false_and] at kk
          exact kk
end
end Pl

namespace Pl
open PySem PySem.Spec PyProof.Rows L2
def leastOf : List Int → Int
  | [] => 0
  | [x] => x
  | x :: y :: xs => min x (leastOf (y :: xs))
theorem leastOf_mem : ∀ {l : List Int}, l ≠ [] → leastOf l ∈ l ∧ ∀ y ∈ l, leastOf l ≤ y
  | [], h => absurd rfl h
  | [x], _ => ⟨List.mem_singleton.mpr rfl, fun y hy => by rw [List.mem_singleton.mp hy]; exact Int.le_refl _⟩
  | x :: y :: xs, _ => by
    have ih := leastOf_mem (l := y :: xs) (by simp)
    have e : leastOf (x :: y :: xs) = min x (leastOf (y :: xs)) := rfl
    rw [e]
    constructor
    · rcases Int.le_total x (leastOf (y :: xs)) with h | h
      · rw [Int.min_eq_left h]
        exact List.mem_cons_self
      · rw [Int.min_eq_right h]
        exact List.mem_cons_of_mem _ ih.1
    · intro z hz
      rcases List.mem_cons.mp hz with rfl | hz
      · exact Int.min_le_left _ _
      · exact Int.le_trans (Int.min_le_right _ _) (ih.2 z hz)
/-- the least end behind an index -/
def endAt (ends : List Int) (i : Int) : Int := leastOf (ends.filter fun x => decide (i < x))
theorem roomIs {ends : List Int} {i : Int} (h : ∃ x ∈ ends, i < x) : RoomIs ends i (endAt ends i) := by
  obtain ⟨x, hx, hi⟩ := h
  have ne : (ends.filter fun x => decide (i < x)) ≠ [] := fun q => by
    have : x ∈ ends.filter fun x => decide (i < x) := List.mem_filter.mpr ⟨hx, decide_eq_true hi⟩
    rw [q] at this
    simp at this
  obtain ⟨h1, h2⟩ := leastOf_mem ne
  have h3 := List.mem_filter.mp h1
  exact ⟨h3.1, of_decide_eq_true h3.2, fun y hy hiy => h2 y (List.mem_filter.mpr ⟨hy, decide_eq_true hiy⟩)⟩
def itemsOf : PyData → List PyData
  | .tuple ds => ds
  | _ => []
def entered (S : Sc) (i : Int) : Sc := { S with room := endAt S.ends i - i - 1 }
/-- the scope behind a body, or the index of its first wrong instruction -/
def bodyB (S : Sc) (i : Nat) : List PyData → Except Nat Sc
  | [] => .ok S
  | d :: ds => if instrB (entered S i) d = true then bodyB (leaveS (entered S i) i (itemsOf d)) (i + 1) ds else .error i
theorem scChecked : FnScope ["arguments", "body", "scope", "at", "instruction"] ["arguments", "body"] (defScope sChecked) := ⟨rfl, rfl, rfl, by decide +kernel, rfl, by decide +kernel, by decide +kernel⟩
/-- InvalidPlan(y) is raised -/
def Fails (CP : Addr) (H : Hp) (y : V) (E : XK) : Prop := ∀ H' d, Same H H' → H d = none → H' d = some (.xd [("part", y)]) → E (.ref CP) (some d) H'
def spChecked (K : PySem.W.Frag) (C CP : Addr) : Sp := fun vs H Q E => ∃ (g b : Addr) (args : List Str) (xs : List V) (ds : List PyData), vs = [.ref g, .ref b] ∧ SqT K H g (args.map V.str) ∧ SqT K H b xs ∧ DpAll K H xs ds ∧ fineAll ds = true ∧ ds.length ≤ 24 ∧
  (∀ S', bodyB (scNew args ds.length) 0 ds = .ok S' → ∀ H' r dx n c e, Same H H' → ScAt K C r S' H' dx g n c e → Q (.ref r) H') ∧ (∀ i, bodyB (scNew args ds.length) 0 ds = .error i → Fails CP H (.int (i : Nat)) E)
theorem set_shape {S : Sc} {ds : List PyData} (h : setB S ds = true) : ∃ a z x, ds = [a, .str z, x] := by
  unfold setB at h
  split at h
  · rename_i a v x
    rw [Bool.and_eq_true] at h
    have h1 := h.1
    unfold varB at h1
    rw [Bool.and_eq_true] at h1
    cases v <;> first | exact Bool.noConfusion h1.1 | exact ⟨_, _, _, rfl⟩
  · exact Bool.noConfusion h
theorem call_shape {S : Sc} {ds : List PyData} (h : callB S ds = true) : ∃ a z p es, ds = [a, .str z, p, es] := by
  unfold callB at h
  split at h
  · rename_i a v p es
    rw [Bool.and_eq_true, Bool.and_eq_true] at h
    have h1 := h.1.1
    unfold varB at h1
    rw [Bool.and_eq_true] at h1
    cases v <;> first | exact Bool.noConfusion h1.1 | exact ⟨_, _, _, _, rfl⟩
  · exact Bool.noConfusion h
theorem block_shape {S : Sc} {ds : List PyData} (h : blockB S ds = true) : ∃ a x m, ds = [a, x, .int m] := by
  unfold blockB at h
  split at h
  · rename_i a x n
    rw [Bool.and_eq_true] at h
    have h1 := h.2
    cases n <;> first | exact Bool.noConfusion h1 | exact ⟨_, _, _, rfl⟩
  · exact Bool.noConfusion h
/-- what valid instructions have -/
theorem leaves_of {S : Sc} {d : PyData} (h : instrB S d = true) : ∃ ds, d = .tuple ds ∧ Leaves ds := by
  cases d <;> first | exact Bool.noConfusion h | skip
  rename_i ds
  refine ⟨ds, rfl, ?_⟩
  have h' : partsB S ds = true := h
  cases ds with
  | nil => exact Bool.noConfusion h'
  | cons d1 rs =>
    cases d1 <;> first | exact Bool.noConfusion h' | skip
    rename_i nm
    have e2 : partsB S (.str nm :: rs) = (match ckOf nm with | some e => e.B S (.str nm :: rs) | none => false) := rfl
    rw [e2] at h'
    have enm : strAt (.str nm :: rs) 0 = nm := rfl
    cases hck : ckOf nm with
    | none => rw [hck] at h'; exact Bool.noConfusion h'
    | some ck =>
      rw [hck] at h'
      obtain ⟨he, rfl⟩ := ckOf_some hck
      have h2 : ck.B S (.str ck.nm :: rs) = true := h'
      clear h' e2 hck
      simp only [ckTab, List.mem_cons, List.not_mem_nil, or_false] at he
      have no : ∀ {z : Str} {l : List Str} {p : Prop}, decide (z ∈ l) = false → z ∈ l → p := fun h m => absurd m (of_decide_eq_false h)
      rcases he with rfl | rfl | rfl | rfl | rfl | rfl | rfl | rfl | rfl | rfl
      · exact ⟨⟨_, rfl⟩, fun m => no (by decide +kernel) (enm ▸ m), fun m => no (by decide +kernel) (enm ▸ m)⟩
      · obtain ⟨a, z, x, e⟩ := set_shape h2
        exact ⟨⟨_, rfl⟩, fun _ => ⟨z, by rw [e]; rfl⟩, fun m => no (by decide +kernel) (enm ▸ m)⟩
      · exact ⟨⟨_, rfl⟩, fun m => no (by decide +kernel) (enm ▸ m), fun m => no (by decide +kernel) (enm ▸ m)⟩
      · obtain ⟨a, z, p, es, e⟩ := call_shape h2
        exact ⟨⟨_, rfl⟩, fun _ => ⟨z, by rw [e]; rfl⟩, fun m => no (by decide +kernel) (enm ▸ m)⟩
      · exact ⟨⟨_, rfl⟩, fun m => no (by decide +kernel) (enm ▸ m), fun m => no (by decide +kernel) (enm ▸ m)⟩
      · exact ⟨⟨_, rfl⟩, fun m => no (by decide +kernel) (enm ▸ m), fun m => no (by decide +kernel) (enm ▸ m)⟩
      · exact ⟨⟨_, rfl⟩, fun m => no (by decide +kernel) (enm ▸ m), fun m => no (by decide +kernel) (enm ▸ m)⟩
      · exact ⟨⟨_, rfl⟩, fun m => no (by decide +kernel) (enm ▸ m), fun m => no (by decide +kernel) (enm ▸ m)⟩
      · obtain ⟨a, x, m, e⟩ := block_shape h2
        exact ⟨⟨_, rfl⟩, fun m => no (by decide +kernel) (enm ▸ m), fun _ => ⟨m, by rw [e]; rfl⟩⟩
      · obtain ⟨a, x, m, e⟩ := block_shape h2
        exact ⟨⟨_, rfl⟩, fun m => no (by decide +kernel) (enm ▸ m), fun _ => ⟨m, by rw [e]; rfl⟩⟩
/-! ### _checked_scope -/
/-- the class Scope as it stands -/
structure ScM (K : PySem.W.Frag) (mg : Str → Option Value) (C : Addr) (f : Nat → Addr) (fd : Nat → FuncData) : Prop where
  X : ScX K mg C
  makes : Mk K C (f 0)
  iF : Fun K "__init__" "Scope.__init__" sScInit (f 0) (fd 0)
  ib : Binds K (fd 0) ["self", "arguments", "length"] []
  enter : MethX K C "enter" "Scope.enter" sEnter ["self", "at"] (f 1) (fd 1)
  leave : MethX K C "leave" "Scope.leave" sLeave ["self", "at", "instruction"] (f 2) (fd 2)
  eob : DefX K mg "end_of_block" sEnd ["instruction", "at"] (f 26) (fd 26)
/-- how the scope grows: the ends, the names -/
theorem grows (S : Sc) (i : Int) (ds : List PyData) : (leaveS S i ds).named.length ≤ S.named.length + 1 ∧ (leaveS S i ds).called.length ≤ S.called.length + 1 ∧ (leaveS S i ds).ends.length ≤ S.ends.length + 1 ∧ ∀ x ∈ S.ends, x ∈ (leaveS S i ds).ends := by
  unfold leaveS
  refine ⟨?_, ?_, ?_, ?_⟩
  · dsimp only; split
    · rw [List.length_append]; simp
    · omega
  · dsimp only; split
    · rw [List.length_append]; simp
    · omega
  · dsimp only; split
    · rw [List.length_append]; simp
    · omega
  · intro x hx
    dsimp only; split
    · exact List.mem_append_left _ hx
    · exact hx
section
variable {P : Program} {w : World} {K : PySem.W.Frag} {mg : Str → Option Value} {base : Heap} {C CP W0 fE fc fin : Addr} {fdE fdc fdin : FuncData} {f : Nat → Addr} {fd : Nat → FuncData}
theorem ok_checked (F : Fun K "_checked_scope" "_checked_scope" sChecked fc fdc) (T : Tx mg) (B : TxB K mg) (M : ScM K mg C f fd) (X : ErX K mg CP W0 fE fdE) (IX : DefX K mg "is_instruction" sInstr ["value", "scope"] fin fdin)
    (GI : FnOk P w K mg base CX0 17 fin fdin ["value", "scope"] (spVal K C instrB)) : FnOk P w K mg base (L2.CX P w) 18 fc fdc ["arguments", "body"] (spChecked K C CP) := by
  have G0 : FnOk P w K mg base CX0 1 _ _ ["self", "arguments", "length"] (spScInit K C) := ok_scInit M.iF M.X
  have G1 : FnOk P w K mg base CX0 1 _ _ ["self", "at"] (spEnter K C) := ok_enter M.enter.F T M.X
  have G2 : FnOk P w K mg base CX0 2 _ _ ["self", "at", "instruction"] (spLeave K C) := ok_leave M.leave.F T B M.X M.eob
  have GE : FnOk P w K mg base CX0 1 fE fdE ["self", "part"] (spErr CP "part" fun y _ => PartOk y) := ok_initE X
  refine F.okX scChecked (fun vs H Q E h => ?_) (fun cdv A outer s H vs Q E hr h => ?_)
  · obtain ⟨g, b, args, xs, ds, rfl, _⟩ := h
    rfl
  · obtain ⟨g, b, args, xs, ds, rfl, hG, hB, hA, hf, h24, kok, kerr⟩ := h
    have hr1 : Room 1 _ := hr.mono (by decide)
    have hr2 : Room 2 _ := hr.mono (by decide)
    refine ⟨_, pss_cons (ps_set (i := 2) scChecked.nd rfl (Or.inl rfl) (pe_make M.makes G0 hr2 (by rfl) M.X.mgC M.ib .nil pass0 (pa_cons (pv 0) (pa_cons (pe_callB call_len_seq (by rfl) T.len (by decide +kernel) (pa_cons (pv 1) pa_nil)) pa_nil))))
      (pss_cons (ps_for (passes_of rfl) rfl (Sx.pi_enumT (by rfl) T.enum (pa_cons (pv 1) pa_nil)) (pg_tup (by rfl) (pgs_cons (pg_name (i := 3) scChecked.nd rfl (Or.inl rfl)) (pgs_cons (pg_name (i := 4) scChecked.nd rfl (Or.inl rfl)) pgs_nil)))
        (pss_cons (ps_expr (pe_meth (pv 2) M.X.cls M.enter.M G1 hr1 M.enter.b .nil pass0 (pa_cons (pv 3) pa_nil)))
        (pss_cons (ps_if (pt_not (pt_val (pe_call GI (hr.mono (by decide)) (by rfl) IX.mg IX.F.kp IX.b .nil pass0 (pa_cons (pv 4) (pa_cons (pv 2) pa_nil)))))
          (pss_one (ps_raise rfl (takes_of rfl rfl rfl rfl) (pmk_err X.er X.ty PySem.F.excBase_ValueError abVE X.iC X.tI GE hr2 X.b (by rfl) X.mgC (pa_cons (pv 3) pa_nil)))) pss_nil)
        (pss_one (ps_expr (pe_meth (pv 2) M.X.cls M.leave.M G2 hr2 M.leave.b .nil pass0 (pa_cons (pv 3) (pa_cons (pv 4) pa_nil))))))))
      (pss_one (ps_ret (pv 2)))), ?_⟩
    have hl := dpAll_len hA
    refine ⟨_, rfl, _, rfl, b, xs, rfl, .inr hB, fun r dx hr0 hdx0 hne => ?_⟩
    have sN : Same H (upd (upd H dx (.own r)) r (.ins C dx [])) := (same_upd hdx0).trans (same_upd (by rw [upd_ne (Ne.symm hne)]; exact hr0))
    refine ⟨r, g, dx, args, (xs.length : Int), rfl, upd_same, Same.tup sN hG, fun H1 n c e old hn hc he hS => ⟨rfl, ?_⟩⟩
    have nr : n ≠ r := fun z => by rw [z, upd_same] at hn; cases hn
    have cr : c ≠ r := fun z => by rw [z, upd_same] at hc; cases hc
    have er : e ≠ r := fun z => by rw [z, upd_same] at he; cases he
    have none0 : ∀ {q : Addr}, q ≠ r → upd (upd H dx (.own r)) r (.ins C dx []) q = none → H q = none := fun {q} qr h => by
      cases hq : H q with
      | none => rfl
      | some o => rw [sN _ _ hq] at h; cases h
    have hn0 := none0 nr hn
    have hc0 := none0 cr hc
    have he0 := none0 er he
    have sm1 : Same H H1 := fun q o hq => old q (ne_of_none hq hr0) o (sN _ _ hq)
    have offS : ∀ {Ha Hb : Hp}, Same H Ha → Off4 r n c e Ha Hb → Same H Hb := fun s o4 q o hq => o4 q o (ne_of_none hq hr0) (ne_of_none hq hn0) (ne_of_none hq hc0) (ne_of_none hq he0) (s q o hq)
    rw [hl] at hS
    refine ⟨_, rfl, b, xs, rfl, Same.tup sm1 hB, Sx.for_enumT (xs := xs) (fun i σ H' => ∃ (S : Sc) (v3 v4 : Option V), σ = [some (.ref g), some (.ref b), some (.ref r), v3, v4] ∧ Same H H' ∧ ScAt K C r S H' dx g n c e ∧
      bodyB (scNew args ds.length) 0 ds = bodyB S i (ds.drop i) ∧ S.named.length ≤ i ∧ S.called.length ≤ i ∧ S.ends.length ≤ i + 1 ∧ (ds.length : Int) ∈ S.ends) ⟨_, _, _, rfl, sm1, hS, rfl, Nat.zero_le _, Nat.zero_le _, Nat.le_refl _, List.mem_singleton.mpr rfl⟩ (fun i σ H' _ q => ?_) ?_ ?_⟩
    · obtain ⟨S, v3, v4, _, sm, _⟩ := q
      exact Same.tup sm hB
    · rintro i x Tp σ H2 hx hTp ⟨S, v3, v4, rfl, sm2, hS2, hb, l1, l2, l3, hin⟩
      obtain ⟨d, hdi, hdx⟩ := dpAll_at hA i x hx
      have hil : i < ds.length := by
        rcases Nat.lt_or_ge i ds.length with q | q
        · exact q
        · rw [List.getElem?_eq_none q] at hdi; cases hdi
      have edr : ds.drop i = d :: ds.drop (i + 1) := by
        rw [List.drop_eq_getElem_cons hil]
        congr 1
        rw [List.getElem?_eq_getElem hil] at hdi
        exact Option.some.inj hdi
      have fd1 : fine d = true := fine_mem hf d (List.mem_of_getElem? hdi)
      refine ⟨Tp, _, rfl, .inl (.inl upd_same), rfl, _, _, rfl, _, _, rfl, rfl, ?_⟩
      have sT := same_upd (o := HO.tup [V.int (i : Nat), x]) hTp
      have hS3 := hS2.same sT
      have sm3 := sm2.trans sT
      generalize upd H2 Tp _ = H3 at hS3 sm3 ⊢
      refine ⟨_, rfl, r, dx, _, rfl, hS3.ins, rfl, _, rfl, r, dx, g, n, c, e, S, (i : Int), endAt S.ends i, rfl, hS3, roomIs ⟨_, hin, by omega⟩, fun H4 off4 hS4 => ?_⟩
      have sm4 := offS sm3 off4
      refine ⟨_, rfl, _, rfl, x, d, r, dx, g, n, c, e, entered S i, rfl, dp_same sm4 hdx, fd1, hS4, fun H5 sm => ⟨_, rfl, ?_⟩⟩
      have sm5 := sm4.trans sm
      have hS5 := hS4.same sm
      have hb2 : bodyB S i (ds.drop i) = if instrB (entered S i) d = true then bodyB (leaveS (entered S i) i (itemsOf d)) (i + 1) (ds.drop (i + 1)) else .error i := by rw [edr]; rfl
      rw [hb2] at hb
      refine ite_n (fun c1 => ?_) (fun c1 => ?_)
      · rw [c1, if_neg Bool.false_ne_true] at hb
        exact ⟨_, rfl, _, rfl, fun a ha => .inr ⟨(i : Int), rfl, by omega⟩, fun d2 hd2 => kerr i hb _ d2 (sm5.trans (same_upd hd2)) (by
          cases q : H d2 with
          | none => rfl
          | some o => rw [sm5 _ _ q] at hd2; cases hd2) upd_same⟩
      · rw [if_pos c1] at hb
        obtain ⟨its, rfl, hlv⟩ := leaves_of c1
        obtain ⟨t, ys, rfl, hT, hA2⟩ := dp_tupOf (dp_same sm5 hdx)
        obtain ⟨w1, w2, w3, w4⟩ := grows (entered S i) i its
        have n1 : (entered S i).named.length = S.named.length := rfl
        have n2 : (entered S i).called.length = S.called.length := rfl
        have n3 : (entered S i).ends.length = S.ends.length := rfl
        refine ⟨_, rfl, r, dx, _, rfl, hS5.ins, rfl, _, rfl, _, rfl, r, dx, g, n, c, e, t, entered S i, (i : Int), ys, its, rfl, hS5, hT, hA2, hlv, by omega, by omega, by omega, fun H6 off6 hS6 => ?_⟩
        exact ⟨_, _, _, rfl, offS sm5 off6, hS6, hb, by omega, by omega, by omega, w4 _ hin⟩
    · rintro σ H2 ⟨S, v3, v4, rfl, sm2, hS2, hb, _⟩
      rw [hl, List.drop_length] at hb
      exact ⟨_, rfl, kok S hb H2 r dx n c e sm2 hS2⟩
end
end Pl

namespace L2
open PySem PySem.Spec PyProof.Rows
/-- tuple(v), v a list or a tuple: some tuple of the same items -/
def rTupA (K : PySem.W.Frag) : List V → Hp → VK → Prop := fun xs H Q => ∃ p ys, xs = [.ref p] ∧ (SqL K H p ys ∨ SqT K H p ys) ∧ ∀ t H', Same H H' → SqT K H' t ys → Q (.ref t) H'
theorem cr_tupA {X : Cx} : CallR X (.type "tuple") (rTupA X.K) := by
  intro pins s σ H xs us Q I r h
  obtain ⟨p, ys, rfl, hq, k⟩ := h
  refine call_tuple_of pins s σ H _ us Q I r ⟨p, ys, rfl, ?_⟩
  rcases hq with hq | hq
  · exact .inl ⟨hq, fun l hl => k l _ (fun b o e => by rw [upd_ne (ne_of_none e hl)]; exact e) (.inl (.inl upd_same))⟩
  · exact .inr ⟨hq, k p H (fun _ _ e => e) hq⟩
end L2
namespace Pl
open PySem PySem.Spec PyProof.Rows L2
theorem scPlInit : FnScope ["self", "arguments", "body", "result", "must_finish", "scope"] ["self", "arguments", "body", "result", "must_finish"] (defScope sPlInit) := ⟨rfl, rfl, rfl, by decide +kernel, rfl, by decide +kernel, by decide +kernel⟩
/-- what a plan is -/
structure Pln where
  args : List Str
  body : List PyData
  res : PyData
  must : Bool
def seqItems : PyData → List PyData
  | .list ds => ds
  | .tuple ds => ds
  | _ => []
def mustB (d1 d2 d3 : PyData) : PyData → Except PyData Pln
  | .bool m => .ok ⟨strsOf (seqItems d1), seqItems d2, d3, m⟩
  | _ => .error (.str "must_finish")
def planE (d1 d2 d3 d4 : PyData) (S : Sc) : Except PyData Pln := if exprB S.given S.named 6 d3 = true then mustB d1 d2 d3 d4 else .error (.str "result")
def planC (d1 d2 d3 d4 : PyData) : Except Nat Sc → Except PyData Pln
  | .error i => .error (.int (i : Nat))
  | .ok S => planE d1 d2 d3 d4 S
/-- the plan of these data, or the part that is wrong -/
def planB (d1 d2 d3 d4 : PyData) : Except PyData Pln :=
  if argumentsB d1 = true then
    if (seqD d2 && decide ((seqItems d2).length ≤ 24)) = true then planC d1 d2 d3 d4 (bodyB (scNew (strsOf (seqItems d1)) (seqItems d2).length) 0 (seqItems d2))
    else .error (.str "body")
  else .error (.str "arguments")
structure PlX (K : PySem.W.Frag) (mg : Str → Option Value) (C : Addr) : Prop where
  cls : Cls K C
  nA : NoAttr K C "_arguments"
  nB : NoAttr K C "_body"
  nR : NoAttr K C "_result"
  nM : NoAttr K C "_must_finish"
  mgC : mg "Plan" = some (.ref C)
abbrev plFs (a b : Addr) (v : V) (m : Bool) : List (Str × V) := [("_arguments", .ref a), ("_body", .ref b), ("_result", v), ("_must_finish", .bl m)]
/-- the plan p stands at x -/
def PlanAt (K : PySem.W.Frag) (C x : Addr) (p : Pln) (H : Hp) : Prop := ∃ (dx a b : Addr) (v : V) (xs : List V), H x = some (.ins C dx (plFs a b v p.must)) ∧ SqT K H a (p.args.map V.str) ∧ SqT K H b xs ∧ DpAll K H xs p.body ∧ Dp K H v p.res
theorem PlanAt.same {K : PySem.W.Frag} {C x : Addr} {p : Pln} {H H' : Hp} (h : PlanAt K C x p H) (s : Same H H') : PlanAt K C x p H' := by
  obtain ⟨dx, a, b, v, xs, h1, h2, h3, h4, h5⟩ := h
  exact ⟨dx, a, b, v, xs, s _ _ h1, Same.tup s h2, Same.tup s h3, dp_sameAll s h4, dp_same s h5⟩
/-- only an instance changed -/
def OffI (x : Addr) (H H' : Hp) : Prop := (∃ C dx fs, H x = some (.ins C dx fs)) ∧ ∀ b o, b ≠ x → H b = some o → H' b = some o
theorem OffI.seqL {K : PySem.W.Frag} {x a : Addr} {H H' : Hp} {ys : List V} (o : OffI x H H') (h : SqL K H a ys) : SqL K H' a ys := by
  obtain ⟨⟨C, dx, fs, hx⟩, o2⟩ := o
  rcases h with (q | ⟨ob, q⟩) | q
  · exact .inl (.inl (o2 _ _ (fun z => by rw [z, hx] at q; cases q) q))
  · exact .inl (.inr ⟨ob, o2 _ _ (fun z => by rw [z, hx] at q; cases q) q⟩)
  · exact .inr q
theorem OffI.seqT {K : PySem.W.Frag} {x a : Addr} {H H' : Hp} {ys : List V} (o : OffI x H H') (h : SqT K H a ys) : SqT K H' a ys := by
  obtain ⟨⟨C, dx, fs, hx⟩, o2⟩ := o
  rcases h with (q | ⟨ob, q⟩) | q
  · exact .inl (.inl (o2 _ _ (fun z => by rw [z, hx] at q; cases q) q))
  · exact .inl (.inr ⟨ob, o2 _ _ (fun z => by rw [z, hx] at q; cases q) q⟩)
  · exact .inr q
mutual
theorem OffI.dp {K : PySem.W.Frag} {x : Addr} {H H' : Hp} (o : OffI x H H') : ∀ {v : V} {d : PyData}, Dp K H v d → Dp K H' v d
  | _, _, .non => .non
  | _, _, .bl b => .bl b
  | _, _, .int i => .int i
  | _, _, .str z => .str z
  | _, _, .lst h q => .lst (o.seqL h) (OffI.dpAll o q)
  | _, _, .tup h q => .tup (o.seqT h) (OffI.dpAll o q)
theorem OffI.dpAll {K : PySem.W.Frag} {x : Addr} {H H' : Hp} (o : OffI x H H') : ∀ {vs : List V} {ds : List PyData}, DpAll K H vs ds → DpAll K H' vs ds
  | _, _, .nil => .nil
  | _, _, .cons h q => .cons (OffI.dp o h) (OffI.dpAll o q)
end
theorem dp_seqItems {K : PySem.W.Frag} {H : Hp} {v : V} {d : PyData} (h : Dp K H v d) (s : seqD d = true) : ∃ u ys, v = .ref u ∧ (SqL K H u ys ∨ SqT K H u ys) ∧ DpAll K H ys (seqItems d) := by
  obtain ⟨u, ys, es, e, hq, hA, hd⟩ := dp_seqOf h s
  rcases hd with rfl | rfl <;> exact ⟨u, ys, e, hq, hA⟩
/-- arguments that are right -/
theorem args_ok {d : PyData} (h : argumentsB d = true) : seqD d = true ∧ seqItems d = (strsOf (seqItems d)).map PyData.str := by
  cases d <;> first | exact Bool.noConfusion h | skip
  all_goals
    rename_i ds
    have h' : argumentsL ds = true := h
    unfold argumentsL at h'
    rw [Bool.and_eq_true, Bool.and_eq_true] at h'
    exact ⟨rfl, strsOf_words h'.1.2⟩
/-- a datum, or an empty dict -/
def Dp2 (K : PySem.W.Frag) (H : Hp) (v : V) (d : PyData) : Prop := Dp K H v d ∨ (d = .dict [] ∧ ∃ a, v = .ref a ∧ H a = some (.dK []))
theorem Dp2.seq {K : PySem.W.Frag} {H : Hp} {v : V} {d : PyData} (h : Dp2 K H v d) (s : seqD d = true) : Dp K H v d := by
  rcases h with h | ⟨rfl, _⟩
  · exact h
  · cases s
theorem Dp2.same {K : PySem.W.Frag} {H H' : Hp} {v : V} {d : PyData} (h : Dp2 K H v d) (s : Same H H') : Dp2 K H' v d := by
  rcases h with h | ⟨e, a, e2, h⟩
  · exact .inl (dp_same s h)
  · exact .inr ⟨e, a, e2, s _ _ h⟩
theorem dp2_ty {K : PySem.W.Frag} {H : Hp} {v : V} {d : PyData} (h : Dp2 K H v d) : TyX K H v (.type (tyN d)) := by
  rcases h with h | ⟨rfl, a, rfl, h⟩
  · exact dp_ty h
  · exact .base (.dK h)
def spPlInit (K : PySem.W.Frag) (C CP : Addr) : Sp := fun vs H Q E => ∃ (x dx : Addr) (v1 v2 v3 v4 : V) (d1 d2 d3 d4 : PyData), vs = [.ref x, v1, v2, v3, v4] ∧ H x = some (.ins C dx []) ∧ (Dp K H v1 d1 ∧ Dp2 K H v2 d2 ∧ Dp K H v3 d3 ∧ Dp K H v4 d4) ∧ (fine d1 = true ∧ (seqD d2 = true → fine d2 = true) ∧ fine d3 = true ∧ fine d4 = true) ∧
  (∀ p, planB d1 d2 d3 d4 = .ok p → ∀ H', (∀ b o, b ≠ x → H b = some o → H' b = some o) → PlanAt K C x p H' → Q .non H') ∧
  (∀ dp y, planB d1 d2 d3 d4 = .error dp → Dp K H y dp → Fails CP H y E)
/-- the class Plan as it stands: its __init__ -/
structure PlM (K : PySem.W.Frag) (mg : Str → Option Value) (C f : Addr) (fd : FuncData) : Prop where
  X : PlX K mg C
  makes : Mk K C f
  iF : FunD K "__init__" "Plan.__init__" (defArgs sPlInit) (defBody sPlInit) (defScope sPlInit) [] [("must_finish", .bl false)] f fd
section
variable {P : Program} {w : World} {K : PySem.W.Frag} {mg : Str → Option Value} {base : Heap} {C C0 CP W0 fE fa fc fe fp : Addr} {fdE fda fdc fde fdp : FuncData}
theorem ok_plInit (M : PlM K mg C fp fdp) (T : Tx mg) (N : TxP mg) (X0 : ScX K mg C0) (X : ErX K mg CP W0 fE fdE) (AX : DefX K mg "_are_arguments" sArgs ["value"] fa fda) (GA : FnOk P w K mg base CX0 3 fa fda ["value"] (spArgs K))
    (CX : DefX K mg "_checked_scope" sChecked ["arguments", "body"] fc fdc) (GC : FnOk P w K mg base (L2.CX P w) 18 fc fdc ["arguments", "body"] (spChecked K C0 CP))
    (EX : ExprX K mg fe fde) (GX : FnOk P w K mg base CX0 14 fe fde ["value", "arguments", "variables", "deepest"] (spExpr K 6)) : FnOk P w K mg base (L2.CX P w) 19 fp fdp ["self", "arguments", "body", "result", "must_finish"] (spPlInit K C CP) := by
  have GE : FnOk P w K mg base CX0 1 fE fdE ["self", "part"] (spErr CP "part" fun y _ => PartOk y) := ok_initE X
  obtain ⟨ti, hi⟩ := N.instr
  obtain ⟨ds3, v3, b3⟩ := EX.b3
  refine M.iF.ok scPlInit (fun vs H Q E h => ?_) (fun cdv A outer s H vs Q E hr h => ?_)
  · obtain ⟨x, dx, v1, v2, v3, v4, d1, d2, d3, d4, rfl, _⟩ := h
    rfl
  · obtain ⟨x, dx, u1, u2, u3, u4, d1, d2, d3, d4, rfl, hx, ⟨h1, h2, h3, h4⟩, ⟨f1, f2, f3, f4⟩, kok, kerr⟩ := h
    have hr2 : Room 2 _ := hr.mono (by decide)
    refine ⟨_, pss_cons (ps_if (pt_not (pt_val (pe_call GA (hr.mono (by decide)) (by rfl) AX.mg AX.F.kp AX.b .nil pass0 (pa_cons (pv 1) pa_nil))))
        (pss_one (ps_raise rfl (takes_of rfl rfl rfl rfl) (pmk_err X.er X.ty PySem.F.excBase_ValueError abVE X.iC X.tI GE hr2 X.b (by rfl) X.mgC (pa_cons pe_str pa_nil)))) pss_nil)
      (pss_cons (ps_if (PW.pt (pw_or (pt_not (pt_val (pe_callB call_isiT (by rfl) T.isi (by decide +kernel) (pa_cons (pv 2) (pa_cons (pe_tup (pa_cons (pe_bltn (v := .ty "list") (by rfl) T.list (by decide +kernel) rfl) (pa_cons (pe_bltn (v := .ty "tuple") (by rfl) T.tuple (by decide +kernel) rfl) pa_nil))) pa_nil)))))
          (pw_or1 (pt_cmpR op_gt (pe_callB call_len_seq (by rfl) T.len (by decide +kernel) (pa_cons (pv 2) pa_nil)) (pe_glob (v := .int 24) rfl hi ⟨_, rfl⟩) (nomark _)))))
        (pss_one (ps_raise rfl (takes_of rfl rfl rfl rfl) (pmk_err X.er X.ty PySem.F.excBase_ValueError abVE X.iC X.tI GE hr2 X.b (by rfl) X.mgC (pa_cons pe_str pa_nil)))) pss_nil)
      (pss_cons (ps_set (i := 5) scPlInit.nd rfl (Or.inl rfl) (pe_call GC hr (by rfl) CX.mg CX.F.kp CX.b .nil (passes_call (takes_of rfl rfl rfl rfl) fun _ _ _ _ h => h)
          (pa_cons (pe_callTy cr_tupA (by rfl) T.tuple (by decide +kernel) (pa_cons (pv 1) pa_nil)) (pa_cons (pe_callTy cr_tupA (by rfl) T.tuple (by decide +kernel) (pa_cons (pv 2) pa_nil)) pa_nil))))
      (pss_cons (ps_if (pt_not (pt_val (pe_call GX (hr.mono (by decide)) (by rfl) EX.mg EX.F.kp b3 v3 pass0 (pa_cons (pv 3) (pa_cons (pe_fld (pv 5) rfl) (pa_cons (pe_fld (pv 5) rfl) pa_nil))))))
        (pss_one (ps_raise rfl (takes_of rfl rfl rfl rfl) (pmk_err X.er X.ty PySem.F.excBase_ValueError abVE X.iC X.tI GE hr2 X.b (by rfl) X.mgC (pa_cons pe_str pa_nil)))) pss_nil)
      (pss_cons (ps_if (pt_not (pt_val (pe_callB call_isi (by rfl) T.isi (by decide +kernel) (pa_cons (pv 4) (pa_cons (pe_bltn (v := .ty "bool") (by rfl) T.bool (by decide +kernel) rfl) pa_nil)))))
        (pss_one (ps_raise rfl (takes_of rfl rfl rfl rfl) (pmk_err X.er X.ty PySem.F.excBase_ValueError abVE X.iC X.tI GE hr2 X.b (by rfl) X.mgC (pa_cons pe_str pa_nil)))) pss_nil)
      (pss_cons (ps_fld (pv 0) (pe_callTy cr_tupA (by rfl) T.tuple (by decide +kernel) (pa_cons (pv 1) pa_nil)) rfl)
      (pss_cons (ps_fld (pv 0) (pe_callTy cr_tupA (by rfl) T.tuple (by decide +kernel) (pa_cons (pv 2) pa_nil)) rfl)
      (pss_cons (ps_fld (pv 0) (pv 3) rfl) (pss_one (ps_fld (pv 0) (pv 4) rfl))))))))), ?_⟩
    have noneO : ∀ {Ha : Hp} {q : Addr}, Same H Ha → Ha q = none → H q = none := fun {Ha q} sm hq => by
      cases h0 : H q with
      | none => rfl
      | some o => rw [sm _ _ h0] at hq; cases hq
    have fail : ∀ {z : Str} {σ : List (Option V)} {Ha : Hp}, Same H Ha → z.length ≤ 100 → planB d1 d2 d3 d4 = .error (.str z) → tErM CP "part" (fun y _ => PartOk y) (tCons (tC (V.str z)) tNil) σ Ha (fun cls d H2 => E cls d H2) := fun {z σ Ha} sm hz hp =>
      ⟨_, rfl, fun a ha => .inl ⟨z, rfl, hz⟩, fun d hd => kerr (.str z) (.str z) hp (.str z) _ d (sm.trans (same_upd hd)) (noneO sm hd) upd_same⟩
    have sz : ∀ z ∈ (["arguments", "body", "result", "must_finish"] : List Str), z.length ≤ 100 := by decide +kernel
    refine ⟨_, rfl, u1, d1, rfl, h1, f1, fun H1 sm1 => ⟨_, rfl, ?_⟩⟩
    refine ite_n (fun c1 => ?_) (fun c1 => ?_)
    · exact fail sm1 (sz _ (by decide +kernel)) (by unfold planB; rw [c1, if_neg Bool.false_ne_true])
    obtain ⟨sq1, es1⟩ := args_ok c1
    refine ⟨_, rfl, two_size _ _, fun B1 hB1 => ?_⟩
    have sm2 := sm1.trans (same_upd (o := HO.tup [V.ty "list", V.ty "tuple"]) hB1)
    refine ⟨_, B1, _, _, _, _, rfl, upd_same, .cons (.ty "list") (.cons (.ty "tuple") .nil), dp2_ty (h2.same sm2), seq_kit d2, ?_⟩
    generalize upd H1 B1 _ = H2 at sm2 ⊢
    refine ⟨_, rfl, ?_⟩
    refine ite_n (fun c2 => ?_) (fun c2 => ?_)
    · exact fail sm2 (sz _ (by decide +kernel)) (by unfold planB; rw [c1, c2, if_pos rfl, Bool.false_and, if_neg Bool.false_ne_true])
    obtain ⟨w1, ys1, rfl, hq1, hA1⟩ := dp_seqItems h1 sq1
    have h2 := h2.seq c2
    have f2 := f2 c2
    obtain ⟨w2, ys2, rfl, hq2, hA2⟩ := dp_seqItems h2 c2
    have ly2 := dpAll_len hA2
    have ey1 : ys1 = (strsOf (seqItems d1)).map V.str := dpAll_strs hA1 es1
    refine ⟨_, rfl, w2, ys2, rfl, Same.seqA sm2 hq2, _, _, rfl, rfl, _, rfl, ?_⟩
    refine ite_b (fun c3 => ?_) (fun c3 => ?_)
    · have g3 := of_decide_eq_true c3
      exact fail sm2 (sz _ (by decide +kernel)) (by unfold planB; rw [c1, c2, if_pos rfl, decide_eq_false (show ¬ (seqItems d2).length ≤ 24 by omega), Bool.and_false, if_neg Bool.false_ne_true])
    have g3 := of_decide_eq_false c3
    have f2' : fineAll (seqItems d2) = true := by
      cases d2 <;> first | exact Bool.noConfusion c2 | exact f2
    have ep : planB d1 d2 d3 d4 = planC d1 d2 d3 d4 (bodyB (scNew (strsOf (seqItems d1)) (seqItems d2).length) 0 (seqItems d2)) := by
      unfold planB
      rw [c1, c2, if_pos rfl, decide_eq_true (show (seqItems d2).length ≤ 24 by omega), Bool.and_self, if_pos rfl]
    refine ⟨_, rfl, w1, ys1, rfl, Same.seqA sm2 hq1, fun t1 Ha sa hT1 => ?_⟩
    have sma := sm2.trans sa
    refine ⟨_, rfl, w2, ys2, rfl, Same.seqA sma hq2, fun t2 Hb sb hT2 => ?_⟩
    have smb := sma.trans sb
    rw [ey1] at hT1
    refine ⟨t1, t2, strsOf (seqItems d1), ys2, seqItems d2, rfl, Same.tup sb hT1, hT2, dp_sameAll smb hA2, f2', by omega, fun S hb Hc r dxr n c e sc hS => ?_, fun i hb H' d sm hn he => ?_⟩
    · rw [hb] at ep
      have smc := smb.trans sc
      refine ⟨_, rfl, _, rfl, r, C0, dxr, _, .ref t1, rfl, hS.ins, X0.cls, X0.nG, rfl, _, rfl, r, C0, dxr, _, .ref n, rfl, hS.ins, X0.cls, X0.nN, rfl, by decide, u3, d3, t1, n, S.given, S.named, rfl, dp_same smc h3, hS.given, hS.named.n, ?_⟩
      refine ⟨_, rfl, ?_⟩
      refine ite_n (fun c4 => ?_) (fun c4 => ?_)
      · exact fail smc (sz _ (by decide +kernel)) (by
          rw [ep]
          show planE d1 d2 d3 d4 S = _
          unfold planE
          rw [c4, if_neg Bool.false_ne_true])
      refine ⟨_, rfl, _, _, _, _, _, rfl, .ty "bool", dp_ty (dp_same smc h4), kit_ty (isB_bool d4), ?_⟩
      refine ⟨_, rfl, ?_⟩
      refine ite_n (fun c5 => ?_) (fun c5 => ?_)
      · exact fail smc (sz _ (by decide +kernel)) (by
          rw [ep]
          show planE d1 d2 d3 d4 S = _
          unfold planE
          rw [c4, if_pos rfl]
          cases d4 <;> first | rfl | exact Bool.noConfusion c5)
      cases d4 <;> first | exact Bool.noConfusion c5 | skip
      rename_i m
      cases h4
      have epf : planB d1 d2 d3 (.bool m) = .ok ⟨strsOf (seqItems d1), seqItems d2, d3, m⟩ := by
        rw [ep]
        show planE d1 d2 d3 (.bool m) S = _
        unfold planE
        rw [c4, if_pos rfl]
        rfl
      -- the fields
      refine ⟨_, rfl, w1, ys1, rfl, Same.seqA smc hq1, fun a Hd sd hTa => ?_⟩
      have smd := smc.trans sd
      refine ⟨_, rfl, x, C, dx, _, rfl, smd _ _ hx, M.X.cls, M.X.nA, (show 0 < 1000 by decide), ?_⟩
      have o1 : OffI x Hd (upd Hd x (.ins C dx (putF "_arguments" (.ref a) []))) := ⟨⟨_, _, _, smd _ _ hx⟩, fun b o bx q => by rw [upd_ne bx]; exact q⟩
      refine ⟨_, rfl, w2, ys2, rfl, (Same.seqA smd hq2).imp o1.seqL o1.seqT, fun b He se hTb => ?_⟩
      have xe := se _ _ (upd_same (H := Hd) (a := x) (o := .ins C dx (putF "_arguments" (.ref a) [])))
      refine ⟨_, rfl, x, C, dx, _, rfl, xe, M.X.cls, M.X.nB, (show 1 < 1000 by decide), ?_⟩
      refine ⟨_, rfl, _, rfl, x, C, dx, _, rfl, upd_same, M.X.cls, M.X.nR, (show 2 < 1000 by decide), ?_⟩
      refine ⟨_, rfl, _, rfl, x, C, dx, _, rfl, upd_same, M.X.cls, M.X.nM, (show 3 < 1000 by decide), ?_⟩
      have o2 : ∀ {fs1 fs2 fs3 : List (Str × V)}, OffI x He (upd (upd (upd He x (.ins C dx fs1)) x (.ins C dx fs2)) x (.ins C dx fs3)) := fun {fs1 fs2 fs3} => ⟨⟨_, _, _, xe⟩, fun b o bx q => by rw [upd_ne bx, upd_ne bx, upd_ne bx]; exact q⟩
      rw [ey1] at hTa
      refine kok _ epf _ (fun q o qx hq => ?_) ⟨dx, a, b, u3, ys2, upd_same, o2.seqT (Same.tup se (o1.seqT hTa)), o2.seqT hTb, o2.dpAll (dp_sameAll se (o1.dpAll (dp_sameAll smd hA2))), o2.dp (dp_same se (o1.dp (dp_same smd h3)))⟩
      exact o2.2 q o qx (se _ _ (o1.2 q o qx (smd _ _ hq)))
    · rw [hb] at ep
      exact kerr (.int (i : Nat)) (.int (i : Nat)) ep (.int _) H' d (smb.trans sm) (noneO smb hn) he
end
end Pl

namespace Pl
open PySem PySem.Spec PyProof.Rows L2
/-- the tape: its cells, its place, what is left of a great cell, its seed -/
def tp (b : Addr) (i r s : Int) : List V := [.ref b, .int i, .int r, .int s]
/-- the tape at t, its cells at b -/
def TapeB (H : Hp) (t b : Addr) : Prop := ∃ (ns : List Int) (i r s : Int), H t = some (.lst (tp b i r s)) ∧ H b = some (.lst (ns.map V.int)) ∧ ns.length ≤ 1000 ∧ 0 ≤ i ∧ 0 ≤ r ∧ 0 ≤ s ∧ s < 2147483647
def spTape (K : PySem.W.Frag) : Sp := fun vs H Q _ => ∃ (a : Addr) (ns : List Int), vs = [.ref a] ∧ SqL K H a (ns.map V.int) ∧ ns.length ≤ 63 ∧
  ∀ H' t b, Same H H' → TapeB H' t b → H t = none → H b = none → t ≠ b → Q (.ref t) H'
def spDraw : Sp := fun vs H Q _ => ∃ (t b : Addr) (m : Int), vs = [.ref t, .int m] ∧ 1 ≤ m ∧ m < 1073741824 ∧ TapeB H t b ∧
  ∀ H' d, TapeB H' t b → (∀ b, b ≠ t → H' b = H b) → 0 ≤ d → d < m → Q (.int d) H'
theorem scT : FnScope ["_law_script"] ["_law_script"] (defScope sTape) := ⟨rfl, rfl, rfl, by decide +kernel, rfl, by decide +kernel, by decide +kernel⟩
theorem scD : FnScope ["_law_tape_here", "_law_many", "_law_digit", "_law_cell", "_law_near"] ["_law_tape_here", "_law_many"] (defScope sDraw) := ⟨rfl, rfl, rfl, by decide +kernel, rfl, by decide +kernel, by decide +kernel⟩
structure TxtD (mg : Str → Option Value) : Prop where
  list : mg "list" = none
  len : mg "len" = none
  int : mg "int" = none
theorem four_size (a b c d : V) : [a, b, c, d].length ≤ sizeLine := by
  rw [sizeLine_eq]
  exact (by decide : 4 ≤ 16777216)
theorem tp_ne {b : Addr} {i r s : Int} {ns : List Int} (h : tp b i r s = ns.map V.int) : False := by
  cases ns with
  | nil => cases h
  | cons n ns =>
    injection h with h1 _
    cases h1
theorem mod_bounds {x m : Int} (h : 1 ≤ m) : 0 ≤ x.fmod m ∧ x.fmod m < m := by
  rw [Int.fmod_eq_emod_of_nonneg _ (by omega)]
  exact ⟨Int.emod_nonneg _ (by omega), Int.emod_lt_of_pos _ (by omega)⟩
theorem seed_small (x : Int) : (x.fmod 2147483647).natAbs < 2 ^ 64 := by
  have z := mod_bounds (x := x) (m := 2147483647) (by decide)
  have e : (2 : Nat) ^ 64 = 18446744073709551616 := by decide
  rw [e]
  omega
theorem big_ne : (2147483647 : Int) ≠ 0 := by decide
theorem div_nonneg {x m : Int} (hx : 0 ≤ x) (h : 1 ≤ m) : 0 ≤ x.fdiv m := by
  rw [Int.fdiv_eq_ediv_of_nonneg _ (by omega)]
  exact Int.ediv_nonneg hx (by omega)
theorem cut_ints (ns : List Int) (lo hi : Option Int) : ∃ ms : List Int, cutV (ns.map V.int) lo hi = ms.map V.int ∧ ms.length ≤ ns.length := by
  unfold cutV
  refine ⟨(ns.drop _).take _, by rw [List.map_take, List.map_drop], ?_⟩
  rw [List.length_take, List.length_drop]
  omega
section
variable {P : Program} {w : World} {K : PySem.W.Frag} {mg : Str → Option Value} {base : Heap} {f : Addr} {fd : FuncData}
theorem ok_tape (F : Fun K "_law_tape" "_law_tape" sTape f fd) (T : TxtD mg) : FnOk P w K mg base CX0 1 f fd ["_law_script"] (spTape K) := by
  refine F.ok scT (fun vs H Q E h => ?_) (fun cdv A outer s H vs Q E hr h => ?_)
  · obtain ⟨a, ns, rfl, _⟩ := h
    rfl
  · obtain ⟨a, ns, rfl, hS, hl, k⟩ := h
    refine ⟨_, pss_one (ps_ret (pe_lst (pa_cons (pe_callTy call_list_of (by rfl) T.list (by decide +kernel) (pa_cons (pe_slice sl_list (pv 0) po_none (po_some pe_int)) pa_nil))
      (pa_cons pe_int (pa_cons pe_int (pa_cons pe_int pa_nil)))))), ?_⟩
    refine ⟨_, rfl, 63, rfl, a, _, rfl, hS, fun p hp => ?_⟩
    obtain ⟨ms, e1, e2⟩ := cut_ints ns none (some 63)
    refine ⟨p, _, rfl, .inl (SqL.of upd_same), fun l hl' => ?_⟩
    refine ⟨four_size _ _ _ _, fun t ht => ?_⟩
    have nlt : l ≠ t := fun z => by
      rw [← z, upd_same] at ht
      cases ht
    have hl0 : H l = none := by
      by_cases z : l = p
      · rw [z]; exact hp
      · rw [upd_ne z] at hl'; exact hl'
    have ht0 : upd H p (.lst (cutV (List.map V.int ns) none (some 63))) t = none := by
      rw [upd_ne nlt.symm] at ht
      exact ht
    have ht1 : H t = none := by
      by_cases z : t = p
      · rw [z]; exact hp
      · rw [upd_ne z] at ht0; exact ht0
    refine k _ t l (fun b o e => ?_) ⟨ms, 0, 0, 17, upd_same, ?_, by omega, by decide, by decide, by decide, by decide⟩ ht1 hl0 nlt.symm
    · rw [upd_ne (ne_of_none e ht1), upd_ne (ne_of_none e hl0), upd_ne (ne_of_none e hp)]
      exact e
    · rw [upd_ne nlt, upd_same, e1]
theorem ok_draw (F : Fun K "_law_draw" "_law_draw" sDraw f fd) (T : TxtD mg) : FnOk P w K mg base CX0 1 f fd ["_law_tape_here", "_law_many"] spDraw := by
  refine F.ok scD (fun vs H Q E h => ?_) (fun cdv A outer s H vs Q E hr h => ?_)
  · obtain ⟨t, b, m, rfl, _⟩ := h
    rfl
  · obtain ⟨t, b, m, rfl, m1, m2, ⟨ns, i, r, sd, ht, hb, hn, hi, hr0, hs0, hs1⟩, k⟩ := h
    have nbt : b ≠ t := fun z => by
      subst z
      rw [ht] at hb
      exact tp_ne (HO.lst.inj (Option.some.inj hb))
    refine ⟨_, pss_cons (ps_if (pt_cmpR op_gt (pe_ix ix_list (pv 0) pe_int (fun _ _ => rfl)) pe_int (nomark _))
        (pss_cons (ps_set (i := 2) scD.nd rfl (Or.inl rfl) (pe_op op_modN (pe_callTy call_int1 (by rfl) T.int (by decide +kernel) (pa_cons (pe_ix ix_list (pv 0) pe_int (fun _ _ => rfl)) pa_nil)) (pv 1)))
        (pss_cons (ps_asg (pe_op op_fdivN (pe_ix ix_list (pv 0) pe_int (fun _ _ => rfl)) (pv 1)) (pg_sub (pv 0) pe_int set_list))
        (pss_one (ps_ret (pv 2))))) pss_nil)
      (pss_cons (ps_set (i := 3) scD.nd rfl (Or.inl rfl) pe_int)
      (pss_cons (ps_if (pt_cmpR op_lt (pe_ix ix_list (pv 0) pe_int (fun _ _ => rfl)) (pe_callB call_len_seq (by rfl) T.len PySem.boot_len (pa_cons (pe_ix ix_list (pv 0) pe_int (fun _ _ => rfl)) pa_nil)) (nomark _))
        (pss_one (ps_set (i := 3) scD.nd rfl (Or.inl rfl) (pe_ix ix_list (pe_ix ix_list (pv 0) pe_int (fun _ _ => rfl)) (pe_ix ix_list (pv 0) pe_int (fun _ _ => rfl)) (fun _ _ => rfl)))) pss_nil)
      (pss_cons (ps_asg (pe_op op_add (pe_ix ix_list (pv 0) pe_int (fun _ _ => rfl)) pe_int) (pg_sub (pv 0) pe_int set_list))
      (pss_cons (ps_if (pt_cmpR op_ge (pv 3) (pe_op op_pow pe_int pe_int) (nomark _))
        (pss_cons (ps_asg (pe_op op_fdivN (pv 3) (pv 1)) (pg_sub (pv 0) pe_int set_list))
        (pss_one (ps_ret (pe_op op_modN (pe_callTy call_int1 (by rfl) T.int (by decide +kernel) (pa_cons (pv 3) pa_nil)) (pv 1))))) pss_nil)
      (pss_cons (ps_set (i := 4) scD.nd rfl (Or.inl rfl) (pe_op op_add (pe_op op_add (pe_op op_modN (pe_callTy call_int1 (by rfl) T.int (by decide +kernel) (pa_cons (pv 3) pa_nil)) pe_int)
          (pe_op op_mul pe_int (pe_ix ix_list (pv 0) pe_int (fun _ _ => rfl)))) pe_int))
      (pss_cons (ps_asg (pe_op op_modN (pe_callTy call_int1 (by rfl) T.int (by decide +kernel) (pa_cons (pe_op op_add (pe_op op_mul (pe_ix ix_list (pv 0) pe_int (fun _ _ => rfl)) pe_int) (pv 4)) pa_nil)) pe_int) (pg_sub (pv 0) pe_int set_list))
      (pss_one (ps_ret (pe_op op_modN (pe_op op_modN (pe_callTy call_int1 (by rfl) T.int (by decide +kernel) (pa_cons (pe_op op_pow (pe_ix ix_list (pv 0) pe_int (fun _ _ => rfl)) pe_int) pa_nil)) pe_int) (pv 1)))))))))), ?_⟩
    refine ⟨_, rfl, t, _, _, .int r, rfl, rfl, SqL.of ht, rfl, _, _, rfl, rfl, _, rfl, ?_⟩
    have oth : ∀ {H0 : Hp} {o : HO}, (∀ b, b ≠ t → H0 b = H b) → ∀ b, b ≠ t → upd H0 t o b = H b := fun e b nb => by
      rw [upd_ne nb]
      exact e b nb
    have hm := mod_bounds (x := r) m1
    refine ite2 (fun c => ?_) (fun c => ?_)
    · refine ⟨_, rfl, t, _, _, .int r, rfl, rfl, SqL.of ht, rfl, .inl ⟨_, rfl, ?_⟩⟩
      refine ⟨_, rfl, _, _, rfl, rfl, (by omega), ?_⟩
      refine ⟨_, rfl, t, _, _, .int r, rfl, rfl, SqL.of ht, rfl, _, rfl, _, _, rfl, rfl, ⟨by omega, by omega⟩, ?_⟩
      refine ⟨_, rfl, t, _, _, 2, rfl, rfl, ht, rfl, ?_⟩
      refine ⟨_, rfl, k _ _ ⟨ns, i, r.fdiv m, sd, upd_same, by rw [upd_ne nbt]; exact hb, hn, hi, div_nonneg hr0 m1, hs0, hs1⟩ (oth fun _ _ => rfl) hm.1 hm.2⟩
    · refine ⟨_, rfl, t, _, _, .int i, rfl, rfl, SqL.of ht, rfl, _, rfl, t, _, _, .ref b, rfl, rfl, SqL.of ht, rfl, b, _, rfl, .inl (SqL.of hb), _, _, rfl, rfl, _, rfl, ?_⟩
      rw [List.length_map]
      refine ite2 (fun c2 => ?_) (fun c2 => ?_)
      · have c3 : i < ns.length := by simpa using c2
        obtain ⟨j, rfl⟩ : ∃ j : Nat, i = j := ⟨i.toNat, by omega⟩
        have hj : j < ns.length := by omega
        refine ⟨_, rfl, t, _, _, .ref b, rfl, rfl, SqL.of ht, rfl, _, rfl, t, _, _, .int j, rfl, rfl, SqL.of ht, rfl, b, _, _, .int ns[j], rfl, rfl, SqL.of hb, atI_nat ?_, ?_⟩
        · rw [List.getElem?_map, List.getElem?_eq_getElem hj]
          rfl
        refine ⟨_, rfl, t, _, _, .int _, rfl, rfl, SqL.of ht, rfl, _, _, rfl, rfl, _, rfl, t, _, _, 1, rfl, rfl, ht, rfl, ?_⟩
        refine ⟨_, rfl, _, _, rfl, rfl, ⟨by decide, by decide, by decide⟩, _, _, rfl, rfl, _, rfl, ?_⟩
        refine ite2 (fun c5 => ?_) (fun c5 => ?_)
        · have cpos : 0 ≤ ns[j] := by
            have z := of_decide_eq_true c5
            exact Int.le_trans (by decide) z
          have hmc := mod_bounds (x := ns[j]) m1
          refine ⟨_, rfl, _, rfl, _, _, rfl, rfl, ⟨by omega, by omega⟩, _, rfl, t, _, _, 2, rfl, rfl, upd_same, rfl, ?_⟩
          refine ⟨_, rfl, .inl ⟨_, rfl, _, rfl, _, _, rfl, rfl, by omega, ?_⟩⟩
          exact k _ _ ⟨ns, _, _, sd, upd_same, by rw [upd_ne nbt, upd_ne nbt]; exact hb, hn, by omega, div_nonneg cpos m1, hs0, hs1⟩ (oth (oth fun _ _ => rfl)) hmc.1 hmc.2
        · refine ⟨_, rfl, .inl ⟨_, rfl, _, _, rfl, rfl, big_ne, _, rfl, t, _, _, .int _, rfl, rfl, SqL.of upd_same, rfl, _, _, rfl, rfl, .inl ⟨by decide, by decide⟩, _, _, rfl, rfl, _, _, rfl, rfl, ?_⟩⟩
          refine ⟨_, rfl, t, _, _, .int sd, rfl, rfl, SqL.of upd_same, rfl, _, _, rfl, rfl, .inl ⟨by omega, by omega⟩, _, rfl, _, _, rfl, rfl, .inl ⟨_, rfl, _, _, rfl, rfl, big_ne, _, rfl, t, _, _, 3, rfl, rfl, upd_same, rfl, ?_⟩⟩
          refine ⟨_, rfl, t, _, _, .int _, rfl, rfl, SqL.of upd_same, rfl, _, _, rfl, rfl, ⟨by decide, by decide, ?_⟩, .inl ⟨_, rfl, _, _, rfl, rfl, big_ne, _, rfl, _, _, rfl, rfl, by omega, ?_⟩⟩
          · exact seed_small _
          · exact k _ _ ⟨ns, _, _, _, upd_same, by rw [upd_ne nbt, upd_ne nbt]; exact hb, hn, by omega, hr0, (mod_bounds (by decide)).1, (mod_bounds (by decide)).2⟩ (oth (oth fun _ _ => rfl)) (mod_bounds m1).1 (mod_bounds m1).2
      · refine ⟨_, rfl, t, _, _, .int _, rfl, rfl, SqL.of ht, rfl, _, _, rfl, rfl, _, rfl, t, _, _, 1, rfl, rfl, ht, rfl, ?_⟩
        refine ⟨_, rfl, _, _, rfl, rfl, ⟨by decide, by decide, by decide⟩, _, _, rfl, rfl, _, rfl, ?_⟩
        refine ite2 (fun c5 => ?_) (fun c5 => ?_)
        · have cpos : 0 ≤ (0 : Int) := by
            have z := of_decide_eq_true c5
            exact Int.le_trans (by decide) z
          have hmc := mod_bounds (x := (0 : Int)) m1
          refine ⟨_, rfl, _, rfl, _, _, rfl, rfl, ⟨by omega, by omega⟩, _, rfl, t, _, _, 2, rfl, rfl, upd_same, rfl, ?_⟩
          refine ⟨_, rfl, .inl ⟨_, rfl, _, rfl, _, _, rfl, rfl, by omega, ?_⟩⟩
          exact k _ _ ⟨ns, _, _, sd, upd_same, by rw [upd_ne nbt, upd_ne nbt]; exact hb, hn, by omega, div_nonneg cpos m1, hs0, hs1⟩ (oth (oth fun _ _ => rfl)) hmc.1 hmc.2
        · refine ⟨_, rfl, .inl ⟨_, rfl, _, _, rfl, rfl, big_ne, _, rfl, t, _, _, .int _, rfl, rfl, SqL.of upd_same, rfl, _, _, rfl, rfl, .inl ⟨by decide, by decide⟩, _, _, rfl, rfl, _, _, rfl, rfl, ?_⟩⟩
          refine ⟨_, rfl, t, _, _, .int sd, rfl, rfl, SqL.of upd_same, rfl, _, _, rfl, rfl, .inl ⟨by omega, by omega⟩, _, rfl, _, _, rfl, rfl, .inl ⟨_, rfl, _, _, rfl, rfl, big_ne, _, rfl, t, _, _, 3, rfl, rfl, upd_same, rfl, ?_⟩⟩
          refine ⟨_, rfl, t, _, _, .int _, rfl, rfl, SqL.of upd_same, rfl, _, _, rfl, rfl, ⟨by decide, by decide, ?_⟩, .inl ⟨_, rfl, _, _, rfl, rfl, big_ne, _, rfl, _, _, rfl, rfl, by omega, ?_⟩⟩
          · exact seed_small _
          · exact k _ _ ⟨ns, _, _, _, upd_same, by rw [upd_ne nbt, upd_ne nbt]; exact hb, hn, by omega, hr0, (mod_bounds (by decide)).1, (mod_bounds (by decide)).2⟩ (oth (oth fun _ _ => rfl)) (mod_bounds m1).1 (mod_bounds m1).2
end
end Pl

namespace Pl
open PySem PySem.Spec PyProof.Rows L2
theorem scOne : FnScope ["_law_tape_here", "_law_some"] ["_law_tape_here", "_law_some"] (defScope sOne) := ⟨rfl, rfl, rfl, by decide +kernel, rfl, by decide +kernel, by decide +kernel⟩
theorem scLExpr : FnScope ["_law_tape_here", "_law_scope", "_law_names", "_law_way", "_law_first"] ["_law_tape_here", "_law_scope"] (defScope sLExpr) := ⟨rfl, rfl, rfl, by decide +kernel, rfl, by decide +kernel, by decide +kernel⟩
theorem scSmall : FnScope ["_law_tape_here", "_law_scope"] ["_law_tape_here", "_law_scope"] (defScope sSmall) := ⟨rfl, rfl, rfl, by decide +kernel, rfl, by decide +kernel, by decide +kernel⟩
/-- all but these stay -/
def Only (S : List Addr) (H H' : Hp) : Prop := ∀ b o, b ∉ S → H b = some o → H' b = some o
theorem Only.refl {S : List Addr} {H : Hp} : Only S H H := fun _ _ _ e => e
theorem Only.trans {S : List Addr} {A B C : Hp} (h : Only S A B) (k : Only S B C) : Only S A C := fun b o n e => k b o n (h b o n e)
theorem Only.mono {S T : List Addr} {A B : Hp} (h : Only S A B) (k : ∀ x ∈ S, x ∈ T) : Only T A B := fun b o n e => h b o (fun z => n (k b z)) e
theorem Only.same {S : List Addr} {A B : Hp} (h : Same A B) : Only S A B := fun b o _ e => h b o e
theorem Only.oth {t : Addr} {A B : Hp} (h : ∀ b, b ≠ t → B b = A b) : Only [t] A B := fun b o n e => by
  rw [h b (fun z => n (by rw [z]; exact List.mem_singleton.mpr rfl))]
  exact e
theorem Only.put {S : List Addr} {A : Hp} {a : Addr} {o : HO} (h : a ∈ S) : Only S A (upd A a o) := fun b o' n e => by
  rw [upd_ne (fun z => n (by rw [z]; exact h))]
  exact e
/-- all but lists stay -/
def Keep (H H' : Hp) : Prop := ∀ b o, (∀ xs, o ≠ HO.lst xs) → H b = some o → H' b = some o
theorem Only.keep {S : List Addr} {H H' : Hp} (h : Only S H H') (k : ∀ a ∈ S, ∃ xs, H a = some (.lst xs)) : Keep H H' := fun b o n e => h b o (fun z => by
  obtain ⟨xs, q⟩ := k b z
  rw [e] at q
  exact n xs (Option.some.inj q)) e
theorem Same.keep {H H' : Hp} (h : Same H H') : Keep H H' := fun b o _ e => h b o e
theorem Keep.trans {A B C : Hp} (h : Keep A B) (k : Keep B C) : Keep A C := fun b o n e => k b o n (h b o n e)
theorem Keep.tup {K : PySem.W.Frag} {H H' : Hp} {a : Addr} {xs : List V} (e : Keep H H') (h : SqT K H a xs) : SqT K H' a xs := by
  rcases h with (h | ⟨o, h⟩) | h
  · exact .inl (.inl (e _ _ (fun _ z => by cases z) h))
  · exact .inl (.inr ⟨o, e _ _ (fun _ z => by cases z) h⟩)
  · exact .inr h
/-! ### simple data -/
abbrev sSafe : Str := sLetters ++ sCapitals ++ sDigits ++ " "
def safeS (z : Str) : Bool := decide (z.length ≤ 20) && decide (∀ c ∈ z.cps.toList, c ∈ sSafe.cps.toList)
mutual
/-- whole numbers below 1000, short texts of letters, tuples of them -/
def smpl : PyData → Bool
  | .str z => safeS z
  | .int i => decide (0 ≤ i) && decide (i < 1000)
  | .bool _ => true
  | .tuple ds => smplAll ds
  | _ => false
def smplAll : List PyData → Bool
  | [] => true
  | d :: ds => smpl d && smplAll ds
end
mutual
/-- at least the length of its text -/
def wt : PyData → Nat
  | .tuple ds => 3 + wtAll ds
  | .str _ => 22
  | _ => 5
def wtAll : List PyData → Nat
  | [] => 0
  | d :: ds => wt d + 2 + wtAll ds
end
theorem smplAll_cons {d : PyData} {ds : List PyData} (h : smplAll (d :: ds) = true) : smpl d = true ∧ smplAll ds = true := by
  have e : smplAll (d :: ds) = (smpl d && smplAll ds) := rfl
  rw [e, Bool.and_eq_true] at h
  exact h
theorem smpl_list {ds : List PyData} (h : smpl (.list ds) = true) : False := Bool.noConfusion h
mutual
theorem Dp.keep {K : PySem.W.Frag} {H H' : Hp} (e : Keep H H') : ∀ {v : V} {d : PyData}, Dp K H v d → smpl d = true → Dp K H' v d
  | _, _, .non, _ => .non
  | _, _, .bl b, _ => .bl b
  | _, _, .int i, _ => .int i
  | _, _, .str x, _ => .str x
  | _, _, .lst h q, s => (smpl_list s).elim
  | _, _, .tup h q, s => .tup (Keep.tup e h) (DpAll.keep e q s)
theorem DpAll.keep {K : PySem.W.Frag} {H H' : Hp} (e : Keep H H') : ∀ {vs : List V} {ds : List PyData}, DpAll K H vs ds → smplAll ds = true → DpAll K H' vs ds
  | _, _, .nil, _ => .nil
  | _, _, .cons h q, s => .cons (Dp.keep e h (smplAll_cons s).1) (DpAll.keep e q (smplAll_cons s).2)
end
abbrev varNames : List Str := ["x", "y", "z", "v", "i"]
/-- the names that the generator gives -/
structure Nms (given known : List Str) : Prop where
  g : given = [] ∨ given = (["n"] : List Str)
  k : ∀ z ∈ known, z ∈ varNames
  l : known.length ≤ 40
def allNames : List Str := ["n", "x", "y", "z", "v", "i"]
theorem Nms.all {given known : List Str} (h : Nms given known) : ∀ z ∈ given ++ known, z ∈ allNames := fun z hz => by
  rcases List.mem_append.mp hz with q | q
  · rcases h.g with e | e
    · rw [e] at q; cases q
    · rw [e] at q
      rw [List.mem_singleton.mp q]
      exact List.mem_cons_self
  · exact List.mem_cons_of_mem _ (h.k z q)
theorem Nms.len {given known : List Str} (h : Nms given known) : (given ++ known).length ≤ 41 := by
  have := h.l
  rw [List.length_append]
  rcases h.g with e | e <;> rw [e] <;> simp <;> omega
theorem smpl_names : ∀ z ∈ allNames ++ opNames ++ quNames, smpl (.str z) = true := by decide +kernel
/-- what _law_expression gives -/
structure GEx (given known : List Str) (d : PyData) : Prop where
  e : exprB given known 2 d = true
  s : smpl d = true
  w : wt d ≤ 80
  ne : d ≠ .int 7
theorem ex_name {args vars : List Str} {n : Nat} {z : Str} (h : z ∈ args ++ vars) : exprB args vars (n + 1) (.str z) = true := by
  show (decide (z ∈ args) || decide (z ∈ vars)) = true
  rcases List.mem_append.mp h with q | q
  · rw [decide_eq_true q]; rfl
  · rw [decide_eq_true q, Bool.or_true]
theorem ex_int {args vars : List Str} {n : Nat} {i : Int} (h0 : 0 ≤ i) (h1 : i < 1000) : exprB args vars (n + 1) (.int i) = true := by
  show (decide (0 ≤ i) && decide (i ≤ 1000000006)) = true
  rw [decide_eq_true h0, decide_eq_true (by omega)]
  rfl
theorem sm_int {i : Int} (h0 : 0 ≤ i) (h1 : i < 1000) : smpl (.int i) = true := by
  show (decide (0 ≤ i) && decide (i < 1000)) = true
  rw [decide_eq_true h0, decide_eq_true h1]
  rfl
/-- a name or a small number -/
structure GFirst (given known : List Str) (d : PyData) : Prop where
  e : ∀ n, exprB given known (n + 1) d = true
  s : smpl d = true
  w : wt d ≤ 22
  ne : d ≠ .int 7
theorem GFirst.gex {given known : List Str} {d : PyData} (h : GFirst given known d) : GEx given known d := ⟨h.e 1, h.s, by have := h.w; omega, h.ne⟩
theorem gfirst_name {given known : List Str} {z : Str} (n : Nms given known) (h : z ∈ given ++ known) : GFirst given known (.str z) :=
  ⟨fun _ => ex_name h, smpl_names z (by have := n.all z h; simp only [List.mem_append]; exact .inl (.inl this)), Nat.le_refl 22, fun q => by cases q⟩
theorem gfirst_int {given known : List Str} {i : Int} (h0 : 0 ≤ i) (h1 : i < 7) : GFirst given known (.int i) := ⟨fun _ => ex_int h0 (by omega), sm_int h0 (by omega), (by decide : 5 ≤ 22), fun q => by injection q with q; omega⟩
theorem gex_op {given known : List Str} {o : Str} {a b : PyData} (ho : o ∈ opNames) (ha : GFirst given known a) (hb : GFirst given known b) : GEx given known (.tuple [.str o, a, b]) := by
  refine ⟨?_, ?_, ?_, fun q => by cases q⟩
  · show (quesB known [.str o, a, b] || (decide (1 ≠ 0) && decide (o ∈ opNames) && (exprB given known 1 a && exprB given known 1 b))) = true
    rw [ha.e 0, hb.e 0, decide_eq_true ho]
    simp
  · show (smpl (.str o) && (smpl a && (smpl b && true))) = true
    rw [smpl_names o (by simp only [List.mem_append]; exact .inl (.inr ho)), ha.s, hb.s]
    rfl
  · show 3 + (22 + 2 + (wt a + 2 + (wt b + 2 + 0))) ≤ 80
    have h1 := ha.w
    have h2 := hb.w
    omega
theorem gex_qu {given known : List Str} {q z : Str} (n : Nms given known) (hq : q ∈ quNames) (hz : z ∈ known) : GEx given known (.tuple [.str q, .str z]) := by
  refine ⟨?_, ?_, ?_, fun q => by cases q⟩
  · show ((decide (q ∈ quNames) && decide (z ∈ known)) || _) = true
    rw [decide_eq_true hq, decide_eq_true hz]
    rfl
  · show (smpl (.str q) && (smpl (.str z) && true)) = true
    rw [smpl_names q (by simp only [List.mem_append]; exact .inr hq), smpl_names z (by simp only [List.mem_append]; exact .inl (.inl (n.all z (List.mem_append_right _ hz))))]
    rfl
  · show 3 + (22 + 2 + (22 + 2 + 0)) ≤ 80
    decide
theorem small_list {xs : List V} (h : Nat.ble xs.length 1000 = true) : xs.length ≤ sizeLine := by
  rw [sizeLine_eq]
  exact Nat.le_trans (Nat.le_of_ble_eq_true h) (by decide)
/-! ### the scope -/
structure ScopeD (H : Hp) (dk g kn ca ma : Addr) (given known calls : List Str) (many : List (Str × Nat)) (sure : Bool) : Prop where
  d : ∃ kvs, H dk = some (.dK kvs) ∧ valV kvs (Sum.inr "given") = some (.ref g) ∧ valV kvs (Sum.inr "known") = some (.ref kn) ∧ valV kvs (Sum.inr "calls") = some (.ref ca) ∧ valV kvs (Sum.inr "many") = some (.ref ma) ∧ valV kvs (Sum.inr "sure") = some (.bl sure)
  g : H g = some (.lst (given.map V.str))
  kn : H kn = some (.lst (known.map V.str))
  ca : H ca = some (.lst (calls.map V.str))
  ma : ∃ mk, Rd H ma (.dK mk) ∧ mk.map (·.1) = (many.map (·.1)).map Sum.inr ∧ ∀ p ∈ many, valV mk (Sum.inr p.1) = some (.int (p.2 : Nat))
theorem tape_ne {H : Hp} {t b a : Addr} {o : HO} (h : TapeB H t b) (e : H a = some o) (n : ∀ xs, o ≠ .lst xs) : a ≠ t := fun z => by
  obtain ⟨ns, i, r, s, h1, _⟩ := h
  rw [z, h1] at e
  exact n _ (Option.some.inj e).symm
theorem tape_neS {H : Hp} {t b a : Addr} {zs : List Str} (h : TapeB H t b) (e : H a = some (.lst (zs.map V.str))) : a ≠ t := fun z => by
  obtain ⟨ns, i, r, s, h1, _⟩ := h
  rw [z, h1] at e
  have e1 := HO.lst.inj (Option.some.inj e)
  cases zs with
  | nil => cases e1
  | cons z zs => cases e1
theorem tape_neN {H : Hp} {t b a : Addr} (h : TapeB H t b) (e : H a = none) : a ≠ t := fun z => by
  obtain ⟨ns, i, r, s, h1, _⟩ := h
  rw [z, h1] at e
  cases e
theorem TapeB.same {H H' : Hp} {t b : Addr} (h : TapeB H t b) (s : Same H H') : TapeB H' t b := by
  obtain ⟨ns, i, r, sd, h1, h2, h3⟩ := h
  exact ⟨ns, i, r, sd, s _ _ h1, s _ _ h2, h3⟩
theorem TapeB.lst {H : Hp} {t b : Addr} (h : TapeB H t b) : ∃ xs, H t = some (.lst xs) := by
  obtain ⟨ns, i, r, s, h1, _⟩ := h
  exact ⟨_, h1⟩
theorem TapeB.keep {H H' : Hp} {t b : Addr} (h : TapeB H t b) (s : Only [t] H H') : Keep H H' := s.keep fun a ha => by
  rw [List.mem_singleton.mp ha]
  exact h.lst
theorem rd_keep {H H' : Hp} {a : Addr} {kvs : List (Key × V)} (h : Rd H a (.dK kvs)) (k : Keep H H') : Rd H' a (.dK kvs) := by
  rcases h with h | ⟨o, h⟩
  · exact .inl (k _ _ (fun _ z => by cases z) h)
  · exact .inr ⟨o, k _ _ (fun _ z => by cases z) h⟩
theorem ScopeD.by {H H' : Hp} {dk g kn ca ma : Addr} {given known calls : List Str} {many : List (Str × Nat)} {sure : Bool} (h : ScopeD H dk g kn ca ma given known calls many sure)
    {known' calls' : List Str} (k : Keep H H') (hg : H' g = some (.lst (given.map V.str))) (hk : H' kn = some (.lst (known'.map V.str))) (hc : H' ca = some (.lst (calls'.map V.str))) :
    ScopeD H' dk g kn ca ma given known' calls' many sure := by
  obtain ⟨kvs, h0, h1⟩ := h.d
  obtain ⟨mk, m0, m1⟩ := h.ma
  exact ⟨⟨kvs, k _ _ (fun _ z => by cases z) h0, h1⟩, hg, hk, hc, ⟨mk, rd_keep m0 k, m1⟩⟩
theorem ScopeD.only {H H' : Hp} {t b dk g kn ca ma : Addr} {given known calls : List Str} {many : List (Str × Nat)} {sure : Bool} (h : ScopeD H dk g kn ca ma given known calls many sure) (T : TapeB H t b) (o : Only [t] H H') :
    ScopeD H' dk g kn ca ma given known calls many sure := by
  have n : ∀ {a : Addr} {zs : List Str}, H a = some (.lst (zs.map V.str)) → a ∉ [t] := fun e z => tape_neS T e (List.mem_singleton.mp z)
  exact h.by (T.keep o) (o _ _ (n h.g) h.g) (o _ _ (n h.kn) h.kn) (o _ _ (n h.ca) h.ca)
def spOne : Sp := fun vs H Q _ => ∃ (t b l : Addr) (xs : List V), vs = [.ref t, .ref l] ∧ TapeB H t b ∧ H l = some (.lst xs) ∧ l ≠ t ∧ 1 ≤ xs.length ∧ xs.length ≤ 1000 ∧
  ∀ H' x, x ∈ xs → TapeB H' t b → (∀ b, b ≠ t → H' b = H b) → Q x H'
def spLExpr (K : PySem.W.Frag) : Sp := fun vs H Q _ => ∃ (t b dk g kn ca ma : Addr) (given known calls : List Str) (many : List (Str × Nat)) (sure : Bool), vs = [.ref t, .ref dk] ∧ TapeB H t b ∧ ScopeD H dk g kn ca ma given known calls many sure ∧ Nms given known ∧
  ∀ H' v d, Only [t] H H' → TapeB H' t b → Dp K H' v d → GEx given known d → Q v H'
def spSmall (K : PySem.W.Frag) : Sp := fun vs H Q _ => ∃ (t b dk g kn ca ma : Addr) (given known calls : List Str) (many : List (Str × Nat)) (sure : Bool), vs = [.ref t, .ref dk] ∧ TapeB H t b ∧ ScopeD H dk g kn ca ma given known calls many sure ∧ Nms given known ∧
  ∀ H' v d, Only [t] H H' → TapeB H' t b → Dp K H' v d → GEx given known d → Q v H'
structure Lx (K : PySem.W.Frag) (mg : Str → Option Value) (f : Nat → Addr) (fd : Nat → FuncData) : Prop where
  tape : DefX K mg "_law_tape" sTape ["_law_script"] (f 50) (fd 50)
  draw : DefX K mg "_law_draw" sDraw ["_law_tape_here", "_law_many"] (f 51) (fd 51)
  one : DefX K mg "_law_one" sOne ["_law_tape_here", "_law_some"] (f 52) (fd 52)
  expr : DefX K mg "_law_expression" sLExpr ["_law_tape_here", "_law_scope"] (f 53) (fd 53)
  small : DefX K mg "_law_small" sSmall ["_law_tape_here", "_law_scope"] (f 54) (fd 54)
theorem TxtD.of {mg : Str → Option Value} (T : Tx mg) : TxtD mg := ⟨T.list, T.len, T.int⟩
theorem strs_shaped {zs : List Str} (h : ∀ z ∈ zs, z ∈ allNames) : SeqAt.shaped (.list (zs.map PyData.str)) = true := by
  have s1 : ∀ z ∈ allNames, PyData.canLay0 (.str z) = true := by decide +kernel
  have a1 : ∀ zs : List Str, (∀ z ∈ zs, z ∈ allNames) → PyData.canLayAll0 (zs.map PyData.str) = true := by
    intro zs
    induction zs with
    | nil => intro _; rfl
    | cons z zs ih =>
      intro h
      show (PyData.canLay0 (.str z) && PyData.canLayAll0 (zs.map PyData.str)) = true
      rw [s1 z (h z List.mem_cons_self), ih fun y hy => h y (List.mem_cons_of_mem _ hy)]
      rfl
  have d1 : ∀ zs : List Str, PyData.depthAll (zs.map PyData.str) = 0 := by
    intro zs
    induction zs with
    | nil => rfl
    | cons z zs ih =>
      show max 0 (PyData.depthAll (zs.map PyData.str)) = 0
      rw [ih]
      rfl
  unfold SeqAt.shaped
  have e1 : PyData.canLay0 (.list (zs.map PyData.str)) = PyData.canLayAll0 (zs.map PyData.str) := rfl
  have e2 : PyData.depth (.list (zs.map PyData.str)) = PyData.depthAll (zs.map PyData.str) + 1 := rfl
  rw [e1, a1 zs h, e2, d1 zs]
  rfl
theorem eqv_nil (zs : List Str) : (!(PyData.list (zs.map PyData.str)).eqv (.list [])) = decide (zs ≠ []) := by
  cases zs with
  | nil => rfl
  | cons z zs => rfl
section
variable {P : Program} {w : World} {K : PySem.W.Frag} {mg : Str → Option Value} {base : Heap} {f : Nat → Addr} {fd : Nat → FuncData}
theorem ok_one (T : Tx mg) (D : Lx K mg f fd) : FnOk P w K mg base CX0 2 (f 52) (fd 52) ["_law_tape_here", "_law_some"] spOne := by
  have GD : FnOk P w K mg base CX0 1 _ _ ["_law_tape_here", "_law_many"] spDraw := ok_draw D.draw.F (TxtD.of T)
  refine D.one.F.ok scOne (fun vs H Q E h => ?_) (fun cdv A outer s H vs Q E hr h => ?_)
  · obtain ⟨t, b, l, xs, rfl, _⟩ := h
    rfl
  · obtain ⟨t, b, l, xs, rfl, tk, hl, ne, h1, h2, k⟩ := h
    refine ⟨_, pss_one (ps_ret (pe_ix ix_list (pv 1) (pe_call GD hr (by rfl) D.draw.mg D.draw.F.kp D.draw.b .nil pass0 (pa_cons (pv 0) (pa_cons (pe_callB call_len_seq (by rfl) T.len (by decide +kernel) (pa_cons (pv 1) pa_nil)) pa_nil))) (fun _ _ => rfl))), ?_⟩
    refine ⟨_, rfl, _, rfl, _, rfl, l, _, rfl, .inl (SqL.of hl), t, b, (xs.length : Int), rfl, by omega, by omega, tk, fun H' d tk' oth d0 d1 => ?_⟩
    obtain ⟨j, rfl⟩ : ∃ j : Nat, d = (j : Int) := ⟨d.toNat, by omega⟩
    have hj : j < xs.length := by omega
    have hl' : H' l = some (.lst xs) := by rw [oth l ne]; exact hl
    exact ⟨l, _, _, xs[j], rfl, rfl, SqL.of hl', atI_nat (List.getElem?_eq_getElem hj), k H' _ (List.getElem_mem hj) tk' oth⟩
end
end Pl

namespace Pl
open PySem PySem.Spec PyProof.Rows L2
theorem three_size (a b c : V) : [a, b, c].length ≤ sizeLine := by
  rw [sizeLine_eq]
  exact (by decide : 3 ≤ 16777216)
theorem dgK {H : Hp} {a : Addr} {kvs : List (Key × V)} {z : Str} {v : V} (h : H a = some (.dK kvs)) (e : valV kvs (Sum.inr z) = some v) : DGet H a (.str z) (some v) := by
  rw [← e]
  exact DGet.k (k := Sum.inr z) h
theorem str_mem {x : V} {zs : List Str} (h : x ∈ zs.map V.str) : ∃ z, z ∈ zs ∧ x = .str z := by
  obtain ⟨z, h1, rfl⟩ := List.mem_map.mp h
  exact ⟨z, h1, rfl⟩
theorem dg5 : (["plus", "minus", "times", "less", "same"] : List Str).map V.str = [V.str (Str.ofString "plus"), V.str (Str.ofString "minus"), V.str (Str.ofString "times"), V.str (Str.ofString "less"), V.str (Str.ofString "same")] := rfl
theorem lst_len {zs : List Str} (h : zs.length ≤ 1000) : (zs.map V.str).length ≤ 1000 := by rw [List.length_map]; exact h
theorem via_asg {te : TE} {g : TG} {rest : TS} {D : _} {σ : L2.St} {H : Hp} (R : V → Hp → Prop) (h : ∀ v H2, R v H2 → g v σ H2 (rest D)) (k : ∀ Q : VK, (∀ v H2, R v H2 → Q v H2) → te σ H Q) : tSeq (tAsg te g) rest D σ H := k _ h
section
variable {P : Program} {w : World} {K : PySem.W.Frag} {mg : Str → Option Value} {base : Heap} {f : Nat → Addr} {fd : Nat → FuncData}
theorem ok_lexpr (T : Tx mg) (D : Lx K mg f fd) : FnOk P w K mg base CX0 3 (f 53) (fd 53) ["_law_tape_here", "_law_scope"] (spLExpr K) := by
  have GD : FnOk P w K mg base CX0 1 _ _ ["_law_tape_here", "_law_many"] spDraw := ok_draw D.draw.F (TxtD.of T)
  have GO : FnOk P w K mg base CX0 2 _ _ ["_law_tape_here", "_law_some"] spOne := ok_one T D
  refine D.expr.F.ok scLExpr (fun vs H Q E h => ?_) (fun cdv A outer s H vs Q E hr h => ?_)
  · obtain ⟨t, b, dk, g, kn, ca, ma, given, known, calls, many, sure, rfl, _⟩ := h
    rfl
  · obtain ⟨t, b, dk, g, kn, ca, ma, given, known, calls, many, sure, rfl, tk, hS, hN, k⟩ := h
    have hu := hu_of hr
    have hr1 : Room 1 _ := hr.mono (by omega)
    refine ⟨_, pss_cons (ps_par (i := 2) (j := 3) (by rfl) scLExpr.nd rfl rfl (by decide) rfl rfl (pa_cons (pe_op op_cat (pe_dget hu (pv 1) pe_str (fun _ _ => rfl)) (pe_dget hu (pv 1) pe_str (fun _ _ => rfl)))
        (pa_cons (pe_call GD hr1 (by rfl) D.draw.mg D.draw.F.kp D.draw.b .nil pass0 (pa_cons (pv 0) (pa_cons pe_int pa_nil))) pa_nil)) (by rfl))
      (pss_cons (ps_set (i := 4) scLExpr.nd rfl (Or.inl rfl) (pe_ifExp (PW.pt (pw_and (pt_cmpR (op_neD hr.units) (pv 2) (pe_lst pa_nil) (nomark _)) (pw_and1 (pt_cmpR op_lt (pv 3) pe_int (nomark _)))))
        (pe_call GO hr (by rfl) D.one.mg D.one.F.kp D.one.b .nil pass0 (pa_cons (pv 0) (pa_cons (pv 2) pa_nil)))
        (pe_call GD hr1 (by rfl) D.draw.mg D.draw.F.kp D.draw.b .nil pass0 (pa_cons (pv 0) (pa_cons pe_int pa_nil)))))
      (pss_cons (ps_if (pt_cmpR op_eq (pv 3) pe_int (nomark _))
        (pss_one (ps_ret (pe_tup (pa_cons (pe_call GO hr (by rfl) D.one.mg D.one.F.kp D.one.b .nil pass0 (pa_cons (pv 0) (pa_cons (pe_lst (pa_cons pe_str (pa_cons pe_str (pa_cons pe_str (pa_cons pe_str (pa_cons pe_str pa_nil)))))) pa_nil)))
          (pa_cons (pv 4) (pa_cons (pe_call GD hr1 (by rfl) D.draw.mg D.draw.F.kp D.draw.b .nil pass0 (pa_cons (pv 0) (pa_cons pe_int pa_nil))) pa_nil)))))) pss_nil)
      (pss_cons (ps_if (PW.pt (pw_and (pt_cmpR op_eq (pv 3) pe_int (nomark _)) (pw_and1 (pt_cmpR (op_neD hr.units) (pe_dget hu (pv 1) pe_str (fun _ _ => rfl)) (pe_lst pa_nil) (nomark _)))))
        (pss_one (ps_ret (pe_tup (pa_cons (pe_call GO hr (by rfl) D.one.mg D.one.F.kp D.one.b .nil pass0 (pa_cons (pv 0) (pa_cons (pe_lst (pa_cons pe_str (pa_cons pe_str pa_nil))) pa_nil)))
          (pa_cons (pe_call GO hr (by rfl) D.one.mg D.one.F.kp D.one.b .nil pass0 (pa_cons (pv 0) (pa_cons (pe_dget hu (pv 1) pe_str (fun _ _ => rfl)) pa_nil))) pa_nil))))) pss_nil)
      (pss_one (ps_ret (pv 4)))))), ?_⟩
    obtain ⟨kvs, hd, eg, ek, ec, em, es⟩ := hS.d
    have len41 := hN.len
    refine ⟨_, rfl, dk, _, rfl, dgK hd eg, ?_⟩
    refine ⟨_, rfl, dk, _, rfl, dgK hd ek, ?_⟩
    refine ⟨g, kn, _, _, rfl, rfl, hS.g, hS.kn, ?_, fun p hp => ?_⟩
    · rw [← List.length_append, ← List.map_append, List.length_map, sizeLine_eq]
      omega
    rw [← List.map_append]
    have nt : p ≠ t := tape_neN tk hp
    refine ⟨_, rfl, t, b, 6, rfl, by decide, by decide, tk.same (same_upd hp), fun H1 way tk1 oth1 w0 w1 => ?_⟩
    have on1 : Only [t] H H1 := (Only.same (same_upd hp)).trans (Only.oth oth1)
    have hp1 : H1 p = some (.lst ((given ++ known).map V.str)) := by
      rw [oth1 p nt]
      exact upd_same
    have hS1 := hS.only tk on1
    obtain ⟨kvs, hd, eg, ek, ec, em, es⟩ := hS1.d
    refine ⟨_, _, rfl, ?_⟩
    dsimp only
    refine via_asg (fun v H2 => ∃ d, Only [t] H H2 ∧ TapeB H2 t b ∧ Dp K H2 v d ∧ GFirst given known d) (fun v H2 hR => ?_) (fun Q' kQ => ?_)
    · obtain ⟨d, on2, tk2, hd2, hf2⟩ := hR
      have hS2 := hS.only tk on2
      obtain ⟨kvs, hd, eg, ek, ec, em, es⟩ := hS2.d
      refine ⟨_, rfl, rfl, _, rfl, ?_⟩
      refine ite2 (fun c => ?_) (fun c => ?_)
      · refine ⟨_, rfl, small_list rfl, fun l hl => ⟨t, b, l, _, rfl, tk2.same (same_upd hl), upd_same, tape_neN tk2 hl, by simp, by simp, fun H3 x hx tk3 oth3 => ?_⟩⟩
        rw [← dg5] at hx
        obtain ⟨o, ho, rfl⟩ := str_mem hx
        have on3 : Only [t] H2 H3 := (Only.same (same_upd hl)).trans (Only.oth oth3)
        refine ⟨_, rfl, _, rfl, t, b, 4, rfl, by decide, by decide, tk3, fun H4 i tk4 oth4 i0 i1 => ?_⟩
        have on4 : Only [t] H2 H4 := on3.trans (Only.oth oth4)
        refine ⟨three_size _ _ _, fun q hq => ?_⟩
        have d4 : Dp K H4 v d := Dp.keep (tk2.keep on4) hd2 hf2.s
        have d5 := dp_same (same_upd (o := .tup [.str o, v, .int i]) hq) d4
        exact k _ _ _ ((on2.trans on4).trans (Only.same (same_upd hq))) (tk4.same (same_upd hq)) (.tup (.inl (.inl upd_same)) (.cons (.str o) (.cons d5 (.cons (.int i) .nil)))) (gex_op ho hf2 (gfirst_int i0 (by omega)))
      · refine ⟨_, rfl, rfl, _, rfl, ?_⟩
        have fin : ∀ Hx, Only [t] H2 Hx → TapeB Hx t b → Q v Hx := fun Hx onx tkx => k Hx v d (on2.trans onx) tkx (Dp.keep (tk2.keep onx) hd2 hf2.s) hf2.gex
        refine ite_b (fun c1 => ?_) (fun c1 => ?_)
        · refine ⟨_, rfl, dk, _, rfl, dgK hd ek, ?_⟩
          refine ⟨small_list rfl, fun l hl => ?_⟩
          have hkn : upd H2 l (.lst []) kn = some (.lst (known.map V.str)) := same_upd hl _ _ hS2.kn
          refine ⟨.list (known.map PyData.str), .list [], .lst (SqL.of hkn) (strs_dpAll known), .lst (SqL.of upd_same) .nil, strs_shaped (fun z hz => hN.all z (List.mem_append_right _ hz)), rfl, _, rfl, ?_⟩
          rw [eqv_nil]
          have tk3 : TapeB (upd H2 l (.lst [])) t b := tk2.same (same_upd hl)
          have on3 : Only [t] H2 (upd H2 l (.lst [])) := Only.same (same_upd hl)
          have hS3 := hS2.only tk2 on3
          refine ite2 (fun c2 => ?_) (fun c2 => ?_)
          · refine ⟨_, rfl, small_list rfl, fun l2 hl2 => ⟨t, b, l2, _, rfl, tk3.same (same_upd hl2), upd_same, tape_neN tk3 hl2, by simp, by simp, fun H4 x hx tk4 oth4 => ?_⟩⟩
            obtain ⟨q, hq, rfl⟩ := str_mem (zs := quNames) hx
            have on4 : Only [t] H2 H4 := on3.trans ((Only.same (same_upd hl2)).trans (Only.oth oth4))
            have hS4 := hS2.only tk2 on4
            obtain ⟨kvs4, hd4, _, ek4, _⟩ := hS4.d
            have ne : known ≠ [] := of_decide_eq_true c2
            refine ⟨_, rfl, _, rfl, dk, _, rfl, dgK hd4 ek4, t, b, kn, _, rfl, tk4, hS4.kn, tape_neS tk4 hS4.kn, ?_, ?_, fun H5 x hx5 tk5 oth5 => ?_⟩
            · rw [List.length_map]
              exact Nat.pos_of_ne_zero (fun z => ne (List.length_eq_zero_iff.mp z))
            · rw [List.length_map]
              have := hN.l
              omega
            obtain ⟨z, hz, rfl⟩ := str_mem hx5
            refine ⟨two_size _ _, fun q' hq' => ?_⟩
            have on5 : Only [t] H2 H5 := on4.trans (Only.oth oth5)
            exact k _ _ _ ((on2.trans on5).trans (Only.same (same_upd hq'))) (tk5.same (same_upd hq')) (.tup (.inl (.inl upd_same)) (.cons (.str q) (.cons (.str z) .nil))) (gex_qu hN hq hz)
          · exact ⟨_, rfl, fin _ on3 tk3⟩
        · exact ⟨_, rfl, fin _ Only.refl tk2⟩
    · obtain ⟨kvs, hd, eg, ek, ec, em, es⟩ := hS1.d
      have drawn : ∀ (R : V → Hp → Prop) Hx, Only [t] H Hx → (∀ v H2, (∃ d, Only [t] H H2 ∧ TapeB H2 t b ∧ Dp K H2 v d ∧ GFirst given known d) → R v H2) → ∀ H' i, TapeB H' t b → (∀ b, b ≠ t → H' b = Hx b) → 0 ≤ i → i < 3 → R (.int i) H' :=
        fun R Hx onx kR H' i tk' oth' i0 i1 => kR _ _ ⟨.int i, onx.trans (Only.oth oth'), tk', .int i, gfirst_int i0 (by omega)⟩
      refine ⟨_, rfl, small_list rfl, fun l hl => ?_⟩
      have hp2 : upd H1 l (.lst []) p = some (.lst ((given ++ known).map V.str)) := same_upd hl _ _ hp1
      refine ⟨.list ((given ++ known).map PyData.str), .list [], .lst (SqL.of hp2) (strs_dpAll _), .lst (SqL.of upd_same) .nil, strs_shaped hN.all, rfl, _, rfl, ?_⟩
      rw [eqv_nil]
      have tk2 : TapeB (upd H1 l (.lst [])) t b := tk1.same (same_upd hl)
      have on2 : Only [t] H (upd H1 l (.lst [])) := on1.trans (Only.same (same_upd hl))
      refine ite2 (fun c => ?_) (fun c => ?_)
      · refine ⟨_, rfl, _, _, rfl, rfl, _, rfl, ?_⟩
        have ne : given ++ known ≠ [] := of_decide_eq_true c
        refine ite2 (fun c2 => ?_) (fun c2 => ?_)
        · refine ⟨_, rfl, _, rfl, t, b, p, _, rfl, tk2, hp2, nt, ?_, ?_, fun H3 x hx tk3 oth3 => ?_⟩
          · rw [List.length_map]
            exact Nat.pos_of_ne_zero (fun z => ne (List.length_eq_zero_iff.mp z))
          · rw [List.length_map]
            omega
          obtain ⟨z, hz, rfl⟩ := str_mem hx
          exact kQ _ _ ⟨.str z, on2.trans (Only.oth oth3), tk3, .str z, gfirst_name hN hz⟩
        · exact ⟨_, rfl, t, b, 3, rfl, by decide, by decide, tk2, fun H3 i tk3 oth3 => drawn _ _ on2 kQ H3 i tk3 oth3⟩
      · exact ⟨_, rfl, t, b, 3, rfl, by decide, by decide, tk2, fun H3 i tk3 oth3 => drawn _ _ on2 kQ H3 i tk3 oth3⟩
end
end Pl

namespace Pl
open PySem PySem.Spec PyProof.Rows L2
abbrev setNames : List Str := ["x", "v"]
abbrev callNames : List Str := ["x", "y", "z"]
abbrev effNames : List Str := ["hello", "b 2", "A"]
abbrev planNames : List Str := ["a", "b", "c", "d"]
/-- some of the calls -/
structure Some3 (calls vs : List Str) : Prop where
  ne : vs ≠ []
  nd : vs.Nodup
  sub : ∀ z ∈ vs, z ∈ calls
  len : vs.length ≤ 3
/-- what _law_instruction gives, and what is known and called then -/
inductive GI (given known calls : List Str) (sure : Bool) : PyData → List Str → List Str → Prop
  | call {z p : Str} {es : List PyData} (hz : z ∈ callNames) (hp : p ∈ planNames) (he : ∀ e ∈ es, GEx given known e) (hl : es.length ≤ 1) : GI given known calls sure (.tuple [.str "call", .str z, .str p, .tuple es]) (known ++ [z]) (calls ++ [z])
  | ctch {vs : List Str} (h : Some3 calls vs) : GI given known calls sure (.tuple [.str "catch", .tuple (vs.map PyData.str)]) known calls
  | drop {z : Str} (h : z ∈ calls) : GI given known calls sure (.tuple [.str "drop", .str z]) known calls
  | wait {n : Nat} {vs : List Str} (h : Some3 calls vs) (h1 : 1 ≤ n) (h2 : n ≤ vs.length) (h3 : sure = true → n = vs.length) : GI given known calls sure (.tuple [.str "wait", .int (n : Nat), .tuple (vs.map PyData.str)]) known calls
  | set {z : Str} {d : PyData} (hz : z ∈ setNames) (hd : GEx given known d) : GI given known calls sure (.tuple [.str "set", .str z, d]) (known ++ [z]) calls
  | eff {z : Str} (hz : z ∈ effNames) : GI given known calls sure (.tuple [.str "effect", .str z]) known calls
  | fail {d : PyData} (hd : GEx given known d) : GI given known calls sure (.tuple [.str "fail", d]) known calls
  | work {n : Int} (h1 : 1 ≤ n) (h2 : n ≤ 9) : GI given known calls sure (.tuple [.str "work", .int n]) known calls
theorem ck_call : ckOf "call" = some ⟨"call", callB, 4, 34⟩ := rfl
theorem ck_catch : ckOf "catch" = some ⟨"catch", catchB, 2, 36⟩ := rfl
theorem ck_drop : ckOf "drop" = some ⟨"drop", dropB, 2, 37⟩ := rfl
theorem ck_wait : ckOf "wait" = some ⟨"wait", waitB, 3, 35⟩ := rfl
theorem ck_set : ckOf "set" = some ⟨"set", setB, 3, 32⟩ := rfl
theorem ck_eff : ckOf "effect" = some ⟨"effect", sayB, 2, 38⟩ := rfl
theorem ck_fail : ckOf "fail" = some ⟨"fail", failB, 2, 33⟩ := rfl
theorem ck_work : ckOf "work" = some ⟨"work", workB, 2, 31⟩ := rfl
theorem ck_if : ckOf "if" = some ⟨"if", blockB, 3, 39⟩ := rfl
theorem ck_while : ckOf "while" = some ⟨"while", blockB, 3, 39⟩ := rfl
theorem instr_of {S : Sc} {nm : Str} {r : List PyData} {e : Ck} (h : ckOf nm = some e) : instrB S (.tuple (.str nm :: r)) = e.B S (.str nm :: r) := by
  show (match ckOf nm with | some e => e.B S (.str nm :: r) | none => false) = _
  rw [h]
/-! ### expressions go deeper -/
theorem ex_more {args vars : List Str} : ∀ (n : Nat) (d : PyData), exprB args vars n d = true → exprB args vars (n + 1) d = true
  | 0, d, h => Bool.noConfusion h
  | n + 1, .tuple ds, h => by
    have h' : (quesB vars ds || operW (exprB args vars n) n ds) = true := h
    show (quesB vars ds || operW (exprB args vars (n + 1)) (n + 1) ds) = true
    rw [Bool.or_eq_true] at h' ⊢
    refine h'.imp id fun q => ?_
    unfold operW at q ⊢
    split at q
    · rw [Bool.and_eq_true, Bool.and_eq_true, Bool.and_eq_true] at q
      rw [Bool.and_eq_true, Bool.and_eq_true, Bool.and_eq_true]
      exact ⟨⟨decide_eq_true (by omega), q.1.2⟩, ex_more n _ q.2.1, ex_more n _ q.2.2⟩
    · exact Bool.noConfusion q
  | n + 1, .str z, h => h
  | n + 1, .int i, h => h
  | n + 1, .bool i, h => h
  | n + 1, .none, h => h
  | n + 1, .list ds, h => h
  | n + 1, .dict ds, h => h
theorem gex_worth {S : Sc} {d : PyData} (h : GEx S.given S.named d) : worthB S d = true := ex_more 5 _ (ex_more 4 _ (ex_more 3 _ (ex_more 2 _ h.e)))
theorem var_all : ∀ z ∈ varNames, wordD (.str z) = true ∧ memS ["n"] (.str z) = false := by decide +kernel
theorem var_ok {S : Sc} {z : Str} (hg : S.given = [] ∨ S.given = (["n"] : List Str)) (hz : z ∈ varNames) : varB S (.str z) = true := by
  obtain ⟨h1, h2⟩ := var_all z hz
  unfold varB
  rw [h1]
  rcases hg with e | e
  · rw [e]; rfl
  · rw [e, h2]; rfl
theorem plan_words : ∀ z ∈ planNames, wordD (.str z) = true := by decide +kernel
theorem eff_ok : ∀ z ∈ effNames, effD (.str z) = true := by decide +kernel
theorem strsOf_map (vs : List Str) : strsOf (vs.map PyData.str) = vs := by
  induction vs with
  | nil => rfl
  | cons z vs ih =>
    show z :: strsOf (vs.map PyData.str) = _
    rw [ih]
theorem called_ok {S : Sc} {vs : List Str} (h : Some3 S.called vs) : areCalledB S (.tuple (vs.map PyData.str)) = true := by
  have l1 : 1 ≤ vs.length := Nat.pos_of_ne_zero (fun z => h.ne (List.length_eq_zero_iff.mp z))
  have l2 := h.len
  have a1 : (vs.map PyData.str).all (calledB S) = true := by
    rw [List.all_eq_true]
    intro d hd
    obtain ⟨z, hz, rfl⟩ := List.mem_map.mp hd
    exact decide_eq_true (h.sub z hz)
  show (decide (1 ≤ (vs.map PyData.str).length) && decide ((vs.map PyData.str).length ≤ 6) && (vs.map PyData.str).all (calledB S) && decide (strsOf (vs.map PyData.str)).Nodup) = true
  rw [List.length_map, a1, strsOf_map, decide_eq_true l1, decide_eq_true (by omega : vs.length ≤ 6), decide_eq_true h.nd]
  rfl
theorem gi_ok {S : Sc} {sure : Bool} {d : PyData} {k' c' : List Str} (hg : S.given = [] ∨ S.given = (["n"] : List Str)) (h : GI S.given S.named S.called sure d k' c') : instrB S d = true := by
  cases h with
  | @call z p es hz hp he hl =>
    rw [instr_of ck_call]
    show (varB S (.str z) && wordD (.str p) && (decide (es.length ≤ 3) && es.all (worthB S))) = true
    rw [var_ok hg ((by decide +kernel : ∀ z ∈ callNames, z ∈ varNames) z hz), plan_words p hp, decide_eq_true (by omega : es.length ≤ 3), List.all_eq_true.mpr fun e q => gex_worth (he e q)]
    rfl
  | ctch h =>
    rw [instr_of ck_catch]
    exact called_ok h
  | drop h =>
    rw [instr_of ck_drop]
    exact decide_eq_true h
  | @wait n vs h h1 h2 h3 =>
    rw [instr_of ck_wait]
    show (areCalledB S (.tuple (vs.map PyData.str)) && (decide ((1 : Int) ≤ (n : Nat)) && decide (((n : Nat) : Int) ≤ lenD (.tuple (vs.map PyData.str))))) = true
    have e : (lenD (.tuple (vs.map PyData.str)) : Int) = (vs.length : Int) := by
      show (((vs.map PyData.str).length : Nat) : Int) = _
      rw [List.length_map]
    rw [called_ok h, e, decide_eq_true (by omega : (1 : Int) ≤ (n : Nat)), decide_eq_true (by omega : ((n : Nat) : Int) ≤ vs.length)]
    rfl
  | @set z d hz hd =>
    rw [instr_of ck_set]
    show (varB S (.str z) && worthB S d) = true
    rw [var_ok hg ((by decide +kernel : ∀ z ∈ setNames, z ∈ varNames) z hz), gex_worth hd]
    rfl
  | eff hz =>
    rw [instr_of ck_eff]
    exact eff_ok _ hz
  | fail hd =>
    rw [instr_of ck_fail]
    exact gex_worth hd
  | @work n h1 h2 =>
    rw [instr_of ck_work]
    show (decide ((1 : Int) ≤ n) && decide (n ≤ 1000)) = true
    rw [decide_eq_true h1, decide_eq_true (by omega)]
    rfl
theorem gi_leave {S : Sc} {sure : Bool} {d : PyData} {k' c' : List Str} {i : Int} (h : GI S.given S.named S.called sure d k' c') : leaveS S i (itemsOf d) = { S with named := k', called := c' } := by
  cases h <;> rfl
theorem smpl_all : ∀ z ∈ ckNames ++ planNames ++ effNames ++ varNames, smpl (.str z) = true := by decide +kernel
theorem smplAll_of : ∀ {ds : List PyData}, (∀ d ∈ ds, smpl d = true) → smplAll ds = true
  | [], _ => rfl
  | d :: ds, h => by
    show (smpl d && smplAll ds) = true
    rw [h d List.mem_cons_self, smplAll_of fun e q => h e (List.mem_cons_of_mem _ q)]
    rfl
theorem wtAll_le {B : Nat} : ∀ {ds : List PyData}, (∀ d ∈ ds, wt d ≤ B) → wtAll ds ≤ ds.length * (B + 2)
  | [], _ => Nat.zero_le _
  | d :: ds, h => by
    have h1 := h d List.mem_cons_self
    have h2 := wtAll_le (ds := ds) fun e q => h e (List.mem_cons_of_mem _ q)
    show wt d + 2 + wtAll ds ≤ (ds.length + 1) * (B + 2)
    rw [Nat.add_mul, Nat.one_mul]
    omega
/-- the calls are of three names -/
def CallsOk (calls : List Str) : Prop := ∀ z ∈ calls, z ∈ callNames
theorem sm_some {calls vs : List Str} (hc : CallsOk calls) (h : Some3 calls vs) : smpl (.tuple (vs.map PyData.str)) = true ∧ wt (.tuple (vs.map PyData.str)) ≤ 75 := by
  have n1 : ∀ z ∈ callNames, z ∈ ckNames ++ planNames ++ effNames ++ varNames := by decide +kernel
  constructor
  · show smplAll _ = true
    refine smplAll_of fun d hd => ?_
    obtain ⟨z, hz, rfl⟩ := List.mem_map.mp hd
    exact smpl_all z (n1 z (hc z (h.sub z hz)))
  · show 3 + wtAll _ ≤ 75
    have q := wtAll_le (B := 22) (ds := vs.map PyData.str) fun d hd => by
      obtain ⟨z, hz, rfl⟩ := List.mem_map.mp hd
      exact Nat.le_refl 22
    rw [List.length_map] at q
    have := h.len
    omega
theorem gi_smpl {given known calls : List Str} {sure : Bool} {d : PyData} {k' c' : List Str} (hc : CallsOk calls) (h : GI given known calls sure d k' c') : smpl d = true ∧ wt d ≤ 200 := by
  have sA : ∀ z ∈ ckNames ++ planNames ++ effNames ++ varNames, smpl (.str z) = true := smpl_all
  cases h with
  | @call z p es hz hp he hl =>
    have s1 := sA z ((by decide +kernel : ∀ z ∈ callNames, z ∈ ckNames ++ planNames ++ effNames ++ varNames) z hz)
    have s2 := sA p ((by decide +kernel : ∀ z ∈ planNames, z ∈ ckNames ++ planNames ++ effNames ++ varNames) p hp)
    have s3 : smplAll es = true := smplAll_of fun e q => (he e q).s
    have w3 := wtAll_le (B := 80) (ds := es) fun e q => (he e q).w
    constructor
    · show (smpl (.str "call") && (smpl (.str z) && (smpl (.str p) && (smplAll es && true)))) = true
      rw [s1, s2, s3, sA "call" (by decide +kernel)]
      rfl
    · show 3 + (22 + 2 + (22 + 2 + (22 + 2 + (3 + wtAll es + 2 + 0)))) ≤ 200
      omega
  | ctch h =>
    obtain ⟨a, b⟩ := sm_some hc h
    constructor
    · show (smpl (.str "catch") && (smpl (.tuple _) && true)) = true
      rw [a, sA "catch" (by decide +kernel)]
      rfl
    · show 3 + (22 + 2 + (wt (.tuple _) + 2 + 0)) ≤ 200
      omega
  | @drop z h =>
    have s1 := sA z ((by decide +kernel : ∀ z ∈ callNames, z ∈ ckNames ++ planNames ++ effNames ++ varNames) z (hc z h))
    constructor
    · show (smpl (.str "drop") && (smpl (.str z) && true)) = true
      rw [s1, sA "drop" (by decide +kernel)]
      rfl
    · exact (by decide : 3 + (22 + 2 + (22 + 2 + 0)) ≤ 200)
  | @wait n vs h h1 h2 h3 =>
    obtain ⟨a, b⟩ := sm_some hc h
    have := h.len
    constructor
    · show (smpl (.str "wait") && (smpl (.int (n : Nat)) && (smpl (.tuple _) && true))) = true
      rw [a, sA "wait" (by decide +kernel), sm_int (by omega) (by omega)]
      rfl
    · show 3 + (22 + 2 + (5 + 2 + (wt (.tuple _) + 2 + 0))) ≤ 200
      omega
  | @set z d hz hd =>
    have s1 := sA z ((by decide +kernel : ∀ z ∈ setNames, z ∈ ckNames ++ planNames ++ effNames ++ varNames) z hz)
    have w1 := hd.w
    constructor
    · show (smpl (.str "set") && (smpl (.str z) && (smpl d && true))) = true
      rw [s1, hd.s, sA "set" (by decide +kernel)]
      rfl
    · show 3 + (22 + 2 + (22 + 2 + (wt d + 2 + 0))) ≤ 200
      omega
  | @eff z hz =>
    have s1 := sA z ((by decide +kernel : ∀ z ∈ effNames, z ∈ ckNames ++ planNames ++ effNames ++ varNames) z hz)
    constructor
    · show (smpl (.str "effect") && (smpl (.str z) && true)) = true
      rw [s1, sA "effect" (by decide +kernel)]
      rfl
    · exact (by decide : 3 + (22 + 2 + (22 + 2 + 0)) ≤ 200)
  | @fail d hd =>
    have w1 := hd.w
    constructor
    · show (smpl (.str "fail") && (smpl d && true)) = true
      rw [hd.s, sA "fail" (by decide +kernel)]
      rfl
    · show 3 + (22 + 2 + (wt d + 2 + 0)) ≤ 200
      omega
  | @work n h1 h2 =>
    constructor
    · show (smpl (.str "work") && (smpl (.int n) && true)) = true
      rw [sA "work" (by decide +kernel), sm_int (by omega) (by omega)]
      rfl
    · exact (by decide : 3 + (22 + 2 + (5 + 2 + 0)) ≤ 200)
theorem gi_names {given known calls : List Str} {sure : Bool} {d : PyData} {k' c' : List Str} (hk : ∀ z ∈ known, z ∈ varNames) (hc : CallsOk calls) (h : GI given known calls sure d k' c') :
    (∀ z ∈ k', z ∈ varNames) ∧ CallsOk c' ∧ k'.length ≤ known.length + 1 ∧ c'.length ≤ calls.length + 1 := by
  have n1 : ∀ z ∈ callNames, z ∈ varNames := by decide +kernel
  have n2 : ∀ z ∈ setNames, z ∈ varNames := by decide +kernel
  have app : ∀ {l : List Str} {z : Str} {p : Str → Prop}, (∀ y ∈ l, p y) → p z → ∀ y ∈ l ++ [z], p y := fun h1 h2 y hy => by
    rcases List.mem_append.mp hy with q | q
    · exact h1 y q
    · rw [List.mem_singleton.mp q]; exact h2
  cases h with
  | call hz _ _ _ => exact ⟨app hk (n1 _ hz), app hc hz, by simp, by simp⟩
  | set hz _ => exact ⟨app hk (n2 _ hz), hc, by simp, by simp⟩
  | _ => exact ⟨hk, hc, by omega, by omega⟩
end Pl

namespace Pl
open PySem PySem.Spec PyProof.Rows L2
structure TxG (mg : Str → Option Value) : Prop where
  range : mg "range" = none
  sorted : mg "sorted" = none
  dict : mg "dict" = none
  repr : mg "repr" = none
section
variable {P : Program} {w : World} {K : PySem.W.Frag} {mg : Str → Option Value} {base : Heap} {f : Nat → Addr} {fd : Nat → FuncData}
theorem ok_small (T : Tx mg) (D : Lx K mg f fd) : FnOk P w K mg base CX0 3 (f 54) (fd 54) ["_law_tape_here", "_law_scope"] (spSmall K) := by
  have GD : FnOk P w K mg base CX0 1 _ _ ["_law_tape_here", "_law_many"] spDraw := ok_draw D.draw.F (TxtD.of T)
  have GO : FnOk P w K mg base CX0 2 _ _ ["_law_tape_here", "_law_some"] spOne := ok_one T D
  refine D.small.F.ok scSmall (fun vs H Q E h => ?_) (fun cdv A outer s H vs Q E hr h => ?_)
  · obtain ⟨t, b, dk, g, kn, ca, ma, given, known, calls, many, sure, rfl, _⟩ := h
    rfl
  · obtain ⟨t, b, dk, g, kn, ca, ma, given, known, calls, many, sure, rfl, tk, hS, hN, k⟩ := h
    have hu := hu_of hr
    have hr1 : Room 1 _ := hr.mono (by omega)
    refine ⟨_, pss_cons (ps_if (PW.pt (pw_and (pt_cmpR (op_neD hr.units) (pe_dget hu (pv 1) pe_str (fun _ _ => rfl)) (pe_lst pa_nil) (nomark _))
          (pw_and1 (pt_cmpR op_eq (pe_call GD hr1 (by rfl) D.draw.mg D.draw.F.kp D.draw.b .nil pass0 (pa_cons (pv 0) (pa_cons pe_int pa_nil))) pe_int (nomark _)))))
        (pss_one (ps_ret (pe_call GO hr (by rfl) D.one.mg D.one.F.kp D.one.b .nil pass0 (pa_cons (pv 0) (pa_cons (pe_lst (pa_cons pe_str (pa_cons (pe_tup (pa_cons pe_str (pa_cons pe_int (pa_cons pe_str pa_nil)))) pa_nil))) pa_nil))))) pss_nil)
      (pss_one (ps_ret (pe_call GD hr1 (by rfl) D.draw.mg D.draw.F.kp D.draw.b .nil pass0 (pa_cons (pv 0) (pa_cons pe_int pa_nil))))), ?_⟩
    obtain ⟨kvs, hd, eg, ek, ec, em, es⟩ := hS.d
    have drawn : ∀ Hx, Only [t] H Hx → TapeB Hx t b → ∀ H' i, TapeB H' t b → (∀ b, b ≠ t → H' b = Hx b) → 0 ≤ i → i < 3 → Q (.int i) H' :=
      fun Hx onx tkx H' i tk' oth' i0 i1 => k _ _ (.int i) (onx.trans (Only.oth oth')) tk' (.int i) (gfirst_int i0 (by omega)).gex
    refine ⟨_, rfl, dk, _, rfl, dgK hd eg, ?_⟩
    refine ⟨small_list rfl, fun l hl => ?_⟩
    have hg1 : upd H l (.lst []) g = some (.lst (given.map V.str)) := same_upd hl _ _ hS.g
    refine ⟨.list (given.map PyData.str), .list [], .lst (SqL.of hg1) (strs_dpAll given), .lst (SqL.of upd_same) .nil, strs_shaped (fun z hz => hN.all z (List.mem_append_left _ hz)), rfl, _, rfl, ?_⟩
    rw [eqv_nil]
    have tk1 : TapeB (upd H l (.lst [])) t b := tk.same (same_upd hl)
    have on1 : Only [t] H (upd H l (.lst [])) := Only.same (same_upd hl)
    refine ite2 (fun c => ?_) (fun c => ?_)
    · refine ⟨_, rfl, t, b, 2, rfl, by decide, by decide, tk1, fun H2 i tk2 oth2 i0 i1 => ?_⟩
      have on2 : Only [t] H H2 := on1.trans (Only.oth oth2)
      refine ⟨rfl, _, rfl, ?_⟩
      have ne : given ≠ [] := of_decide_eq_true c
      have eg1 : given = (["n"] : List Str) := hN.g.resolve_left ne
      refine ite2 (fun c2 => ?_) (fun c2 => ?_)
      · refine ⟨_, rfl, three_size _ _ _, fun q hq => ⟨two_size _ _, fun l2 hl2 => ?_⟩⟩
        have tk3 : TapeB (upd (upd H2 q (.tup [.str "minus", .int 2, .str "n"])) l2 (.lst [.str "n", .ref q])) t b := (tk2.same (same_upd hq)).same (same_upd hl2)
        have on3 : Only [t] H (upd (upd H2 q (.tup [.str "minus", .int 2, .str "n"])) l2 (.lst [.str "n", .ref q])) := on2.trans ((Only.same (same_upd hq)).trans (Only.same (same_upd hl2)))
        refine ⟨t, b, l2, _, rfl, tk3, upd_same, tape_neN (tk2.same (same_upd hq)) hl2, Nat.le_of_ble_eq_true rfl, Nat.le_of_ble_eq_true rfl, fun H3 x hx tk4 oth4 => ?_⟩
        have on4 := on3.trans (Only.oth oth4)
        have hn : GFirst given known (.str "n") := gfirst_name hN (List.mem_append_left _ (by rw [eg1]; exact List.mem_cons_self))
        rcases List.mem_cons.mp hx with rfl | hx
        · exact k _ _ _ on4 tk4 (.str _) hn.gex
        · rw [List.mem_singleton.mp hx]
          have hq4 : H3 q = some (.tup [.str "minus", .int 2, .str "n"]) := by
            have nq : q ≠ t := tape_neN tk2 hq
            have nl : q ≠ l2 := fun z => by
              rw [← z, upd_same] at hl2
              cases hl2
            rw [oth4 q nq, upd_ne nl, upd_same]
          exact k _ _ _ on4 tk4 (.tup (.inl (.inl hq4)) (.cons (.str _) (.cons (.int 2) (.cons (.str _) .nil)))) (gex_op (by decide +kernel) (gfirst_int (by decide) (by decide)) hn)
      · exact ⟨_, rfl, t, b, 3, rfl, by decide, by decide, tk2, fun H3 i tk3 oth3 => drawn _ on2 tk2 H3 i tk3 oth3⟩
    · exact ⟨_, rfl, t, b, 3, rfl, by decide, by decide, tk1, fun H3 i tk3 oth3 => drawn _ on1 tk1 H3 i tk3 oth3⟩
end
end Pl

namespace Pl
open PySem PySem.Spec PyProof.Rows L2
abbrev inNames : List Str := ["_law_tape_here", "_law_scope", "_law_way", "_law_calls", "_law_known", "_law_name", "_law_other", "_law_given", "_law_some", "_law_found", "_law_turn"]
theorem scLInstr : FnScope inNames ["_law_tape_here", "_law_scope"] (defScope sLInstr) := ⟨rfl, rfl, rfl, by decide +kernel, rfl, by decide +kernel, by decide +kernel⟩
/-- the lists are others -/
structure Apart (b g kn ca : Addr) : Prop where
  kc : kn ≠ ca
  gk : g ≠ kn
  gc : g ≠ ca
  bk : b ≠ kn
  bc : b ≠ ca
/-- the plans that there are -/
structure ManyOk (many : List (Str × Nat)) : Prop where
  ne : many ≠ []
  nm : ∀ p ∈ many, p.1 ∈ planNames ∧ p.2 ≤ 1
  len : many.length ≤ 4
def spLInstr (K : PySem.W.Frag) : Sp := fun vs H Q _ => ∃ (t b dk g kn ca ma : Addr) (given known calls : List Str) (many : List (Str × Nat)) (sure : Bool), vs = [.ref t, .ref dk] ∧ TapeB H t b ∧ ScopeD H dk g kn ca ma given known calls many sure ∧ Apart b g kn ca ∧
  Nms given known ∧ CallsOk calls ∧ calls.length ≤ 40 ∧ ManyOk many ∧
  ∀ H' v d k' c', Only [t, kn, ca] H H' → TapeB H' t b → ScopeD H' dk g kn ca ma given k' c' many sure → Dp K H' v d → GI given known calls sure d k' c' → Q v H'
structure Ly (K : PySem.W.Frag) (mg : Str → Option Value) (f : Nat → Addr) (fd : Nat → FuncData) : Prop extends Lx K mg f fd where
  instr : DefX K mg "_law_instruction" sLInstr ["_law_tape_here", "_law_scope"] (f 55) (fd 55)
theorem via_if {T : TT} {A B rest : TS} {D : Ends} {σ : L2.St} {H : Hp} (R : Bool → Hp → Prop) (h1 : ∀ H2, R true H2 → A { nx := rest D, rt := D.rt, bk := D.bk, ct := D.ct } σ H2)
    (h2 : ∀ H2, R false H2 → B { nx := rest D, rt := D.rt, bk := D.bk, ct := D.ct } σ H2) (k : ∀ Q : Bool → Hp → Prop, (∀ c H2, R c H2 → Q c H2) → T σ H Q) : tSeq (tIfS T A B) rest D σ H :=
  k _ fun c H2 r => by
    cases c with
    | true => exact iteT (h1 H2 r)
    | false => exact iteF (h2 H2 r)
theorem via_cb {rr : List V → Hp → VK → Prop} {ta : TE} {tr : TA} {σ : L2.St} {H : Hp} {Q : VK} (R : V → Hp → Prop) (h : ∀ v H2, R v H2 → tr σ H2 fun xs H3 => rr (v :: xs) H3 Q) (k : ∀ Q : VK, (∀ v H2, R v H2 → Q v H2) → ta σ H Q) : tCB rr (tCons ta tr) σ H Q := k _ h
theorem nodup_le : ∀ {M l : List Str}, l.Nodup → (∀ z ∈ l, z ∈ M) → l.length ≤ M.length
  | [], l, _, h => by
    cases l with
    | nil => exact Nat.le_refl _
    | cons z l => cases h z List.mem_cons_self
  | a :: M, l, nd, h => by
    by_cases e : a ∈ l
    · have h1 := nodup_le (M := M) (nd.erase a) fun z hz => by
        obtain ⟨n, q⟩ := nd.mem_erase_iff.mp hz
        exact (List.mem_cons.mp (h z q)).resolve_left n
      rw [List.length_erase_of_mem e] at h1
      have : 0 < l.length := List.length_pos_of_mem e
      show l.length ≤ M.length + 1
      omega
    · have h1 := nodup_le (M := M) nd fun z hz => (List.mem_cons.mp (h z hz)).resolve_left fun q => e (by rw [← q]; exact hz)
      show l.length ≤ M.length + 1
      omega
theorem some3_of {calls zs ys : List Str} (hC : CallsOk calls) (ne : zs ≠ []) (sub : ∀ z ∈ zs, z ∈ calls) (p : ys.Perm (Sx.ded zs)) : Some3 calls ys := by
  have nd : ys.Nodup := p.nodup_iff.mpr (Sx.nodup_ded zs)
  have sb : ∀ z ∈ ys, z ∈ calls := fun z hz => sub z ((Sx.mem_ded zs z).mp (p.mem_iff.mp hz))
  refine ⟨fun e => ?_, nd, sb, nodup_le (M := callNames) nd fun z hz => hC z (sb z hz)⟩
  subst e
  cases zs with
  | nil => exact ne rfl
  | cons z zs =>
    have := p.mem_iff.mpr ((Sx.mem_ded (z :: zs) z).mpr List.mem_cons_self)
    cases this
theorem cut_last {zs : List Str} (ne : zs ≠ []) : ∃ z ∈ zs, cutV (zs.map V.str) (some (-1)) none = [z].map V.str := by
  have e := List.dropLast_concat_getLast ne
  refine ⟨zs.getLast ne, List.getLast_mem ne, ?_⟩
  generalize zs.getLast ne = z at e ⊢
  generalize zs.dropLast = l at e
  subst e
  have e1 : HT.sIx ((l ++ [z]).map V.str).length 0 (some (-1)) = l.length := by
    unfold HT.sIx
    rw [List.length_map, List.length_append]
    show (if (-1 : Int) < 0 then ((-1 : Int) + ((l.length + 1 : Nat) : Int)).toNat else _) = _
    rw [if_pos (by decide)]
    omega
  have e2 : HT.sIx ((l ++ [z]).map V.str).length ((l ++ [z]).map V.str).length none = l.length + 1 := by
    show ((l ++ [z]).map V.str).length = _
    rw [List.length_map, List.length_append]
    rfl
  unfold cutV
  rw [e1, e2, List.map_append, List.drop_left' (by rw [List.length_map])]
  rw [show l.length + 1 - l.length = 1 by omega]
  rfl
/-- what stands in no heap may be written -/
theorem only_new {t b D : Addr} {H H2 H4 : Hp} {o : HO} (tk : TapeB H2 t b) (hD : H2 D = none) (on2 : Only [t] H H2) (on4 : Only [t] H H4) : Only [t] H (upd H4 D o) := by
  intro x o' n e
  have q := on4 x o' n e
  rw [upd_ne]
  · exact q
  · intro z
    have := on2 _ _ n e
    rw [z, hD] at this
    cases this
theorem tape_cells {t b D : Addr} {H : Hp} (tk : TapeB H t b) (hD : H D = none) : D ≠ b := by
  intro z
  obtain ⟨ns3, i3, r3, sd3, _, g2, _⟩ := tk
  rw [← z, hD] at g2
  cases g2
theorem tape_new {t b D : Addr} {H : Hp} {o : HO} (tk : TapeB H t b) (n1 : D ≠ t) (n2 : D ≠ b) : TapeB (upd H D o) t b := by
  obtain ⟨ns, i, r, sd, h1, h2, h3⟩ := tk
  exact ⟨ns, i, r, sd, by rw [upd_ne n1.symm]; exact h1, by rw [upd_ne n2.symm]; exact h2, h3⟩
theorem dpAll_app {K : PySem.W.Frag} {H : Hp} : ∀ {vs us : List V} {ds es : List PyData}, DpAll K H vs ds → DpAll K H us es → DpAll K H (vs ++ us) (ds ++ es)
  | _, _, _, _, .nil, h => h
  | _, _, _, _, .cons a q, h => .cons a (dpAll_app q h)
theorem put_ca {H : Hp} {t b dk g kn ca ma : Addr} {given known calls : List Str} {many : List (Str × Nat)} {sure : Bool} (tk : TapeB H t b) (hS : ScopeD H dk g kn ca ma given known calls many sure) (hA : Apart b g kn ca) (c' : List Str) :
    TapeB (upd H ca (.lst (c'.map V.str))) t b ∧ ScopeD (upd H ca (.lst (c'.map V.str))) dk g kn ca ma given known c' many sure := by
  have nt := tape_neS tk hS.ca
  obtain ⟨ns, i, r, s, h1, h2, h3⟩ := tk
  have o : Only [ca] H (upd H ca (.lst (c'.map V.str))) := Only.put List.mem_cons_self
  exact ⟨⟨ns, i, r, s, by rw [upd_ne nt.symm]; exact h1, by rw [upd_ne hA.bc]; exact h2, h3⟩,
    hS.by (o.keep fun a ha => by rw [List.mem_singleton.mp ha]; exact ⟨_, hS.ca⟩) (by rw [upd_ne hA.gc]; exact hS.g) (by rw [upd_ne hA.kc]; exact hS.kn) upd_same⟩
theorem put_kn {H : Hp} {t b dk g kn ca ma : Addr} {given known calls : List Str} {many : List (Str × Nat)} {sure : Bool} (tk : TapeB H t b) (hS : ScopeD H dk g kn ca ma given known calls many sure) (hA : Apart b g kn ca) (k' : List Str) :
    TapeB (upd H kn (.lst (k'.map V.str))) t b ∧ ScopeD (upd H kn (.lst (k'.map V.str))) dk g kn ca ma given k' calls many sure := by
  have nt := tape_neS tk hS.kn
  obtain ⟨ns, i, r, s, h1, h2, h3⟩ := tk
  have o : Only [kn] H (upd H kn (.lst (k'.map V.str))) := Only.put List.mem_cons_self
  exact ⟨⟨ns, i, r, s, by rw [upd_ne nt.symm]; exact h1, by rw [upd_ne hA.bk]; exact h2, h3⟩,
    hS.by (o.keep fun a ha => by rw [List.mem_singleton.mp ha]; exact ⟨_, hS.kn⟩) (by rw [upd_ne hA.gk]; exact hS.g) upd_same (by rw [upd_ne hA.kc.symm]; exact hS.ca)⟩
theorem map_snoc (l : List Str) (z : Str) : l.map V.str ++ [V.str z] = (l ++ [z]).map V.str := by
  rw [List.map_append]
  rfl
theorem keep_put {H : Hp} {a : Addr} {xs ys : List V} (h : H a = some (.lst xs)) : Keep H (upd H a (.lst ys)) := (Only.put (S := [a]) List.mem_cons_self).keep fun x hx => by
  rw [List.mem_singleton.mp hx]
  exact ⟨_, h⟩
theorem only3 {t kn ca : Addr} {A B : Hp} (h : Only [t] A B) : Only [t, kn, ca] A B := h.mono fun x hx => by
  rw [List.mem_singleton.mp hx]
  exact List.mem_cons_self
section
variable {P : Program} {w : World} {K : PySem.W.Frag} {mg : Str → Option Value} {base : Heap} {f : Nat → Addr} {fd : Nat → FuncData}
theorem ok_linstr (T : Tx mg) (TG : TxG mg) (D : Ly K mg f fd) : FnOk P w K mg base CX0 4 (f 55) (fd 55) ["_law_tape_here", "_law_scope"] (spLInstr K) := by
  have GD : FnOk P w K mg base CX0 1 _ _ ["_law_tape_here", "_law_many"] spDraw := ok_draw D.draw.F (TxtD.of T)
  have GO : FnOk P w K mg base CX0 2 _ _ ["_law_tape_here", "_law_some"] spOne := ok_one T D.toLx
  have GX : FnOk P w K mg base CX0 3 _ _ ["_law_tape_here", "_law_scope"] (spLExpr K) := ok_lexpr T D.toLx
  have GS : FnOk P w K mg base CX0 3 _ _ ["_law_tape_here", "_law_scope"] (spSmall K) := ok_small T D.toLx
  refine D.instr.F.ok scLInstr (fun vs H Q E h => ?_) (fun cdv A outer s H vs Q E hr h => ?_)
  · obtain ⟨t, b, dk, g, kn, ca, ma, given, known, calls, many, sure, rfl, _⟩ := h
    rfl
  · obtain ⟨t, b, dk, g, kn, ca, ma, given, known, calls, many, sure, rfl, tk, hS, hA, hN, hC, hCl, hM, k⟩ := h
    have hu := hu_of hr
    have hr1 : Room 1 _ := hr.mono (by omega)
    have hr2 : Room 2 _ := hr.mono (by omega)
    refine ⟨_, pss_cons (ps_par3 (i := 2) (j := 3) (l := 4) (by rfl) scLInstr.nd rfl rfl rfl (by decide) (by decide) (by decide) rfl rfl rfl
        (pa_cons (pe_call GD hr1 (by rfl) D.draw.mg D.draw.F.kp D.draw.b .nil pass0 (pa_cons (pv 0) (pa_cons pe_int pa_nil))) (pa_cons (pe_dget hu (pv 1) pe_str (fun _ _ => rfl)) (pa_cons (pe_dget hu (pv 1) pe_str (fun _ _ => rfl)) pa_nil))) (by rfl))
      (pss_cons (ps_if (pt_cmpR op_lt (pv 2) pe_int (nomark _))
        (pss_cons (ps_par (i := 5) (j := 6) (by rfl) scLInstr.nd rfl rfl (by decide) rfl rfl
          (pa_cons (pe_call GO hr2 (by rfl) D.one.mg D.one.F.kp D.one.b .nil pass0 (pa_cons (pv 0) (pa_cons (pe_lst (pa_cons pe_str (pa_cons pe_str (pa_cons pe_str pa_nil)))) pa_nil)))
          (pa_cons (pe_call GO hr2 (by rfl) D.one.mg D.one.F.kp D.one.b .nil pass0 (pa_cons (pv 0) (pa_cons (pe_callB (call_sortedD rfl) (by rfl) TG.sorted (by decide +kernel) (pa_cons (pe_dget hu (pv 1) pe_str (fun _ _ => rfl)) pa_nil)) pa_nil))) pa_nil)) (by rfl))
        (pss_cons (ps_set (i := 7) scLInstr.nd rfl (Or.inl rfl) (pe_callTy cr_tupA (by rfl) T.tuple (by decide +kernel) (pa_cons
          (pe_lc (own := [("_law_turn", 10)]) (g := gName 10) (tt := tYes) (by rfl) scLInstr.nd (pi_range1 (by rfl) TG.range (pa_cons (pe_dget hu (pe_dget hu (pv 1) pe_str (fun _ _ => rfl)) (pv 6) (fun _ _ => rfl)) pa_nil))
            (blkOk_by (own := [("_law_turn", 10)]) (N := inNames) (sc := defScope sLInstr) (by decide +kernel)) (fun _ _ _ _ _ => pg_name (i := 10) scLInstr.nd rfl (Or.inl rfl)) (fun _ _ _ _ _ => pts_nil)
            (fun _ _ _ _ _ => pe_call GS hr (by rfl) D.small.mg D.small.F.kp D.small.b .nil pass0 (pa_cons (pv 0) (pa_cons (pv 1) pa_nil)))) pa_nil)))
        (pss_cons (ps_expr (pe_bm PySem.F.plainAttrs_list PySem.F.slot_list_append PySem.F.type_list_append mt_append (pv 3) (pa_cons (pv 5) pa_nil)))
        (pss_cons (ps_expr (pe_bm PySem.F.plainAttrs_list PySem.F.slot_list_append PySem.F.type_list_append mt_append (pv 4) (pa_cons (pv 5) pa_nil)))
        (pss_one (ps_ret (pe_tup (pa_cons pe_str (pa_cons (pv 5) (pa_cons (pv 6) (pa_cons (pv 7) pa_nil))))))))))) pss_nil)
      (pss_cons (ps_if (PW.pt (pw_and (pt_cmpR op_lt (pv 2) pe_int (nomark _)) (pw_and1 (pt_cmpR (op_neD hr.units) (pv 3) (pe_lst pa_nil) (nomark _)))))
        (pss_cons (ps_set (i := 8) scLInstr.nd rfl (Or.inl rfl) (pe_callTy cr_tupA (by rfl) T.tuple (by decide +kernel) (pa_cons (pe_callB (Sx.cr_sortSet rfl) (by rfl) TG.sorted (by decide +kernel) (pa_cons
          (pe_callTy (Sx.cr_setOf rfl) (by rfl) T.set (by decide +kernel) (pa_cons (pe_orT
            (pe_lc (own := [("_law_name", 5)]) (g := gName 5) (tt := _) (by rfl) scLInstr.nd (pi_list (pv 3))
              (blkOk_by (own := [("_law_name", 5)]) (N := inNames) (sc := defScope sLInstr) (by decide +kernel)) (fun _ _ _ _ _ => pg_name (i := 5) scLInstr.nd rfl (Or.inl rfl))
              (fun _ _ _ _ _ => pts_one (pt_cmpR op_gt (pe_call GD hr1 (by rfl) D.draw.mg D.draw.F.kp D.draw.b .nil pass0 (pa_cons (pv 0) (pa_cons pe_int pa_nil))) pe_int (nomark _)))
              (fun _ _ _ _ _ => pv 5))
            (pe_one (pe_slice sl_list (pv 3) (po_some (pe_un un_neg pe_int)) po_none))) pa_nil)) pa_nil)) pa_nil)))
        (pss_cons (ps_if (pt_cmpR op_eq (pv 2) pe_int (nomark _)) (pss_one (ps_ret (pe_tup (pa_cons pe_str (pa_cons (pv 8) pa_nil))))) pss_nil)
        (pss_cons (ps_if (PW.pt (pw_and (pt_cmpR op_eq (pv 2) pe_int (nomark _)) (pw_and1 (pt_cmpR op_eq (pe_call GD hr1 (by rfl) D.draw.mg D.draw.F.kp D.draw.b .nil pass0 (pa_cons (pv 0) (pa_cons pe_int pa_nil))) pe_int (nomark _)))))
          (pss_one (ps_ret (pe_tup (pa_cons pe_str (pa_cons (pe_ix ix_tup (pv 8) pe_int (fun _ _ => rfl)) pa_nil))))) pss_nil)
        (pss_one (ps_ret (pe_tup (pa_cons pe_str (pa_cons (pe_ifExp (pt_val (pe_dget hu (pv 1) pe_str (fun _ _ => rfl))) (pe_callB call_len_seq (by rfl) T.len (by decide +kernel) (pa_cons (pv 8) pa_nil))
          (pe_op op_add pe_int (pe_call GD hr1 (by rfl) D.draw.mg D.draw.F.kp D.draw.b .nil pass0 (pa_cons (pv 0) (pa_cons (pe_callB call_len_seq (by rfl) T.len (by decide +kernel) (pa_cons (pv 8) pa_nil)) pa_nil))))) (pa_cons (pv 8) pa_nil))))))))) pss_nil)
      (pss_cons (ps_if (pt_cmpR op_eq (pv 2) pe_int (nomark _))
        (pss_cons (ps_set (i := 9) scLInstr.nd rfl (Or.inl rfl) (pe_tup (pa_cons pe_str (pa_cons (pe_call GO hr2 (by rfl) D.one.mg D.one.F.kp D.one.b .nil pass0 (pa_cons (pv 0) (pa_cons (pe_lst (pa_cons pe_str (pa_cons pe_str pa_nil))) pa_nil)))
          (pa_cons (pe_call GX hr (by rfl) D.expr.mg D.expr.F.kp D.expr.b .nil pass0 (pa_cons (pv 0) (pa_cons (pv 1) pa_nil))) pa_nil)))))
        (pss_cons (ps_expr (pe_bm PySem.F.plainAttrs_list PySem.F.slot_list_append PySem.F.type_list_append mt_append (pv 4) (pa_cons (pe_ix ix_tup (pv 9) pe_int (fun _ _ => rfl)) pa_nil)))
        (pss_one (ps_ret (pv 9))))) pss_nil)
      (pss_cons (ps_if (pt_cmpR op_eq (pv 2) pe_int (nomark _))
        (pss_one (ps_ret (pe_tup (pa_cons pe_str (pa_cons (pe_call GO hr2 (by rfl) D.one.mg D.one.F.kp D.one.b .nil pass0 (pa_cons (pv 0) (pa_cons (pe_lst (pa_cons pe_str (pa_cons pe_str (pa_cons pe_str pa_nil)))) pa_nil))) pa_nil))))) pss_nil)
      (pss_cons (ps_if (PW.pt (pw_and (pt_cmpR op_eq (pv 2) pe_int (nomark _)) (pw_and1 (pt_cmpR op_eq (pe_call GD hr1 (by rfl) D.draw.mg D.draw.F.kp D.draw.b .nil pass0 (pa_cons (pv 0) (pa_cons pe_int pa_nil))) pe_int (nomark _)))))
        (pss_one (ps_ret (pe_tup (pa_cons pe_str (pa_cons (pe_call GX hr (by rfl) D.expr.mg D.expr.F.kp D.expr.b .nil pass0 (pa_cons (pv 0) (pa_cons (pv 1) pa_nil))) pa_nil))))) pss_nil)
      (pss_one (ps_ret (pe_tup (pa_cons pe_str (pa_cons (pe_op op_add pe_int (pe_call GD hr1 (by rfl) D.draw.mg D.draw.F.kp D.draw.b .nil pass0 (pa_cons (pv 0) (pa_cons pe_int pa_nil)))) pa_nil)))))))))), ?_⟩
    have fin : ∀ Hx v d, Only [t] H Hx → TapeB Hx t b → Dp K Hx v d → GI given known calls sure d known calls → Q v Hx :=
      fun Hx v d onx tkx hdx hg => k Hx v d known calls (onx.mono fun x hx => by rw [List.mem_singleton.mp hx]; exact List.mem_cons_self) tkx (hS.only tk onx) hdx hg
    refine ⟨_, rfl, t, b, 12, rfl, by decide, by decide, tk, fun H1 way tk1 oth1 w0 w1 => ?_⟩
    have on1 : Only [t] H H1 := Only.oth oth1
    have hS1 := hS.only tk on1
    obtain ⟨kvs, hd, eg, ek, ec, em, es⟩ := hS1.d
    refine ⟨_, rfl, dk, _, rfl, dgK hd ec, _, rfl, dk, _, rfl, dgK hd ek, ?_⟩
    refine ⟨_, _, _, rfl, ?_⟩
    refine ⟨_, rfl, _, _, rfl, rfl, _, rfl, ?_⟩
    refine ite2 (fun c1 => ?_) (fun c1 => ?_)
    · refine ⟨_, rfl, small_list rfl, fun l hl => ⟨t, b, l, _, rfl, tk1.same (same_upd hl), upd_same, tape_neN tk1 hl, by simp, by simp, fun H2 x hx tk2 oth2 => ?_⟩⟩
      obtain ⟨z, hz, rfl⟩ := str_mem (zs := callNames) hx
      have on2 : Only [t] H H2 := on1.trans ((Only.same (same_upd hl)).trans (Only.oth oth2))
      have hS2 := hS.only tk on2
      obtain ⟨kvs2, hd2, _, _, _, em2, _⟩ := hS2.d
      obtain ⟨mk, rd, mks, mvs⟩ := hS2.ma
      refine ⟨_, rfl, _, rfl, dk, _, rfl, dgK hd2 em2, ma, mk, _, rfl, rd, mks, ?_, fun ys p perm so hp => ?_⟩
      · rw [List.length_map]
        have := hM.len
        omega
      have ylen : ys.length = many.length := by rw [perm.length_eq, List.length_map]
      have l1 := hM.len
      have l0 : many.length ≠ 0 := fun z => hM.ne (List.length_eq_zero_iff.mp z)
      refine ⟨t, b, p, _, rfl, tk2.same (same_upd hp), upd_same, tape_neN tk2 hp, by rw [List.length_map]; omega, by rw [List.length_map]; omega, fun H3 x hx3 tk3 oth3 => ?_⟩
      obtain ⟨o, ho, rfl⟩ := str_mem hx3
      obtain ⟨po, hpo, rfl⟩ := List.mem_map.mp (perm.mem_iff.mp ho)
      obtain ⟨n1, n2⟩ := hM.nm po hpo
      have on3 : Only [t] H H3 := on2.trans ((Only.same (same_upd hp)).trans (Only.oth oth3))
      have hS3 := hS.only tk on3
      obtain ⟨kvs3, hd3, _, _, _, em3, _⟩ := hS3.d
      obtain ⟨mk3, rd3, mks3, mvs3⟩ := hS3.ma
      refine ⟨_, _, rfl, ?_⟩
      refine ⟨_, rfl, dk, _, rfl, dgK hd3 em3, _, rfl, ma, _, rfl, .inl ⟨mk3, Sum.inr po.1, rd3, rfl, (mvs3 po hpo).symm⟩, ?_⟩
      have args_keep : ∀ {Ha Hb : Hp} {vs : List V} {es : List PyData}, Keep Ha Hb → DpAll K Ha vs es → (∀ e ∈ es, GEx given known e) → DpAll K Hb vs es := fun kk hh he => DpAll.keep kk hh (smplAll_of fun e q => (he e q).s)
      refine ⟨(po.2 : Int), rfl, by omega, by omega, fun D hD => lc_range (lo := 0) (n := po.2) (fun m H' => Only [t] H H' ∧ TapeB H' t b ∧ ∃ acc es, H' D = some (.lst acc) ∧ es.length = m ∧ DpAll K H' acc es ∧ ∀ e ∈ es, GEx given known e)
        ⟨on3.trans (Only.same (same_upd hD)), tk3.same (same_upd hD), [], [], upd_same, rfl, .nil, fun e q => by cases q⟩ ?_ ?_⟩
      · rintro m H' hm ⟨q1, q2, acc, es, q3, q4, q5, q6⟩
        refine ⟨rfl, ?_⟩
        unfold tYes
        refine iteT ?_
        have nDt : D ≠ t := tape_neN tk3 hD
        refine ⟨_, rfl, _, rfl, t, b, dk, g, kn, ca, ma, given, known, calls, many, sure, rfl, q2, hS.only tk q1, hN, fun H4 v d on4 tk4 hv hgd => ?_⟩
        have hD4 : H4 D = some (.lst acc) := on4 _ _ (fun z => nDt (List.mem_singleton.mp z)) q3
        have k4 : Keep H' H4 := q2.keep on4
        have k5 : Keep H4 (upd H4 D (.lst (acc ++ [v]))) := keep_put hD4
        have al := dpAll_len q5
        have tk5 : TapeB (upd H4 D (.lst (acc ++ [v]))) t b := by
          obtain ⟨ns, i, r, sd, h1, h2, h3⟩ := tk4
          refine ⟨ns, i, r, sd, by rw [upd_ne nDt.symm]; exact h1, ?_, h3⟩
          rw [upd_ne]
          · exact h2
          · intro z
            obtain ⟨ns3, i3, r3, sd3, _, g2, _⟩ := tk3
            rw [z, hD] at g2
            cases g2
        refine ⟨acc, hD4, by rw [sizeLine_eq]; omega, ?_, tk5, acc ++ [v], es ++ [d], upd_same, by rw [List.length_append, q4]; rfl, ?_, ?_⟩
        · intro x o n e
          have q := (q1.trans on4) x o n e
          rw [upd_ne]
          · exact q
          · intro z
            rw [z] at e
            have := on3 _ _ (by rw [← z]; exact n) e
            rw [hD] at this
            cases this
        · exact dpAll_app (args_keep (k4.trans k5) q5 q6) (.cons (Dp.keep k5 hv hgd.s) .nil)
        · intro e he
          rcases List.mem_append.mp he with q | q
          · exact q6 e q
          · rw [List.mem_singleton.mp q]; exact hgd
      · rintro H4 ⟨q1, q2, acc, es, q3, q4, q5, q6⟩
        refine ⟨D, acc, rfl, .inl (SqL.of q3), fun tt H5 sm hT => ?_⟩
        have on5 : Only [t] H H5 := q1.trans (Only.same sm)
        have tk5 : TapeB H5 t b := q2.same sm
        have hS5 := hS.only tk on5
        obtain ⟨tk6, hS6⟩ := put_ca tk5 hS5 hA (calls ++ [z])
        obtain ⟨tk7, hS7⟩ := put_kn tk6 hS6 hA (known ++ [z])
        refine ⟨_, rfl, .inl ⟨rfl, _, SqL.of hS5.ca⟩, _, rfl, ca, _, _, rfl, rfl, hS5.ca, by rw [List.length_map, sizeLine_eq]; omega, ?_⟩
        rw [map_snoc]
        have := hN.l
        refine ⟨_, rfl, .inl ⟨rfl, _, SqL.of hS6.kn⟩, _, rfl, kn, _, _, rfl, rfl, hS6.kn, by rw [List.length_map, sizeLine_eq]; omega, ?_⟩
        rw [map_snoc]
        refine ⟨_, rfl, _, rfl, _, rfl, four_size _ _ _ _, fun q hq => ?_⟩
        have kk := (keep_put (ys := (calls ++ [z]).map V.str) hS5.ca).trans (keep_put (ys := (known ++ [z]).map V.str) hS6.kn)
        have kq := kk.trans (Same.keep (same_upd (o := .tup [.str "call", .str z, .str po.1, .ref tt]) hq))
        refine k _ _ _ _ _ ?_ (tk7.same (same_upd hq)) (hS7.only tk7 (Only.same (same_upd hq))) (.tup (.inl (.inl upd_same)) (.cons (.str _) (.cons (.str z) (.cons (.str po.1) (.cons (.tup (Keep.tup kq hT) (args_keep kq (dp_sameAll sm q5) q6)) .nil)))))
          (.call hz n1 q6 (by omega))
        exact (only3 on5).trans ((Only.put (by simp)).trans ((Only.put (by simp)).trans (Only.same (same_upd hq))))
    · unfold tNext
      dsimp only
      refine via_if (fun c H2 => Only [t] H H2 ∧ TapeB H2 t b ∧ (c = true → calls ≠ [])) (fun H2 hR => ?_) (fun H2 hR => ?_) (fun Q' kQ => ?_)
      · obtain ⟨on2, tk2, ne⟩ := hR
        have ne := ne rfl
        have hS2 := hS.only tk on2
        refine via_asg (fun v H3 => ∃ tt vs, v = .ref tt ∧ Only [t] H H3 ∧ TapeB H3 t b ∧ SqT K H3 tt (vs.map V.str) ∧ Some3 calls vs) (fun v H3 hR => ?_) (fun Q' kQ => ?_)
        · obtain ⟨tt, vs, rfl, on3, tk3, hT, h3⟩ := hR
          have kp : ∀ {Hx : Hp}, Only [t] H3 Hx → SqT K Hx tt (vs.map V.str) := fun o => Keep.tup (tk3.keep o) hT
          refine ⟨_, rfl, rfl, _, rfl, ?_⟩
          refine ite2 (fun c3 => ?_) (fun c3 => ?_)
          · refine ⟨_, rfl, two_size _ _, fun q hq => ?_⟩
            exact fin _ _ _ (on3.trans (Only.same (same_upd hq))) (tk3.same (same_upd hq)) (.tup (.inl (.inl upd_same)) (.cons (.str _) (.cons (.tup (kp (Only.same (same_upd hq))) (strs_dpAll vs)) .nil))) (.ctch h3)
          dsimp only
          refine via_if (fun c H4 => Only [t] H3 H4 ∧ TapeB H4 t b) (fun H4 hR => ?_) (fun H4 hR => ?_) (fun Q5 kQ5 => ?_)
          · obtain ⟨on4, tk4⟩ := hR
            cases vs with
            | nil => exact absurd rfl h3.ne
            | cons z vs =>
              refine ⟨_, rfl, tt, _, 0, .str z, rfl, rfl, kp on4, atI_nat (j := 0) rfl, ?_⟩
              refine ⟨two_size _ _, fun q hq => ?_⟩
              exact fin _ _ _ ((on3.trans on4).trans (Only.same (same_upd hq))) (tk4.same (same_upd hq)) (.tup (.inl (.inl upd_same)) (.cons (.str _) (.cons (.str z) .nil))) (.drop (h3.sub z List.mem_cons_self))
          · obtain ⟨on4, tk4⟩ := hR
            have hS4 := hS.only tk (on3.trans on4)
            obtain ⟨kvs4, hd4, _, _, _, _, es4⟩ := hS4.d
            have l1 : 1 ≤ vs.length := Nat.pos_of_ne_zero (fun z => h3.ne (List.length_eq_zero_iff.mp z))
            have l3 := h3.len
            have done : ∀ Hx (n : Nat), Only [t] H3 Hx → TapeB Hx t b → 1 ≤ n → n ≤ vs.length → (sure = true → n = vs.length) → ∀ q, Hx q = none → Q (.ref q) (upd Hx q (.tup [.str "wait", .int (n : Nat), .ref tt])) := fun Hx n onx tkx n1 n2 n3 q hq =>
              fin _ _ _ ((on3.trans onx).trans (Only.same (same_upd hq))) (tkx.same (same_upd hq)) (.tup (.inl (.inl upd_same)) (.cons (.str _) (.cons (.int _) (.cons (.tup (kp (onx.trans (Only.same (same_upd hq)))) (strs_dpAll vs)) .nil)))) (.wait h3 n1 n2 n3)
            refine ⟨_, rfl, dk, _, rfl, dgK hd4 es4, _, rfl, ?_⟩
            refine ite_b (fun c4 => ?_) (fun c4 => ?_)
            · refine ⟨_, rfl, tt, _, rfl, .inr (kp on4), ?_⟩
              refine ⟨_, rfl, three_size _ _ _, fun q hq => ?_⟩
              rw [List.length_map]
              exact done _ _ on4 tk4 l1 (Nat.le_refl _) (fun _ => rfl) q hq
            · refine ⟨_, rfl, _, rfl, tt, _, rfl, .inr (kp on4), t, b, ((vs.map V.str).length : Int), rfl, ?_, ?_, tk4, fun H5 i tk5 oth5 i0 i1 => ?_⟩
              · rw [List.length_map]; omega
              · rw [List.length_map]; omega
              rw [List.length_map] at i1
              refine ⟨_, _, rfl, rfl, ?_⟩
              refine ⟨_, rfl, three_size _ _ _, fun q hq => ?_⟩
              show Q (.ref q) (upd H5 q (.tup [.str "wait", .int (1 + i), .ref tt]))
              rw [show (1 : Int) + i = ((1 + i.toNat : Nat) : Int) by omega]
              exact done _ _ (on4.trans (Only.oth oth5)) tk5 (by omega) (by omega) (fun z => by rw [c4] at z; cases z) q hq
          · refine ⟨_, rfl, rfl, _, rfl, ?_⟩
            refine ite2 (fun c4 => ?_) (fun c4 => ?_)
            · exact ⟨_, rfl, t, b, 3, rfl, by decide, by decide, tk3, fun H4 i tk4 oth4 i0 i1 => ⟨rfl, _, rfl, kQ5 _ _ ⟨Only.oth oth4, tk4⟩⟩⟩
            · exact kQ5 _ _ ⟨Only.refl, tk3⟩
        · refine via_cb (fun v H3 => ∃ l vs, v = .ref l ∧ H3 l = some (.lst (List.map V.str vs)) ∧ Only [t] H H3 ∧ TapeB H3 t b ∧ Some3 calls vs) (fun v H3 hR => ?_) (fun Q2 kQ2 => ?_)
          · obtain ⟨l, vs, rfl, hl, on3, tk3, h3⟩ := hR
            exact ⟨l, _, rfl, .inl (SqL.of hl), fun tt H4 sm hT => kQ _ _ ⟨tt, vs, rfl, on3.trans (Only.same sm), tk3.same sm, hT, h3⟩⟩
          · refine via_cb (fun v H3 => ∃ a zs, v = .ref a ∧ H3 a = some (Sx.SetT P w a (Sx.ded zs)) ∧ zs ≠ [] ∧ (∀ z ∈ zs, z ∈ calls) ∧ Only [t] H H3 ∧ TapeB H3 t b) (fun v H3 hR => ?_) (fun Q3 kQ3 => ?_)
            · obtain ⟨a, zs, rfl, ha, n0, sub, on3, tk3⟩ := hR
              exact ⟨a, _, rfl, ha, fun ys p pm so hp => kQ2 _ _ ⟨p, ys, rfl, upd_same, on3.trans (Only.same (same_upd hp)), tk3.same (same_upd hp), some3_of hC n0 sub pm⟩⟩
            · refine via_cb (fun v H3 => ∃ l zs, v = .ref l ∧ H3 l = some (.lst (List.map V.str zs)) ∧ zs ≠ [] ∧ (∀ z ∈ zs, z ∈ calls) ∧ zs.length ≤ 100 ∧ Only [t] H H3 ∧ TapeB H3 t b) (fun v H3 hR => ?_) (fun Q4 kQ4 => ?_)
              · obtain ⟨l, zs, rfl, hl, n0, sub, le, on3, tk3⟩ := hR
                exact ⟨l, zs, rfl, .inl (SqL.of hl), by omega, fun p hp => kQ3 _ _ ⟨p, zs, rfl, upd_same, n0, sub, on3.trans (Only.same (same_upd hp)), tk3.same (same_upd hp)⟩⟩
              · refine ⟨_, rfl, ca, rfl, ⟨_, SqL.of hS2.ca⟩, fun D hD => lc_list (xs := calls.map V.str) (fun i H' => Only [t] H H' ∧ TapeB H' t b ∧ ∃ zs, H' D = some (.lst (List.map V.str zs)) ∧ (∀ z ∈ zs, z ∈ calls) ∧ zs.length ≤ i)
                  ⟨on2.trans (Only.same (same_upd hD)), tk2.same (same_upd hD), [], upd_same, (fun z hz => absurd hz (List.not_mem_nil)), Nat.le_refl _⟩ (fun i H' _ q => SqL.of (hS.only tk q.1).ca) ?_ ?_⟩
                · rintro i x H' hx ⟨q1, q2, zs, q3, q4, q5⟩
                  obtain ⟨z, hz, rfl⟩ := str_mem (List.mem_of_getElem? hx)
                  have nDt : D ≠ t := tape_neN tk2 hD
                  have li : i < calls.length := by
                    have := (List.getElem?_eq_some_iff.mp hx).1
                    rw [List.length_map] at this
                    exact this
                  refine ⟨rfl, ?_⟩
                  refine ⟨_, rfl, t, b, 3, rfl, by decide, by decide, q2, fun H4 i4 tk4 oth4 i0 i1 => ?_⟩
                  have hD4 : H4 D = some (.lst (List.map V.str zs)) := by rw [oth4 D nDt]; exact q3
                  have on4 : Only [t] H H4 := q1.trans (Only.oth oth4)
                  refine ⟨_, _, rfl, rfl, _, rfl, ?_⟩
                  refine ite2 (fun c => ?_) (fun c => ?_)
                  · refine ⟨_, rfl, _, hD4, by rw [List.length_map, sizeLine_eq]; omega, ?_⟩
                    rw [map_snoc]
                    refine ⟨only_new tk2 hD on2 on4, tape_new tk4 nDt (tape_cells tk2 hD), zs ++ [z], upd_same, fun y hy => ?_, by rw [List.length_append]; exact Nat.succ_le_succ q5⟩
                    rcases List.mem_append.mp hy with q | q
                    · exact q4 y q
                    · rw [List.mem_singleton.mp q]; exact hz
                  · exact ⟨on4, tk4, zs, hD4, q4, by omega⟩
                · rintro H4 ⟨q1, q2, zs, q3, q4, q5⟩
                  rw [List.length_map] at q5
                  refine ⟨!(List.map V.str zs).isEmpty, .inl ⟨_, SqL.of q3, rfl⟩, ?_⟩
                  cases zs with
                  | cons z zs => exact iteT (kQ4 _ _ ⟨D, z :: zs, rfl, q3, by simp, q4, by omega, q1, q2⟩)
                  | nil =>
                    refine iteF ?_
                    obtain ⟨z, hz, ez⟩ := cut_last ne
                    have hS4 := hS.only tk q1
                    refine ⟨_, rfl, 1, rfl, -1, rfl, ca, _, rfl, SqL.of hS4.ca, fun p hp => ?_⟩
                    rw [ez]
                    exact kQ4 _ _ ⟨p, [z], rfl, upd_same, by simp, fun y hy => by rw [List.mem_singleton.mp hy]; exact hz, (by decide : 1 ≤ 100), q1.trans (Only.same (same_upd hp)), q2.same (same_upd hp)⟩
      · obtain ⟨on2, tk2, _⟩ := hR
        have hS2 := hS.only tk on2
        dsimp only
        refine ⟨_, rfl, rfl, _, rfl, ?_⟩
        refine ite2 (fun c3 => ?_) (fun c3 => ?_)
        · refine ⟨_, rfl, small_list rfl, fun l hl => ⟨t, b, l, _, rfl, tk2.same (same_upd hl), upd_same, tape_neN tk2 hl, by simp, by simp, fun H3 x hx tk3 oth3 => ?_⟩⟩
          obtain ⟨z, hz, rfl⟩ := str_mem (zs := setNames) hx
          have on3 : Only [t] H H3 := on2.trans ((Only.same (same_upd hl)).trans (Only.oth oth3))
          refine ⟨_, rfl, _, rfl, t, b, dk, g, kn, ca, ma, given, known, calls, many, sure, rfl, tk3, hS.only tk on3, hN, fun H4 v d on4 tk4 hv hgd => ?_⟩
          refine ⟨three_size _ _ _, fun q hq => ?_⟩
          have on5 : Only [t] H (upd H4 q (.tup [.str "set", .str z, v])) := (on3.trans on4).trans (Only.same (same_upd hq))
          have tk5 := tk4.same (same_upd (o := .tup [.str "set", .str z, v]) hq)
          have hS5 := hS.only tk on5
          obtain ⟨tk7, hS7⟩ := put_kn tk5 hS5 hA (known ++ [z])
          have := hN.l
          refine ⟨_, rfl, .inl ⟨rfl, _, SqL.of hS5.kn⟩, _, rfl, q, _, 1, .str z, rfl, rfl, SqT.of upd_same, atI_nat (j := 1) rfl, kn, _, _, rfl, rfl, hS5.kn, by rw [List.length_map, sizeLine_eq]; omega, ?_⟩
          rw [map_snoc]
          have hg := GI.set (calls := calls) (sure := sure) hz hgd
          refine ⟨_, rfl, k _ _ _ _ _ ((only3 on5).trans (Only.put (by simp))) tk7 hS7 (Dp.keep (keep_put hS5.kn) (.tup (.inl (.inl upd_same)) (.cons (.str _) (.cons (.str z) (.cons (dp_same (same_upd hq) hv) .nil)))) (gi_smpl hC hg).1) hg⟩
        dsimp only
        refine ⟨_, rfl, rfl, _, rfl, ?_⟩
        refine ite2 (fun c4 => ?_) (fun c4 => ?_)
        · refine ⟨_, rfl, small_list rfl, fun l hl => ⟨t, b, l, _, rfl, tk2.same (same_upd hl), upd_same, tape_neN tk2 hl, by simp, by simp, fun H3 x hx tk3 oth3 => ?_⟩⟩
          obtain ⟨z, hz, rfl⟩ := str_mem (zs := effNames) hx
          have on3 : Only [t] H H3 := on2.trans ((Only.same (same_upd hl)).trans (Only.oth oth3))
          refine ⟨two_size _ _, fun q hq => ?_⟩
          exact fin _ _ _ (on3.trans (Only.same (same_upd hq))) (tk3.same (same_upd hq)) (.tup (.inl (.inl upd_same)) (.cons (.str _) (.cons (.str z) .nil))) (.eff hz)
        dsimp only
        refine via_if (fun c H4 => Only [t] H H4 ∧ TapeB H4 t b) (fun H4 hR => ?_) (fun H4 hR => ?_) (fun Q5 kQ5 => ?_)
        · obtain ⟨on4, tk4⟩ := hR
          refine ⟨_, rfl, _, rfl, t, b, dk, g, kn, ca, ma, given, known, calls, many, sure, rfl, tk4, hS.only tk on4, hN, fun H5 v d on5 tk5 hv hgd => ?_⟩
          refine ⟨two_size _ _, fun q hq => ?_⟩
          exact fin _ _ _ ((on4.trans on5).trans (Only.same (same_upd hq))) (tk5.same (same_upd hq)) (.tup (.inl (.inl upd_same)) (.cons (.str _) (.cons (dp_same (same_upd hq) hv) .nil))) (.fail hgd)
        · obtain ⟨on4, tk4⟩ := hR
          refine ⟨_, rfl, t, b, 9, rfl, by decide, by decide, tk4, fun H5 i tk5 oth5 i0 i1 => ?_⟩
          refine ⟨_, _, rfl, rfl, ?_⟩
          refine ⟨two_size _ _, fun q hq => ?_⟩
          exact fin _ _ _ ((on4.trans (Only.oth oth5)).trans (Only.same (same_upd hq))) (tk5.same (same_upd hq)) (.tup (.inl (.inl upd_same)) (.cons (.str _) (.cons (.int _) .nil))) (.work (by omega) (by omega))
        · refine ⟨_, rfl, rfl, _, rfl, ?_⟩
          refine ite2 (fun c4 => ?_) (fun c4 => ?_)
          · exact ⟨_, rfl, t, b, 3, rfl, by decide, by decide, tk2, fun H4 i tk4 oth4 i0 i1 => ⟨rfl, _, rfl, kQ5 _ _ ⟨on2.trans (Only.oth oth4), tk4⟩⟩⟩
          · exact kQ5 _ _ ⟨on2, tk2⟩
      · refine ⟨_, rfl, _, _, rfl, rfl, _, rfl, ?_⟩
        refine ite_b (fun c2 => ?_) (fun c2 => ?_)
        · refine ⟨_, rfl, small_list rfl, fun l hl => ?_⟩
          have hc2 : upd H1 l (.lst []) ca = some (.lst (calls.map V.str)) := same_upd hl _ _ hS1.ca
          refine ⟨.list (calls.map PyData.str), .list [], .lst (SqL.of hc2) (strs_dpAll calls), .lst (SqL.of upd_same) .nil, strs_shaped (fun z hz => ?_), rfl, _, rfl, ?_⟩
          · exact (by decide +kernel : ∀ z ∈ callNames, z ∈ allNames) z (hC z hz)
          rw [eqv_nil]
          refine kQ _ _ ⟨on1.trans (Only.same (same_upd hl)), tk1.same (same_upd hl), fun z => of_decide_eq_true z⟩
        · exact kQ _ _ ⟨on1, tk1, fun z => by cases z⟩
end
end Pl

namespace Pl
open PySem PySem.Spec PyProof.Rows L2
/-! ### the same names in another order -/
theorem quesB_congr {v1 v2 : List Str} (h : ∀ z, z ∈ v1 ↔ z ∈ v2) (ds : List PyData) (q : quesB v1 ds = true) : quesB v2 ds = true := by
  unfold quesB at q ⊢
  split at q
  · rw [Bool.and_eq_true] at q ⊢
    exact ⟨q.1, decide_eq_true ((h _).mp (of_decide_eq_true q.2))⟩
  · exact Bool.noConfusion q
theorem exprB_congr {args v1 v2 : List Str} (h : ∀ z, z ∈ v1 ↔ z ∈ v2) : ∀ (n : Nat) (d : PyData), exprB args v1 n d = true → exprB args v2 n d = true
  | 0, d, q => Bool.noConfusion q
  | n + 1, .tuple ds, q => by
    have q' : (quesB v1 ds || operW (exprB args v1 n) n ds) = true := q
    show (quesB v2 ds || operW (exprB args v2 n) n ds) = true
    rw [Bool.or_eq_true] at q' ⊢
    refine q'.imp (quesB_congr h ds) fun q => ?_
    unfold operW at q ⊢
    split at q
    · rw [Bool.and_eq_true, Bool.and_eq_true, Bool.and_eq_true] at q
      rw [Bool.and_eq_true, Bool.and_eq_true, Bool.and_eq_true]
      exact ⟨q.1, exprB_congr h n _ q.2.1, exprB_congr h n _ q.2.2⟩
    · exact Bool.noConfusion q
  | n + 1, .str z, q => by
    have q' : (decide (z ∈ args) || decide (z ∈ v1)) = true := q
    show (decide (z ∈ args) || decide (z ∈ v2)) = true
    rw [Bool.or_eq_true] at q' ⊢
    exact q'.imp id fun q => decide_eq_true ((h _).mp (of_decide_eq_true q))
  | n + 1, .int i, q => q
  | n + 1, .bool i, q => q
  | n + 1, .none, q => q
  | n + 1, .list ds, q => q
  | n + 1, .dict ds, q => q
theorem GEx.congr {given k1 k2 : List Str} {d : PyData} (h : ∀ z, z ∈ k1 ↔ z ∈ k2) (g : GEx given k1 d) : GEx given k2 d := ⟨exprB_congr h 2 d g.e, g.s, g.w, g.ne⟩
theorem iff_snoc {k1 k2 : List Str} (h : ∀ z, z ∈ k1 ↔ z ∈ k2) (x : Str) : ∀ z, z ∈ k1 ++ [x] ↔ z ∈ k2 ++ [x] := fun z => by
  rw [List.mem_append, List.mem_append, h z]
theorem GI.congr {given k1 k2 calls : List Str} {sure : Bool} {d : PyData} {k' c' : List Str} (h : ∀ z, z ∈ k1 ↔ z ∈ k2) (g : GI given k1 calls sure d k' c') : ∃ k2', GI given k2 calls sure d k2' c' ∧ ∀ z, z ∈ k' ↔ z ∈ k2' := by
  cases g with
  | call hz hp he hl => exact ⟨_, .call hz hp (fun e q => (he e q).congr h) hl, iff_snoc h _⟩
  | ctch q => exact ⟨_, .ctch q, h⟩
  | drop q => exact ⟨_, .drop q, h⟩
  | wait q h1 h2 h3 => exact ⟨_, .wait q h1 h2 h3, h⟩
  | set hz hd => exact ⟨_, .set hz (hd.congr h), iff_snoc h _⟩
  | eff hz => exact ⟨_, .eff hz, h⟩
  | fail hd => exact ⟨_, .fail (hd.congr h), h⟩
  | work h1 h2 => exact ⟨_, .work h1 h2, h⟩
/-! ### bodies -/
abbrev si : Str := "i"
abbrev dSet0 : PyData := .tuple [.str "set", .str "i", .int 0]
abbrev dWhile (n : Nat) : PyData := .tuple [.str "while", .tuple [.str "less", .str "i", .int (n : Nat)], .int 2]
abbrev dSet1 : PyData := .tuple [.str "set", .str "i", .tuple [.str "plus", .str "i", .int 1]]
/-- what stands ahead of a turn's instruction -/
inductive Pre (given k : List Str) : List PyData → List Str → Prop
  | no : Pre given k [] k
  | iff {e : PyData} (h : GEx given k e) : Pre given k [.tuple [.str "if", e, .int 1]] k
  | loop {n : Nat} (h1 : 1 ≤ n) (h2 : n ≤ 2) : Pre given k [dSet0, dWhile n, dSet1] (k ++ [si])
/-- a body of so many turns -/
inductive GBody (given : List Str) (sure : Bool) : Nat → List PyData → List Str → List Str → Prop
  | nil : GBody given sure 0 [] [] []
  | add {m : Nat} {ds ps : List PyData} {k c k1 k2 c2 : List Str} {d : PyData} (h : GBody given sure m ds k c) (p : Pre given k ps k1) (g : GI given k1 c sure d k2 c2) : GBody given sure (m + 1) (ds ++ ps ++ [d]) k2 c2
/-- a scope in which these are named and called; blocks end at most at m, or at the body's end -/
structure Fits (given k c : List Str) (L m : Nat) (S : Sc) : Prop where
  g : S.given = given
  n : ∀ z, z ∈ k ↔ z ∈ S.named
  c : S.called = c
  l : (L : Int) ∈ S.ends
  e : ∀ e ∈ S.ends, e = (L : Int) ∨ e ≤ (m : Int)
theorem Fits.room {given k c : List Str} {L m : Nat} {S : Sc} (h : Fits given k c L m S) {i : Nat} (h1 : m ≤ i) (h2 : i < L) : endAt S.ends (i : Int) = (L : Int) := by
  have ne : (S.ends.filter fun x => decide ((i : Int) < x)) ≠ [] := fun q => by
    have : (L : Int) ∈ S.ends.filter fun x => decide ((i : Int) < x) := List.mem_filter.mpr ⟨h.l, decide_eq_true (by omega)⟩
    rw [q] at this
    cases this
  have q := List.mem_filter.mp (leastOf_mem ne).1
  have q2 := of_decide_eq_true q.2
  rcases h.e _ q.1 with e | e
  · exact e
  · have : endAt S.ends (i : Int) ≤ (m : Int) := e
    have q3 : (i : Int) < endAt S.ends (i : Int) := q2
    omega
theorem step_gi {given k c : List Str} {L m : Nat} {S : Sc} {sure : Bool} {d : PyData} {k' c' : List Str} (hg : given = [] ∨ given = (["n"] : List Str)) (h : Fits given k c L m S) (g : GI given k c sure d k' c') (i : Nat) :
    ∃ S', (∀ ds, bodyB S i (d :: ds) = bodyB S' (i + 1) ds) ∧ Fits given k' c' L m S' := by
  obtain ⟨k2, g2, hk2⟩ := g.congr h.n
  obtain ⟨h1, h2, h3, h4, h5⟩ := h
  subst h1
  subst h3
  have ok : instrB (entered S i) d = true := gi_ok (S := entered S i) hg g2
  have lv : leaveS (entered S i) i (itemsOf d) = { entered S i with named := k2, called := c' } := gi_leave (S := entered S i) g2
  refine ⟨{ entered S i with named := k2, called := c' }, fun ds => ?_, ⟨rfl, hk2, rfl, h4, h5⟩⟩
  rw [← lv]
  show (if instrB (entered S i) d = true then _ else _) = _
  rw [if_pos ok]
theorem leave_block {S : Sc} {i : Int} {nm : Str} {x : PyData} {n : Int} (h : nm ∈ blNames) : leaveS S i [.str nm, x, .int n] = { S with ends := S.ends ++ [i + 1 + n] } := by
  have h' : nm = "if" ∨ nm = "while" := by
    rcases List.mem_cons.mp h with q | q
    · exact .inl q
    · exact .inr (List.mem_singleton.mp q)
  rcases h' with rfl | rfl <;> rfl
theorem step_block {given k c : List Str} {L m : Nat} {S : Sc} {nm : Str} {x : PyData} {n : Nat} {ck : Ck} (hk : ckOf nm = some ck) (hb : ck.B = blockB) (hn : nm ∈ blNames) (h : Fits given k c L m S) (g : GEx given k x) (i : Nat) (h1 : m ≤ i) (h2 : i + n + 1 ≤ L) (h3 : 1 ≤ n) :
    ∃ S', (∀ ds, bodyB S i (.tuple [.str nm, x, .int (n : Nat)] :: ds) = bodyB S' (i + 1) ds) ∧ Fits given k c L (i + 1 + n) S' := by
  have en := h.room h1 (by omega : i < L)
  obtain ⟨g1, g2, g3, g4, g5⟩ := h
  subst g1
  subst g3
  have ok : instrB (entered S i) (.tuple [.str nm, x, .int (n : Nat)]) = true := by
    rw [instr_of hk, hb]
    show (worthB (entered S i) x && (decide ((1 : Int) ≤ (n : Nat)) && decide (((n : Nat) : Int) ≤ endAt S.ends i - i - 1))) = true
    rw [gex_worth (S := entered S i) (g.congr g2), en, decide_eq_true (by omega : (1 : Int) ≤ (n : Nat)), decide_eq_true (by omega : ((n : Nat) : Int) ≤ (L : Int) - i - 1)]
    rfl
  refine ⟨{ entered S i with ends := S.ends ++ [(i : Int) + 1 + (n : Nat)] }, fun ds => ?_, ⟨rfl, g2, rfl, List.mem_append_left _ g4, fun e he => ?_⟩⟩
  · show (if instrB (entered S i) _ = true then bodyB (leaveS (entered S i) i [.str nm, x, .int (n : Nat)]) (i + 1) ds else _) = _
    rw [if_pos ok, leave_block hn]
    rfl
  · rcases List.mem_append.mp he with q | q
    · rcases g5 e q with q | q
      · exact .inl q
      · exact .inr (by omega)
    · rw [List.mem_singleton.mp q]
      exact .inr (by omega)
theorem Fits.mono {given k c : List Str} {L m m' : Nat} {S : Sc} (h : Fits given k c L m S) (q : m ≤ m') : Fits given k c L m' S := ⟨h.g, h.n, h.c, h.l, fun e he => (h.e e he).imp id fun z => by omega⟩
theorem step_set {given k c : List Str} {L m : Nat} {S : Sc} {x : PyData} (hg : given = [] ∨ given = (["n"] : List Str)) (h : Fits given k c L m S) (g : GEx given k x) (i : Nat) :
    ∃ S', (∀ ds, bodyB S i (.tuple [.str "set", .str "i", x] :: ds) = bodyB S' (i + 1) ds) ∧ Fits given (k ++ [si]) c L m S' := by
  obtain ⟨h1, h2, h3, h4, h5⟩ := h
  subst h1
  subst h3
  have ok : instrB (entered S i) (.tuple [.str "set", .str "i", x]) = true := by
    rw [instr_of ck_set]
    show (varB (entered S i) (.str "i") && worthB (entered S i) x) = true
    rw [var_ok (S := entered S i) hg (by decide +kernel), gex_worth (S := entered S i) (g.congr h2)]
    rfl
  refine ⟨{ entered S i with named := S.named ++ [si] }, fun ds => ?_, ⟨rfl, iff_snoc h2 _, rfl, h4, h5⟩⟩
  show (if instrB (entered S i) _ = true then bodyB (leaveS (entered S i) i [.str "set", .str "i", x]) (i + 1) ds else _) = _
  rw [if_pos ok]
  rfl
theorem gex_i {given k : List Str} {o : Str} {n : Nat} (ho : o ∈ opNames) (hi : si ∈ k) (hn : n ≤ 6) : GEx given k (.tuple [.str o, .str "i", .int (n : Nat)]) :=
  gex_op ho ⟨fun _ => ex_name (List.mem_append_right _ hi), smpl_names _ (by decide +kernel), Nat.le_refl 22, fun q => by cases q⟩ (gfirst_int (by omega) (by omega))
theorem step_pre {given k c : List Str} {L m : Nat} {S : Sc} {ps : List PyData} {k1 : List Str} (hg : given = [] ∨ given = (["n"] : List Str)) (h : Fits given k c L m S) (p : Pre given k ps k1) (i : Nat) (h1 : m ≤ i) (h2 : i + ps.length + 1 ≤ L) :
    ∃ S', (∀ ds, bodyB S i (ps ++ ds) = bodyB S' (i + ps.length) ds) ∧ Fits given k1 c L (i + ps.length + 1) S' := by
  cases p with
  | no => exact ⟨S, fun ds => rfl, h.mono (by simp; omega)⟩
  | iff q =>
    obtain ⟨S', e, f⟩ := step_block (n := 1) ck_if rfl (by decide +kernel) h q i h1 h2 (by decide)
    exact ⟨S', fun ds => e ds, f⟩
  | @loop n n1 n2 =>
    have h2' : i + 3 + 1 ≤ L := h2
    obtain ⟨S1, e1, f1⟩ := step_set hg h (gfirst_int (i := 0) (by decide) (by decide)).gex i
    obtain ⟨S2, e2, f2⟩ := step_block (n := 2) ck_while rfl (by decide +kernel) f1 (gex_i (o := "less") (n := n) (by decide +kernel) (List.mem_append_right _ List.mem_cons_self) (by omega)) (i + 1) (by omega) (by omega) (by decide)
    obtain ⟨S3, e3, f3⟩ := step_set hg f2 (gex_i (o := "plus") (n := 1) (by decide +kernel) (List.mem_append_right _ List.mem_cons_self) (by decide)) (i + 2)
    refine ⟨S3, fun ds => ?_, ⟨f3.g, fun z => ?_, f3.c, f3.l, fun e he => (f3.e e he).imp id fun q => ?_⟩⟩
    · have a1 := e1 (dWhile n :: dSet1 :: ds)
      have a2 := e2 (dSet1 :: ds)
      have a3 := e3 ds
      exact a1.trans (a2.trans a3)
    · rw [← f3.n z]
      simp only [List.mem_append, List.mem_singleton]
      exact ⟨fun q => .inl q, fun q => q.elim id .inr⟩
    · show e ≤ ((i + 3 + 1 : Nat) : Int)
      omega
theorem gbody_fits {given : List Str} {sure : Bool} {L : Nat} (hg : given = [] ∨ given = (["n"] : List Str)) : ∀ {m : Nat} {ds : List PyData} {k c : List Str}, GBody given sure m ds k c → ds.length ≤ L →
    ∃ S', (∀ es, bodyB (scNew given L) 0 (ds ++ es) = bodyB S' ds.length es) ∧ Fits given k c L ds.length S' := by
  intro m ds k c h
  induction h with
  | nil => exact fun _ => ⟨scNew given L, fun es => rfl, ⟨rfl, fun z => Iff.rfl, rfl, List.mem_cons_self, fun e he => .inl (List.mem_singleton.mp he)⟩⟩
  | @add m ds ps k c k1 k2 c2 d h p g ih =>
    intro hl
    rw [List.length_append, List.length_append] at hl
    have hl' : ds.length + ps.length + 1 ≤ L := hl
    obtain ⟨S1, e1, f1⟩ := ih (by omega)
    obtain ⟨S2, e2, f2⟩ := step_pre hg f1 p ds.length (Nat.le_refl _) hl'
    obtain ⟨S3, e3, f3⟩ := step_gi hg f2 g (ds.length + ps.length)
    refine ⟨S3, fun es => ?_, ?_⟩
    · rw [List.append_assoc, List.append_assoc, e1, List.length_append, List.length_append]
      show bodyB S1 ds.length (ps ++ (d :: es)) = _
      rw [e2, e3]
      rfl
    · rw [List.length_append, List.length_append]
      exact f3
end Pl

namespace Pl
open PySem PySem.Spec PyProof.Rows L2
abbrev plNames : List Str := ["_law_tape_here", "_law_many", "_law_name", "_law_sure", "_law_scope", "_law_body", "_law_known", "_law_turn", "_law_way"]
theorem scLPlan : FnScope plNames ["_law_tape_here", "_law_many", "_law_name", "_law_sure"] (defScope sLPlan) := ⟨rfl, rfl, rfl, by decide +kernel, rfl, by decide +kernel, by decide +kernel⟩
/-- the dict of the plans' numbers of arguments -/
def ManyAt (H : Hp) (ma : Addr) (many : List (Str × Nat)) : Prop := ∃ mk, Rd H ma (.dK mk) ∧ mk.map (·.1) = (many.map (·.1)).map Sum.inr ∧ ∀ p ∈ many, valV mk (Sum.inr p.1) = some (.int (p.2 : Nat))
structure BFacts (m : Nat) (ds : List PyData) (k c : List Str) : Prop where
  dl : ds.length ≤ 4 * m
  kl : k.length ≤ 2 * m
  cl : c.length ≤ m
  kn : ∀ z ∈ k, z ∈ varNames
  ca : CallsOk c
  sm : ∀ d ∈ ds, smpl d = true ∧ wt d ≤ 200
theorem pre_facts {given k : List Str} {ps : List PyData} {k1 : List Str} (hk : ∀ z ∈ k, z ∈ varNames) (p : Pre given k ps k1) : ps.length ≤ 3 ∧ k1.length ≤ k.length + 1 ∧ (∀ z ∈ k1, z ∈ varNames) ∧ ∀ d ∈ ps, smpl d = true ∧ wt d ≤ 200 := by
  cases p with
  | no => exact ⟨by decide, by omega, hk, (fun d hd => by cases hd)⟩
  | @iff e h =>
    refine ⟨Nat.le_of_ble_eq_true rfl, by omega, hk, fun d hd => ?_⟩
    rw [List.mem_singleton.mp hd]
    have w := h.w
    constructor
    · show (smpl (.str "if") && (smpl e && (smpl (.int 1) && true))) = true
      rw [h.s, smpl_all "if" (by decide +kernel), sm_int (by decide) (by decide)]
      rfl
    · show 3 + (22 + 2 + (wt e + 2 + (5 + 2 + 0))) ≤ 200
      omega
  | @loop n h1 h2 =>
    refine ⟨Nat.le_of_ble_eq_true rfl, by simp, fun z hz => ?_, fun d hd => ?_⟩
    · rcases List.mem_append.mp hz with q | q
      · exact hk z q
      · rw [List.mem_singleton.mp q]
        decide +kernel
    · have a0 := sm_int (i := (n : Int)) (by omega) (by omega)
      have a1 := smpl_all "set" (by decide +kernel)
      have a2 := smpl_all "i" (by decide +kernel)
      have a3 := smpl_all "while" (by decide +kernel)
      have a4 := smpl_names "less" (by decide +kernel)
      have a5 := smpl_names "plus" (by decide +kernel)
      have b0 := sm_int (i := 0) (by decide) (by decide)
      have b1 := sm_int (i := 1) (by decide) (by decide)
      have b2 := sm_int (i := 2) (by decide) (by decide)
      rcases List.mem_cons.mp hd with rfl | hd
      · constructor
        · show (smpl (.str "set") && (smpl (.str "i") && (smpl (.int 0) && true))) = true
          rw [a1, a2, b0]; rfl
        · exact (by decide : 3 + (22 + 2 + (22 + 2 + (5 + 2 + 0))) ≤ 200)
      rcases List.mem_cons.mp hd with rfl | hd
      · constructor
        · show (smpl (.str "while") && ((smpl (.str "less") && (smpl (.str "i") && (smpl (.int (n : Nat)) && true))) && (smpl (.int 2) && true))) = true
          rw [a3, a4, a2, a0, b2]; rfl
        · exact (by decide : 3 + (22 + 2 + (3 + (22 + 2 + (22 + 2 + (5 + 2 + 0))) + 2 + (5 + 2 + 0))) ≤ 200)
      · rw [List.mem_singleton.mp hd]
        constructor
        · show (smpl (.str "set") && (smpl (.str "i") && ((smpl (.str "plus") && (smpl (.str "i") && (smpl (.int 1) && true))) && true))) = true
          rw [a1, a2, a5, b1]; rfl
        · exact (by decide : 3 + (22 + 2 + (22 + 2 + (3 + (22 + 2 + (22 + 2 + (5 + 2 + 0))) + 2 + 0))) ≤ 200)
theorem gbody_facts {given : List Str} {sure : Bool} {m : Nat} {ds : List PyData} {k c : List Str} (h : GBody given sure m ds k c) : BFacts m ds k c := by
  induction h with
  | nil => exact ⟨by decide, by decide, by decide, (fun z hz => by cases hz), (fun z hz => by cases hz), (fun d hd => by cases hd)⟩
  | @add m ds ps k c k1 k2 c2 d h p g ih =>
    obtain ⟨p1, p2, p3, p4⟩ := pre_facts ih.kn p
    obtain ⟨g1, g2, g3, g4⟩ := gi_names p3 ih.ca g
    have i1 := ih.dl
    have i2 := ih.kl
    have i3 := ih.cl
    refine ⟨?_, by omega, by omega, g1, g2, fun e he => ?_⟩
    · rw [List.length_append, List.length_append]
      show ds.length + ps.length + 1 ≤ _
      omega
    · rcases List.mem_append.mp he with q | q
      · rcases List.mem_append.mp q with q | q
        · exact ih.sm e q
        · exact p4 e q
      · rw [List.mem_singleton.mp q]
        exact gi_smpl ih.ca g
/-- where the plan under way stands -/
structure PlS (K : PySem.W.Frag) (H0 : Hp) (t b dk g kn ca ma : Addr) (given : List Str) (many : List (Str × Nat)) (sure : Bool) (k c : List Str) (bo : Addr) (acc : List V) (ds : List PyData) (H : Hp) : Prop where
  on : Only [t] H0 H
  tk : TapeB H t b
  S : ScopeD H dk g kn ca ma given k c many sure
  hb : H bo = some (.lst acc)
  bd : DpAll K H acc ds
  sm : smplAll ds = true
  nt : bo ≠ t
  nb : bo ≠ b
  nk : bo ≠ kn
  nc : bo ≠ ca
  ng : bo ≠ g
  fr : H0 bo = none
  kf : H0 kn = none
  cf : H0 ca = none
theorem smplAll_app {a b : List PyData} (h : smplAll a = true) (q : smplAll b = true) : smplAll (a ++ b) = true := by
  induction a with
  | nil => exact q
  | cons d a ih =>
    obtain ⟨h1, h2⟩ := smplAll_cons h
    show (smpl d && smplAll (a ++ b)) = true
    rw [h1, ih h2]
    rfl
section
variable {K : PySem.W.Frag} {H0 : Hp} {t b dk g kn ca ma : Addr} {given : List Str} {many : List (Str × Nat)} {sure : Bool} {k c : List Str} {bo : Addr} {acc : List V} {ds : List PyData} {H : Hp}
theorem PlS.only (h : PlS K H0 t b dk g kn ca ma given many sure k c bo acc ds H) {H' : Hp} (o : Only [t] H H') (tk : TapeB H' t b) : PlS K H0 t b dk g kn ca ma given many sure k c bo acc ds H' :=
  ⟨h.on.trans o, tk, h.S.only h.tk o, o _ _ (fun z => h.nt (List.mem_singleton.mp z)) h.hb, DpAll.keep (h.tk.keep o) h.bd h.sm, h.sm, h.nt, h.nb, h.nk, h.nc, h.ng, h.fr, h.kf, h.cf⟩
/-- more stands in the body -/
theorem PlS.put (h : PlS K H0 t b dk g kn ca ma given many sure k c bo acc ds H) {vs : List V} {es : List PyData} (hv : DpAll K H vs es) (sm : smplAll es = true) : PlS K H0 t b dk g kn ca ma given many sure k c bo (acc ++ vs) (ds ++ es) (upd H bo (.lst (acc ++ vs))) := by
  have kk : Keep H (upd H bo (.lst (acc ++ vs))) := keep_put h.hb
  refine ⟨fun x o n e => ?_, tape_new h.tk h.nt h.nb, h.S.by kk (by rw [upd_ne h.ng.symm]; exact h.S.g) (by rw [upd_ne h.nk.symm]; exact h.S.kn) (by rw [upd_ne h.nc.symm]; exact h.S.ca), upd_same, DpAll.keep kk (dpAll_app h.bd hv) (smplAll_app h.sm sm), smplAll_app h.sm sm, h.nt, h.nb, h.nk, h.nc, h.ng, h.fr, h.kf, h.cf⟩
  rw [upd_ne]
  · exact h.on x o n e
  · intro z
    rw [z, h.fr] at e
    cases e
/-- the body is another list -/
theorem PlS.move (h : PlS K H0 t b dk g kn ca ma given many sure k c bo acc ds H) {b2 : Addr} (n : H b2 = none) {vs : List V} {es : List PyData} (hv : DpAll K H vs es) (sm : smplAll es = true) : PlS K H0 t b dk g kn ca ma given many sure k c b2 (acc ++ vs) (ds ++ es) (upd H b2 (.lst (acc ++ vs))) := by
  have sa : Same H (upd H b2 (.lst (acc ++ vs))) := same_upd n
  have nt := tape_neN h.tk n
  have ne : ∀ {a : Addr} {o : HO}, H a = some o → b2 ≠ a := fun e z => by
    rw [← z, n] at e
    cases e
  refine ⟨h.on.trans (Only.same sa), h.tk.same sa, h.S.only h.tk (Only.same sa), upd_same, dp_sameAll sa (dpAll_app h.bd hv), smplAll_app h.sm sm, nt, tape_cells h.tk n, ne h.S.kn, ne h.S.ca, ne h.S.g, ?_, h.kf, h.cf⟩
  cases e : H0 b2 with
  | none => rfl
  | some o =>
    have := h.on _ _ (fun z => nt (List.mem_singleton.mp z)) e
    rw [n] at this
    cases this
theorem PlS.known (h : PlS K H0 t b dk g kn ca ma given many sure k c bo acc ds H) (hA : Apart b g kn ca) (k' : List Str) : PlS K H0 t b dk g kn ca ma given many sure k' c bo acc ds (upd H kn (.lst (k'.map V.str))) := by
  obtain ⟨tk, S⟩ := put_kn h.tk h.S hA k'
  have kk : Keep H (upd H kn (.lst (k'.map V.str))) := keep_put h.S.kn
  refine ⟨fun x o n e => ?_, tk, S, by rw [upd_ne h.nk]; exact h.hb, DpAll.keep kk h.bd h.sm, h.sm, h.nt, h.nb, h.nk, h.nc, h.ng, h.fr, h.kf, h.cf⟩
  rw [upd_ne]
  · exact h.on x o n e
  · intro z
    rw [z, h.kf] at e
    cases e
/-- behind an instruction -/
theorem PlS.instr (h : PlS K H0 t b dk g kn ca ma given many sure k c bo acc ds H) {H' : Hp} {k' c' : List Str} (o : Only [t, kn, ca] H H') (tk : TapeB H' t b) (S : ScopeD H' dk g kn ca ma given k' c' many sure) : PlS K H0 t b dk g kn ca ma given many sure k' c' bo acc ds H' := by
  have kk : Keep H H' := o.keep fun a ha => by
    simp only [List.mem_cons, List.not_mem_nil, or_false] at ha
    rcases ha with rfl | rfl | rfl
    · exact h.tk.lst
    · exact ⟨_, h.S.kn⟩
    · exact ⟨_, h.S.ca⟩
  refine ⟨fun x ob n e => o x ob (fun z => ?_) (h.on x ob n e), tk, S, o _ _ (fun z => ?_) h.hb, DpAll.keep kk h.bd h.sm, h.sm, h.nt, h.nb, h.nk, h.nc, h.ng, h.fr, h.kf, h.cf⟩
  · simp only [List.mem_cons, List.not_mem_nil, or_false] at z
    rcases z with rfl | rfl | rfl
    · exact n List.mem_cons_self
    · rw [h.kf] at e; cases e
    · rw [h.cf] at e; cases e
  · simp only [List.mem_cons, List.not_mem_nil, or_false] at z
    rcases z with z | z | z
    · exact h.nt z
    · exact h.nk z
    · exact h.nc z
end
theorem via_st {t u : TS} {D : Ends} {σ : L2.St} {H : Hp} (R : L2.St → Hp → Prop) (h : ∀ σ2 H2, R σ2 H2 → u D σ2 H2) (k : ∀ D' : Ends, (∀ σ2 H2, R σ2 H2 → D'.nx σ2 H2) → t D' σ H) : tSeq t u D σ H := k _ h
def spLPlan (K : PySem.W.Frag) : Sp := fun vs H Q _ => ∃ (t b ma : Addr) (nm : Str) (sure : Bool) (many : List (Str × Nat)), vs = [.ref t, .ref ma, .str nm, .bl sure] ∧ TapeB H t b ∧ ManyAt H ma many ∧ ManyOk many ∧ (∃ p ∈ many, p.1 = nm) ∧
  ∀ H' v given m ds k c res must, Only [t] H H' → TapeB H' t b → (given = [] ∨ given = (["n"] : List Str)) → GBody given sure m ds k c → m ≤ 6 → GEx given k res → Dp K H' v (.tuple [.tuple (given.map PyData.str), .tuple ds, res, .bool must]) → Q v H'
structure Lz (K : PySem.W.Frag) (mg : Str → Option Value) (f : Nat → Addr) (fd : Nat → FuncData) : Prop extends Ly K mg f fd where
  plan : DefX K mg "_law_plan" sLPlan ["_law_tape_here", "_law_many", "_law_name", "_law_sure"] (f 56) (fd 56)
end Pl

namespace Pl
open PySem PySem.Spec PyProof.Rows L2
theorem ne_obj {H : Hp} {a b : Addr} {o1 o2 : HO} (h1 : H a = some o1) (h2 : H b = some o2) (n : o1 ≠ o2) : a ≠ b := fun z => by
  rw [z, h2] at h1
  exact n (Option.some.inj h1).symm
section
variable {P : Program} {w : World} {K : PySem.W.Frag} {mg : Str → Option Value} {base : Heap} {f : Nat → Addr} {fd : Nat → FuncData}
theorem ok_lplan (T : Tx mg) (TG : TxG mg) (D : Lz K mg f fd) : FnOk P w K mg base CX0 5 (f 56) (fd 56) ["_law_tape_here", "_law_many", "_law_name", "_law_sure"] (spLPlan K) := by
  have GD : FnOk P w K mg base CX0 1 _ _ ["_law_tape_here", "_law_many"] spDraw := ok_draw D.draw.F (TxtD.of T)
  have GX : FnOk P w K mg base CX0 3 _ _ ["_law_tape_here", "_law_scope"] (spLExpr K) := ok_lexpr T D.toLx
  have GI0 : FnOk P w K mg base CX0 4 _ _ ["_law_tape_here", "_law_scope"] (spLInstr K) := ok_linstr T TG D.toLy
  refine D.plan.F.ok scLPlan (fun vs H Q E h => ?_) (fun cdv A outer s H vs Q E hr h => ?_)
  · obtain ⟨t, b, ma, nm, sure, many, rfl, _⟩ := h
    rfl
  · obtain ⟨t, b, ma, nm, sure, many, rfl, tk, hMa, hM, ⟨po, hpo, rfl⟩, k0⟩ := h
    have hu := hu_of hr
    have hr1 : Room 1 _ := hr.mono (by omega)
    have hr3 : Room 3 _ := hr.mono (by omega)
    refine ⟨_, pss_cons (ps_set (i := 4) scLPlan.nd rfl (Or.inl rfl) (pe_disp (pps_cons pe_str (pe_op op_rep (pe_lst (pa_cons pe_str pa_nil)) (pe_dget hu (pv 1) (pv 2) (fun _ _ => rfl)))
        (pps_cons pe_str (pe_lst pa_nil) (pps_cons pe_str (pe_lst pa_nil) (pps_cons pe_str (pv 1) (pps_cons pe_str (pv 3) pps_nil))))) (by rfl) (by rfl) (fun z => by cases z) (by decide)))
      (pss_cons (ps_par (i := 5) (j := 6) (by rfl) scLPlan.nd rfl rfl (by decide) rfl rfl (pa_cons (pe_lst pa_nil) (pa_cons (pe_dget hu (pv 4) pe_str (fun _ _ => rfl)) pa_nil)) (by rfl))
      (pss_cons (ps_for PassesOwn.never rfl (pi_range1 (by rfl) TG.range (pa_cons (pe_call GD hr1 (by rfl) D.draw.mg D.draw.F.kp D.draw.b .nil pass0 (pa_cons (pv 0) (pa_cons pe_int pa_nil))) pa_nil)) (pg_name (i := 7) scLPlan.nd rfl (Or.inl rfl))
        (pss_cons (ps_set (i := 8) scLPlan.nd rfl (Or.inl rfl) (pe_call GD hr1 (by rfl) D.draw.mg D.draw.F.kp D.draw.b .nil pass0 (pa_cons (pv 0) (pa_cons pe_int pa_nil))))
        (pss_cons (ps_if (pt_cmpR op_eq (pv 8) pe_int (nomark _))
          (pss_one (ps_expr (pe_bm PySem.F.plainAttrs_list PySem.F.slot_list_append PySem.F.type_list_append mt_append (pv 5) (pa_cons (pe_tup (pa_cons pe_str (pa_cons (pe_call GX hr3 (by rfl) D.expr.mg D.expr.F.kp D.expr.b .nil pass0 (pa_cons (pv 0) (pa_cons (pv 4) pa_nil))) (pa_cons pe_int pa_nil)))) pa_nil))))
          (pss_one (ps_if (pt_cmpR op_eq (pv 8) pe_int (nomark _))
            (pss_cons (ps_set (i := 5) scLPlan.nd rfl (Or.inl rfl) (pe_op op_cat (pv 5) (pe_lst (pa_cons (pe_tup (pa_cons pe_str (pa_cons pe_str (pa_cons pe_int pa_nil))))
              (pa_cons (pe_tup (pa_cons pe_str (pa_cons (pe_tup (pa_cons pe_str (pa_cons pe_str (pa_cons (pe_op op_add pe_int (pe_call GD hr1 (by rfl) D.draw.mg D.draw.F.kp D.draw.b .nil pass0 (pa_cons (pv 0) (pa_cons pe_int pa_nil)))) pa_nil)))) (pa_cons pe_int pa_nil)))) pa_nil)))))
            (pss_cons (ps_expr (pe_bm PySem.F.plainAttrs_list PySem.F.slot_list_append PySem.F.type_list_append mt_append (pv 5) (pa_cons (pe_tup (pa_cons pe_str (pa_cons pe_str (pa_cons (pe_tup (pa_cons pe_str (pa_cons pe_str (pa_cons pe_int pa_nil)))) pa_nil)))) pa_nil)))
            (pss_one (ps_expr (pe_bm PySem.F.plainAttrs_list PySem.F.slot_list_append PySem.F.type_list_append mt_append (pv 6) (pa_cons pe_str pa_nil)))))) pss_nil)))
        (pss_one (ps_expr (pe_bm PySem.F.plainAttrs_list PySem.F.slot_list_append PySem.F.type_list_append mt_append (pv 5) (pa_cons (pe_call GI0 hr (by rfl) D.instr.mg D.instr.F.kp D.instr.b .nil pass0 (pa_cons (pv 0) (pa_cons (pv 4) pa_nil))) pa_nil)))))))
      (pss_one (ps_ret (pe_tup (pa_cons (pe_callTy cr_tupA (by rfl) T.tuple (by decide +kernel) (pa_cons (pe_dget hu (pv 4) pe_str (fun _ _ => rfl)) pa_nil)) (pa_cons (pe_callTy cr_tupA (by rfl) T.tuple (by decide +kernel) (pa_cons (pv 5) pa_nil))
        (pa_cons (pe_call GX hr3 (by rfl) D.expr.mg D.expr.F.kp D.expr.b .nil pass0 (pa_cons (pv 0) (pa_cons (pv 4) pa_nil)))
        (pa_cons (pe_cmpR op_eq (pe_call GD hr1 (by rfl) D.draw.mg D.draw.F.kp D.draw.b .nil pass0 (pa_cons (pv 0) (pa_cons pe_int pa_nil))) pe_int (nomark _)) pa_nil))))))))), ?_⟩
    obtain ⟨n1, n2⟩ := hM.nm po hpo
    obtain ⟨mk, rd, mks, mvs⟩ := hMa
    obtain ⟨given, hg, eg⟩ : ∃ given : List Str, (given = [] ∨ given = (["n"] : List Str)) ∧ (List.replicate ((po.2 : Nat) : Int).toNat [V.str (Str.ofString "n")]).flatten = given.map V.str := by
      have : po.2 = 0 ∨ po.2 = 1 := by omega
      rcases this with e | e
      · exact ⟨[], .inl rfl, by rw [e]; rfl⟩
      · exact ⟨["n"], .inr rfl, by rw [e]; rfl⟩
    refine fun dk hdk => ?_
    refine ⟨small_list rfl, fun l hl => ?_⟩
    have sa1 : Same H (upd (upd H dk (.dK [])) l (.lst [.str (Str.ofString "n")])) := (same_upd hdk).trans (same_upd hl)
    refine ⟨_, rfl, _, rfl, ma, _, rfl, .inl ⟨mk, Sum.inr po.1, rd_keep rd (Same.keep sa1), rfl, (mvs po hpo).symm⟩, l, _, _, rfl, rfl, upd_same, by omega, by omega, ?_, fun g hg0 => ?_⟩
    · rw [sizeLine_eq]
      simp
      omega
    rw [eg]
    refine ⟨small_list rfl, fun kn hkn => ?_⟩
    refine ⟨small_list rfl, fun ca hca => ?_⟩
    refine ⟨_, rfl, _, rfl, ?_⟩
    have sb : Same (upd H dk (.dK [])) (upd (upd (upd (upd (upd H dk (.dK [])) l (.lst [.str (Str.ofString "n")])) g (.lst (given.map V.str))) kn (.lst [])) ca (.lst [])) := (((same_upd hl).trans (same_upd hg0)).trans (same_upd hkn)).trans (same_upd hca)
    have sg := (same_upd (o := .lst []) hkn).trans (same_upd (o := .lst []) hca)
    refine ⟨sb _ _ upd_same, [(Sum.inr "given", .ref g), (Sum.inr "known", .ref kn), (Sum.inr "calls", .ref ca), (Sum.inr "many", .ref ma), (Sum.inr "sure", .bl sure)], rfl, by simp, ?_⟩
    have g5 := sg _ _ (upd_same (H := upd (upd H dk (.dK [])) l (.lst [.str (Str.ofString "n")])) (a := g) (o := .lst (given.map V.str)))
    have k5 := same_upd (o := .lst []) hca _ _ (upd_same (a := kn) (o := .lst []))
    have dk5 := sb _ _ (upd_same (H := H) (a := dk) (o := .dK []))
    have kc : kn ≠ ca := ne_of_none (upd_same (a := kn) (o := .lst [])) hca
    have gk : g ≠ kn := ne_of_none upd_same hkn
    have gc : g ≠ ca := ne_of_none (same_upd hkn _ _ upd_same) hca
    have ca5 := upd_same (H := upd (upd (upd (upd H dk (.dK [])) l (.lst [.str (Str.ofString "n")])) g (.lst (given.map V.str))) kn (.lst [])) (a := ca) (o := .lst [])
    have dg : g ≠ dk := ne_obj g5 dk5 (fun z => by cases z)
    have dkn : kn ≠ dk := ne_obj k5 dk5 (fun z => by cases z)
    have dca : ca ≠ dk := ne_obj ca5 dk5 (fun z => by cases z)
    have new : ∀ {x : Addr} {Hx : Hp}, Same H Hx → Hx x = none → H x = none := fun {x Hx} sm e => by
      cases q : H x with
      | none => rfl
      | some o => rw [sm _ _ q] at e; cases e
    have kf : H kn = none := new (sa1.trans (same_upd hg0)) hkn
    have cf : H ca = none := new ((sa1.trans (same_upd hg0)).trans (same_upd hkn)) hca
    have sH : Same H (upd (upd (upd (upd (upd H dk (.dK [])) l (.lst [.str (Str.ofString "n")])) g (.lst (given.map V.str))) kn (.lst [])) ca (.lst [])) := (same_upd hdk).trans sb
    generalize hHe : upd (upd (upd (upd (upd H dk (.dK [])) l (.lst [.str (Str.ofString "n")])) g (.lst (given.map V.str))) kn (.lst [])) ca (.lst []) = He at sb sg g5 k5 ca5 dk5 sH ⊢
    have sF : Same H (upd He dk (.dK (mergeK [] [(Sum.inr "given", .ref g), (Sum.inr "known", .ref kn), (Sum.inr "calls", .ref ca), (Sum.inr "many", .ref ma), (Sum.inr "sure", .bl sure)]))) := fun x o e => by
      rw [upd_ne (ne_of_none e hdk)]
      exact sH _ _ e
    have SF : ScopeD (upd He dk (.dK (mergeK [] [(Sum.inr "given", .ref g), (Sum.inr "known", .ref kn), (Sum.inr "calls", .ref ca), (Sum.inr "many", .ref ma), (Sum.inr "sure", .bl sure)]))) dk g kn ca ma given [] [] many sure :=
      ⟨⟨_, upd_same, rfl, rfl, rfl, rfl, rfl⟩, by rw [upd_ne dg]; exact g5, by rw [upd_ne dkn]; exact k5, by rw [upd_ne dca]; exact ca5, ⟨mk, rd_keep rd (Same.keep sF), mks, mvs⟩⟩
    generalize hHf : upd He dk (.dK (mergeK [] [(Sum.inr "given", .ref g), (Sum.inr "known", .ref kn), (Sum.inr "calls", .ref ca), (Sum.inr "many", .ref ma), (Sum.inr "sure", .bl sure)])) = Hf at sF SF ⊢
    have bold : ∀ {x : Addr}, H x = none → b ≠ x := fun {x} e z => by
      obtain ⟨ns3, i3, r3, sd3, _, g2, _⟩ := tk
      rw [z, e] at g2
      cases g2
    have hA : Apart b g kn ca := ⟨kc, gk, gc, bold kf, bold cf⟩
    have tkF : TapeB Hf t b := tk.same sF
    obtain ⟨kvs, hd, _, ek, _⟩ := SF.d
    refine ⟨small_list rfl, fun bo hbo => ?_⟩
    have dk6 : upd Hf bo (.lst []) dk = some (.dK kvs) := same_upd hbo _ _ hd
    refine ⟨_, rfl, dk, _, rfl, dgK dk6 ek, ?_⟩
    refine ⟨_, _, rfl, ?_⟩
    have old : ∀ {x : Addr} {o : HO}, Hf x = some o → bo ≠ x := fun e z => by
      rw [← z, hbo] at e
      cases e
    have P0 : PlS K H t b dk g kn ca ma given many sure [] [] bo [] [] (upd Hf bo (.lst [])) :=
      ⟨Only.same (sF.trans (same_upd hbo)), tkF.same (same_upd hbo), SF.only tkF (Only.same (same_upd hbo)), upd_same, .nil, rfl, tape_neN tkF hbo, tape_cells tkF hbo, old SF.kn, old SF.ca, old SF.g, new sF hbo, kf, cf⟩
    refine ⟨_, rfl, t, b, 7, rfl, by decide, by decide, P0.tk, fun H1 d tk1 oth1 d0 d1 => ?_⟩
    have P1 := P0.only (Only.oth oth1) tk1
    obtain ⟨n, rfl⟩ : ∃ n : Nat, d = (n : Int) := ⟨d.toNat, by omega⟩
    refine ⟨(n : Int), rfl, by omega, by omega, for_range (n := n) (fun i σ H' => ∃ (bo : Addr) (acc : List V) (ds : List PyData) (k c : List Str) (v7 v8 : Option V), σ = [some (.ref t), some (.ref ma), some (.str po.1), some (.bl sure), some (.ref dk), some (.ref bo), some (.ref kn), v7, v8] ∧
      PlS K H t b dk g kn ca ma given many sure k c bo acc ds H' ∧ GBody given sure i ds k c) ⟨bo, [], [], [], [], _, _, rfl, P1, .nil⟩ ?_ ?_⟩
    · rintro i σ H2 hi ⟨bo, acc, ds, k, c, v7, v8, rfl, P2, B2⟩
      have F2 := gbody_facts B2
      refine ⟨_, rfl, t, b, 8, rfl, by decide, by decide, P2.tk, fun H3 way tk3 oth3 w0 w1 => ?_⟩
      have P3 := P2.only (Only.oth oth3) tk3
      have i1 := F2.dl
      have i2 := F2.kl
      have i3 := F2.cl
      have l2 := dpAll_len P3.bd
      have hN : Nms given k := ⟨hg, F2.kn, by omega⟩
      dsimp only
      refine via_st (fun σ2 H3 => ∃ (bo : Addr) (acc : List V) (ps : List PyData) (k1 : List Str) (v7 v8 : Option V), σ2 = [some (.ref t), some (.ref ma), some (.str po.1), some (.bl sure), some (.ref dk), some (.ref bo), some (.ref kn), v7, v8] ∧
        PlS K H t b dk g kn ca ma given many sure k1 c bo acc (ds ++ ps) H3 ∧ Pre given k ps k1) (fun σ2 H3 hR => ?_) (fun D' kD => ?_)
      · obtain ⟨bo, acc, ps, k1, v7, v8, rfl, P4, hp⟩ := hR
        obtain ⟨p1, p2, p3, p4⟩ := pre_facts F2.kn hp
        refine ⟨_, rfl, .inl ⟨rfl, _, SqL.of P4.hb⟩, _, rfl, _, rfl, t, b, dk, g, kn, ca, ma, given, k1, c, many, sure, rfl, P4.tk, P4.S, hA, ⟨hg, p3, by omega⟩, F2.ca, by omega, hM, fun H5 v d k' c' on5 tk5 S5 hv hgi => ?_⟩
        have P5 := P4.instr on5 tk5 S5
        have l5 := dpAll_len P5.bd
        rw [List.length_append] at l5
        refine ⟨bo, acc, v, rfl, rfl, P5.hb, by rw [sizeLine_eq]; omega, ?_⟩
        exact ⟨bo, acc ++ [v], _, k', c', _, _, rfl, P5.put (.cons hv .nil) (smplAll_of fun e he => by rw [List.mem_singleton.mp he]; exact (gi_smpl F2.ca hgi).1), B2.add hp hgi⟩
      · refine ⟨_, rfl, rfl, _, rfl, ?_⟩
        refine ite2 (fun c1 => ?_) (fun c1 => ?_)
        · refine ⟨_, rfl, .inl ⟨rfl, _, SqL.of P3.hb⟩, _, rfl, _, rfl, t, b, dk, g, kn, ca, ma, given, k, c, many, sure, rfl, P3.tk, P3.S, hN, fun H4 v d on4 tk4 hv hgd => ?_⟩
          refine ⟨three_size _ _ _, fun q hq => ?_⟩
          have P4 := (P3.only on4 tk4).only (Only.same (same_upd (o := .tup [.str "if", v, .int 1]) hq)) (tk4.same (same_upd hq))
          refine ⟨bo, acc, _, rfl, rfl, P4.hb, by rw [sizeLine_eq]; omega, ?_⟩
          have hp : Pre given k [.tuple [.str "if", d, .int 1]] k := .iff hgd
          exact kD _ _ ⟨bo, acc ++ [.ref q], _, k, _, _, rfl, P4.put (.cons (.tup (.inl (.inl upd_same)) (.cons (.str _) (.cons (dp_same (same_upd hq) hv) (.cons (.int 1) .nil)))) .nil) (smplAll_of fun e he => ((pre_facts F2.kn hp).2.2.2 e he).1), hp⟩
        · refine ⟨_, rfl, rfl, _, rfl, ?_⟩
          refine ite2 (fun c2 => ?_) (fun c2 => ?_)
          · refine ⟨_, rfl, three_size _ _ _, fun q1 hq1 => ?_⟩
            have P4 := P3.only (Only.same (same_upd (o := .tup [.str "set", .str "i", .int 0]) hq1)) (P3.tk.same (same_upd hq1))
            refine ⟨_, rfl, t, b, 2, rfl, by decide, by decide, P4.tk, fun H5 j tk5 oth5 j0 j1 => ?_⟩
            have P5 := P4.only (Only.oth oth5) tk5
            have x1 : H5 q1 = some (.tup [.str "set", .str "i", .int 0]) := by
              rw [oth5 q1 (tape_neN P3.tk hq1)]
              exact upd_same
            obtain ⟨n2, rfl⟩ : ∃ n : Nat, j = (n : Int) := ⟨j.toNat, by omega⟩
            refine ⟨_, _, rfl, rfl, ?_⟩
            refine ⟨three_size _ _ _, fun q2 hq2 => ?_⟩
            refine ⟨three_size _ _ _, fun q3 hq3 => ?_⟩
            refine ⟨small_list rfl, fun l hl => ?_⟩
            have sm5 : Same H5 (upd (upd (upd H5 q2 (.tup [.str "less", .str "i", .int (1 + (n2 : Int))])) q3 (.tup [.str "while", .ref q2, .int 2])) l (.lst [.ref q1, .ref q3])) := ((same_upd hq2).trans (same_upd hq3)).trans (same_upd hl)
            have P6 := P5.only (Only.same sm5) (P5.tk.same sm5)
            have x2 := ((same_upd (o := .tup [.str "while", .ref q2, .int 2]) hq3).trans (same_upd (o := .lst [.ref q1, .ref q3]) hl)) _ _ (upd_same (H := H5) (a := q2) (o := .tup [.str "less", .str "i", .int (1 + (n2 : Int))]))
            have x3 := (same_upd (o := .lst [.ref q1, .ref q3]) hl) _ _ (upd_same (H := upd H5 q2 (.tup [.str "less", .str "i", .int (1 + (n2 : Int))])) (a := q3) (o := .tup [.str "while", .ref q2, .int 2]))
            have dd : DpAll K (upd (upd (upd H5 q2 (.tup [.str "less", .str "i", .int (1 + (n2 : Int))])) q3 (.tup [.str "while", .ref q2, .int 2])) l (.lst [.ref q1, .ref q3])) [.ref q1, .ref q3] [dSet0, dWhile (1 + n2)] := by
              have e : (1 : Int) + (n2 : Int) = ((1 + n2 : Nat) : Int) := by omega
              refine .cons (.tup (.inl (.inl (sm5 _ _ x1))) (.cons (.str _) (.cons (.str _) (.cons (.int _) .nil)))) (.cons (.tup (.inl (.inl x3)) (.cons (.str _) (.cons (.tup (.inl (.inl x2)) (.cons (.str _) (.cons (.str _) (.cons ?_ .nil)))) (.cons (.int _) .nil)))) .nil)
              rw [e]
              exact .int _
            have hp : Pre given k [dSet0, dWhile (1 + n2), dSet1] (k ++ [si]) := .loop (by omega) (by omega)
            have sp := (pre_facts F2.kn hp).2.2.2
            have s1 : smplAll [dSet0, dWhile (1 + n2)] = true := smplAll_of fun e he => (sp e (by
              rcases List.mem_cons.mp he with q | q
              · rw [q]; exact List.mem_cons_self
              · rw [List.mem_singleton.mp q]; exact List.mem_cons_of_mem _ List.mem_cons_self)).1
            have s2 : smplAll [dSet1] = true := smplAll_of fun e he => (sp e (by rw [List.mem_singleton.mp he]; exact List.mem_cons_of_mem _ (List.mem_cons_of_mem _ List.mem_cons_self))).1
            refine ⟨bo, l, acc, _, rfl, rfl, P6.hb, upd_same, by rw [sizeLine_eq]; simp; omega, fun bo2 hbo2 => ?_⟩
            have P7 := P6.move hbo2 dd s1
            refine ⟨_, rfl, .inl ⟨rfl, _, SqL.of P7.hb⟩, ?_⟩
            refine ⟨three_size _ _ _, fun q4 hq4 => ?_⟩
            refine ⟨three_size _ _ _, fun q5 hq5 => ?_⟩
            have P8 := (P7.only (Only.same (same_upd (o := .tup [.str "plus", .str "i", .int 1]) hq4)) (P7.tk.same (same_upd hq4))).only (Only.same (same_upd (o := .tup [.str "set", .str "i", .ref q4]) hq5)) ((P7.tk.same (same_upd hq4)).same (same_upd hq5))
            refine ⟨bo2, _, _, rfl, rfl, P8.hb, by rw [sizeLine_eq, List.length_append]; simp; omega, ?_⟩
            have P9 := P8.put (es := [dSet1]) (.cons (.tup (.inl (.inl upd_same)) (.cons (.str _) (.cons (.str _) (.cons (.tup (.inl (.inl (same_upd hq5 _ _ upd_same))) (.cons (.str _) (.cons (.str _) (.cons (.int _) .nil)))) .nil)))) .nil) s2
            refine ⟨_, rfl, .inl ⟨rfl, _, SqL.of P9.S.kn⟩, kn, _, _, rfl, rfl, P9.S.kn, by rw [List.length_map, sizeLine_eq]; omega, ?_⟩
            rw [map_snoc]
            have P10 := P9.known hA (k ++ [si])
            rw [List.append_assoc ds] at P10
            exact kD _ _ ⟨bo2, _, _, _, _, _, rfl, P10, hp⟩
          · exact kD _ _ ⟨bo, acc, [], k, _, _, rfl, by rw [List.append_nil]; exact P3, .no⟩
    · rintro σ H2 ⟨bo, acc, ds, k, c, v7, v8, rfl, P2, B2⟩
      have F2 := gbody_facts B2
      have i2 := F2.kl
      obtain ⟨kvs2, hd2, eg2, _⟩ := P2.S.d
      refine ⟨_, rfl, dk, _, rfl, dgK hd2 eg2, g, _, rfl, .inl (SqL.of P2.S.g), fun t1 H3 sm1 hT1 => ?_⟩
      have P3 := P2.only (Only.same sm1) (P2.tk.same sm1)
      refine ⟨_, rfl, bo, acc, rfl, .inl (SqL.of P3.hb), fun t2 H4 sm2 hT2 => ?_⟩
      have P4 := P3.only (Only.same sm2) (P3.tk.same sm2)
      refine ⟨_, rfl, _, rfl, t, b, dk, g, kn, ca, ma, given, k, c, many, sure, rfl, P4.tk, P4.S, ⟨hg, F2.kn, by omega⟩, fun H5 v d on5 tk5 hv hgd => ?_⟩
      refine ⟨_, rfl, t, b, 4, rfl, by decide, by decide, tk5, fun H6 i tk6 oth6 j0 j1 => ⟨rfl, four_size _ _ _ _, fun q hq => ?_⟩⟩
      have on6 : Only [t] H5 H6 := Only.oth oth6
      have sq := same_upd (o := .tup [.ref t1, .ref t2, v, .bl (decide (V.int i = V.int 0))]) hq
      have kq : Keep H4 (upd H6 q (.tup [.ref t1, .ref t2, v, .bl (decide (V.int i = V.int 0))])) := (P4.tk.keep (on5.trans on6)).trans (Same.keep sq)
      have k6 : Keep H5 (upd H6 q (.tup [.ref t1, .ref t2, v, .bl (decide (V.int i = V.int 0))])) := (tk5.keep on6).trans (Same.keep sq)
      have a1 : smplAll (given.map PyData.str) = true := smplAll_of fun e he => by
        obtain ⟨z, hz, rfl⟩ := List.mem_map.mp he
        exact smpl_names z (by
          rcases hg with q | q
          · rw [q] at hz; cases hz
          · rw [q] at hz; rw [List.mem_singleton.mp hz]; decide +kernel)
      refine k0 _ _ given n ds k c d (decide (V.int i = V.int 0)) (((P4.on.trans on5).trans on6).trans (Only.same sq)) (tk6.same sq) hg B2 (by omega) hgd
        (.tup (.inl (.inl upd_same)) (.cons (.tup (Keep.tup kq (Same.tup sm2 hT1)) (strs_dpAll given)) (.cons (.tup (Keep.tup kq hT2) (DpAll.keep kq P4.bd P4.sm)) (.cons (Dp.keep k6 hv hgd.s) (.cons (.bl _) .nil)))))
end
end Pl

namespace Pl
open PySem PySem.Spec PyProof.Rows L2
/-- tuples stay -/
def Tups (K : PySem.W.Frag) (H H' : Hp) : Prop := ∀ a xs, SqT K H a xs → SqT K H' a xs
mutual
theorem Dp.tups {K : PySem.W.Frag} {H H' : Hp} (e : Tups K H H') : ∀ {v : V} {d : PyData}, Dp K H v d → smpl d = true → Dp K H' v d
  | _, _, .non, _ => .non
  | _, _, .bl b, _ => .bl b
  | _, _, .int i, _ => .int i
  | _, _, .str x, _ => .str x
  | _, _, .lst h q, s => (smpl_list s).elim
  | _, _, .tup h q, s => .tup (e _ _ h) (DpAll.tups e q s)
theorem DpAll.tups {K : PySem.W.Frag} {H H' : Hp} (e : Tups K H H') : ∀ {vs : List V} {ds : List PyData}, DpAll K H vs ds → smplAll ds = true → DpAll K H' vs ds
  | _, _, .nil, _ => .nil
  | _, _, .cons h q, s => .cons (Dp.tups e h (smplAll_cons s).1) (DpAll.tups e q (smplAll_cons s).2)
end
/-- a dict is locked, or free again -/
theorem tups_put {K : PySem.W.Frag} {H : Hp} {d : Addr} {o o' : HO} (h : H d = some o) (n1 : ∀ xs, o ≠ .tup xs) (n2 : ∀ ob xs, o ≠ .frz ob (.tup xs)) : Tups K H (upd H d o') := fun a xs q => by
  rcases q with (q | ⟨ob, q⟩) | q
  · refine .inl (.inl ?_)
    rw [upd_ne]
    · exact q
    · intro z
      rw [z, h] at q
      exact n1 xs (Option.some.inj q)
  · refine .inl (.inr ⟨ob, ?_⟩)
    rw [upd_ne]
    · exact q
    · intro z
      rw [z, h] at q
      exact n2 ob xs (Option.some.inj q)
  · exact .inr q
theorem Keep.tups {K : PySem.W.Frag} {H H' : Hp} (k : Keep H H') : Tups K H H' := fun a xs q => Keep.tup k q
/-- the reading of a comprehension over the keys of a dict -/
theorem lc_keys {d : Addr} {o : Obj} {kvs : List (Key × V)} {g : TG} {tt : TT} {te : TE} {vs : List Nat} {σ : L2.St} {H1 : Hp} {D : Addr} {Qd : Hp → Prop} (Pv : Nat → Hp → Prop) (h0 : Pv 0 (upd H1 D (.lst [])))
    (hl : ∀ i H, i ≤ kvs.length → Pv i H → H d = some (.frz o (.dK kvs)))
    (hs : ∀ i k v H, kvs[i]? = some (k, v) → Pv i H → g (kV k) (wipe σ vs) H fun σ2 H2 => wipe σ2 vs = wipe σ vs ∧ tt σ2 H2 fun b H3 =>
      if b = true then te σ2 H3 fun y H4 => ∃ acc, H4 D = some (.lst acc) ∧ acc.length < sizeLine ∧ Pv (i + 1) (upd H4 D (.lst (acc ++ [y]))) else Pv (i + 1) H3) (hd : ∀ H, Pv kvs.length H → Qd H) :
    ∃ W : Nat → Nat → Hp → Prop, (∃ m, W 0 m (upd H1 D (.lst []))) ∧ ∀ i m H, W i m H →
      ((Itk d o kvs).stop i H ∧ Qd H) ∨ ((Itk d o kvs).go i H ∧ ∃ Nx : Hp → Prop, (∀ H', Nx H' → ∃ m', m' < m ∧ W (i + 1) m' H') ∧ ∀ x H', (Itk d o kvs).yld i H x H' → g x (wipe σ vs) H' fun σ2 H2 => wipe σ2 vs = wipe σ vs ∧ tt σ2 H2 fun b H3 =>
        if b = true then te σ2 H3 fun y H4 => ∃ acc, H4 D = some (.lst acc) ∧ acc.length < sizeLine ∧ Nx (upd H4 D (.lst (acc ++ [y]))) else Nx H3) := by
  refine ⟨fun i m H => m = kvs.length - i ∧ i ≤ kvs.length ∧ Pv i H, ⟨_, rfl, Nat.zero_le _, h0⟩, ?_⟩
  rintro i m H ⟨rfl, hi, p⟩
  by_cases hlt : i < kvs.length
  · refine .inr ⟨⟨hl i H hi p, hlt⟩, Pv (i + 1), fun H' p' => ⟨kvs.length - (i + 1), by omega, rfl, hlt, p'⟩, fun x H' y => ?_⟩
    obtain ⟨e, k, v, hk, rfl⟩ := y
    subst e
    exact hs i k v _ hk p
  · have e : i = kvs.length := by omega
    subst e
    exact .inl ⟨⟨hl _ H hi p, Nat.le_refl _⟩, hd H p⟩
theorem merge_new : ∀ (kvs acc : List (Key × V)), ((acc ++ kvs).map (·.1)).Nodup → mergeK acc kvs = acc ++ kvs
  | [], acc, _ => by rw [List.append_nil]; rfl
  | (k, v) :: kvs, acc, h => by
    have e : mergeK acc ((k, v) :: kvs) = mergeK (putK acc k v) kvs := rfl
    have n : valV acc k = none := by
      cases q : valV acc k with
      | none => rfl
      | some x =>
        have m := valV_in q
        rw [List.map_append] at h
        have := (List.nodup_append.mp h).2.2 k m k List.mem_cons_self
        exact absurd rfl this
    rw [e, putK_new v n, merge_new kvs (acc ++ [(k, v)]) (by rw [List.append_assoc]; exact h), List.append_assoc]
    rfl
theorem paired_snoc {α β : Type} {F : α → β → Prop} : ∀ {l : List α} {m : List β} {a : α} {b : β}, Paired F l m → F a b → Paired F (l ++ [a]) (m ++ [b])
  | _, _, _, _, .nil, h => .cons h .nil
  | _, _, _, _, .cons q r, h => .cons q (paired_snoc r h)
theorem paired_by {α β : Type} {F G : α → β → Prop} (k : ∀ a b, F a b → G a b) : ∀ {l : List α} {m : List β}, Paired F l m → Paired G l m
  | _, _, .nil => .nil
  | _, _, .cons q r => .cons (k _ _ q) (paired_by k r)
/-- the data of a plan -/
def PlanD (sure : Bool) (d : PyData) : Prop := ∃ (given : List Str) (m : Nat) (ds : List PyData) (k c : List Str) (res : PyData) (must : Bool), d = .tuple [.tuple (given.map PyData.str), .tuple ds, res, .bool must] ∧ (given = [] ∨ given = (["n"] : List Str)) ∧ GBody given sure m ds k c ∧ m ≤ 6 ∧ GEx given k res
theorem given_smpl {given : List Str} (hg : given = [] ∨ given = (["n"] : List Str)) : smplAll (given.map PyData.str) = true := by
  rcases hg with rfl | rfl
  · rfl
  · decide +kernel
theorem PlanD.smpl {sure : Bool} {d : PyData} (h : PlanD sure d) : smpl d = true := by
  obtain ⟨given, m, ds, k, c, res, must, rfl, hg, hb, hm, hr⟩ := h
  have s1 : smplAll ds = true := smplAll_of fun e he => ((gbody_facts hb).sm e he).1
  show (smplAll (given.map PyData.str) && (smplAll ds && (Pl.smpl res && (true && true)))) = true
  rw [given_smpl hg, s1, hr.s]
  rfl
def manyKs (many : List (Str × Nat)) : List (Key × V) := many.map fun p => (Sum.inr p.1, .int (p.2 : Nat))
theorem many_keys (many : List (Str × Nat)) : (manyKs many).map (·.1) = (many.map (·.1)).map Sum.inr := by
  unfold manyKs
  rw [List.map_map, List.map_map]
  rfl
theorem nodup_inr {l : List Str} (h : l.Nodup) : (l.map (Sum.inr : Str → Key)).Nodup := List.Pairwise.map _ (fun a b n e => n (Sum.inr.inj e)) h
theorem many_val : ∀ {many : List (Str × Nat)}, (many.map (·.1)).Nodup → ∀ p ∈ many, valV (manyKs many) (Sum.inr p.1) = some (.int (p.2 : Nat))
  | [], _, p, h => by cases h
  | q :: many, nd, p, h => by
    have e : manyKs (q :: many) = (Sum.inr q.1, .int (q.2 : Nat)) :: manyKs many := rfl
    rw [e]
    rw [List.map_cons, List.nodup_cons] at nd
    rcases List.mem_cons.mp h with rfl | h
    · exact valV_pos rfl
    · rw [valV_neg]
      · exact many_val nd.2 p h
      · intro z
        have := Sum.inr.inj z
        exact nd.1 (by rw [this]; exact List.mem_map_of_mem h)
theorem many_at {H : Hp} {ma : Addr} {many : List (Str × Nat)} (h : Rd H ma (.dK (manyKs many))) (nd : (many.map (·.1)).Nodup) : ManyAt H ma many := ⟨_, h, many_keys many, many_val nd⟩
end Pl

namespace Pl
open PySem PySem.Spec PyProof.Rows L2
abbrev owNames : List Str := ["_law_tape_here", "_law_sure", "_law_many", "_law_name"]
theorem scOwn : FnScope owNames ["_law_tape_here", "_law_sure"] (defScope sOwn) := ⟨rfl, rfl, rfl, by decide +kernel, rfl, by decide +kernel, by decide +kernel⟩
def spOwn (K : PySem.W.Frag) : Sp := fun vs H Q _ => ∃ (t b : Addr) (sure : Bool), vs = [.ref t, .bl sure] ∧ TapeB H t b ∧
  ∀ H' dd kvs (many : List (Str × Nat)), Only [t] H H' → TapeB H' t b → H' dd = some (.dK kvs) → ManyOk many → kvs.map (·.1) = (many.map (·.1)).map Sum.inr → (∀ z v, valV kvs (Sum.inr z) = some v → ∃ d, Dp K H' v d ∧ PlanD sure d) → Q (.ref dd) H'
structure Lo (K : PySem.W.Frag) (mg : Str → Option Value) (f : Nat → Addr) (fd : Nat → FuncData) : Prop extends Lz K mg f fd where
  own : DefX K mg "_law_own" sOwn ["_law_tape_here", "_law_sure"] (f 57) (fd 57)
theorem cut_plans (i : Int) (h0 : 0 ≤ i) (h1 : i < 4) : ∃ ns : List Str, cutV (planNames.map V.str) none (some (1 + i)) = ns.map V.str ∧ ns ≠ [] ∧ ns.Nodup ∧ (∀ z ∈ ns, z ∈ planNames) ∧ ns.length ≤ 4 := by
  have : i = 0 ∨ i = 1 ∨ i = 2 ∨ i = 3 := by omega
  rcases this with rfl | rfl | rfl | rfl
  · exact ⟨["a"], rfl, by simp, by decide +kernel, by decide +kernel, by decide⟩
  · exact ⟨["a", "b"], rfl, by simp, by decide +kernel, by decide +kernel, by decide⟩
  · exact ⟨["a", "b", "c"], rfl, by simp, by decide +kernel, by decide +kernel, by decide⟩
  · exact ⟨["a", "b", "c", "d"], rfl, by simp, by decide +kernel, by decide +kernel, by decide⟩
theorem paired_map {α β γ : Type} {F : α → β → Prop} {G : α → γ → Prop} (f : β → γ) (k : ∀ a b, F a b → G a (f b)) : ∀ {l : List α} {m : List β}, Paired F l m → Paired G l (m.map f)
  | _, _, .nil => .nil
  | _, _, .cons q r => .cons (k _ _ q) (paired_map f k r)
theorem paired_len {α β : Type} {F : α → β → Prop} : ∀ {l : List α} {m : List β}, Paired F l m → l.length = m.length
  | _, _, .nil => rfl
  | _, _, .cons q r => by rw [List.length_cons, List.length_cons, paired_len r]
theorem paired_all {α β : Type} {F : α → β → Prop} : ∀ {l : List α} {m : List β}, Paired F l m → ∀ b ∈ m, ∃ a, F a b
  | _, _, .nil, b, h => by cases h
  | _, _, .cons q r, b, h => by
    rcases List.mem_cons.mp h with rfl | h
    · exact ⟨_, q⟩
    · exact paired_all r b h
theorem valV_mem {k : Key} {v : V} : ∀ {kvs : List (Key × V)}, valV kvs k = some v → (k, v) ∈ kvs
  | [], h => by cases h
  | p :: r, h => by
    by_cases e : p.1 = k
    · rw [valV_pos e] at h
      rw [← e, ← Option.some.inj h]
      exact List.mem_cons_self
    · rw [valV_neg e] at h
      exact List.mem_cons_of_mem _ (valV_mem h)
section
variable {P : Program} {w : World} {K : PySem.W.Frag} {mg : Str → Option Value} {base : Heap} {f : Nat → Addr} {fd : Nat → FuncData}
theorem ok_own (T : Tx mg) (TG : TxG mg) (D : Lo K mg f fd) : FnOk P w K mg base CX0 6 (f 57) (fd 57) ["_law_tape_here", "_law_sure"] (spOwn K) := by
  have GD : FnOk P w K mg base CX0 1 _ _ ["_law_tape_here", "_law_many"] spDraw := ok_draw D.draw.F (TxtD.of T)
  have GP : FnOk P w K mg base CX0 5 _ _ ["_law_tape_here", "_law_many", "_law_name", "_law_sure"] (spLPlan K) := ok_lplan T TG D.toLz
  refine D.own.F.ok scOwn (fun vs H Q E h => ?_) (fun cdv A outer s H vs Q E hr h => ?_)
  · obtain ⟨t, b, sure, rfl, _⟩ := h
    rfl
  · obtain ⟨t, b, sure, rfl, tk, k0⟩ := h
    have hu := hu_of hr
    have hr1 : Room 1 _ := hr.mono (by omega)
    refine ⟨_, pss_cons (ps_set (i := 2) scOwn.nd rfl (Or.inr rfl) (pe_callTy (call_dictP rfl) (by rfl) TG.dict (by decide +kernel) (pa_cons
        (pe_lc (own := [("_law_name", 3)]) (g := gName 3) (tt := tYes) (by rfl) scOwn.nd (pi_list (pe_slice sl_list (pe_lst (pa_cons pe_str (pa_cons pe_str (pa_cons pe_str (pa_cons pe_str pa_nil))))) po_none
            (po_some (pe_op op_add pe_int (pe_call GD hr1 (by rfl) D.draw.mg D.draw.F.kp D.draw.b .nil pass0 (pa_cons (pv 0) (pa_cons pe_int pa_nil)))))))
          (blkOk_by (own := [("_law_name", 3)]) (N := owNames) (sc := defScope sOwn) (by decide +kernel)) (fun _ _ _ _ _ => pg_name (i := 3) scOwn.nd rfl (Or.inl rfl)) (fun _ _ _ _ _ => pts_nil)
          (fun _ _ _ _ _ => pe_tup (pa_cons (pv 3) (pa_cons (pe_call GD hr1 (by rfl) D.draw.mg D.draw.F.kp D.draw.b .nil pass0 (pa_cons (pv 0) (pa_cons pe_int pa_nil))) pa_nil)))) pa_nil)))
      (pss_one (ps_ret (pe_callTy (call_dictP rfl) (by rfl) TG.dict (by decide +kernel) (pa_cons
        (pe_lock (pe_lc (own := [("_law_name", 3)]) (g := gName 3) (tt := tYes) (by rfl) scOwn.nd (pi_keys (pv 2))
          (blkOk_by (own := [("_law_name", 3)]) (N := owNames) (sc := defScope sOwn) (by decide +kernel)) (fun _ _ _ _ _ => pg_name (i := 3) scOwn.nd rfl (Or.inl rfl)) (fun _ _ _ _ _ => pts_nil)
          (fun _ _ _ _ _ => pe_tup (pa_cons (pv 3) (pa_cons (pe_call GP hr (by rfl) D.plan.mg D.plan.F.kp D.plan.b .nil pass0 (pa_cons (pv 0) (pa_cons (pv 2) (pa_cons (pv 3) (pa_cons (pv 1) pa_nil))))) pa_nil))))) pa_nil)))), ?_⟩
    refine ⟨small_list rfl, fun l hl => ?_⟩
    refine ⟨_, rfl, t, b, 4, rfl, by decide, by decide, tk.same (same_upd hl), fun H1 i tk1 oth1 i0 i1 => ?_⟩
    have on1 : Only [t] H H1 := (Only.same (same_upd hl)).trans (Only.oth oth1)
    have hl1 : H1 l = some (.lst (planNames.map V.str)) := by
      rw [oth1 l (tape_neN tk hl)]
      exact upd_same
    obtain ⟨ns, ecut, ns0, nsd, nsp, nsl⟩ := cut_plans i i0 i1
    refine ⟨_, _, rfl, rfl, _, rfl, l, _, rfl, SqL.of hl1, fun p hp => ?_⟩
    have e1 : upd H1 p (.lst (cutV (planNames.map V.str) none (some (1 + i)))) = upd H1 p (.lst (ns.map V.str)) := by rw [ecut]
    refine ⟨p, rfl, ⟨_, SqL.of upd_same⟩, ?_⟩
    show ∀ D, upd H1 p (.lst (cutV (planNames.map V.str) none (some (1 + i)))) D = none → _
    rw [e1]
    intro D hD
    have tk2 : TapeB (upd H1 p (.lst (ns.map V.str))) t b := tk1.same (same_upd hp)
    have on2 : Only [t] H (upd H1 p (.lst (ns.map V.str))) := on1.trans (Only.same (same_upd hp))
    have nDt : D ≠ t := tape_neN tk2 hD
    have nDb : D ≠ b := tape_cells tk2 hD
    have nDp : p ≠ D := ne_of_none upd_same hD
    refine lc_list (xs := ns.map V.str) (fun i H' => Only [t] H H' ∧ TapeB H' t b ∧ H' p = some (.lst (ns.map V.str)) ∧ ∃ (ps : List Addr) (mk : List (Str × Nat)), H' D = some (.lst (ps.map V.ref)) ∧ Paired (fun q (kv : Str × Nat) => SqT K H' q [.str kv.1, .int (kv.2 : Nat)]) ps mk ∧ mk.map (·.1) = ns.take i ∧ ∀ e ∈ mk, e.2 ≤ 1)
      ⟨on2.trans (Only.same (same_upd hD)), tk2.same (same_upd hD), same_upd hD _ _ upd_same, [], [], upd_same, .nil, rfl, (fun e he => absurd he List.not_mem_nil)⟩ (fun i H' _ q => SqL.of q.2.2.1) ?_ ?_
    · rintro i x H' hx ⟨q1, q2, q3, ps, mk, q4, q5, q6, q7⟩
      have li : i < ns.length := by
        have := (List.getElem?_eq_some_iff.mp hx).1
        rw [List.length_map] at this
        exact this
      obtain ⟨z, hz, rfl⟩ : ∃ z, ns[i]? = some z ∧ x = .str z := by
        rw [List.getElem?_map, List.getElem?_eq_getElem li] at hx
        exact ⟨ns[i], List.getElem?_eq_getElem li, (Option.some.inj hx).symm⟩
      refine ⟨rfl, ?_⟩
      unfold tYes
      refine iteT ?_
      refine ⟨_, rfl, _, rfl, t, b, 2, rfl, by decide, by decide, q2, fun H4 j tk4 oth4 j0 j1 => ?_⟩
      obtain ⟨n, rfl⟩ : ∃ n : Nat, j = (n : Int) := ⟨j.toNat, by omega⟩
      refine ⟨two_size _ _, fun q hq => ?_⟩
      have on4 : Only [t] H' H4 := Only.oth oth4
      have hD4 : H4 D = some (.lst (ps.map V.ref)) := on4 _ _ (fun z => nDt (List.mem_singleton.mp z)) q4
      have sq := same_upd (o := .tup [.str z, .int (n : Nat)]) hq
      have hD5 := sq _ _ hD4
      have kk : Keep H' (upd (upd H4 q (.tup [.str z, .int (n : Nat)])) D (.lst (ps.map V.ref ++ [.ref q]))) := ((q2.keep on4).trans (Same.keep sq)).trans (keep_put hD5)
      have nqD : q ≠ D := fun z => by
        rw [z, hD4] at hq
        cases hq
      have pl := paired_len q5
      have ml : mk.length ≤ 4 := by
        have := congrArg List.length q6
        rw [List.length_map, List.length_take] at this
        omega
      refine ⟨_, hD5, by rw [List.length_map, sizeLine_eq]; omega, only_new tk2 hD on2 ((q1.trans on4).trans (Only.same sq)), tape_new (tk4.same sq) nDt nDb, ?_, ps ++ [q], mk ++ [(z, n)], ?_, ?_, ?_, ?_⟩
      · rw [upd_ne nDp]
        exact sq _ _ (on4 _ _ (fun z => tape_neS q2 q3 (List.mem_singleton.mp z)) q3)
      · rw [upd_same, List.map_append]
        rfl
      · refine paired_snoc (paired_by (fun a e h => Keep.tup kk h) q5) (.inl (.inl ?_))
        rw [upd_ne nqD]
        exact upd_same
      · rw [List.map_append, q6, List.take_add_one, hz]
        rfl
      · intro e he
        rcases List.mem_append.mp he with q | q
        · exact q7 e q
        · rw [List.mem_singleton.mp q]
          show n ≤ 1
          omega
    · rintro H5 ⟨q1, q2, q3, ps, mk, q4, q5, q6, q7⟩
      rw [List.length_map, List.take_length] at q6
      have nd : (mk.map (·.1)).Nodup := by rw [q6]; exact nsd
      refine ⟨D, ps, manyKs mk, rfl, SqL.of q4, paired_map (fun p : Str × Nat => ((Sum.inr p.1 : Key), V.int (p.2 : Nat))) (fun a e h => h) q5, fun ma hma => ?_⟩
      have em : mergeK [] (manyKs mk) = manyKs mk := merge_new _ [] (by
        show ((manyKs mk).map (·.1)).Nodup
        rw [many_keys]
        exact nodup_inr nd)
      rw [em]
      have hM : ManyOk mk := by
        refine ⟨fun z => ?_, fun e he => ⟨nsp _ ?_, q7 e he⟩, ?_⟩
        · rw [z] at q6
          exact ns0 q6.symm
        · rw [← q6]
          exact List.mem_map_of_mem he
        · rw [← List.length_map (f := fun e : Str × Nat => e.1), q6]
          exact nsl
      have tk6 : TapeB (upd H5 ma (.dK (manyKs mk))) t b := q2.same (same_upd hma)
      refine ⟨ma, _, upd_same, trivial, fun od => ?_⟩
      have nmt : ma ≠ t := tape_neN q2 hma
      have nmb : ma ≠ b := tape_cells q2 hma
      have tkL : TapeB (upd (upd H5 ma (.dK (manyKs mk))) ma (.frz od (.dK (manyKs mk)))) t b := tape_new tk6 nmt nmb
      have onL : Only [t] H (upd (upd H5 ma (.dK (manyKs mk))) ma (.frz od (.dK (manyKs mk)))) := only_new q2 hma q1 (q1.trans (Only.same (same_upd hma)))
      have hL : ∀ {H' : Hp}, Only [t] (upd (upd H5 ma (.dK (manyKs mk))) ma (.frz od (.dK (manyKs mk)))) H' → H' ma = some (.frz od (.dK (manyKs mk))) := fun o => o _ _ (fun z => nmt (List.mem_singleton.mp z)) upd_same
      have kl : (manyKs mk).length = mk.length := by unfold manyKs; rw [List.length_map]
      refine ⟨_, rfl, ma, od, rfl, .inl ⟨_, upd_same, fun D2 hD2 => ?_⟩⟩
      have nD2t : D2 ≠ t := tape_neN tkL hD2
      have nD2b : D2 ≠ b := tape_cells tkL hD2
      have nD2m : ma ≠ D2 := ne_of_none upd_same hD2
      refine lc_keys (fun i H' => Only [t] (upd (upd H5 ma (.dK (manyKs mk))) ma (.frz od (.dK (manyKs mk)))) H' ∧ TapeB H' t b ∧ ∃ (ps : List Addr) (pl : List (Str × V × PyData)), H' D2 = some (.lst (ps.map V.ref)) ∧
          Paired (fun q (e : Str × V × PyData) => SqT K H' q [.str e.1, e.2.1] ∧ Dp K H' e.2.1 e.2.2 ∧ PlanD sure e.2.2) ps pl ∧ pl.map (·.1) = (mk.map (·.1)).take i)
        ⟨Only.same (same_upd hD2), tkL.same (same_upd hD2), [], [], upd_same, .nil, rfl⟩ (fun i H' _ q => hL q.1) ?_ ?_
      · rintro i k v H' hkv ⟨r1, r2, ps2, pl, r4, r5, r6⟩
        obtain ⟨pr, hpr, ek⟩ : ∃ pr, mk[i]? = some pr ∧ ((Sum.inr pr.1 : Key), V.int (pr.2 : Nat)) = (k, v) := by
          unfold manyKs at hkv
          rw [List.getElem?_map] at hkv
          cases q : mk[i]? with
          | none => rw [q] at hkv; cases hkv
          | some pr => rw [q] at hkv; exact ⟨pr, rfl, Option.some.inj hkv⟩
        obtain ⟨rfl, rfl⟩ := Prod.mk.inj ek
        have hmem : pr ∈ mk := List.mem_of_getElem? hpr
        have li : i < mk.length := (List.getElem?_eq_some_iff.mp hpr).1
        refine ⟨rfl, ?_⟩
        unfold tYes
        refine iteT ?_
        refine ⟨_, rfl, _, rfl, _, rfl, _, rfl, _, rfl, t, b, ma, pr.1, sure, mk, rfl, r2, many_at (.inr ⟨od, hL r1⟩) nd, hM, ⟨pr, hmem, rfl⟩, fun H6 v given m ds k c res must on6 tk6 hg hb hm hr hv => ?_⟩
        refine ⟨two_size _ _, fun q hq => ?_⟩
        have hD6 : H6 D2 = some (.lst (ps2.map V.ref)) := on6 _ _ (fun z => nD2t (List.mem_singleton.mp z)) r4
        have sq := same_upd (o := .tup [.str pr.1, v]) hq
        have hD7 := sq _ _ hD6
        have kq : Keep H6 (upd (upd H6 q (.tup [.str pr.1, v])) D2 (.lst (ps2.map V.ref ++ [.ref q]))) := (Same.keep sq).trans (keep_put hD7)
        have kk : Keep H' (upd (upd H6 q (.tup [.str pr.1, v])) D2 (.lst (ps2.map V.ref ++ [.ref q]))) := (r2.keep on6).trans kq
        have nqD : q ≠ D2 := fun z => by
          rw [z, hD6] at hq
          cases hq
        have pl2 := paired_len r5
        have pl3 : pl.length ≤ 4 := by
          have := congrArg List.length r6
          rw [List.length_map, List.length_take, List.length_map] at this
          have := hM.len
          omega
        have hpd : PlanD sure (.tuple [.tuple (given.map PyData.str), .tuple ds, res, .bool must]) := ⟨given, m, ds, k, c, res, must, rfl, hg, hb, hm, hr⟩
        refine ⟨_, hD7, by rw [List.length_map, sizeLine_eq]; omega, only_new tkL hD2 Only.refl ((r1.trans on6).trans (Only.same sq)), tape_new (tk6.same sq) nD2t nD2b, ps2 ++ [q], pl ++ [(pr.1, v, .tuple [.tuple (given.map PyData.str), .tuple ds, res, .bool must])], ?_, ?_, ?_⟩
        · rw [upd_same, List.map_append]
          rfl
        · refine paired_snoc (paired_by (fun a e h => ⟨Keep.tup kk h.1, Dp.keep kk h.2.1 h.2.2.smpl, h.2.2⟩) r5) ⟨.inl (.inl ?_), Dp.keep kq hv hpd.smpl, hpd⟩
          rw [upd_ne nqD]
          exact upd_same
        · rw [List.map_append, r6, List.take_add_one, List.getElem?_map, hpr]
          rfl
      · rintro H6 ⟨r1, r2, ps2, pl, r4, r5, r6⟩
        rw [kl, ← List.length_map (f := fun e : Str × Nat => e.1), List.take_length] at r6
        have hm6 := hL r1
        refine ⟨hm6, ?_⟩
        have tt : Tups K H6 (upd H6 ma (.dK (manyKs mk))) := tups_put hm6 (fun xs z => by cases z) (fun ob xs z => by cases z)
        have tk7 : TapeB (upd H6 ma (.dK (manyKs mk))) t b := tape_new r2 nmt nmb
        have hD7 : upd H6 ma (.dK (manyKs mk)) D2 = some (.lst (ps2.map V.ref)) := by
          rw [upd_ne nD2m.symm]
          exact r4
        have on7 : Only [t] H (upd H6 ma (.dK (manyKs mk))) := only_new q2 hma q1 (onL.trans r1)
        refine ⟨D2, ps2, pl.map (fun e => ((Sum.inr e.1 : Key), e.2.1)), rfl, SqL.of hD7, paired_map (fun e : Str × V × PyData => ((Sum.inr e.1 : Key), e.2.1)) (fun a e h => tt _ _ h.1) r5, fun dd hdd => ?_⟩
        have ekeys : (pl.map (fun e => ((Sum.inr e.1 : Key), e.2.1))).map (·.1) = (mk.map (·.1)).map Sum.inr := by
          rw [← r6, List.map_map, List.map_map]
          rfl
        have em2 : mergeK [] (pl.map (fun e => ((Sum.inr e.1 : Key), e.2.1))) = pl.map (fun e => ((Sum.inr e.1 : Key), e.2.1)) := merge_new _ [] (by
          show ((pl.map (fun e => ((Sum.inr e.1 : Key), e.2.1))).map (·.1)).Nodup
          rw [ekeys]
          exact nodup_inr nd)
        rw [em2]
        refine k0 _ dd _ mk (on7.trans (Only.same (same_upd hdd))) (tk7.same (same_upd hdd)) upd_same hM ekeys fun z v hv => ?_
        obtain ⟨e, he, ee⟩ := List.mem_map.mp (valV_mem hv)
        obtain ⟨_, rfl⟩ := Prod.mk.inj ee
        obtain ⟨a, _, hd1, hd2⟩ := paired_all r5 e he
        exact ⟨e.2.2, Dp.keep (Same.keep (same_upd hdd)) (Dp.tups tt hd1 hd2.smpl) hd2.smpl, hd2⟩
end
end Pl

namespace L2
open PySem PySem.Spec PyProof.Rows
/-- isinstance(e, c), e the exception that the suite holds, with its own dict -/
def rIsE2 (K : PySem.W.Frag) (cls : Value) (d : Option Addr) (a : Addr) : List V → Hp → VK → Prop := fun xs H Q => ∃ (c : V) (u : Value) (b : Bool) (D dd : Addr) (fs : List (Str × V)) (B nw : String) (bo : List Value), xs = [.ref a, c] ∧ cls = .ref D ∧ d = some dd ∧
  ErC K D B nw bo ∧ H dd = some (.xd fs) ∧ ClsV c u ∧ PySem.W.kitOne K (.ref D) u = some b ∧ Q (.bl b) H
theorem call_isE2 {X : Cx} {a : Addr} {cls : Value} {d : Option Addr} {oe : Obj} {pn : List (Addr × Obj)} (hz : Zc cls d oe) (hf : ∃ vs, oe.data = .fields vs) : CallR (X.suite a ((a, oe) :: pn)) (.builtin "isinstance") (rIsE2 X.K cls d a) := by
  intro pins s σ H xs us Q I r h
  obtain ⟨c, u, b, D, dd, fs, B, nw, bo, rfl, ec, ed, T, hd, k, e, q⟩ := h
  subst ec ed
  obtain ⟨u1, u2, rfl, r1, r2⟩ := vals2 r
  have e2 := k.eq r2
  subst e2
  obtain rfl : u1 = Value.ref a := r1
  obtain ⟨hget, _⟩ := I.pin (a, oe) (List.mem_append.mpr (.inl List.mem_cons_self))
  obtain ⟨vs, hv⟩ := hf
  have hx : ObjOk X.prog X.w H s.heap dd (.xd fs) := I.hok dd _ hd
  obtain ⟨mA, hns, hr⟩ := hx
  obtain ⟨od, ho, hl⟩ := lookIn_ns hns
  have J : PySem.W.InstAt s.heap a oe D (some od) := ⟨hget, hz.1, by unfold PySem.W.notCls; rw [hv] <;> rfl, by rw [hz.2]; exact ho⟩
  obtain ⟨cd, hcd, _⟩ := PySem.W.any_some T.hd
  exact PySem.W.kia_one (PySem.W.kitx_exc (gt := none) (ox := oe) (od := some od) (by rw [hcd]; rfl) T.ga T.gg T.exC T.ca T.cn T.ct T.mo) I.kIn J e (fun z => nomatch z) fun tk => ⟨.bl b, H, I.tok tk, rfl, q⟩
/-- s * n, by a name that is not unfolded -/
@[irreducible] def mulT (a : Str) (n : Int) : Str := PySem.Txt.mul a n
theorem mulT_eq (a : Str) (n : Int) : mulT a n = PySem.Txt.mul a n := by unfold mulT; rfl
def rMulT : R2 := fun x y H Q => ∃ (a : Str) (n : Int), x = .str a ∧ y = .int n ∧ PySem.MulOk a n ∧ Q (.str (mulT a n)) H
theorem op_mul_str {X : Cx} : OpR X (binaryOp .Mult) rMulT := by
  intro pins s σ H x y v u Q I rx ry h
  obtain ⟨a, n, rfl, rfl, hok, q⟩ := h
  obtain ⟨t, rfl⟩ := rx
  obtain ⟨t2, rfl⟩ := ry
  rw [mulT_eq] at q
  exact PySem.SB.mul hok fun t' k => ⟨.str _, H, I.tok k, ⟨t', rfl⟩, q⟩
/-- repr of a text or of a whole number -/
def rReprV : List V → Hp → VK → Prop := fun xs H Q => (∃ z, xs = [.str z] ∧ (reprText z).length ≤ sizeLine ∧ Q (.str (reprText z)) H) ∨ ∃ i, xs = [.int i] ∧ i.natAbs.log2 < 1920 ∧ Q (.str (toString i)) H
theorem call_reprV {X : Cx} : CallR X (.builtin "repr") rReprV := by
  intro pins s σ H xs us Q I r h
  rcases h with ⟨z, rfl, hz, q⟩ | h
  · obtain ⟨u, rfl, t, rfl⟩ := vals1 r
    exact PySem.P.repr_of_str ⟨.str _, H, I.tok _, ⟨_, rfl⟩, q⟩ hz
  · exact SkE.call_repr_int pins s σ H xs us Q I r h
/-! ### written data -/
theorem PE.imp {X : Cx} {e : Expr} {t t' : TE} (h : PE X e t) (k : ∀ σ H Q, t' σ H Q → t σ H Q) : PE X e t' := ⟨fun pins s σ H Q I q => h.run pins s σ H Q I (k σ H Q q)⟩
theorem PA.imp {X : Cx} {es : List Expr} {t t' : TA} (h : PA X es t) (k : ∀ σ H Q, t' σ H Q → t σ H Q) : PA X es t' := ⟨fun pos pins s σ H Q I q => h.run pos pins s σ H Q I (k σ H Q q)⟩
end L2
namespace Pl
open PySem PySem.Spec PyProof.Rows L2
theorem same_refl {H : Hp} : Same H H := fun _ _ q => q
/-- a written datum -/
def tDat (K : PySem.W.Frag) (d : PyData) : TE := fun σ H Q => ∀ v H', Same H H' → Dp K H' v d → Q v H'
def tDatA (K : PySem.W.Frag) (ds : List PyData) : TA := fun σ H Q => ∀ vs H', Same H H' → DpAll K H' vs ds → Q vs H'
/-- a written list -/
def tDatL (K : PySem.W.Frag) (ds : List PyData) : TE := fun σ H Q => ∀ l ys H', Same H H' → H l = none → H' l = some (.lst ys) → DpAll K H' ys ds → Q (.ref l) H'
section
variable {X : Cx} {e : Expr} {es : List Expr} {d : PyData} {ds : List PyData} {pos : Pos}
theorem pd_int {i : Int} {s : Nat} : PE X (.Constant (.int i) s pos) (tDat X.K (.int i)) := pe_int.imp fun σ H Q h => h _ H same_refl (.int i)
theorem pd_str {z : Str} {s : Nat} : PE X (.Constant (.str z) s pos) (tDat X.K (.str z)) := pe_str.imp fun σ H Q h => h _ H same_refl (.str z)
theorem pd_bl {b : Bool} {s : Nat} : PE X (.Constant (.bool b) s pos) (tDat X.K (.bool b)) := pe_bl.imp fun σ H Q h => h _ H same_refl (.bl b)
theorem pd_non {s : Nat} : PE X (.Constant .none s pos) (tDat X.K .none) := pe_non.imp fun σ H Q h => h _ H same_refl .non
theorem pda_nil : PA X [] (tDatA X.K []) := pa_nil.imp fun σ H Q h => h _ H same_refl .nil
theorem pda_cons (h : PE X e (tDat X.K d)) (q : PA X es (tDatA X.K ds)) (hs : starEach (e :: es) X.env = (false, eval e X.env) :: starEach es X.env := by rfl) : PA X (e :: es) (tDatA X.K (d :: ds)) := (pa_cons h q hs).imp fun σ H Q k => fun v H1 s1 d1 => fun vs H2 s2 d2 => k (v :: vs) H2 (s1.trans s2) (.cons (dp_same s2 d1) d2)
theorem pd_tup {k : Nat} (h : PA X es (tDatA X.K ds)) (hl : Nat.ble ds.length 1000 = true := by rfl) : PE X (.Tuple es k pos) (tDat X.K (.tuple ds)) := (pe_tup h).imp fun σ H Q q => fun vs H1 s1 d1 => by
  refine ⟨by rw [dpAll_len d1, sizeLine_eq]; exact Nat.le_trans (Nat.le_of_ble_eq_true hl) (by decide), fun p hp => q _ _ (s1.trans (same_upd hp)) (.tup (.inl (.inl upd_same)) (dp_sameAll (same_upd hp) d1))⟩
theorem none_of {H H' : Hp} {a : Addr} (s : Same H H') (h : H' a = none) : H a = none := by
  cases h0 : H a with
  | none => rfl
  | some o => rw [s _ _ h0] at h; cases h
theorem pd_lstL (h : PA X es (tDatA X.K ds)) (hl : Nat.ble ds.length 1000 = true := by rfl) : PE X (.List es pos) (tDatL X.K ds) := (pe_lst h).imp fun σ H Q q => fun vs H1 s1 d1 => by
  refine ⟨by rw [dpAll_len d1, sizeLine_eq]; exact Nat.le_trans (Nat.le_of_ble_eq_true hl) (by decide), fun p hp => q _ _ _ (s1.trans (same_upd hp)) (none_of s1 hp) upd_same (dp_sameAll (same_upd hp) d1)⟩
theorem pd_lst (h : PA X es (tDatA X.K ds)) (hl : Nat.ble ds.length 1000 = true := by rfl) : PE X (.List es pos) (tDat X.K (.list ds)) := (pd_lstL h hl).imp fun σ H Q q => fun l ys H1 s1 _ h1 d1 => q _ _ s1 (.lst (SqL.of h1) d1)
theorem pd_neg {i : Int} {s : Nat} {p2 : Pos} : PE X (.UnaryOp .USub (.Constant (.int i) s p2) pos) (tDat X.K (.int (-i))) := (pe_un un_neg pe_int).imp fun σ H Q h => ⟨i, rfl, h _ H same_refl (.int (-i))⟩
end
end Pl

namespace L2
open PySem PySem.Spec PyProof.Rows
/-- C(.., k = v, ..), where what __init__ raises is wished for at the slots as they stand -/
def tMakeKS (C : Addr) (n m : Nat) (sp : Sp) (gV : List V → List V → List V) (W : WX) (t tk : TA) : TE := fun σ H Q =>
  t σ H fun vs H1 => tk σ H1 fun zs H2 => vs.length = n ∧ zs.length = m ∧ ∀ x dx, H2 x = none → H2 dx = none → dx ≠ x → sp (gV (.ref x :: vs) zs) (upd (upd H2 dx (.own x)) x (.ins C dx [])) (fun v H3 => v = .non ∧ Q (.ref x) H3) (WE W σ)
section
variable {X : Cx} {k n : Nat} {f C : Addr} {fd : FuncData} {ps ks : List Str} {sp : Sp} {W : WX} {x : Str} {p pos : Pos} {e : Expr} {es : List Expr} {kws : List Keyword} {t tk : TA} {g : List Value → List Value → List Value} {gV : List V → List V → List V}
theorem pe_makeKS (M : Mk X.K C f) (F : FnOk X.prog X.w X.K X.mg X.base (L2.CX X.prog X.w) k f fd ps sp) (hr : Room (k + 1) X.A) (hg : Gl X x) (hm : X.mg x = some (.ref C)) (hb : KBn X.K fd ps (n + 1) ks g gV) (hx : ∀ σ, PassesAt (L2.CX X.prog X.w) X σ (WE W σ)) (ha : PA X (e :: es) t) (hkw : PK X kws tk)
    (hall : (backToKw pos (keywordEach kws X.env)).all (·.1.isSome) = true := by rfl) (hks : (backToKw pos (keywordEach kws X.env)).filterMap (·.1) = ks := by rfl) (hdb : (x == ("__debug__" : Str)) = false := by decide)
    (he : starEach (e :: es) X.env = (false, eval e X.env) :: starEach es X.env := by rfl) (hpl : ((backTo pos (starEach (e :: es) X.env)).any (·.1) || (backToKw pos (keywordEach kws X.env)).any (·.1.isNone)) = false := by rfl) :
    PE X (.Call (.Name x p) (e :: es) kws pos) (tMakeKS C n ks.length sp gV W t tk) := by
  constructor
  intro pins s σ H Q I h
  refine wpAny_Call_Name_kw (ld_glob I hg hm ?_ hdb)
  refine PySem.W.callWith_KW (h₀ := X.base) I.ok.mod.kin M.kp hall (thn (ha.run pos pins s σ H _ I h) ?_) hpl he
  intro us s1 ⟨vs, H1, I1, r, q⟩
  refine thn (hkw.run pos pins s1 σ H1 _ I1 q) ?_
  intro ws s2 ⟨zs, H2, I2, rz, l1, l2, hq⟩
  refine ⟨I2.kIn, ?_⟩
  rw [hks]
  have free : ∀ j, s2.heap.objs.size ≤ j → H2 j = none := fun j hj => I2.hok.fresh hj
  have hq := hq (s2.heap.objs.size + 1) s2.heap.objs.size (free _ (Nat.le_succ _)) (free _ (Nat.le_refl _)) (Nat.ne_of_lt (Nat.lt_succ_self _))
  have J := Inv.made (C := C) I2
  have self : Vals (V.ref (s2.heap.objs.size + 1) :: vs) (Value.ref (s2.heap.objs.size + 1) :: us) := .cons rfl r
  have len : (Value.ref (s2.heap.objs.size + 1) :: us).length = n + 1 := by
    show us.length + 1 = n + 1
    rw [← r.length, l1]
  have bound := hb.to _ _ ws J.kIn len (rz.length.symm.trans l2)
  have ran := F.run _ X.stack _ _ ⟨Value.ref (s2.heap.objs.size + 1) :: us, ks.zip ws⟩ _ _ _ (WE W σ) (hr.make C us (ks.zip ws)) (J.env0.make C us (ks.zip ws)) bound (hb.rel self rz) hq
  refine wpAny_call (make_map (f := f) I2.kIn M.makes M.init (beq_iff_eq.mp M.fn) (codeAny_mono ran ?_))
  intro res s' hres
  match res, hres with
  | .error er, z => exact hx σ pins _ _ er s' J z
  | .ok (.ret u), z =>
    obtain ⟨v, H', J', rv, ev, q3⟩ := J.after z
    subst ev
    exact ⟨rv, ⟨.ref (s2.heap.objs.size + 1), H', J', rfl, q3⟩⟩
  | .ok .next, z => exact z.elim
  | .ok .brk, z => exact z.elim
  | .ok .cont, z => exact z.elim
end
end L2

namespace Pl
open PySem PySem.Spec PyProof.Rows L2
abbrev partNames : List Str := ["_law_given", "_law_body", "_law_result", "_law_must", "e"]
theorem small_listD {xs : List V} (h : Nat.ble xs.length 1000 = true) : xs.length ≤ sizeLine := by
  rw [sizeLine_eq]
  exact Nat.le_trans (Nat.le_of_ble_eq_true h) (by decide)
theorem scPart : FnScope partNames ["_law_given", "_law_body", "_law_result", "_law_must"] (defScope sPart) := ⟨rfl, rfl, rfl, by decide +kernel, rfl, by decide +kernel, by decide +kernel⟩
/-- the text that _law_part tells -/
def partT : Except PyData Pln → Str
  | .error (.str z) => reprText z
  | .error (.int i) => Str.ofString (toString i)
  | .error _ => "odd"
  | .ok _ => "none"
def spPart (K : PySem.W.Frag) : Sp := fun vs H Q _ => ∃ (v1 v2 v3 v4 : V) (d1 d2 d3 d4 : PyData), vs = [v1, v2, v3, v4] ∧ (Dp K H v1 d1 ∧ Dp2 K H v2 d2 ∧ Dp K H v3 d3 ∧ Dp K H v4 d4) ∧ (fine d1 = true ∧ (seqD d2 = true → fine d2 = true) ∧ fine d3 = true ∧ fine d4 = true) ∧
  ∀ H' l, Same H H' → H l = none → H' l = some (.lst [.str (partT (planB d1 d2 d3 d4)), .bl true]) → Q (.ref l) H'
structure ErY (K : PySem.W.Frag) (C W0 : Addr) : Prop where
  te : PySem.W.exmOne K (.ref C) (.ref C) = some true
  isW : PySem.W.kitOne K (.ref C) (.ref W0) = some true
  isV : PySem.W.kitOne K (.ref C) (.type "ValueError") = some true
  noP : PySem.W.findIn K (.ref C) "part" = some none
theorem bodyB_lt : ∀ {ds : List PyData} {S : Sc} {i j : Nat}, bodyB S i ds = .error j → j < i + ds.length
  | [], S, i, j, h => by cases h
  | d :: ds, S, i, j, h => by
    have h' : (if instrB (entered S i) d = true then bodyB (leaveS (entered S i) i (itemsOf d)) (i + 1) ds else .error i) = .error j := h
    by_cases c : instrB (entered S i) d = true
    · rw [if_pos c] at h'
      have := bodyB_lt h'
      rw [List.length_cons]
      omega
    · rw [if_neg c] at h'
      injection h' with h'
      rw [List.length_cons]
      omega
theorem planB_err {d1 d2 d3 d4 dp : PyData} (h : planB d1 d2 d3 d4 = .error dp) : (∃ i : Nat, i ≤ 24 ∧ dp = .int (i : Nat)) ∨ ∃ z : Str, dp = .str z ∧ (reprText z).length ≤ 100 := by
  have sz : ∀ z ∈ (["arguments", "body", "result", "must_finish"] : List Str), (reprText z).length ≤ 100 := by decide +kernel
  unfold planB at h
  split at h
  · split at h
    · rename_i c
      rw [Bool.and_eq_true] at c
      have l := of_decide_eq_true c.2
      cases hb : bodyB (scNew (strsOf (seqItems d1)) (seqItems d2).length) 0 (seqItems d2) with
      | error i =>
        rw [hb] at h
        have := bodyB_lt hb
        injection h with h
        exact .inl ⟨i, by omega, h.symm⟩
      | ok S =>
        rw [hb] at h
        have h' : planE d1 d2 d3 d4 S = .error dp := h
        unfold planE at h'
        split at h'
        · cases d4 <;> first | (injection h' with h'; exact .inr ⟨_, h'.symm, sz _ (by decide +kernel)⟩) | cases h'
        · injection h' with h'
          exact .inr ⟨_, h'.symm, sz _ (by decide +kernel)⟩
    · injection h with h
      exact .inr ⟨_, h.symm, sz _ (by decide +kernel)⟩
  · injection h with h
    exact .inr ⟨_, h.symm, sz _ (by decide +kernel)⟩
theorem small_log {i : Nat} (h : i ≤ 24) : ((i : Nat) : Int).natAbs.log2 < 1920 := by
  have : ∀ j : Fin 25, (((j.val : Nat) : Int)).natAbs.log2 < 1920 := by decide +kernel
  exact this ⟨i, by omega⟩
section
variable {P : Program} {w : World} {K : PySem.W.Frag} {mg : Str → Option Value} {base : Heap} {C CP W0 fI fi fr : Addr} {fdI fdi fdr : FuncData} {mv : List Value}
theorem ok_part (F : Fun K "_law_part" "_law_part" sPart fr fdr) (T : Tx mg) (hrep : mg "repr" = none) (hve : mg "ValueError" = none) (X : ErX K mg CP W0 fI fdI) (Y : ErY K CP W0) (hMk : Mk K C fi) (mgC : mg "Plan" = some (.ref C))
    (GI : FnOk P w K mg base (L2.CX P w) 19 fi fdi ["self", "arguments", "body", "result", "must_finish"] (spPlInit K C CP)) (kb : KBn K fdi ["self", "arguments", "body", "result", "must_finish"] 4 ["must_finish"] (fun us ws => us ++ ws) (fun vs zs => vs ++ zs)) :
    FnOk P w K mg base CX0 21 fr fdr ["_law_given", "_law_body", "_law_result", "_law_must"] (spPart K) := by
  have XF : XfC K CP := ⟨X.er.ga, X.er.gg, X.er.exC, X.er.hd⟩
  refine F.ok scPart (fun vs H Q E h => ?_) (fun cdv A outer s H vs Q E hr h => ?_)
  · obtain ⟨v1, v2, v3, v4, d1, d2, d3, d4, rfl, _⟩ := h
    rfl
  · obtain ⟨v1, v2, v3, v4, d1, d2, d3, d4, rfl, hd, hf, k⟩ := h
    have hr20 : Room 20 _ := hr
    refine ⟨_, pss_cons (ps_try_as (i := 4) (tb := fun W => tDrop (tMakeKS C 3 1 (spPlInit K C CP) (fun vs zs => vs ++ zs) W (tCons (tVar 0) (tCons (tVar 1) (tCons (tVar 2) tNil))) (tCons (tVar 3) tNil)))
        (ts := fun a cls d => tRet (tLst (tCons (tCB rReprV (tCons (tXf a cls d CP "part" (tVar 4)) tNil)) (tCons (tAndV (tCB (rIsE2 K cls d a) (tCons (tVar 4) (tCons (tC (.ref W0)) tNil))) (tCB (rIsE2 K cls d a) (tCons (tVar 4) (tCons (tC (.ty "ValueError")) tNil)))) tNil))))
        (Wout := fun _ _ _ _ => False) rfl rfl scPart.nd rfl rfl ⟨rfl, by decide, Or.inl X.mgC⟩ takes0
      (fun W pn xe tk _ => by exact pss_one (ps_expr (pe_makeKS (n := 3) hMk GI hr20 (by rfl) mgC kb (fun σ => passAt tk σ) (pa_cons (pv 0) (pa_cons (pv 1) (pa_cons (pv 2) pa_nil))) (pk_cons (pv 3) pk_nil))))
      (fun a oe cls d pn hz hf => by exact pss_one (ps_ret (pe_lst (pa_cons (pe_callB call_reprV (by rfl) hrep (by decide +kernel) (pa_cons (pe_xf XF Y.noP hz hf (pv 4)) pa_nil))
        (pa_cons (pe_and (pe_callB (call_isE2 hz hf) (by rfl) T.isi (by decide +kernel) (pa_cons (pv 4) (pa_cons (pe_glob (v := .ref W0) rfl X.wk.mg rfl) pa_nil)))
          (pe_one (pe_callB (call_isE2 hz hf) (by rfl) T.isi (by decide +kernel) (pa_cons (pv 4) (pa_cons (pe_bltn (v := .ty "ValueError") (by rfl) hve (by decide +kernel) rfl) pa_nil))))) pa_nil))))))
      (pss_one (ps_ret (pe_lst (pa_cons pe_str (pa_cons pe_bl pa_nil))))), ?_⟩
    refine ⟨_, rfl, _, rfl, _, rfl, _, rfl, rfl, rfl, fun x dx nx nd ne => ?_⟩
    have s1 : Same H (upd H dx (.own x)) := same_upd nd
    have nx2 : upd H dx (.own x) x = none := by rw [upd_ne (Ne.symm ne)]; exact nx
    have s2 := s1.trans (same_upd (o := .ins C dx []) nx2)
    refine ⟨x, dx, v1, v2, v3, v4, d1, d2, d3, d4, rfl, upd_same, ⟨dp_same s2 hd.1, hd.2.1.same s2, dp_same s2 hd.2.2.1, dp_same s2 hd.2.2.2⟩, hf, fun p hp H' kp pl => ?_, fun dp y he hy => ?_⟩
    · refine ⟨rfl, (small_listD rfl), fun l hl => ?_⟩
      have s3 : Same H H' := fun b o e => kp b o (fun z => by rw [z, nx] at e; cases e) (s2 b o e)
      refine k _ l (s3.trans (same_upd hl)) (none_of s3 hl) ?_
      rw [hp]
      exact upd_same
    · intro H' dd sm hn hdd
      refine ⟨true, Y.te, fun _ a ha => ?_, fun q => Bool.noConfusion q⟩
      have s3 := s2.trans sm
      have done : ∀ z : Str, partT (planB d1 d2 d3 d4) = z → ∀ l, H' l = none → Q (.ref l) (upd H' l (.lst [.str z, .bl true])) := fun z hz l hl => by
        refine k _ l (s3.trans (same_upd hl)) (none_of s3 hl) ?_
        rw [hz]
        exact upd_same
      rcases planB_err he with ⟨i, hi, rfl⟩ | ⟨z, rfl, hz⟩
      · cases hy
        refine ⟨_, rfl, rfl, rfl, dd, _, .int (i : Nat), rfl, hdd, rfl, .inr ⟨_, rfl, small_log hi, ?_⟩⟩
        refine ⟨_, rfl, _, _, true, CP, dd, _, _, _, _, rfl, rfl, rfl, X.er, hdd, .own W0, Y.isW, true, rfl, iteT ?_⟩
        refine ⟨_, rfl, _, _, true, CP, dd, _, _, _, _, rfl, rfl, rfl, X.er, hdd, .ty "ValueError", Y.isV, ?_⟩
        exact ⟨(small_listD rfl), fun l hl => done _ (by rw [he]; rfl) l hl⟩
      · cases hy
        refine ⟨_, rfl, rfl, rfl, dd, _, .str z, rfl, hdd, rfl, .inl ⟨_, rfl, by rw [sizeLine_eq]; omega, ?_⟩⟩
        refine ⟨_, rfl, _, _, true, CP, dd, _, _, _, _, rfl, rfl, rfl, X.er, hdd, .own W0, Y.isW, true, rfl, iteT ?_⟩
        refine ⟨_, rfl, _, _, true, CP, dd, _, _, _, _, rfl, rfl, rfl, X.er, hdd, .ty "ValueError", Y.isV, ?_⟩
        exact ⟨(small_listD rfl), fun l hl => done _ (by rw [he]; rfl) l hl⟩
end
end Pl

set_option maxHeartbeats 8000000
namespace Pl
open PySem PySem.Spec PyProof.Rows L2
theorem not_long {a b : Nat} (h : a * b ≤ 36000) : Builtin.Str.tooLong (a * b) = false := by
  unfold Builtin.Str.tooLong
  exact decide_eq_false (by rw [sizeLine_eq]; omega)
theorem mok {z : Str} {n : Int} (h1 : 1 ≤ n) (h2 : n ≤ 9000) (h3 : z.length ≤ 4) : PySem.MulOk z n := by
  refine ⟨?_, fun _ _ => ?_, fun _ _ => ?_⟩
  · rw [Bool.or_eq_false_iff]
    exact ⟨decide_eq_false (by omega), decide_eq_false (by omega)⟩
  · have e : (4 : Int) ≤ (2 ^ 63 - 1) / n := by
      rw [Int.le_ediv_iff_mul_le (by omega)]
      omega
    omega
  · refine not_long ?_
    have : z.length * n.toNat ≤ 4 * 9000 := Nat.mul_le_mul h3 (by omega)
    omega
theorem pd_mul {X : Cx} {z : Str} {n : Int} {s s2 : Nat} {p1 p2 pos : Pos} (h : PySem.MulOk z n) : PE X (.BinOp (.Constant (.str z) s p1) .Mult (.Constant (.int n) s2 p2) pos) (tDat X.K (.str (mulT z n))) := (pe_op op_mul_str pe_str pe_int).imp fun σ H Q q => ⟨z, n, rfl, rfl, h, q _ H same_refl (.str _)⟩
theorem scWrong : FnScope ["_law_found"] [] (defScope sWrong) := ⟨rfl, rfl, rfl, by decide +kernel, rfl, by decide +kernel, by decide +kernel⟩
def wr0 : List PyData := [.none, .tuple [], .list [], .str "work", .tuple [.str "work"], .tuple [.str "work", .int 0], .tuple [.str "work", .int 1001], .tuple [.str "work", .bool true]]
def wr1 : List PyData := [.tuple [.str "work", .str "n"], .list [.str "work", .int 1]]
def wr2 : List PyData := [.tuple [.str "set", .str "n", .int 1], .tuple [.str "set", .str "V", .int 1], .tuple [.str "set", .str "v"], .tuple [.str "set", .str "w", .str "w"]]
def wr3 : List PyData := [.tuple [.str "set", .str "v", .str "u"], .tuple [.str "set", .str "v", .int (-1)]]
def wr4 : List PyData := [.tuple [.str "set", .str "v", .int 1000000007], .tuple [.str "set", .str "v", .tuple [.str "plus", .int 1]], .tuple [.str "set", .str "v", .tuple [.str "over", .int 1, .int 2]]]
def wr5 : List PyData := [.tuple [.str "set", .str "v", .none]]
def wr6 : List PyData := [.tuple [.str "set", .str "v", .tuple [.str "known", .str "n"]], .tuple [.str "set", .str "v", .tuple [.str "known", .str "u"]]]
def wr7 : List PyData := [.tuple [.str "set", .str "v", .list [.str "plus", .int 1, .int 2]], .tuple [.str "fail"]]
def wr8 : List PyData := [.tuple [.str "set", .str "v", .tuple [.str "less", .int 1, .int 2, .int 3]], .tuple [.str "set", .str "v", .bool true], .tuple [.str "set", .str "abcdefghi", .int 1]]
def wr9 : List PyData := [.tuple [.str "fail", .str "u"], .tuple [.str "sleep", .int 1]]
def wr10 : List PyData := [.tuple [.str "call", .str "n", .str "f", .tuple []], .tuple [.str "call", .str "y", .str "F", .tuple []], .tuple [.str "call", .str "y", .str "f"]]
def wr11 : List PyData := [.tuple [.str "call", .str "y", .str "f", .list [.int 1]]]
def wr12 : List PyData := [.tuple [.str "call", .str "y", .str "f", .tuple [.int 1, .int 2, .int 3, .int 4]], .tuple [.str "call", .str "y", .str "f", .tuple [.str "y"]]]
def wr13 : List PyData := [.tuple [.str "call", .str "y", .none, .tuple []], .tuple [.str "wait", .int 1, .tuple []]]
def wr14 : List PyData := [.tuple [.str "wait", .int 0, .tuple [.str "x"]], .tuple [.str "wait", .int 2, .tuple [.str "x"]], .tuple [.str "wait", .int 1, .tuple [.str "v"]], .tuple [.str "wait", .int 1, .list [.str "x"]]]
def wr15 : List PyData := [.tuple [.str "wait", .int 1, .tuple [.str "x", .str "x"]]]
def wr16 : List PyData := [.tuple [.str "wait", .int 1, .str "x"], .tuple [.str "wait", .bool true, .tuple [.str "x"]], .tuple [.str "catch", .tuple []], .tuple [.str "catch", .str "x"]]
def wr17 : List PyData := [.tuple [.str "catch", .tuple [.str "v"]], .tuple [.str "catch", .tuple [.str "n"]]]
def wr18 : List PyData := [.tuple [.str "drop", .str "v"], .tuple [.str "drop", .str "n"], .tuple [.str "drop", .tuple [.str "x"]], .tuple [.str "drop"], .tuple [.str "effect", .str ""]]
def wr19 : List PyData := [.tuple [.str "effect", .str " a"], .tuple [.str "effect", .str "a "]]
def wr20 : List PyData := [.tuple [.str "effect", .str (mulT "a" 21)], .tuple [.str "effect", .str "a.b"], .tuple [.str "effect", .int 5], .tuple [.str "if", .int 1, .int 0], .tuple [.str "if", .int 1, .int 9]]
def wr21 : List PyData := [.tuple [.str "if", .str "u", .int 1]]
def wr22 : List PyData := [.tuple [.str "if", .int 1], .tuple [.str "while", .int 1, .int 0], .tuple [.str "while", .int 1, .bool true], .tuple [.str "while", .int 1, .int 9], .tuple [.list [.str "work"], .int 1]]
def wr23 : List PyData := [.tuple [.none, .int 1], .tuple [.str "work", .int 1, .int 1]]
/-- the wrong instructions -/
def wrongD : List PyData := (((((((((((((((((((((((wr0 ++ wr1) ++ wr2) ++ wr3) ++ wr4) ++ wr5) ++ wr6) ++ wr7) ++ wr8) ++ wr9) ++ wr10) ++ wr11) ++ wr12) ++ wr13) ++ wr14) ++ wr15) ++ wr16) ++ wr17) ++ wr18) ++ wr19) ++ wr20) ++ wr21) ++ wr22) ++ wr23)
def spWrong (K : PySem.W.Frag) : Sp := fun vs H Q _ => vs = [] ∧ ∀ H' l ys, Same H H' → H l = none → H' l = some (.lst ys) → DpAll K H' ys wrongD → Q (.ref l) H'
theorem cat_step {K : PySem.W.Frag} {σ : L2.St} {J : Hp} {l0 : Addr} {y0 : List V} {D0 w : List PyData} {Q : VK} (hσ : σ[0]? = some (some (V.ref l0))) (h0 : J l0 = some (.lst y0)) (e0 : DpAll K J y0 D0) (len : D0.length + w.length ≤ 1000)
    (k : ∀ l ys G, Same J G → J l = none → G l = some (.lst ys) → DpAll K G ys (D0 ++ w) → Q (.ref l) G) : tOp rCat (tVar 0) (tDatL K w) σ J Q := by
  refine ⟨_, hσ, fun m z J1 t u v d => ?_⟩
  refine ⟨l0, m, _, _, rfl, rfl, t _ _ h0, v, ?_, fun l q => ?_⟩
  · rw [dpAll_len e0, dpAll_len d, sizeLine_eq]
    exact Nat.le_trans len (by decide)
  · exact k _ _ _ (t.trans (same_upd q)) (none_of t q) upd_same (dp_sameAll (same_upd q) (dpAll_app (dp_sameAll t e0) d))
theorem cat_stmt {K : PySem.W.Frag} {J : Hp} {l0 : Addr} {y0 : List V} {D0 w : List PyData} {rest : TS} {D : Ends} (h0 : J l0 = some (.lst y0)) (e0 : DpAll K J y0 D0) (len : D0.length + w.length ≤ 1000)
    (k : ∀ l ys G, Same J G → J l = none → G l = some (.lst ys) → DpAll K G ys (D0 ++ w) → rest D [some (.ref l)] G) : tSeq (tAsg (tOp rCat (tVar 0) (tDatL K w)) (gName 0)) rest D [some (.ref l0)] J :=
  cat_step rfl h0 e0 len k
section
variable {P : Program} {w : World} {K : PySem.W.Frag} {mg : Str → Option Value} {base : Heap} {f : Addr} {fd : FuncData}
theorem ok_wrong (F : Fun K "_law_wrong" "_law_wrong" sWrong f fd) : FnOk P w K mg base CX0 1 f fd [] (spWrong K) := by
  refine F.ok scWrong (fun vs H Q E h => ?_) (fun cdv A outer s H vs Q E hr h => ?_)
  · obtain ⟨rfl, _⟩ := h
    rfl
  · obtain ⟨rfl, k⟩ := h
    refine ⟨_, pss_cons (ps_set (i := 0) scWrong.nd rfl (Or.inl rfl) (pd_lstL (pda_cons pd_non (pda_cons (pd_tup pda_nil) (pda_cons (pd_lst pda_nil) (pda_cons pd_str (pda_cons (pd_tup (pda_cons pd_str pda_nil)) (pda_cons (pd_tup (pda_cons pd_str (pda_cons pd_int pda_nil))) (pda_cons (pd_tup (pda_cons pd_str (pda_cons pd_int pda_nil))) (pda_cons (pd_tup (pda_cons pd_str (pda_cons pd_bl pda_nil))) pda_nil))))))))))
      (pss_cons (ps_set (i := 0) scWrong.nd rfl (Or.inl rfl) (pe_op op_cat (pv 0) (pd_lstL (pda_cons (pd_tup (pda_cons pd_str (pda_cons pd_str pda_nil))) (pda_cons (pd_lst (pda_cons pd_str (pda_cons pd_int pda_nil))) pda_nil)))))
      (pss_cons (ps_set (i := 0) scWrong.nd rfl (Or.inl rfl) (pe_op op_cat (pv 0) (pd_lstL (pda_cons (pd_tup (pda_cons pd_str (pda_cons pd_str (pda_cons pd_int pda_nil)))) (pda_cons (pd_tup (pda_cons pd_str (pda_cons pd_str (pda_cons pd_int pda_nil)))) (pda_cons (pd_tup (pda_cons pd_str (pda_cons pd_str pda_nil))) (pda_cons (pd_tup (pda_cons pd_str (pda_cons pd_str (pda_cons pd_str pda_nil)))) pda_nil)))))))
      (pss_cons (ps_set (i := 0) scWrong.nd rfl (Or.inl rfl) (pe_op op_cat (pv 0) (pd_lstL (pda_cons (pd_tup (pda_cons pd_str (pda_cons pd_str (pda_cons pd_str pda_nil)))) (pda_cons (pd_tup (pda_cons pd_str (pda_cons pd_str (pda_cons pd_neg pda_nil)))) pda_nil)))))
      (pss_cons (ps_set (i := 0) scWrong.nd rfl (Or.inl rfl) (pe_op op_cat (pv 0) (pd_lstL (pda_cons (pd_tup (pda_cons pd_str (pda_cons pd_str (pda_cons pd_int pda_nil)))) (pda_cons (pd_tup (pda_cons pd_str (pda_cons pd_str (pda_cons (pd_tup (pda_cons pd_str (pda_cons pd_int pda_nil))) pda_nil)))) (pda_cons (pd_tup (pda_cons pd_str (pda_cons pd_str (pda_cons (pd_tup (pda_cons pd_str (pda_cons pd_int (pda_cons pd_int pda_nil)))) pda_nil)))) pda_nil))))))
      (pss_cons (ps_set (i := 0) scWrong.nd rfl (Or.inl rfl) (pe_op op_cat (pv 0) (pd_lstL (pda_cons (pd_tup (pda_cons pd_str (pda_cons pd_str (pda_cons pd_non pda_nil)))) pda_nil))))
      (pss_cons (ps_set (i := 0) scWrong.nd rfl (Or.inl rfl) (pe_op op_cat (pv 0) (pd_lstL (pda_cons (pd_tup (pda_cons pd_str (pda_cons pd_str (pda_cons (pd_tup (pda_cons pd_str (pda_cons pd_str pda_nil))) pda_nil)))) (pda_cons (pd_tup (pda_cons pd_str (pda_cons pd_str (pda_cons (pd_tup (pda_cons pd_str (pda_cons pd_str pda_nil))) pda_nil)))) pda_nil)))))
      (pss_cons (ps_set (i := 0) scWrong.nd rfl (Or.inl rfl) (pe_op op_cat (pv 0) (pd_lstL (pda_cons (pd_tup (pda_cons pd_str (pda_cons pd_str (pda_cons (pd_lst (pda_cons pd_str (pda_cons pd_int (pda_cons pd_int pda_nil)))) pda_nil)))) (pda_cons (pd_tup (pda_cons pd_str pda_nil)) pda_nil)))))
      (pss_cons (ps_set (i := 0) scWrong.nd rfl (Or.inl rfl) (pe_op op_cat (pv 0) (pd_lstL (pda_cons (pd_tup (pda_cons pd_str (pda_cons pd_str (pda_cons (pd_tup (pda_cons pd_str (pda_cons pd_int (pda_cons pd_int (pda_cons pd_int pda_nil))))) pda_nil)))) (pda_cons (pd_tup (pda_cons pd_str (pda_cons pd_str (pda_cons pd_bl pda_nil)))) (pda_cons (pd_tup (pda_cons pd_str (pda_cons pd_str (pda_cons pd_int pda_nil)))) pda_nil))))))
      (pss_cons (ps_set (i := 0) scWrong.nd rfl (Or.inl rfl) (pe_op op_cat (pv 0) (pd_lstL (pda_cons (pd_tup (pda_cons pd_str (pda_cons pd_str pda_nil))) (pda_cons (pd_tup (pda_cons pd_str (pda_cons pd_int pda_nil))) pda_nil)))))
      (pss_cons (ps_set (i := 0) scWrong.nd rfl (Or.inl rfl) (pe_op op_cat (pv 0) (pd_lstL (pda_cons (pd_tup (pda_cons pd_str (pda_cons pd_str (pda_cons pd_str (pda_cons (pd_tup pda_nil) pda_nil))))) (pda_cons (pd_tup (pda_cons pd_str (pda_cons pd_str (pda_cons pd_str (pda_cons (pd_tup pda_nil) pda_nil))))) (pda_cons (pd_tup (pda_cons pd_str (pda_cons pd_str (pda_cons pd_str pda_nil)))) pda_nil))))))
      (pss_cons (ps_set (i := 0) scWrong.nd rfl (Or.inl rfl) (pe_op op_cat (pv 0) (pd_lstL (pda_cons (pd_tup (pda_cons pd_str (pda_cons pd_str (pda_cons pd_str (pda_cons (pd_lst (pda_cons pd_int pda_nil)) pda_nil))))) pda_nil))))
      (pss_cons (ps_set (i := 0) scWrong.nd rfl (Or.inl rfl) (pe_op op_cat (pv 0) (pd_lstL (pda_cons (pd_tup (pda_cons pd_str (pda_cons pd_str (pda_cons pd_str (pda_cons (pd_tup (pda_cons pd_int (pda_cons pd_int (pda_cons pd_int (pda_cons pd_int pda_nil))))) pda_nil))))) (pda_cons (pd_tup (pda_cons pd_str (pda_cons pd_str (pda_cons pd_str (pda_cons (pd_tup (pda_cons pd_str pda_nil)) pda_nil))))) pda_nil)))))
      (pss_cons (ps_set (i := 0) scWrong.nd rfl (Or.inl rfl) (pe_op op_cat (pv 0) (pd_lstL (pda_cons (pd_tup (pda_cons pd_str (pda_cons pd_str (pda_cons pd_non (pda_cons (pd_tup pda_nil) pda_nil))))) (pda_cons (pd_tup (pda_cons pd_str (pda_cons pd_int (pda_cons (pd_tup pda_nil) pda_nil)))) pda_nil)))))
      (pss_cons (ps_set (i := 0) scWrong.nd rfl (Or.inl rfl) (pe_op op_cat (pv 0) (pd_lstL (pda_cons (pd_tup (pda_cons pd_str (pda_cons pd_int (pda_cons (pd_tup (pda_cons pd_str pda_nil)) pda_nil)))) (pda_cons (pd_tup (pda_cons pd_str (pda_cons pd_int (pda_cons (pd_tup (pda_cons pd_str pda_nil)) pda_nil)))) (pda_cons (pd_tup (pda_cons pd_str (pda_cons pd_int (pda_cons (pd_tup (pda_cons pd_str pda_nil)) pda_nil)))) (pda_cons (pd_tup (pda_cons pd_str (pda_cons pd_int (pda_cons (pd_lst (pda_cons pd_str pda_nil)) pda_nil)))) pda_nil)))))))
      (pss_cons (ps_set (i := 0) scWrong.nd rfl (Or.inl rfl) (pe_op op_cat (pv 0) (pd_lstL (pda_cons (pd_tup (pda_cons pd_str (pda_cons pd_int (pda_cons (pd_tup (pda_cons pd_str (pda_cons pd_str pda_nil))) pda_nil)))) pda_nil))))
      (pss_cons (ps_set (i := 0) scWrong.nd rfl (Or.inl rfl) (pe_op op_cat (pv 0) (pd_lstL (pda_cons (pd_tup (pda_cons pd_str (pda_cons pd_int (pda_cons pd_str pda_nil)))) (pda_cons (pd_tup (pda_cons pd_str (pda_cons pd_bl (pda_cons (pd_tup (pda_cons pd_str pda_nil)) pda_nil)))) (pda_cons (pd_tup (pda_cons pd_str (pda_cons (pd_tup pda_nil) pda_nil))) (pda_cons (pd_tup (pda_cons pd_str (pda_cons pd_str pda_nil))) pda_nil)))))))
      (pss_cons (ps_set (i := 0) scWrong.nd rfl (Or.inl rfl) (pe_op op_cat (pv 0) (pd_lstL (pda_cons (pd_tup (pda_cons pd_str (pda_cons (pd_tup (pda_cons pd_str pda_nil)) pda_nil))) (pda_cons (pd_tup (pda_cons pd_str (pda_cons (pd_tup (pda_cons pd_str pda_nil)) pda_nil))) pda_nil)))))
      (pss_cons (ps_set (i := 0) scWrong.nd rfl (Or.inl rfl) (pe_op op_cat (pv 0) (pd_lstL (pda_cons (pd_tup (pda_cons pd_str (pda_cons pd_str pda_nil))) (pda_cons (pd_tup (pda_cons pd_str (pda_cons pd_str pda_nil))) (pda_cons (pd_tup (pda_cons pd_str (pda_cons (pd_tup (pda_cons pd_str pda_nil)) pda_nil))) (pda_cons (pd_tup (pda_cons pd_str pda_nil)) (pda_cons (pd_tup (pda_cons pd_str (pda_cons pd_str pda_nil))) pda_nil))))))))
      (pss_cons (ps_set (i := 0) scWrong.nd rfl (Or.inl rfl) (pe_op op_cat (pv 0) (pd_lstL (pda_cons (pd_tup (pda_cons pd_str (pda_cons pd_str pda_nil))) (pda_cons (pd_tup (pda_cons pd_str (pda_cons pd_str pda_nil))) pda_nil)))))
      (pss_cons (ps_set (i := 0) scWrong.nd rfl (Or.inl rfl) (pe_op op_cat (pv 0) (pd_lstL (pda_cons (pd_tup (pda_cons pd_str (pda_cons (pd_mul (mok (by decide) (by decide) (by decide +kernel))) pda_nil))) (pda_cons (pd_tup (pda_cons pd_str (pda_cons pd_str pda_nil))) (pda_cons (pd_tup (pda_cons pd_str (pda_cons pd_int pda_nil))) (pda_cons (pd_tup (pda_cons pd_str (pda_cons pd_int (pda_cons pd_int pda_nil)))) (pda_cons (pd_tup (pda_cons pd_str (pda_cons pd_int (pda_cons pd_int pda_nil)))) pda_nil))))))))
      (pss_cons (ps_set (i := 0) scWrong.nd rfl (Or.inl rfl) (pe_op op_cat (pv 0) (pd_lstL (pda_cons (pd_tup (pda_cons pd_str (pda_cons pd_str (pda_cons pd_int pda_nil)))) pda_nil))))
      (pss_cons (ps_set (i := 0) scWrong.nd rfl (Or.inl rfl) (pe_op op_cat (pv 0) (pd_lstL (pda_cons (pd_tup (pda_cons pd_str (pda_cons pd_int pda_nil))) (pda_cons (pd_tup (pda_cons pd_str (pda_cons pd_int (pda_cons pd_int pda_nil)))) (pda_cons (pd_tup (pda_cons pd_str (pda_cons pd_int (pda_cons pd_bl pda_nil)))) (pda_cons (pd_tup (pda_cons pd_str (pda_cons pd_int (pda_cons pd_int pda_nil)))) (pda_cons (pd_tup (pda_cons (pd_lst (pda_cons pd_str pda_nil)) (pda_cons pd_int pda_nil))) pda_nil))))))))
      (pss_cons (ps_set (i := 0) scWrong.nd rfl (Or.inl rfl) (pe_op op_cat (pv 0) (pd_lstL (pda_cons (pd_tup (pda_cons pd_non (pda_cons pd_int pda_nil))) (pda_cons (pd_tup (pda_cons pd_str (pda_cons pd_int (pda_cons pd_int pda_nil)))) pda_nil)))))
      (pss_one (ps_ret (pv 0)))))))))))))))))))))))))), ?_⟩
    refine fun l0 y0 G0 s0 n0 h0 d0 => ?_
    have e0 : DpAll K G0 y0 wr0 := d0
    refine cat_stmt (w := wr1) h0 e0 (by decide +kernel) fun l1 y1 G1 t1 u1 h1 e1 => ?_
    have s1 := s0.trans t1
    have n1 := none_of s0 u1
    refine cat_stmt (w := wr2) h1 e1 (by decide +kernel) fun l2 y2 G2 t2 u2 h2 e2 => ?_
    have s2 := s1.trans t2
    have n2 := none_of s1 u2
    refine cat_stmt (w := wr3) h2 e2 (by decide +kernel) fun l3 y3 G3 t3 u3 h3 e3 => ?_
    have s3 := s2.trans t3
    have n3 := none_of s2 u3
    refine cat_stmt (w := wr4) h3 e3 (by decide +kernel) fun l4 y4 G4 t4 u4 h4 e4 => ?_
    have s4 := s3.trans t4
    have n4 := none_of s3 u4
    refine cat_stmt (w := wr5) h4 e4 (by decide +kernel) fun l5 y5 G5 t5 u5 h5 e5 => ?_
    have s5 := s4.trans t5
    have n5 := none_of s4 u5
    refine cat_stmt (w := wr6) h5 e5 (by decide +kernel) fun l6 y6 G6 t6 u6 h6 e6 => ?_
    have s6 := s5.trans t6
    have n6 := none_of s5 u6
    refine cat_stmt (w := wr7) h6 e6 (by decide +kernel) fun l7 y7 G7 t7 u7 h7 e7 => ?_
    have s7 := s6.trans t7
    have n7 := none_of s6 u7
    refine cat_stmt (w := wr8) h7 e7 (by decide +kernel) fun l8 y8 G8 t8 u8 h8 e8 => ?_
    have s8 := s7.trans t8
    have n8 := none_of s7 u8
    refine cat_stmt (w := wr9) h8 e8 (by decide +kernel) fun l9 y9 G9 t9 u9 h9 e9 => ?_
    have s9 := s8.trans t9
    have n9 := none_of s8 u9
    refine cat_stmt (w := wr10) h9 e9 (by decide +kernel) fun l10 y10 G10 t10 u10 h10 e10 => ?_
    have s10 := s9.trans t10
    have n10 := none_of s9 u10
    refine cat_stmt (w := wr11) h10 e10 (by decide +kernel) fun l11 y11 G11 t11 u11 h11 e11 => ?_
    have s11 := s10.trans t11
    have n11 := none_of s10 u11
    refine cat_stmt (w := wr12) h11 e11 (by decide +kernel) fun l12 y12 G12 t12 u12 h12 e12 => ?_
    have s12 := s11.trans t12
    have n12 := none_of s11 u12
    refine cat_stmt (w := wr13) h12 e12 (by decide +kernel) fun l13 y13 G13 t13 u13 h13 e13 => ?_
    have s13 := s12.trans t13
    have n13 := none_of s12 u13
    refine cat_stmt (w := wr14) h13 e13 (by decide +kernel) fun l14 y14 G14 t14 u14 h14 e14 => ?_
    have s14 := s13.trans t14
    have n14 := none_of s13 u14
    refine cat_stmt (w := wr15) h14 e14 (by decide +kernel) fun l15 y15 G15 t15 u15 h15 e15 => ?_
    have s15 := s14.trans t15
    have n15 := none_of s14 u15
    refine cat_stmt (w := wr16) h15 e15 (by decide +kernel) fun l16 y16 G16 t16 u16 h16 e16 => ?_
    have s16 := s15.trans t16
    have n16 := none_of s15 u16
    refine cat_stmt (w := wr17) h16 e16 (by decide +kernel) fun l17 y17 G17 t17 u17 h17 e17 => ?_
    have s17 := s16.trans t17
    have n17 := none_of s16 u17
    refine cat_stmt (w := wr18) h17 e17 (by decide +kernel) fun l18 y18 G18 t18 u18 h18 e18 => ?_
    have s18 := s17.trans t18
    have n18 := none_of s17 u18
    refine cat_stmt (w := wr19) h18 e18 (by decide +kernel) fun l19 y19 G19 t19 u19 h19 e19 => ?_
    have s19 := s18.trans t19
    have n19 := none_of s18 u19
    refine cat_stmt (w := wr20) h19 e19 (by decide +kernel) fun l20 y20 G20 t20 u20 h20 e20 => ?_
    have s20 := s19.trans t20
    have n20 := none_of s19 u20
    refine cat_stmt (w := wr21) h20 e20 (by decide +kernel) fun l21 y21 G21 t21 u21 h21 e21 => ?_
    have s21 := s20.trans t21
    have n21 := none_of s20 u21
    refine cat_stmt (w := wr22) h21 e21 (by decide +kernel) fun l22 y22 G22 t22 u22 h22 e22 => ?_
    have s22 := s21.trans t22
    have n22 := none_of s21 u22
    refine cat_stmt (w := wr23) h22 e22 (by decide +kernel) fun l23 y23 G23 t23 u23 h23 e23 => ?_
    have s23 := s22.trans t23
    have n23 := none_of s22 u23
    have eW : DpAll K G23 y23 wrongD := e23
    exact ⟨_, rfl, k _ _ _ s23 n23 h23 eW⟩
end
end Pl

namespace Pl
open PySem PySem.Spec PyProof.Rows L2
/-! ### instructions that are no blocks, up to a place -/
def nb : PyData → Bool
  | .tuple (.str nm :: _) => !decide (nm ∈ blNames)
  | _ => true
theorem run_prefix : ∀ {l : List PyData} {S S' : Sc} {i : Nat}, (∀ es, bodyB S i (l ++ es) = bodyB S' (i + l.length) es) → ∀ j, ∃ S2, ∀ es, bodyB S i (l.take j ++ es) = bodyB S2 (i + (l.take j).length) es
  | [], S, S', i, h, j => ⟨S, fun es => by simp⟩
  | x :: l, S, S', i, h, 0 => ⟨S, fun es => by simp⟩
  | x :: l, S, S', i, h, j + 1 => by
    have ok : instrB (entered S i) x = true := by
      cases c : instrB (entered S i) x with
      | true => rfl
      | false =>
        have q := h []
        have q' : (if instrB (entered S i) x = true then bodyB (leaveS (entered S i) i (itemsOf x)) (i + 1) (l ++ []) else .error i) = bodyB S' (i + (x :: l).length) [] := q
        rw [c, if_neg Bool.false_ne_true] at q'
        cases q'
    have step : ∀ es, bodyB S i (x :: es) = bodyB (leaveS (entered S i) i (itemsOf x)) (i + 1) es := fun es => by
      show (if instrB (entered S i) x = true then _ else _) = _
      rw [if_pos ok]
    obtain ⟨S2, h2⟩ := run_prefix (l := l) (S := leaveS (entered S i) i (itemsOf x)) (S' := S') (i := i + 1) (fun es => by
      have q := h es
      rw [List.cons_append, step, List.length_cons] at q
      rw [q]
      congr 1
      omega) j
    refine ⟨S2, fun es => ?_⟩
    rw [List.take_succ_cons, List.cons_append, step, h2, List.length_cons]
    congr 1
    omega
theorem filter_take {p : PyData → Bool} : ∀ (l : List PyData) (j : Nat), ∃ j2, (l.take j).filter p = (l.filter p).take j2
  | [], j => ⟨0, by simp⟩
  | x :: l, 0 => ⟨0, by simp⟩
  | x :: l, j + 1 => by
    obtain ⟨j2, h⟩ := filter_take (p := p) l j
    rw [List.take_succ_cons, List.filter_cons, List.filter_cons]
    by_cases c : p x = true
    · rw [if_pos c, if_pos c]
      exact ⟨j2 + 1, by rw [h, List.take_succ_cons]⟩
    · rw [if_neg c, if_neg c]
      exact ⟨j2, h⟩
theorem nb_gi {given known calls : List Str} {sure : Bool} {d : PyData} {k' c' : List Str} (h : GI given known calls sure d k' c') : nb d = true := by
  have n1 : (!decide (("call" : Str) ∈ blNames)) = true := by decide +kernel
  have n2 : (!decide (("catch" : Str) ∈ blNames)) = true := by decide +kernel
  have n3 : (!decide (("drop" : Str) ∈ blNames)) = true := by decide +kernel
  have n4 : (!decide (("wait" : Str) ∈ blNames)) = true := by decide +kernel
  have n5 : (!decide (("set" : Str) ∈ blNames)) = true := by decide +kernel
  have n6 : (!decide (("effect" : Str) ∈ blNames)) = true := by decide +kernel
  have n7 : (!decide (("fail" : Str) ∈ blNames)) = true := by decide +kernel
  have n8 : (!decide (("work" : Str) ∈ blNames)) = true := by decide +kernel
  cases h <;> first | exact n1 | exact n2 | exact n3 | exact n4 | exact n5 | exact n6 | exact n7 | exact n8
theorem nb_if (x : PyData) (n : Int) : [PyData.tuple [.str "if", x, .int n]].filter nb = [] := by
  rw [List.filter_cons, if_neg (by exact (by decide +kernel : ¬ (!decide (("if" : Str) ∈ blNames)) = true))]
  rfl
theorem nb_loop (n : Nat) : [dSet0, dWhile n, dSet1].filter nb = [dSet0, dSet1] := by
  rw [List.filter_cons, if_pos (by exact (by decide +kernel : (!decide (("set" : Str) ∈ blNames)) = true)), List.filter_cons, if_neg (by exact (by decide +kernel : ¬ (!decide (("while" : Str) ∈ blNames)) = true)), List.filter_cons, if_pos (by exact (by decide +kernel : (!decide (("set" : Str) ∈ blNames)) = true))]
  rfl
theorem lead_len {given : List Str} {sure : Bool} : ∀ {m : Nat} {ds : List PyData} {k c : List Str}, GBody given sure m ds k c → (ds.filter nb).length ≤ 3 * m := by
  intro m ds k c h
  induction h with
  | nil => exact Nat.le_refl 0
  | @add m ds ps k c k1 k2 c2 d h p g ih =>
    have a : (ps.filter nb).length ≤ 2 := by
      cases p with
      | no => exact Nat.zero_le _
      | iff q => rw [nb_if]; exact Nat.zero_le _
      | loop n1 n2 => rw [nb_loop]; exact Nat.le_refl 2
    have b := List.length_filter_le nb [d]
    rw [List.filter_append, List.filter_append, List.length_append, List.length_append]
    have : [d].length = 1 := rfl
    omega
theorem lead_full {given : List Str} {sure : Bool} {L : Nat} (hg : given = [] ∨ given = (["n"] : List Str)) : ∀ {m : Nat} {ds : List PyData} {k c : List Str}, GBody given sure m ds k c →
    ∃ S', (∀ es, bodyB (scNew given L) 0 (ds.filter nb ++ es) = bodyB S' (ds.filter nb).length es) ∧ Fits given k c L 0 S' := by
  intro m ds k c h
  induction h with
  | nil => exact ⟨scNew given L, fun es => rfl, ⟨rfl, fun z => Iff.rfl, rfl, List.mem_cons_self, fun e he => .inl (List.mem_singleton.mp he)⟩⟩
  | @add m ds ps k c k1 k2 c2 d h p g ih =>
    obtain ⟨S1, e1, f1⟩ := ih
    have step : ∃ S2, (∀ es, bodyB S1 (ds.filter nb).length (ps.filter nb ++ es) = bodyB S2 ((ds.filter nb).length + (ps.filter nb).length) es) ∧ Fits given k1 c L 0 S2 := by
      cases p with
      | no => exact ⟨S1, fun es => rfl, f1⟩
      | iff q =>
        exact ⟨S1, fun es => by rw [nb_if]; rfl, f1⟩
      | @loop n n1 n2 =>
        obtain ⟨S2, e2, f2⟩ := step_set hg f1 (gfirst_int (i := 0) (by decide) (by decide)).gex (ds.filter nb).length
        obtain ⟨S3, e3, f3⟩ := step_set hg f2 (gex_i (o := "plus") (n := 1) (by decide +kernel) (List.mem_append_right _ List.mem_cons_self) (by decide)) ((ds.filter nb).length + 1)
        refine ⟨S3, fun es => ?_, ⟨f3.g, fun z => ?_, f3.c, f3.l, f3.e⟩⟩
        · rw [nb_loop]
          have a1 := e2 (dSet1 :: es)
          have a2 := e3 es
          exact a1.trans a2
        · rw [← f3.n z]
          simp only [List.mem_append, List.mem_singleton]
          exact ⟨fun q => .inl q, fun q => q.elim id .inr⟩
    obtain ⟨S2, e2, f2⟩ := step
    obtain ⟨S3, e3, f3⟩ := step_gi hg f2 g ((ds.filter nb).length + (ps.filter nb).length)
    refine ⟨S3, fun es => ?_, f3⟩
    have ed : [d].filter nb = [d] := by rw [List.filter_cons, if_pos (nb_gi g)]; rfl
    rw [List.filter_append, List.filter_append, ed, List.append_assoc, List.append_assoc, e1, List.length_append, List.length_append]
    show bodyB S1 _ (ps.filter nb ++ (d :: es)) = _
    rw [e2, e3]
    rfl
/-- the ones that are wrong anywhere -/
abbrev sixD : List PyData := [.none, .tuple [], .tuple [.str "work", .int 0], .tuple [.str "call", .str "n", .str "F", .tuple []], .tuple [.str "sleep"], .int 7]
theorem word_F : wordD (.str "F") = false := by decide +kernel
theorem six_bad {S : Sc} : ∀ d ∈ sixD, instrB S d = false := by
  intro d hd
  simp only [List.mem_cons, List.not_mem_nil, or_false] at hd
  rcases hd with rfl | rfl | rfl | rfl | rfl | rfl
  · rfl
  · rfl
  · rw [instr_of ck_work]
    rfl
  · rw [instr_of ck_call]
    show ((varB S (.str "n") && wordD (.str "F")) && _) = false
    rw [word_F, Bool.and_false, Bool.false_and]
  · rfl
  · rfl
theorem planB_body {d1 d2 d3 d4 : PyData} {i : Nat} (h1 : argumentsB d1 = true) (h2 : seqD d2 = true) (h3 : (seqItems d2).length ≤ 24) (hb : bodyB (scNew (strsOf (seqItems d1)) (seqItems d2).length) 0 (seqItems d2) = .error i) : planB d1 d2 d3 d4 = .error (.int (i : Nat)) := by
  unfold planB
  rw [h1, if_pos rfl, h2, decide_eq_true h3, Bool.true_and, if_pos rfl, hb]
  rfl
theorem lead_wrong {given : List Str} {sure : Bool} {m : Nat} {ds : List PyData} {k c : List Str} (hg : given = [] ∨ given = (["n"] : List Str)) (h : GBody given sure m ds k c) (hm : m ≤ 6) (j : Nat) {d d1 d3 d4 : PyData} (hd : d ∈ sixD) (h1 : argumentsB d1 = true) (h2 : strsOf (seqItems d1) = given) :
    ((ds.take j).filter nb).length ≤ 18 ∧ planB d1 (.list ((ds.take j).filter nb ++ [d])) d3 d4 = .error (.int (((ds.take j).filter nb).length : Nat)) := by
  obtain ⟨j2, ej⟩ := filter_take (p := nb) ds j
  have l1 := lead_len h
  have l2 : ((ds.filter nb).take j2).length ≤ (ds.filter nb).length := by rw [List.length_take]; omega
  obtain ⟨S', e, _⟩ := lead_full (L := ((ds.take j).filter nb ++ [d]).length) hg h
  obtain ⟨S2, e2⟩ := run_prefix (i := 0) (fun es => by rw [Nat.zero_add]; exact e es) j2
  rw [← ej] at e2 l2
  refine ⟨by omega, planB_body h1 rfl ?_ ?_⟩
  · show ((ds.take j).filter nb ++ [d]).length ≤ 24
    rw [List.length_append]
    show _ + 1 ≤ 24
    omega
  · rw [h2]
    show bodyB (scNew given _) 0 ((ds.take j).filter nb ++ [d]) = _
    have q := e2 [d]
    rw [Nat.zero_add] at q
    refine q.trans ?_
    show (if instrB (entered S2 _) d = true then _ else _) = _
    rw [six_bad d hd, if_neg Bool.false_ne_true]
/-! ### the wrong ones behind two right ones -/
abbrev aheadD : List PyData := [.tuple [.str "call", .str "x", .str "f", .tuple []], .tuple [.str "set", .str "v", .int 0]]
abbrev behindD : List PyData := [.tuple [.str "work", .int 5], .tuple [.str "drop", .str "x"], .tuple [.str "effect", .str "ok 7"]]
def scA (L : Int) : Sc := leaveS (entered (scNew ["n"] L) 0) 0 [.str "call", .str "x", .str "f", .tuple []]
def scB (L : Int) : Sc := leaveS (entered (scA L) 1) 1 [.str "set", .str "v", .int 0]
theorem ahead_run : ∀ j : Fin 4, instrB (entered (scNew ["n"] ((j.val + 4 : Nat) : Int)) 0) (.tuple [.str "call", .str "x", .str "f", .tuple []]) = true ∧ instrB (entered (scA ((j.val + 4 : Nat) : Int)) 1) (.tuple [.str "set", .str "v", .int 0]) = true ∧
    (wrongD.all fun d => !instrB (entered (scB ((j.val + 4 : Nat) : Int)) 2) d) = true := by decide +kernel
theorem wrong_two {d : PyData} (hd : d ∈ wrongD) (j : Nat) (hj : j < 4) {d3 d4 : PyData} : planB (.tuple [.str "n"]) (.list (aheadD ++ [d] ++ behindD.take j ++ [.none])) d3 d4 = .error (.int ((2 : Nat) : Int)) := by
  have l : (aheadD ++ [d] ++ behindD.take j ++ [PyData.none]).length = j + 4 := by
    rw [List.length_append, List.length_append, List.length_append, List.length_take]
    show 2 + 1 + min j 3 + 1 = j + 4
    omega
  obtain ⟨a, b, c⟩ := ahead_run ⟨j, hj⟩
  have c2 : instrB (entered (scB ((j + 4 : Nat) : Int)) 2) d = false := by
    have := List.all_eq_true.mp c d hd
    simpa using this
  refine planB_body (by decide +kernel) rfl ?_ ?_
  · show (aheadD ++ [d] ++ behindD.take j ++ [PyData.none]).length ≤ 24
    omega
  · show bodyB (scNew (strsOf [PyData.str "n"]) ((aheadD ++ [d] ++ behindD.take j ++ [PyData.none]).length : Nat)) 0 (aheadD ++ [d] ++ behindD.take j ++ [PyData.none]) = _
    rw [l]
    have e : (aheadD ++ [d] ++ behindD.take j ++ [PyData.none]) = .tuple [.str "call", .str "x", .str "f", .tuple []] :: .tuple [.str "set", .str "v", .int 0] :: d :: (behindD.take j ++ [PyData.none]) := by simp
    rw [e]
    have e1 : strsOf [PyData.str "n"] = ([("n" : Str)] : List Str) := rfl
    rw [e1]
    show (if instrB (entered (scNew ["n"] ((j + 4 : Nat) : Int)) 0) _ = true then bodyB (scA ((j + 4 : Nat) : Int)) 1 (.tuple [.str "set", .str "v", .int 0] :: d :: (behindD.take j ++ [PyData.none])) else _) = _
    rw [if_pos a]
    show (if instrB (entered (scA ((j + 4 : Nat) : Int)) 1) _ = true then bodyB (scB ((j + 4 : Nat) : Int)) 2 (d :: (behindD.take j ++ [PyData.none])) else _) = _
    rw [if_pos b]
    show (if instrB (entered (scB ((j + 4 : Nat) : Int)) 2) d = true then _ else _) = _
    rw [c2, if_neg Bool.false_ne_true]
end Pl

/-! == by an own __eq__, != by the default __ne__ over it: the answer may be True or False -/
namespace L2
open PySem PySem.Spec PyProof.Rows
/-- what the right side's type is -/
inductive RSide (K : PySem.W.Frag) (H : Hp) (C : Addr) : V → Prop
  | ins {b dy : Addr} {gs : List (Str × V)} : H b = some (.ins C dy gs) → RSide K H C (.ref b)
  | tup {b : Addr} {xs : List V} : SqT K H b xs → RSide K H C (.ref b)
theorem sub_tupleX {K : PySem.W.Frag} {C : Addr} : PySem.W.subIn K (.type "tuple") (.ref C) = some false := by
  have e : fastBuiltinMro "tuple" = some [.type "tuple", .type "object"] := by decide +kernel
  show (fastBuiltinMro "tuple").map (·.contains (.ref C)) = some false
  rw [e]
  first
    | rfl
    | simp
section
variable {X : Cx} {CX : CXT} {C g : Addr} {n : Nat} {sp : Sp} {E : XK}
theorem RSide.look {pins : List (Addr × Obj)} {σ : St} {H : Hp} {s : Shared} {y : V} {u : Value} (I : Inv X pins σ H s) (r : RSide X.K H C y) (ry : RelV y u) : ∃ b tb, u = .ref b ∧ y = .ref b ∧ PySem.W.Looks (model X.prog X.w) s.heap (typeOf u) tb ∧ PySem.W.notFirst X.K C tb = true := by
  cases r with
  | ins h =>
    rename_i b dy gs
    cases (show u = Value.ref b from ry)
    obtain ⟨mB, J', _⟩ := ins_get I.hok h
    obtain ⟨od', J', _⟩ := J'.look
    exact ⟨b, .ref C, rfl, rfl, J'.type, by simp [PySem.W.notFirst]⟩
  | tup h =>
    rename_i b xs
    cases (show u = Value.ref b from ry)
    obtain ⟨its, rv, ⟨o, ho, hc, m, hd⟩, _⟩ := I.tuple h
    refine ⟨b, .type "tuple", rfl, rfl, ?_, ?_⟩
    · exact hc ▸ (PySem.W.Looks.ld ho).andThen .now
    · simp [PySem.W.notFirst, sub_tupleX]
/-- x == y, x an instance of the class at C whose __eq__ is the def at g -/
def rOwnI (K : PySem.W.Frag) (C : Addr) (sp : Sp) (E : XK) : R2 := fun x y H Q => ∃ a dx fs, x = .ref a ∧ H a = some (.ins C dx fs) ∧ RSide K H C y ∧ sp [x, y] H Q E
theorem op_eqI (hs : PySem.W.findIn X.K (.ref C) "__eq__" = some (some (.ref g))) (hf : PySem.W.isFn X.K (.ref g) = true) (F : FnR X.prog X.w X.K X.mg X.base CX n g sp)
    (hr : Room n X.A) (hx : Passes CX X E) : OpR X (compareOp .Eq) (rOwnI X.K C sp E) := by
  intro pins s σ H x y v u Q I rx ry h
  obtain ⟨a, dx, fs, rfl, ha, hb, q⟩ := h
  cases (show v = Value.ref a from rx)
  obtain ⟨b, tb, rfl, rfl, hl, hn⟩ := hb.look I ry
  obtain ⟨mA, J, _⟩ := ins_get I.hok ha
  obtain ⟨od, J, _⟩ := J.look
  obtain ⟨m, hF⟩ := I.fr
  show wpAny (model X.prog X.w) X.A (richCompare .Eq (.ref a) (.ref b)) _ _ s
  refine PySem.W.cmp_K (op := .Eq) (tb := tb) hr.units0 hF I.ok.mod.kin J hl hn hs hf ?_
  refine wpAny_mono (wpAny_call (run_fnR (us := [.ref a, .ref b]) (vs := [.ref a, .ref b]) F hr hx I (.cons rfl (.cons rfl .nil)) q)) (fun w s' z => ?_) fun _ _ x => x
  obtain ⟨z', H', I', rz, qz⟩ := z
  exact SlX.cmpback rz ⟨z', H', I', rz, qz⟩
end
end L2
namespace HN
open PySem PySem.Spec PyProof.Rows PySem.SeqAt
section
variable {M : Model} {prog : Program} {w : World} {A : Around} {E : Value → Shared → Prop} {s : Shared} {K : PySem.W.Frag} {x y C f : Addr} {ox : Obj} {od : Option Obj}
theorem ifBound_objNe {args : List Value} {Q : Option Value → Shared → Prop} (X : K.In s.heap) (I : PySem.W.InstAt s.heap x ox C od) (hs : PySem.W.findIn K (.ref C) "__ne__" = some (some (.builtin "object.__ne__")))
    (h : wpAny M A (call (.builtin "object.__ne__") (.ref x :: args)) (fun v => Q (some v)) E s) : wpAny M A (callSpecialIfBound? (.ref x) "__ne__" args) Q E s := by
  simp only [callSpecialIfBound?, bindSpecialIfBound?]
  refine wpAny_holding (wpAny_bind (wpAny_bind (wpAny_bind (I.type.here ((PySem.W.looks_findIn X hs).here ?_)))))
  refine wpAny_bind (wpAny_askSetting (wpAny_ite ?_))
  have fin : wpAny M A (call (.builtin "object.__ne__") ([.ref x] ++ args) >>= fun v => pure (some v)) Q E s := wpAny_bind (wpAny_mono h (fun v s' h' => wpAny_pure h') fun _ _ h' => h')
  split
  · exact wpAny_bind (wpAny_of_eq (F.cmp_object.ne.bind _) (wpAny_pure (by exact fin)))
  · exact wpAny_tryCatch (wpAny_bind (wpAny_of_eq (F.cmp_object.ne.bind _) (wpAny_pure (by exact fin))))
theorem entry_ne (X : K.In s.heap) (I : PySem.W.InstAt s.heap x ox C od) (hs : PySem.W.findIn K (.ref C) "__eq__" = some (some (.ref f))) (hf : PySem.W.isFn K (.ref f) = true) (hu : A.units < cLine) {Q : Fin → Shared → Prop}
    (hcall : wpAny (model prog w) A (call (.ref f) [.ref x, .ref y]) (fun v s' => ∃ b, v = .bool b ∧ Q (.done (.ret (.bool (!b)))) s') E s) : wpAny (model prog w) A (Builtin.«object.__ne__» ⟨[.ref x, .ref y], []⟩) Q E s := by
  unfold Builtin.«object.__ne__»
  repeat (first
    | with_reducible refine wpAny_cRoomFor hu ?_
    | (refine wpAny_bind (m := callSpecialIfBound? (.ref x) (Str.ofString "__eq__") [.ref y])
        (PySem.W.ifBound_K X I hs hf (wpAny_mono hcall (fun r s' hr => by
          obtain ⟨b, rfl, hq⟩ := hr
          repeat (first | exact hq | exact wpAny_pure hq | exact wpAny_truthy_bool hq | (refine wpAny_bind (m := truthy (.bool _)) (wpAny_truthy_bool ?_)) | wp_step)) fun _ _ e => e)))
    | wp_step)
theorem call_objNe {Q : Value → Shared → Prop} (X : K.In s.heap) (I : PySem.W.InstAt s.heap x ox C od) (hm : PySem.W.mroIn K C (.type "object") = some true) (hs : PySem.W.findIn K (.ref C) "__eq__" = some (some (.ref f))) (hf : PySem.W.isFn K (.ref f) = true) (hu : A.units + 1 < cLine)
    (hcall : wpAny (model prog w) A.in1 (call (.ref f) [.ref x, .ref y]) (fun v s' => ∃ b, v = .bool b ∧ Q (.bool (!b)) s') E s) :
    wpAny (model prog w) A (call (.builtin "object.__ne__") [.ref x, .ref y]) Q E s :=
  wpAny_call (codeAny_call_builtin F.cmp_object.ne.plain F.cmpEntry_ne (PySem.W.check_slot F.cmpKind_ne F.cmpSplit_ne (I.type.andThen (PySem.W.looks_mroIn X hm)) (F.cmpArgs_ne _ _) (entry_ne (A := A.in1) X I hs hf hu hcall)))
end
end HN
namespace L2
open PySem PySem.Spec PyProof.Rows
section
variable {X : Cx} {CX : CXT} {C g : Addr} {n : Nat} {sp : Sp} {E : XK}
/-- x != y, x an instance of the class at C with an own __eq__, and no own __ne__ -/
def rOwnNe (K : PySem.W.Frag) (C : Addr) (sp : Sp) (E : XK) : R2 := fun x y H Q => ∃ a dx fs, x = .ref a ∧ H a = some (.ins C dx fs) ∧ RSide K H C y ∧ sp [x, y] H (fun z H' => ∃ b, z = .bl b ∧ Q (.bl (!b)) H') E
theorem op_neI (hs : PySem.W.findIn X.K (.ref C) "__eq__" = some (some (.ref g))) (hf : PySem.W.isFn X.K (.ref g) = true) (hne : PySem.W.findIn X.K (.ref C) "__ne__" = some (some (.builtin "object.__ne__"))) (hm : PySem.W.mroIn X.K C (.type "object") = some true)
    (F : FnR X.prog X.w X.K X.mg X.base CX n g sp) (hr : Room (n + 1) X.A) (hu : X.A.units + 1 < cLine) (hx : Passes CX X E) : OpR X (compareOp .NotEq) (rOwnNe X.K C sp E) := by
  intro pins s σ H x y v u Q I rx ry h
  obtain ⟨a, dx, fs, rfl, ha, hb, q⟩ := h
  cases (show v = Value.ref a from rx)
  obtain ⟨b, tb, rfl, rfl, hl, hn⟩ := hb.look I ry
  obtain ⟨mA, J, _⟩ := ins_get I.hok ha
  obtain ⟨od, J, _⟩ := J.look
  have K0 := I.kIn
  have one : wpAny (model X.prog X.w) X.A (tryCompare (.ref a) "__ne__" (.ref b)) (fun r s' => ∃ v, r = some v ∧ EP X pins σ Q v s') X.xe s := by
    unfold tryCompare
    refine wpAny_bind (HN.ifBound_objNe K0 J hne (HN.call_objNe (f := g) K0 J hm hs hf hu ?_))
    refine wpAny_mono (wpAny_call (SlX.run_at (A := X.A.in1) (us := [.ref a, .ref b]) (ws := [.ref a, .ref b]) F hr.in1 I.env0.in1 hx I (.cons rfl (.cons rfl .nil)) q)) (fun w s' z => ?_) fun _ _ x => x
    obtain ⟨z', H', I', rz, bb, rfl, qz⟩ := z
    cases (show w = Value.bool bb from rz)
    exact ⟨bb, rfl, wpAny_pure ⟨_, rfl, .bl (!bb), H', I', rfl, qz⟩⟩
  show wpAny (model X.prog X.w) X.A (richCompare .NotEq (.ref a) (.ref b)) _ _ s
  unfold richCompare
  simp only [oneThing_ref]
  refine wpAny_holding (wpAny_bind (wpAny_cRoomFor (Nat.lt_of_succ_lt hu) ?_))
  refine wpAny_bind (J.type.here (wpAny_bind (hl.here ?_)))
  split
  · rename_i q
    have e : PySem.W.subIn X.K tb (.ref C) = some false := by
      rcases Bool.or_eq_true_iff.mp hn with e | e
      · rw [beq_iff_eq.mp e] at q; simp at q
      · exact beq_iff_eq.mp e
    refine wpAny_bind ((PySem.W.looks_subIn K0 e).here ?_)
    simp only [Bool.false_eq_true, if_false]
    refine wpAny_bind (wpAny_mono one (fun r s' z => ?_) fun _ _ e => e)
    obtain ⟨v, rfl, hq⟩ := z
    exact wpAny_pure hq
  · refine wpAny_bind (wpAny_pure ?_)
    simp only [Bool.false_eq_true, if_false]
    refine wpAny_bind (wpAny_mono one (fun r s' z => ?_) fun _ _ e => e)
    obtain ⟨v, rfl, hq⟩ := z
    exact wpAny_pure hq
end
end L2

namespace Pl
open PySem PySem.Spec PyProof.Rows L2
theorem dpA_cons {K : PySem.W.Frag} {H : Hp} {xs : List V} {d : PyData} {ds : List PyData} (h : DpAll K H xs (d :: ds)) : ∃ v vs, xs = v :: vs ∧ Dp K H v d ∧ DpAll K H vs ds := by
  cases h with
  | cons h q => exact ⟨_, _, rfl, h, q⟩
theorem dpA_nil {K : PySem.W.Frag} {H : Hp} {xs : List V} (h : DpAll K H xs []) : xs = [] := by
  cases h
  rfl
mutual
/-- no list of four in it -/
def nt : PyData → Bool
  | .list ds => decide (ds.length ≠ 4) && ntAll ds
  | .tuple ds => ntAll ds
  | .dict _ => false
  | _ => true
def ntAll : List PyData → Bool
  | [] => true
  | d :: ds => nt d && ntAll ds
end
theorem ntAll_cons {d : PyData} {ds : List PyData} (h : ntAll (d :: ds) = true) : nt d = true ∧ ntAll ds = true := by
  have e : ntAll (d :: ds) = (nt d && ntAll ds) := rfl
  rw [e, Bool.and_eq_true] at h
  exact h
mutual
theorem dp_only {K : PySem.W.Frag} {H H' : Hp} {t b : Addr} (tk : TapeB H t b) (o : Only [t] H H') : ∀ {v : V} {d : PyData}, Dp K H v d → nt d = true → Dp K H' v d
  | _, _, .non, _ => .non
  | _, _, .bl b, _ => .bl b
  | _, _, .int i, _ => .int i
  | _, _, .str x, _ => .str x
  | _, .list ds, .lst (a := a) (xs := xs) h q, s => by
    have s' : (decide (ds.length ≠ 4) && ntAll ds) = true := s
    rw [Bool.and_eq_true] at s'
    have n4 := of_decide_eq_true s'.1
    refine .lst ?_ (dpAll_only tk o q s'.2)
    obtain ⟨ns, i, r, sd, ht, _⟩ := tk
    rcases h with (h | ⟨ob, h⟩) | h
    · refine .inl (.inl (o _ _ (fun z => ?_) h))
      rw [List.mem_singleton.mp z, ht] at h
      have e1 := HO.lst.inj (Option.some.inj h)
      have e2 := dpAll_len q
      rw [← e1] at e2
      exact n4 e2.symm
    · refine .inl (.inr ⟨ob, o _ _ (fun z => ?_) h⟩)
      rw [List.mem_singleton.mp z, ht] at h
      cases h
    · exact .inr h
  | _, .tuple ds, .tup h q, s => .tup (Keep.tup (tk.keep o) h) (dpAll_only tk o q s)
theorem dpAll_only {K : PySem.W.Frag} {H H' : Hp} {t b : Addr} (tk : TapeB H t b) (o : Only [t] H H') : ∀ {vs : List V} {ds : List PyData}, DpAll K H vs ds → ntAll ds = true → DpAll K H' vs ds
  | _, _, .nil, _ => .nil
  | _, _, .cons h q, s => .cons (dp_only tk o h (ntAll_cons s).1) (dpAll_only tk o q (ntAll_cons s).2)
end
theorem ask_part {K : PySem.W.Frag} {H : Hp} {v1 v2 v3 v4 : V} {d1 d2 d3 d4 : PyData} {z : Str} {Q : VK} {E : XK} (h : Dp K H v1 d1 ∧ Dp2 K H v2 d2 ∧ Dp K H v3 d3 ∧ Dp K H v4 d4) (f : fine d1 = true ∧ (seqD d2 = true → fine d2 = true) ∧ fine d3 = true ∧ fine d4 = true) (hz : partT (planB d1 d2 d3 d4) = z)
    (k : ∀ H' l, Same H H' → H l = none → H' l = some (.lst [.str z, .bl true]) → Q (.ref l) H') : spPart K [v1, v2, v3, v4] H Q E :=
  ⟨v1, v2, v3, v4, d1, d2, d3, d4, rfl, h, f, fun H' l s n hl => k H' l s n (by rw [← hz]; exact hl)⟩
theorem two_shaped {z : Str} (h : PyData.strOk z = true) : SeqAt.shaped (.list [.str z, .bool true]) = true := by
  unfold SeqAt.shaped
  have e1 : PyData.canLay0 (.list [.str z, .bool true]) = (PyData.strOk z && (true && true)) := rfl
  have e2 : PyData.depth (.list [.str z, .bool true]) = 1 := rfl
  rw [e1, e2, h]
  rfl
theorem eqv_two (z : Str) (h : PyData.strOk z = true) : PyData.eqv (.list [.str z, .bool true]) (.list [.str z, .bool true]) = true := SeqAt.eqv_refl _ (SeqAt.canLay_of_shaped (two_shaped h))
theorem ask_ne2 {K : PySem.W.Frag} {H : Hp} {l l2 : Addr} {ys : List V} {z : Str} {Q : VK} (ok : PyData.strOk z = true) (hl : H l = some (.lst [.str z, .bl true])) (h2 : H l2 = some (.lst ys)) (d2 : DpAll K H ys [.str z, .bool true]) (k : Q (.bl false) H) : rNeD K (.ref l) (.ref l2) H Q := by
  refine ⟨.list [.str z, .bool true], .list [.str z, .bool true], .lst (SqL.of hl) (.cons (.str _) (.cons (.bl _) .nil)), .lst (SqL.of h2) d2, two_shaped ok, two_shaped ok, ?_⟩
  rw [eqv_two z ok]
  exact k
theorem ask_eq2 {K : PySem.W.Frag} {H : Hp} {l l2 : Addr} {ys : List V} {z : Str} {Q : VK} (ok : PyData.strOk z = true) (hl : H l = some (.lst [.str z, .bl true])) (h2 : H l2 = some (.lst ys)) (d2 : DpAll K H ys [.str z, .bool true]) (k : Q (.bl true) H) : rEqD K (.ref l) (.ref l2) H Q := by
  refine ⟨.list [.str z, .bool true], .list [.str z, .bool true], .lst (SqL.of hl) (.cons (.str _) (.cons (.bl _) .nil)), .lst (SqL.of h2) d2, two_shaped ok, two_shaped ok, ?_⟩
  rw [eqv_two z ok]
  exact k
/-! ### the fixed plans -/
abbrev blkD : List PyData := [.tuple [.str "if", .int 1, .int 3], .tuple [.str "while", .int 1, .int 2], .tuple [.str "work", .int 1], .tuple [.str "work", .int 2]]
abbrev blk2D : List PyData := [.tuple [.str "if", .int 1, .int 2], .tuple [.str "while", .int 1, .int 2], .tuple [.str "work", .int 1], .tuple [.str "work", .int 2]]
def deepD : Nat → PyData
  | 0 => .str "v"
  | n + 1 => .tuple [.str "plus", .int 1, deepD n]
theorem b1 : partT (planB (.tuple []) (.list blkD) (.int 0) (.bool false)) = "none" := by decide +kernel
theorem b2 : partT (planB (.tuple []) (.list blk2D) (.int 0) (.bool false)) = "1" := by decide +kernel
theorem b3 : partT (planB (.tuple []) (.list [.tuple [.str "set", .str "v", .int 0], .tuple [.str "set", .str "v", deepD 5]]) (deepD 5) (.bool false)) = "none" := by decide +kernel
theorem b4 : partT (planB (.tuple []) (.list [.tuple [.str "set", .str "v", .int 0], .tuple [.str "set", .str "v", .tuple [.str "plus", deepD 5, .int 1]]]) (.int 0) .none) = "1" := by decide +kernel
theorem fine5 : fine (deepD 5) = true := by decide +kernel
theorem scBlocks : FnScope ["_law_body", "_law_deep", "_law_turn"] [] (defScope sBlocks) := ⟨rfl, rfl, rfl, by decide +kernel, rfl, by decide +kernel, by decide +kernel⟩
def spBlocks : Sp := fun vs H Q _ => vs = [] ∧ ∀ H', Same H H' → Q (.bl true) H'
theorem dp_listOf {K : PySem.W.Frag} {H : Hp} {l : Addr} {ys : List V} {ds : List PyData} (h : H l = some (.lst ys)) (d : DpAll K H ys ds) : Dp2 K H (.ref l) (.list ds) := .inl (.lst (SqL.of h) d)
end Pl

namespace Pl
open PySem PySem.Spec PyProof.Rows L2
section
variable {P : Program} {w : World} {K : PySem.W.Frag} {mg : Str → Option Value} {base : Heap} {f fp : Addr} {fd fdp : FuncData}
theorem ok_blocks (F : Fun K "_law_blocks_right" "_law_blocks_right" sBlocks f fd) (TG : TxG mg) (PX : DefX K mg "_law_part" sPart ["_law_given", "_law_body", "_law_result", "_law_must"] fp fdp) (GPt : FnOk P w K mg base CX0 21 fp fdp ["_law_given", "_law_body", "_law_result", "_law_must"] (spPart K)) : FnOk P w K mg base CX0 22 f fd [] spBlocks := by
  refine F.ok scBlocks (fun vs H Q E h => ?_) (fun cdv A outer s H vs Q E hr h => ?_)
  · obtain ⟨rfl, _⟩ := h
    rfl
  · obtain ⟨rfl, k⟩ := h
    refine ⟨_, (pss_cons (ps_set (i := 0) scBlocks.nd rfl (Or.inl rfl) (pd_lstL (pda_cons (pd_tup (pda_cons pd_str (pda_cons pd_int (pda_cons pd_int pda_nil)))) (pda_cons (pd_tup (pda_cons pd_str (pda_cons pd_int (pda_cons pd_int pda_nil)))) (pda_cons (pd_tup (pda_cons pd_str (pda_cons pd_int pda_nil))) (pda_cons (pd_tup (pda_cons pd_str (pda_cons pd_int pda_nil))) pda_nil))))))
      (pss_cons (ps_if (pt_cmpR (op_neD hr.units) (pe_call GPt hr (by rfl) PX.mg PX.F.kp PX.b .nil pass0 (pa_cons (pd_tup pda_nil) (pa_cons (pv 0) (pa_cons pd_int (pa_cons pd_bl pa_nil))))) (pd_lstL (pda_cons pd_str (pda_cons pd_bl pda_nil))) (nomark _)) (pss_one (ps_ret pe_bl)) pss_nil)
      (pss_cons (ps_if (pt_cmpR (op_neD hr.units) (pe_call GPt hr (by rfl) PX.mg PX.F.kp PX.b .nil pass0 (pa_cons (pd_tup pda_nil) (pa_cons (pe_op op_cat (pd_lstL (pda_cons (pd_tup (pda_cons pd_str (pda_cons pd_int (pda_cons pd_int pda_nil)))) pda_nil)) (pe_slice sl_list (pv 0) (po_some pe_int) po_none)) (pa_cons pd_int (pa_cons pd_bl pa_nil))))) (pd_lstL (pda_cons pd_str (pda_cons pd_bl pda_nil))) (nomark _)) (pss_one (ps_ret pe_bl)) pss_nil)
      (pss_cons (ps_set (i := 1) scBlocks.nd rfl (Or.inl rfl) pd_str)
      (pss_cons (ps_for PassesOwn.never rfl (pi_range1 rfl TG.range (pa_cons pe_int pa_nil)) (pg_name (i := 2) scBlocks.nd rfl (Or.inl rfl)) (pss_one (ps_set (i := 1) scBlocks.nd rfl (Or.inl rfl) (pe_tup (pa_cons pe_str (pa_cons pe_int (pa_cons (pv 1) pa_nil)))))))
      (pss_cons (ps_if (pt_cmpR (op_neD hr.units) (pe_call GPt hr (by rfl) PX.mg PX.F.kp PX.b .nil pass0 (pa_cons (pd_tup pda_nil) (pa_cons (pe_lst (pa_cons (pd_tup (pda_cons pd_str (pda_cons pd_str (pda_cons pd_int pda_nil)))) (pa_cons (pe_tup (pa_cons pe_str (pa_cons pe_str (pa_cons (pv 1) pa_nil)))) pa_nil))) (pa_cons (pv 1) (pa_cons pd_bl pa_nil))))) (pd_lstL (pda_cons pd_str (pda_cons pd_bl pda_nil))) (nomark _)) (pss_one (ps_ret pe_bl)) pss_nil)
      (pss_one (ps_ret (pe_cmpR (op_eqD hr.units) (pe_call GPt hr (by rfl) PX.mg PX.F.kp PX.b .nil pass0 (pa_cons (pd_tup pda_nil) (pa_cons (pe_lst (pa_cons (pd_tup (pda_cons pd_str (pda_cons pd_str (pda_cons pd_int pda_nil)))) (pa_cons (pe_tup (pa_cons pe_str (pa_cons pe_str (pa_cons (pe_tup (pa_cons pe_str (pa_cons (pv 1) (pa_cons pe_int pa_nil)))) pa_nil)))) pa_nil))) (pa_cons pd_int (pa_cons pd_non pa_nil))))) (pd_lstL (pda_cons pd_str (pda_cons pd_bl pda_nil))) (nomark _)))))))))), ?_⟩
    have ok1 : PyData.strOk "none" = true := by decide +kernel
    have ok2 : PyData.strOk "1" = true := by decide +kernel
    refine fun l0 y0 H1 s1 n1 h1 e1 => ?_
    -- the first
    refine fun u1 J1 t1 a1 => ⟨_, rfl, fun u3 J3 t3 a3 => fun u4 J4 t4 a4 => ?_⟩
    have t14 := (t1.trans t3).trans t4
    refine ⟨_, _, _, _, _, _, _, _, rfl, ⟨dp_same (t3.trans t4) a1, dp_listOf (t14 _ _ h1) (dp_sameAll t14 e1), dp_same t4 a3, a4⟩, ⟨rfl, fun _ => by decide +kernel, rfl, rfl⟩, fun H2 r1 q1 _ hr1 => ?_⟩
    rw [b1] at hr1
    have s12 := t14.trans q1
    refine fun c1 z1 H3 s23 _ hc1 ec1 => ?_
    refine ask_ne2 ok1 (s23 _ _ hr1) hc1 ec1 ?_
    refine ⟨_, rfl, iteF ?_⟩
    have s13 := s12.trans s23
    -- the second
    refine fun u1 J1 t1 a1 => fun l2 y2 J2 t2 n2 h2 e2 => ?_
    have h1' := (s13.trans (t1.trans t2)) _ _ h1
    have e1' := dp_sameAll (s13.trans (t1.trans t2)) e1
    obtain ⟨x1, _, rfl, g1, e1'⟩ := dpA_cons e1'
    obtain ⟨x2, _, rfl, g2, e1'⟩ := dpA_cons e1'
    obtain ⟨x3, _, rfl, g3, e1'⟩ := dpA_cons e1'
    obtain ⟨x4, _, rfl, g4, e1'⟩ := dpA_cons e1'
    obtain rfl := dpA_nil e1'
    refine ⟨_, rfl, 1, rfl, l0, _, rfl, SqL.of h1', fun p2 hp2 => ?_⟩
    have hcut : cutV [x1, x2, x3, x4] (some 1) none = [x2, x3, x4] := rfl
    rw [hcut]
    have yl2 := dpAll_len e2
    have yl2' : y2.length = 1 := yl2
    refine ⟨l2, p2, _, _, rfl, rfl, upd_old h2 hp2, upd_same, by rw [yl2', sizeLine_eq]; exact (by decide : 1 + 3 ≤ 16777216), fun p3 hp3 => ?_⟩
    have t5 := (same_upd (o := .lst [x2, x3, x4]) hp2).trans (same_upd (o := .lst (y2 ++ [x2, x3, x4])) hp3)
    have d3 : DpAll K (upd (upd J2 p2 (.lst [x2, x3, x4])) p3 (.lst (y2 ++ [x2, x3, x4]))) (y2 ++ [x2, x3, x4]) blk2D := dpAll_app (dp_sameAll t5 e2) (.cons (dp_same t5 g2) (.cons (dp_same t5 g3) (.cons (dp_same t5 g4) .nil)))
    have h3 : upd (upd J2 p2 (.lst [x2, x3, x4])) p3 (.lst (y2 ++ [x2, x3, x4])) p3 = some (.lst (y2 ++ [x2, x3, x4])) := upd_same
    generalize upd (upd J2 p2 _) p3 _ = J5 at t5 d3 h3 ⊢
    refine fun u3 J3 t3 a3 => fun u4 J4 t4 a4 => ?_
    have t34 := t3.trans t4
    refine ⟨_, _, _, _, _, _, _, _, rfl, ⟨dp_same (t2.trans (t5.trans t34)) a1, dp_listOf (t34 _ _ h3) (dp_sameAll t34 d3), dp_same t4 a3, a4⟩, ⟨rfl, fun _ => by decide +kernel, rfl, rfl⟩, fun H4 r2 q2 _ hr2 => ?_⟩
    rw [b2] at hr2
    refine fun c2 z2 H5 s45 _ hc2 ec2 => ?_
    refine ask_ne2 ok2 (s45 _ _ hr2) hc2 ec2 ?_
    refine ⟨_, rfl, iteF ?_⟩
    have s15 := ((((s13.trans (t1.trans t2)).trans t5).trans t34).trans q2).trans s45
    have sH5 := s1.trans s15
    -- the deep one
    refine fun u5 H6 s56 a5 => ?_
    refine ⟨5, rfl, by decide, by decide, for_range (n := 5) (fun i σ H' => ∃ (v : V) (v2 : Option V), σ = [some (.ref l0), some v, v2] ∧ Same H6 H' ∧ Dp K H' v (deepD i)) ⟨u5, none, rfl, fun _ _ q => q, a5⟩ ?_ ?_⟩
    · rintro i σ H' hi ⟨vv, v2, rfl, q1, q2⟩
      refine ⟨_, rfl, small_listD rfl, fun pp hpp => ?_⟩
      exact ⟨_, _, rfl, q1.trans (same_upd hpp), .tup (.inl (.inl upd_same)) (.cons (.str _) (.cons (.int 1) (.cons (dp_same (same_upd hpp) q2) .nil)))⟩
    · rintro σ H7 ⟨vv, v2, rfl, s67, dv⟩
      have sH7 := (sH5.trans s56).trans s67
      refine fun w1 J1 t1 a1 => fun w2 J2 t2 a2 => ⟨_, rfl, small_listD rfl, fun p1 hp1 => ⟨small_listD rfl, fun p2 hp2 => ?_⟩⟩
      have t3 := (same_upd (o := .tup [.str "set", .str "v", vv]) hp1).trans (same_upd (o := .lst [w2, .ref p1]) hp2)
      have d2 : Dp2 K (upd (upd J2 p1 (.tup [.str "set", .str "v", vv])) p2 (.lst [w2, .ref p1])) (.ref p2) (.list [.tuple [.str "set", .str "v", .int 0], .tuple [.str "set", .str "v", deepD 5]]) :=
        dp_listOf upd_same (.cons (dp_same t3 a2) (.cons (.tup (.inl (.inl (upd_old upd_same hp2))) (.cons (.str _) (.cons (.str _) (.cons (dp_same ((t1.trans t2).trans t3) dv) .nil)))) .nil))
      have t03 := (t1.trans t2).trans t3
      generalize upd (upd J2 p1 _) p2 _ = J3 at t3 d2 t03 ⊢
      refine ⟨_, rfl, fun w4 J4 t4 a4 => ?_⟩
      refine ⟨_, _, _, _, _, _, _, _, rfl, ⟨dp_same ((t2.trans t3).trans t4) a1, d2.same t4, dp_same (t03.trans t4) dv, a4⟩, ⟨rfl, fun _ => by decide +kernel, fine5, rfl⟩, fun H8 r3 q3 _ hr3 => ?_⟩
      rw [b3] at hr3
      refine fun c3 z3 H9 s89 _ hc3 ec3 => ?_
      refine ask_ne2 ok1 (s89 _ _ hr3) hc3 ec3 ?_
      refine ⟨_, rfl, iteF ?_⟩
      have s79 := ((t03.trans t4).trans q3).trans s89
      have dv9 := dp_same s79 dv
      have sH9 := sH7.trans s79
      clear t1 t2 t3 t4 t03 a1 a2 a4 d2
      refine fun w1 J1 t1 a1 => fun w2 J2 t2 a2 => ⟨_, rfl, small_listD rfl, fun p1 hp1 => ⟨small_listD rfl, fun p2 hp2 => ⟨small_listD rfl, fun p3 hp3 => ?_⟩⟩⟩
      have t3 := ((same_upd (o := .tup [.str "plus", vv, .int 1]) hp1).trans (same_upd (o := .tup [.str "set", .str "v", .ref p1]) hp2)).trans (same_upd (o := .lst [w2, .ref p2]) hp3)
      have t03 := (t1.trans t2).trans t3
      have d2 : Dp2 K (upd (upd (upd J2 p1 (.tup [.str "plus", vv, .int 1])) p2 (.tup [.str "set", .str "v", .ref p1])) p3 (.lst [w2, .ref p2])) (.ref p3) (.list [.tuple [.str "set", .str "v", .int 0], .tuple [.str "set", .str "v", .tuple [.str "plus", deepD 5, .int 1]]]) :=
        dp_listOf upd_same (.cons (dp_same t3 a2) (.cons (.tup (.inl (.inl (upd_old upd_same hp3))) (.cons (.str _) (.cons (.str _) (.cons (.tup (.inl (.inl (upd_old (upd_old upd_same hp2) hp3))) (.cons (.str _) (.cons (dp_same t03 dv9) (.cons (.int 1) .nil)))) .nil)))) .nil))
      generalize upd (upd (upd J2 p1 _) p2 _) p3 _ = J3 at t3 d2 t03 ⊢
      refine fun w3 J4 t4 a3 => fun w4 J5 t5 a4 => ?_
      refine ⟨_, _, _, _, _, _, _, _, rfl, ⟨dp_same ((t2.trans t3).trans (t4.trans t5)) a1, d2.same (t4.trans t5), dp_same t5 a3, a4⟩, ⟨rfl, fun _ => by decide +kernel, rfl, rfl⟩, fun H10 r4 q4 _ hr4 => ?_⟩
      rw [b4] at hr4
      refine fun c4 z4 H11 s1011 _ hc4 ec4 => ?_
      refine ask_eq2 ok2 (s1011 _ _ hr4) hc4 ec4 ?_
      exact k _ ((((sH9.trans t03).trans (t4.trans t5)).trans q4).trans s1011)
end
end Pl

namespace Pl
open PySem PySem.Spec PyProof.Rows L2
abbrev lawNames : List Str := ["_law_script", "_law_tape_here", "_law_ahead", "_law_behind", "_law_wrong_here", "_law_one_here", "_law_more", "_law_turn", "_law_own_here", "_law_given", "_law_body", "_law_result", "_law_must", "_law_at", "_law_lead", "_law_odd", "_law_word"]
theorem scLaw : FnScope lawNames ["_law_script"] (defScope sLaw) := ⟨rfl, rfl, rfl, by decide +kernel, rfl, by decide +kernel, by decide +kernel⟩
def spLaw (K : PySem.W.Frag) : Sp := fun vs H Q _ => ∃ (a : Addr) (ns : List Int), vs = [.ref a] ∧ SqL K H a (ns.map V.int) ∧ ns.length ≤ 63 ∧ ∀ H', Q (.bl true) H'
theorem cut3 {x y z : V} {i : Int} (h0 : 0 ≤ i) (h1 : i < 4) : ∃ n : Nat, n < 4 ∧ cutV [x, y, z] none (some i) = [x, y, z].take n := by
  have : i = 0 ∨ i = 1 ∨ i = 2 ∨ i = 3 := by omega
  rcases this with rfl | rfl | rfl | rfl
  · exact ⟨0, by decide, rfl⟩
  · exact ⟨1, by decide, rfl⟩
  · exact ⟨2, by decide, rfl⟩
  · exact ⟨3, by decide, rfl⟩
theorem dpAll_take {K : PySem.W.Frag} {H : Hp} : ∀ {vs : List V} {ds : List PyData} (n : Nat), DpAll K H vs ds → DpAll K H (vs.take n) (ds.take n)
  | _, _, 0, _ => by rw [List.take_zero, List.take_zero]; exact .nil
  | _, _, n + 1, .nil => .nil
  | _, _, n + 1, .cons h q => .cons h (dpAll_take n q)
theorem fineAll_app {a b : List PyData} (h : fineAll a = true) (q : fineAll b = true) : fineAll (a ++ b) = true := by
  induction a with
  | nil => exact q
  | cons d ds ih =>
    have h' : (fine d && fineAll ds) = true := h
    rw [Bool.and_eq_true] at h'
    show (fine d && fineAll (ds ++ b)) = true
    rw [h'.1, ih h'.2]
    rfl
theorem fineAll_take {a : List PyData} (n : Nat) (h : fineAll a = true) : fineAll (a.take n) = true := by
  induction a generalizing n with
  | nil => rw [List.take_nil]; exact h
  | cons d ds ih =>
    have h' : (fine d && fineAll ds) = true := h
    rw [Bool.and_eq_true] at h'
    cases n with
    | zero => rfl
    | succ n =>
      rw [List.take_succ_cons]
      show (fine d && fineAll (ds.take n)) = true
      rw [h'.1, ih n h'.2]
      rfl
theorem fine_wrong : fineAll wrongD = true := by decide +kernel
theorem nt_wrong : ntAll wrongD = true := by decide +kernel
theorem len_wrong : wrongD.length ≤ 100 := by decide +kernel
theorem nt_ahead : ntAll aheadD = true := by decide +kernel
theorem nt_behind : ntAll behindD = true := by decide +kernel
theorem fine_four {d : PyData} (hd : d ∈ wrongD) (n : Nat) : fine (.list (aheadD ++ [d] ++ behindD.take n ++ [.none])) = true := by
  have f1 : fineAll [d] = true := by
    show (fine d && true) = true
    rw [fine_mem fine_wrong d hd]
    rfl
  exact fineAll_app (fineAll_app (fineAll_app (by decide +kernel) f1) (fineAll_take n (by decide +kernel))) (by decide +kernel)
theorem two_txt : partT (.error (.int ((2 : Nat) : Int))) = "2" := by decide +kernel
theorem num_txt : ∀ j : Fin 19, partT (.error (.int ((j.val : Nat) : Int))) = Str.ofString (toString ((j.val : Nat) : Int)) ∧ PyData.strOk (Str.ofString (toString ((j.val : Nat) : Int))) = true := by decide +kernel
theorem part_num {n : Nat} (h : n ≤ 18) : PyData.strOk (Str.ofString (toString ((n : Nat) : Int))) = true := (num_txt ⟨n, by omega⟩).2
/-! ### what is wrong of arguments, bodies, results, must_finish -/
abbrev oddA : List PyData := [.none, .int 5, .str "n", .list [.str "n", .str "n"], .tuple [.str "N"], .list [.str "a", .str "b", .str "c", .str "d"], .list [.int 5]]
abbrev oddR : List PyData := [.none, .str "u", .int (-1), .bool true, .tuple [.str "known", .str "n"], .list [.int 1], .tuple [.str "plus", .int 1], .int 1000000007]
abbrev oddM : List PyData := [.none, .int 0, .int 1, .str "True", .list [.bool true]]
abbrev works (n : Nat) : List PyData := List.replicate n (.tuple [.str "work", .int 1])
abbrev txA : Str := reprText "arguments"
abbrev txB : Str := reprText "body"
abbrev txR : Str := reprText "result"
abbrev txM : Str := reprText "must_finish"
theorem tx_ok : PyData.strOk txA = true ∧ PyData.strOk txB = true ∧ PyData.strOk txR = true ∧ PyData.strOk txM = true := by decide +kernel
theorem tx_len : txA.length ≤ 100 ∧ txB.length ≤ 100 ∧ txR.length ≤ 100 ∧ txM.length ≤ 100 := by decide +kernel
theorem odd_a : (oddA.all fun d => decide (partT (planB d .none .none .none) = txA) && fine d) = true := by decide +kernel
theorem odd_r : (oddR.all fun d => decide (partT (planB (.tuple [.str "n"]) (.list (works 24)) d .none) = txR) && fine d) = true := by decide +kernel
theorem odd_m : (oddM.all fun d => decide (partT (planB (.tuple [.str "n"]) (.list []) (.str "n") d) = txM) && fine d) = true := by decide +kernel
theorem odd_b {d1 d2 : PyData} (h1 : argumentsB d1 = true) (h2 : (seqD d2 && decide ((seqItems d2).length ≤ 24)) = false) : partT (planB d1 d2 .none .none) = txB := by
  unfold planB
  rw [h1, if_pos rfl, h2, if_neg Bool.false_ne_true]
  rfl
theorem all_of {l : List PyData} {f : PyData → Str} {z : Str} (h : (l.all fun d => decide (f d = z) && fine d) = true) : ∀ d ∈ l, f d = z ∧ fine d = true := fun d hd => by
  have := List.all_eq_true.mp h d hd
  rw [Bool.and_eq_true] at this
  exact ⟨of_decide_eq_true this.1, this.2⟩
theorem dpAll_rep {K : PySem.W.Frag} {H : Hp} {v : V} {d : PyData} (h : Dp K H v d) : ∀ n : Nat, DpAll K H (List.replicate n v) (List.replicate n d)
  | 0 => .nil
  | n + 1 => .cons h (dpAll_rep h n)
theorem flat_rep (n : Nat) (v : V) : (List.replicate n [v]).flatten = List.replicate n v := by
  induction n with
  | zero => rfl
  | succ n ih => rw [List.replicate_succ, List.flatten_cons, ih]; rfl
theorem fine_works (n : Nat) : fine (.list (works n)) = true := by
  induction n with
  | zero => rfl
  | succ n ih =>
    show (fine (.tuple [.str "work", .int 1]) && fineAll (works n)) = true
    have ih' : fineAll (works n) = true := ih
    rw [ih', (by decide +kernel : fine (.tuple [.str "work", .int 1]) = true)]
    rfl
theorem last_of {α : Type} : ∀ {l : List α}, l ≠ [] → ∃ x r, l = x :: r
  | [], h => absurd rfl h
  | x :: l, _ => ⟨x, l, rfl⟩
theorem valV_of_mem {k : Key} : ∀ {kvs : List (Key × V)}, k ∈ kvs.map (·.1) → ∃ v, valV kvs k = some v
  | [], h => by cases h
  | p :: r, h => by
    by_cases e : p.1 = k
    · exact ⟨p.2, valV_pos e⟩
    · rw [valV_neg e]
      refine valV_of_mem (kvs := r) ?_
      rw [List.map_cons] at h
      rcases List.mem_cons.mp h with q | q
      · exact absurd q.symm e
      · exact q
end Pl

namespace Pl
open PySem PySem.Spec PyProof.Rows L2
/-- ahead of each turn of the second loop -/
def LawI (a t b : Addr) (i : Nat) (σ : L2.St) (H : Hp) : Prop := ∃ v2 v3 v4 v5 v6 v7 v8 v9 v10 v11 v12 v13 v14 v15 v16 : Option V, σ = [some (.ref a), some (.ref t), v2, v3, v4, v5, v6, v7, v8, v9, v10, v11, v12, v13, v14, v15, v16] ∧ TapeB H t b
theorem ntAll_mem : ∀ {ds : List PyData}, ntAll ds = true → ∀ d ∈ ds, nt d = true
  | [], _, d, h => by cases h
  | e :: ds, q, d, h => by
    rcases List.mem_cons.mp h with rfl | h
    · exact (ntAll_cons q).1
    · exact ntAll_mem (ntAll_cons q).2 d h
theorem given_argsL {given : List Str} (hg : given = [] ∨ given = (["n"] : List Str)) : argumentsB (.tuple (given.map PyData.str)) = true := by
  rcases hg with rfl | rfl
  · decide +kernel
  · decide +kernel
theorem via_te {te : TE} {σ : L2.St} {H : Hp} {Q : VK} (R : V → Hp → Prop) (h : ∀ v H2, R v H2 → Q v H2) (k : ∀ Q : VK, (∀ v H2, R v H2 → Q v H2) → te σ H Q) : te σ H Q := k _ h
theorem instr_name {S : Sc} {d : PyData} (h : instrB S d = true) : ∃ nm r, d = .tuple (.str nm :: r) := by
  cases hn : nameD d with
  | none => rw [nameD_none hn] at h; cases h
  | some nm =>
    obtain ⟨rs, e⟩ := nameD_some hn
    exact ⟨nm, rs, e⟩
theorem body_name : ∀ {ds : List PyData} {S S' : Sc} {i : Nat}, bodyB S i ds = .ok S' → ∀ d ∈ ds, ∃ nm r, d = .tuple (.str nm :: r)
  | [], _, _, _, _, d, hd => by cases hd
  | e :: ds, S, S', i, h, d, hd => by
    have h' : (if instrB (entered S i) e = true then bodyB (leaveS (entered S i) i (itemsOf e)) (i + 1) ds else .error i) = .ok S' := h
    by_cases c : instrB (entered S i) e = true
    · rw [if_pos c] at h'
      rcases List.mem_cons.mp hd with rfl | hd
      · exact instr_name c
      · exact body_name h' d hd
    · rw [if_neg c] at h'
      cases h'
theorem gbody_name {given : List Str} {sure : Bool} {m : Nat} {ds : List PyData} {k c : List Str} (hg : given = [] ∨ given = (["n"] : List Str)) (h : GBody given sure m ds k c) : ∀ d ∈ ds, ∃ nm r, d = .tuple (.str nm :: r) := by
  obtain ⟨S', e, _⟩ := gbody_fits (L := ds.length) hg h (Nat.le_refl _)
  have q := e []
  rw [List.append_nil] at q
  exact body_name q
theorem cut_take (xs : List V) (i : Int) : ∃ n, cutV xs none (some i) = xs.take n := by
  unfold cutV
  have e : HT.sIx xs.length 0 none = 0 := rfl
  rw [e, List.drop_zero]
  exact ⟨_, rfl⟩
theorem nb_name (nm : Str) (r : List PyData) : nb (.tuple (.str nm :: r)) = !decide (nm ∈ blNames) := rfl
theorem smpl_none_fine {given : List Str} (hg : given = [] ∨ given = (["n"] : List Str)) : fine (.tuple (given.map PyData.str)) = true := by
  rcases hg with rfl | rfl
  · rfl
  · decide +kernel
mutual
theorem smpl_fine : ∀ {d : PyData}, smpl d = true → fine d = true
  | .none, _ => rfl
  | .bool _, _ => rfl
  | .int i, _ => rfl
  | .str z, h => by
    have h' : (decide (z.length ≤ 20) && decide (∀ c ∈ z.cps.toList, c ∈ sSafe.cps.toList)) = true := h
    rw [Bool.and_eq_true] at h'
    have := of_decide_eq_true h'.1
    show decide (z.length ≤ 40000) = true
    exact decide_eq_true (by omega)
  | .list ds, h => (smpl_list h).elim
  | .dict ds, h => Bool.noConfusion h
  | .tuple ds, h => smpl_fineAll h
theorem smpl_fineAll : ∀ {ds : List PyData}, smplAll ds = true → fineAll ds = true
  | [], _ => rfl
  | d :: ds, h => by
    show (fine d && fineAll ds) = true
    rw [smpl_fine (smplAll_cons h).1, smpl_fineAll (smplAll_cons h).2]
    rfl
end
theorem fine_six : ∀ d ∈ sixD, fine d = true := by
  intro d hd
  exact fine_mem (by decide +kernel : fineAll sixD = true) d hd
theorem fine_lead {ds : List PyData} {d : PyData} (n : Nat) (h : smplAll ds = true) (hd : d ∈ sixD) : fine (.list ((ds.take n).filter nb ++ [d])) = true := by
  have a : fineAll ((ds.take n).filter nb) = true := smpl_fineAll (smplAll_of fun e he => by
    have m1 := List.mem_of_mem_take (List.mem_filter.mp he).1
    have : ∀ {l : List PyData}, smplAll l = true → ∀ e ∈ l, smpl e = true := fun {l} => by
      induction l with
      | nil => intro _ e he; cases he
      | cons x l ih =>
        intro hl e he
        rcases List.mem_cons.mp he with rfl | he
        · exact (smplAll_cons hl).1
        · exact ih (smplAll_cons hl).2 e he
    exact this h e m1)
  refine fineAll_app a ?_
  show (fine d && true) = true
  rw [fine_six d hd]
  rfl
theorem num_eq {n : Nat} (h : n ≤ 18) : partT (.error (.int ((n : Nat) : Int))) = Str.ofString (toString ((n : Nat) : Int)) := rfl
theorem small_log2 {i : Nat} (h : i ≤ 18) : ((i : Nat) : Int).natAbs.log2 < 1920 := small_log (by omega)
section
variable {P : Program} {w : World} {K : PySem.W.Frag} {mg : Str → Option Value} {base : Heap} {fl fp fw fb : Addr} {fdl fdp fdw fdb : FuncData} {f : Nat → Addr} {fd : Nat → FuncData}
theorem ok_law (F : Fun K "law" "law" sLaw fl fdl) (T : Tx mg) (TG : TxG mg) (D : Lo K mg f fd) (PX : DefX K mg "_law_part" sPart ["_law_given", "_law_body", "_law_result", "_law_must"] fp fdp) (GPt : FnOk P w K mg base CX0 21 fp fdp ["_law_given", "_law_body", "_law_result", "_law_must"] (spPart K))
    (WX : DefX K mg "_law_wrong" sWrong [] fw fdw) (BX : DefX K mg "_law_blocks_right" sBlocks [] fb fdb) : FnOk P w K mg base CX0 23 fl fdl ["_law_script"] (spLaw K) := by
  have GT : FnOk P w K mg base CX0 1 _ _ ["_law_script"] (spTape K) := ok_tape D.tape.F (TxtD.of T)
  have GD : FnOk P w K mg base CX0 1 _ _ ["_law_tape_here", "_law_many"] spDraw := ok_draw D.draw.F (TxtD.of T)
  have GOw : FnOk P w K mg base CX0 6 _ _ ["_law_tape_here", "_law_sure"] (spOwn K) := ok_own T TG D
  have GWr : FnOk P w K mg base CX0 1 fw fdw [] (spWrong K) := ok_wrong WX.F
  have GBl : FnOk P w K mg base CX0 22 fb fdb [] spBlocks := ok_blocks BX.F TG PX GPt
  refine F.ok scLaw (fun vs H Q E h => ?_) (fun cdv A outer s H vs Q E hr h => ?_)
  · obtain ⟨a, ns, rfl, _⟩ := h
    rfl
  · obtain ⟨a, ns, rfl, hSq, hlen, k⟩ := h
    have hu := hu_of hr
    have hr22 : Room 22 _ := hr
    have hr21 : Room 21 _ := hr.mono (by decide)
    have hr1 : Room 1 _ := hr.mono (by decide)
    have hr6 : Room 6 _ := hr.mono (by decide)
    refine ⟨_, (pss_cons (ps_set (i := 1) scLaw.nd rfl (Or.inl rfl) (pe_call GT hr1 (by rfl) D.tape.mg D.tape.F.kp D.tape.b .nil pass0 (pa_cons (pv 0) pa_nil)))
      (pss_cons (ps_par (i := 2) (j := 3) (by rfl) scLaw.nd rfl rfl (by decide) rfl rfl (pa_cons (pd_lstL (pda_cons (pd_tup (pda_cons pd_str (pda_cons pd_str (pda_cons pd_str (pda_cons (pd_tup pda_nil) pda_nil))))) (pda_cons (pd_tup (pda_cons pd_str (pda_cons pd_str (pda_cons pd_int pda_nil)))) pda_nil))) (pa_cons (pd_lstL (pda_cons (pd_tup (pda_cons pd_str (pda_cons pd_int pda_nil))) (pda_cons (pd_tup (pda_cons pd_str (pda_cons pd_str pda_nil))) (pda_cons (pd_tup (pda_cons pd_str (pda_cons pd_str pda_nil))) pda_nil)))) pa_nil)) (by rfl))
      (pss_cons (ps_set (i := 4) scLaw.nd rfl (Or.inl rfl) (pe_call0 GWr hr1 (by rfl) WX.mg WX.F.kp WX.b .nil pass0))
      (pss_cons (ps_for PassesOwn.never rfl (pi_list (pv 4)) (pg_name (i := 5) scLaw.nd rfl (Or.inl rfl)) (pss_cons (ps_set (i := 6) scLaw.nd rfl (Or.inl rfl) (pe_slice sl_list (pv 3) po_none (po_some (pe_call GD hr1 (by rfl) D.draw.mg D.draw.F.kp D.draw.b .nil pass0 (pa_cons (pv 1) (pa_cons pe_int pa_nil))))))
      (pss_one (ps_if (pt_cmpR (op_neD hr.units) (pe_call GPt hr21 (by rfl) PX.mg PX.F.kp PX.b .nil pass0 (pa_cons (pd_tup (pda_cons pd_str pda_nil)) (pa_cons (pe_op op_cat (pe_op op_cat (pe_op op_cat (pv 2) (pe_lst (pa_cons (pv 5) pa_nil))) (pv 6)) (pd_lstL (pda_cons pd_non pda_nil))) (pa_cons pe_non (pa_cons pe_non pa_nil))))) (pd_lstL (pda_cons pd_str (pda_cons pd_bl pda_nil))) (nomark _)) (pss_one (ps_ret pe_bl)) pss_nil))))
      (pss_cons (ps_for PassesOwn.never rfl (pi_range1 rfl TG.range (pa_cons pe_int pa_nil)) (pg_name (i := 7) scLaw.nd rfl (Or.inl rfl))
      (pss_cons (ps_set (i := 8) scLaw.nd rfl (Or.inl rfl) (pe_call GOw hr6 (by rfl) D.own.mg D.own.F.kp D.own.b .nil pass0 (pa_cons (pv 1) (pa_cons pe_bl pa_nil))))
      (pss_cons (ps_asg (pe_dget hu (pv 8) (pe_ix ix_list (pe_callB (call_sortedD rfl) (by rfl) TG.sorted (by decide +kernel) (pa_cons (pv 8) pa_nil)) pe_int (fun _ _ => rfl)) (fun _ _ => rfl)) (pg_tup (by rfl) (pgs_cons (pg_name (i := 9) scLaw.nd rfl (Or.inl rfl)) (pgs_cons (pg_name (i := 10) scLaw.nd rfl (Or.inl rfl)) (pgs_cons (pg_name (i := 11) scLaw.nd rfl (Or.inl rfl)) (pgs_cons (pg_name (i := 12) scLaw.nd rfl (Or.inl rfl)) pgs_nil))))))
      (pss_cons (ps_set (i := 13) scLaw.nd rfl (Or.inl rfl) (pe_call GD hr1 (by rfl) D.draw.mg D.draw.F.kp D.draw.b .nil pass0 (pa_cons (pv 1) (pa_cons (pe_op op_add (pe_callB call_len_seq (by rfl) T.len (by decide +kernel) (pa_cons (pv 10) pa_nil)) pe_int) pa_nil))))
      (pss_cons (ps_set (i := 5) scLaw.nd rfl (Or.inl rfl) (pe_ix ix_list (pd_lstL (pda_cons pd_non (pda_cons (pd_tup pda_nil) (pda_cons (pd_tup (pda_cons pd_str (pda_cons pd_int pda_nil))) (pda_cons (pd_tup (pda_cons pd_str (pda_cons pd_str (pda_cons pd_str (pda_cons (pd_tup pda_nil) pda_nil))))) (pda_cons (pd_tup (pda_cons pd_str pda_nil)) (pda_cons pd_int pda_nil))))))) (pe_call GD hr1 (by rfl) D.draw.mg D.draw.F.kp D.draw.b .nil pass0 (pa_cons (pv 1) (pa_cons pe_int pa_nil))) (fun _ _ => rfl)))
      (pss_cons (ps_setLc (i := 14) (own := [("_law_word", 16)]) (g := gName 16) (tt := _) (by rfl) scLaw.nd rfl rfl (sw_true rfl rfl rfl (by decide +kernel)) (pi_tup (pe_slice sl_tupA (pv 10) po_none (po_some (pv 13)))) (blkOk_by (own := [("_law_word", 16)]) (N := lawNames) (sc := defScope sLaw) (by decide +kernel))
        (fun _ _ _ _ _ => (pg_name (i := 16) scLaw.nd rfl (Or.inl rfl))) (fun _ _ _ _ _ => pts_one (pt_cmpR (r := rIn K true) (by exact op_notIn_seq) (pe_ix (r := rIxT K) (by exact ix_tup) (pv 16) pe_int (fun _ _ => rfl)) (pe_lst (pa_cons pe_str (pa_cons pe_str pa_nil))) (by rfl))) (fun _ _ _ _ _ => pv 16))
      (pss_cons (ps_if (pt_cmpR (op_neD hr.units) (pe_call GPt hr21 (by rfl) PX.mg PX.F.kp PX.b .nil pass0 (pa_cons (pv 9) (pa_cons (pe_op op_cat (pv 14) (pe_lst (pa_cons (pv 5) pa_nil))) (pa_cons (pv 11) (pa_cons (pv 12) pa_nil))))) (pe_lst (pa_cons (pe_callTy call_str_int (by rfl) T.str (by decide +kernel) (pa_cons (pe_callB call_len_seq (by rfl) T.len (by decide +kernel) (pa_cons (pv 14) pa_nil)) pa_nil)) (pa_cons pe_bl pa_nil))) (nomark _)) (pss_one (ps_ret pe_bl)) pss_nil)
      (pss_cons (ps_for PassesOwn.never rfl (pi_list (pd_lstL (pda_cons pd_non (pda_cons pd_int (pda_cons pd_str (pda_cons (pd_lst (pda_cons pd_str (pda_cons pd_str pda_nil))) (pda_cons (pd_tup (pda_cons pd_str pda_nil)) (pda_cons (pd_lst (pda_cons pd_str (pda_cons pd_str (pda_cons pd_str (pda_cons pd_str pda_nil))))) (pda_cons (pd_lst (pda_cons pd_int pda_nil)) pda_nil))))))))) (pg_name (i := 15) scLaw.nd rfl (Or.inl rfl)) (pss_one (ps_if (pt_cmpR (op_neD hr.units) (pe_call GPt hr21 (by rfl) PX.mg PX.F.kp PX.b .nil pass0 (pa_cons (pv 15) (pa_cons pe_non (pa_cons pe_non (pa_cons pe_non pa_nil))))) (pe_lst (pa_cons (pe_callB call_reprV (by rfl) TG.repr (by decide +kernel) (pa_cons pe_str pa_nil)) (pa_cons pe_bl pa_nil))) (nomark _)) (pss_one (ps_ret pe_bl)) pss_nil)))
      (pss_cons (ps_for PassesOwn.never rfl (pi_list (pe_lst (pa_cons pe_non (pa_cons pe_int (pa_cons pe_str (pa_cons pe_dnewK (pa_cons (pe_op op_rep (pd_lstL (pda_cons (pd_tup (pda_cons pd_str (pda_cons pd_int pda_nil))) pda_nil)) pe_int) pa_nil))))))) (pg_name (i := 15) scLaw.nd rfl (Or.inl rfl)) (pss_one (ps_if (pt_cmpR (op_neD hr.units) (pe_call GPt hr21 (by rfl) PX.mg PX.F.kp PX.b .nil pass0 (pa_cons (pv 9) (pa_cons (pv 15) (pa_cons pe_non (pa_cons pe_non pa_nil))))) (pe_lst (pa_cons (pe_callB call_reprV (by rfl) TG.repr (by decide +kernel) (pa_cons pe_str pa_nil)) (pa_cons pe_bl pa_nil))) (nomark _)) (pss_one (ps_ret pe_bl)) pss_nil)))
      (pss_cons (ps_for PassesOwn.never rfl (pi_list (pd_lstL (pda_cons pd_non (pda_cons pd_str (pda_cons pd_neg (pda_cons pd_bl (pda_cons (pd_tup (pda_cons pd_str (pda_cons pd_str pda_nil))) (pda_cons (pd_lst (pda_cons pd_int pda_nil)) (pda_cons (pd_tup (pda_cons pd_str (pda_cons pd_int pda_nil))) (pda_cons pd_int pda_nil)))))))))) (pg_name (i := 15) scLaw.nd rfl (Or.inl rfl)) (pss_one (ps_if (pt_cmpR (op_neD hr.units) (pe_call GPt hr21 (by rfl) PX.mg PX.F.kp PX.b .nil pass0 (pa_cons (pd_tup (pda_cons pd_str pda_nil)) (pa_cons (pe_op op_rep (pd_lstL (pda_cons (pd_tup (pda_cons pd_str (pda_cons pd_int pda_nil))) pda_nil)) pe_int) (pa_cons (pv 15) (pa_cons pe_non pa_nil))))) (pe_lst (pa_cons (pe_callB call_reprV (by rfl) TG.repr (by decide +kernel) (pa_cons pe_str pa_nil)) (pa_cons pe_bl pa_nil))) (nomark _)) (pss_one (ps_ret pe_bl)) pss_nil)))
      (pss_one (ps_for PassesOwn.never rfl (pi_list (pd_lstL (pda_cons pd_non (pda_cons pd_int (pda_cons pd_int (pda_cons pd_str (pda_cons (pd_lst (pda_cons pd_bl pda_nil)) pda_nil))))))) (pg_name (i := 15) scLaw.nd rfl (Or.inl rfl)) (pss_one (ps_if (pt_cmpR (op_neD hr.units) (pe_call GPt hr21 (by rfl) PX.mg PX.F.kp PX.b .nil pass0 (pa_cons (pd_tup (pda_cons pd_str pda_nil)) (pa_cons (pd_lst pda_nil) (pa_cons pd_str (pa_cons (pv 15) pa_nil))))) (pe_lst (pa_cons (pe_callB call_reprV (by rfl) TG.repr (by decide +kernel) (pa_cons pe_str pa_nil)) (pa_cons pe_bl pa_nil))) (nomark _)) (pss_one (ps_ret pe_bl)) pss_nil))))))))))))))
      (pss_one (ps_ret (pe_call0 GBl hr22 (by rfl) BX.mg BX.F.kp BX.b .nil pass0)))))))), ?_⟩
    refine ⟨_, rfl, a, ns, rfl, hSq, hlen, fun H0 t b s0 tk0 nt0 nb0 ntb => ?_⟩
    refine fun la ya Ha sa na ha ea => fun lb yb Hb sb nb' hb eb => ⟨_, _, rfl, ?_⟩
    refine ⟨rfl, fun H1 lw yw s1 nw hw ew => ?_⟩
    have tk1 := ((tk0.same sa).same sb).same s1
    have ha1 := s1 _ _ (sb _ _ ha)
    have ea1 := dp_sameAll (sb.trans s1) ea
    have hb1 := s1 _ _ hb
    have eb1 := dp_sameAll s1 eb
    have nla : la ≠ t := tape_neN tk0 na
    have nlb : lb ≠ t := tape_neN (tk0.same sa) nb'
    have nlw : lw ≠ t := tape_neN ((tk0.same sa).same sb) nw
    refine ⟨_, rfl, lw, rfl, ⟨_, SqL.of hw⟩, for_list (xs := yw) (fun j σ H' => (∃ v5 v6, σ = [some (.ref a), some (.ref t), some (.ref la), some (.ref lb), some (.ref lw), v5, v6, none, none, none, none, none, none, none, none, none, none]) ∧ TapeB H' t b ∧ Only [t] H1 H') ⟨⟨_, _, rfl⟩, tk1, Only.refl⟩
      (fun j σ H' _ q => SqL.of (q.2.2 _ _ (fun z => nlw (List.mem_singleton.mp z)) hw)) ?_ ?_⟩
    · rintro j x σ H2 hx ⟨⟨v5, v6, rfl⟩, tk2, on2⟩
      obtain ⟨d, hd, hxd⟩ := dpAll_at ew j x hx
      have hdm := List.mem_of_getElem? hd
      refine ⟨_, rfl, _, rfl, t, b, 4, rfl, by decide, by decide, tk2, fun H3 jj tk3 oth3 j0 j1 => ?_⟩
      have on3 := on2.trans (Only.oth oth3)
      have keep : ∀ {l : Addr} {ys : List V}, l ≠ t → H1 l = some (.lst ys) → H3 l = some (.lst ys) := fun n h => on3 _ _ (fun z => n (List.mem_singleton.mp z)) h
      have ha3 := keep nla ha1
      have hb3 := keep nlb hb1
      have ea3 := dpAll_only tk1 on3 ea1 nt_ahead
      have eb3 := dpAll_only tk1 on3 eb1 nt_behind
      have hx3 := dp_only tk1 on3 hxd (by
        have := ntAll_mem nt_wrong d hdm
        exact this)
      obtain ⟨y1, _, rfl, g1, eb3'⟩ := dpA_cons eb3
      obtain ⟨y2, _, rfl, g2, eb3'⟩ := dpA_cons eb3'
      obtain ⟨y3, _, rfl, g3, eb3'⟩ := dpA_cons eb3'
      obtain rfl := dpA_nil eb3'
      obtain ⟨n, hn, ecut⟩ := cut3 (x := y1) (y := y2) (z := y3) j0 j1
      refine ⟨_, rfl, lb, _, rfl, SqL.of hb3, fun pm hpm => ?_⟩
      rw [ecut]
      have em := dpAll_take n eb3
      have eml := dpAll_len em
      have emn : ([y1, y2, y3].take n).length ≤ 3 := by rw [List.length_take]; exact Nat.min_le_right _ _
      generalize [y1, y2, y3].take n = ym at em eml emn ⊢
      have s4 := same_upd (o := .lst ym) hpm
      have hpm4 : upd H3 pm (.lst ym) pm = some (.lst ym) := upd_same
      generalize upd H3 pm _ = H4 at s4 hpm4 ⊢
      have yal := dpAll_len ea3
      have yal2 : ya.length = 2 := yal
      refine fun w1 J1 t1 a1 => ⟨_, rfl, _, rfl, small_listD rfl, fun p1 hp1 => ?_⟩
      have u1 := same_upd (o := .lst [x]) hp1
      refine ⟨la, p1, _, _, rfl, rfl, u1 _ _ (t1 _ _ (s4 _ _ ha3)), upd_same, by rw [yal2, sizeLine_eq]; exact (by decide : 2 + 1 ≤ 16777216), fun q1 hq1 => ?_⟩
      have u2 := u1.trans (same_upd (o := .lst (ya ++ [x])) hq1)
      refine ⟨_, rfl, q1, pm, _, _, rfl, rfl, upd_same, u2 _ _ (t1 _ _ hpm4), by rw [List.length_append, yal2, sizeLine_eq]; show 2 + 1 + ym.length ≤ _; omega, fun q2 hq2 => ?_⟩
      have u3 := u2.trans (same_upd (o := .lst (ya ++ [x] ++ ym)) hq2)
      have hq2' : upd (upd (upd J1 p1 (.lst [x])) q1 (.lst (ya ++ [x]))) q2 (.lst (ya ++ [x] ++ ym)) q2 = some (.lst (ya ++ [x] ++ ym)) := upd_same
      generalize upd (upd (upd J1 p1 _) q1 _) q2 _ = J2 at u3 hq2' ⊢
      refine fun l5 y5 J5 t5 n5 h5 e5 => ?_
      have y5l := dpAll_len e5
      have y5l1 : y5.length = 1 := y5l
      refine ⟨q2, l5, _, _, rfl, rfl, t5 _ _ hq2', h5, by rw [List.length_append, List.length_append, yal2, y5l1, sizeLine_eq]; show 2 + 1 + ym.length + 1 ≤ _; omega, fun q3 hq3 => ?_⟩
      have u6 := same_upd (o := .lst (ya ++ [x] ++ ym ++ y5)) hq3
      have all3 : Same H3 (upd J5 q3 (.lst (ya ++ [x] ++ ym ++ y5))) := ((s4.trans t1).trans (u3.trans t5)).trans u6
      have d2 : DpAll K (upd J5 q3 (.lst (ya ++ [x] ++ ym ++ y5))) (ya ++ [x] ++ ym ++ y5) (aheadD ++ [d] ++ behindD.take n ++ [.none]) :=
        dpAll_app (dpAll_app (dpAll_app (dp_sameAll all3 ea3) (.cons (dp_same all3 hx3) .nil)) (dp_sameAll all3 em)) (dp_sameAll u6 e5)
      refine ⟨_, _, _, _, _, _, _, _, rfl, ⟨dp_same ((u3.trans t5).trans u6) a1, dp_listOf upd_same d2, .non, .non⟩, ⟨rfl, fun _ => fine_four hdm n, rfl, rfl⟩, fun H7 r7 q7 _ hr7 => ?_⟩
      rw [wrong_two hdm n hn, two_txt] at hr7
      refine fun c8 z8 H8 s78 _ hc8 ec8 => ?_
      refine ask_ne2 (by decide +kernel) (s78 _ _ hr7) hc8 ec8 ?_
      refine ⟨_, rfl, iteF ?_⟩
      have s38 := (all3.trans q7).trans s78
      exact ⟨⟨_, _, rfl⟩, tk3.same s38, on3.trans (Only.same s38)⟩
    · rintro σ H2 ⟨⟨v5, v6, rfl⟩, tk2, on2⟩
      refine ⟨12, rfl, by decide, by decide, for_range (n := 12) (LawI a t b) ⟨_, _, _, _, _, _, _, _, _, _, _, _, _, _, _, rfl, tk2⟩ ?_ ?_⟩
      · rintro i σ H3 hi ⟨v2, v3, v4, v5, v6, v7, v8, v9, v10, v11, v12, v13, v14, v15, v16, rfl, tk3⟩
        refine ⟨_, rfl, t, b, false, rfl, tk3, fun H4 dd kvs many on4 tk4 hdd hM ekeys hval => ?_⟩
        refine ⟨_, rfl, _, rfl, dd, kvs, many.map (·.1), rfl, .inl hdd, ekeys, by rw [List.length_map]; have := hM.len; omega, fun ys pz perm _ hpz => ?_⟩
        obtain ⟨z, yr, rfl⟩ : ∃ z yr, ys = z :: yr := last_of (fun e => hM.ne (by
          have h1 := perm.length_eq
          rw [e, List.length_map] at h1
          exact List.length_eq_zero_iff.mp h1.symm))
        have s5 := same_upd (o := .lst ((z :: yr).map V.str)) hpz
        have hz : z ∈ many.map (·.1) := perm.mem_iff.mp List.mem_cons_self
        obtain ⟨v, hv⟩ := valV_of_mem (k := Sum.inr z) (kvs := kvs) (by rw [ekeys]; exact List.mem_map_of_mem hz)
        refine ⟨pz, _, 0, .str z, rfl, rfl, SqL.of upd_same, atI_nat (j := 0) rfl, ?_⟩
        refine ⟨dd, v, rfl, dgK (s5 _ _ hdd) hv, ?_⟩
        obtain ⟨dt, hdt, hpl⟩ := hval z v hv
        obtain ⟨given, m, ds, kn, cn, res, must, rfl, hg, hb0, hm, hres⟩ := hpl
        obtain ⟨pt, xs, rfl, hT, hA⟩ := dp_tupOf (dp_same s5 hdt)
        have tk5 := tk4.same s5
        generalize upd H4 pz _ = H5 at s5 hT hA tk5 ⊢
        obtain ⟨w1, _, rfl, hd1, hA⟩ := dpA_cons hA
        obtain ⟨w2, _, rfl, hd2, hA⟩ := dpA_cons hA
        obtain ⟨rv, _, rfl, hd3, hA⟩ := dpA_cons hA
        obtain ⟨w4, _, rfl, hd4, hA⟩ := dpA_cons hA
        obtain rfl := dpA_nil hA
        cases hd4
        obtain ⟨gt, gs, rfl, hG, hGA⟩ := dp_tupOf hd1
        obtain ⟨bt, bs, rfl, hB, hBA⟩ := dp_tupOf hd2
        refine ⟨pt, _, rfl, hT, rfl, ?_⟩
        refine ⟨_, _, rfl, _, _, rfl, _, _, rfl, _, _, rfl, rfl, ?_⟩
        have bf := gbody_facts hb0
        have bl := dpAll_len hBA
        have smB : smplAll ds = true := smplAll_of fun e he => (bf.sm e he).1
        have dsl : ds.length ≤ 24 := by have := bf.dl; omega
        -- a place
        refine ⟨_, rfl, _, rfl, bt, bs, rfl, .inr hB, _, _, rfl, rfl, t, b, (bs.length : Int) + 1, rfl, by omega, by omega, tk5, fun H6 at_ tk6 oth6 at0 at1 => ?_⟩
        have on6 : Only [t] H5 H6 := Only.oth oth6
        have k6 := tk5.keep on6
        -- a wrong one
        refine fun l7 y7 H7 s67 n7 h7 e7 => ⟨_, rfl, t, b, 6, rfl, by decide, by decide, tk6.same s67, fun H8 wi tk8 oth8 wi0 wi1 => ?_⟩
        have on8 : Only [t] H7 H8 := Only.oth oth8
        have k8 := (tk6.same s67).keep on8
        have nl7 : l7 ≠ t := tape_neN tk6 n7
        have y7l := dpAll_len e7
        have y7l6 : y7.length = 6 := y7l
        obtain ⟨wn, rfl⟩ : ∃ wn : Nat, wi = (wn : Int) := ⟨wi.toNat, by omega⟩
        obtain ⟨wx, hwx⟩ : ∃ wx, y7[wn]? = some wx := ⟨y7[wn]'(by omega), List.getElem?_eq_getElem _⟩
        obtain ⟨wd, hwd, hwdx⟩ := dpAll_at e7 wn wx hwx
        have hwm : wd ∈ sixD := List.mem_of_getElem? hwd
        have hwx8 : Dp K H8 wx wd := dp_only (tk6.same s67) on8 hwdx (ntAll_mem (by decide +kernel) wd hwm)
        refine ⟨l7, _, _, wx, rfl, rfl, SqL.of (on8 _ _ (fun z => nl7 (List.mem_singleton.mp z)) h7), atI_nat hwx, ?_⟩
        have k58 : Keep H5 H8 := (k6.trans (Same.keep s67)).trans k8
        have hG8 := Keep.tup k58 hG
        have hGA8 := DpAll.keep k58 hGA (given_smpl hg)
        have hB8 := Keep.tup k58 hB
        have hBA8 := DpAll.keep k58 hBA smB
        have hR8 := Dp.keep k58 hd3 hres.s
        -- what leads
        refine via_te (te := tSl (rSlA K) (tVar 10) tNoPart (tPart (tVar 13))) (fun v H9 => ∃ ta n, v = .ref ta ∧ Same H8 H9 ∧ SqT K H9 ta (bs.take n)) (fun v H9 hR => ?_) (fun Q' kQ => ?_)
        rotate_left
        · refine ⟨_, rfl, _, rfl, _, rfl, bt, bs, rfl, hB8, fun _ => ?_, fun _ p hp => ?_⟩
          · exact kQ _ _ ⟨bt, bs.length, rfl, same_refl, by rw [List.take_length]; exact hB8⟩
          · obtain ⟨n, en⟩ := cut_take bs at_
            exact kQ _ _ ⟨p, n, rfl, same_upd hp, by rw [en]; exact .inl (.inl upd_same)⟩
        obtain ⟨ta, n, rfl, s89, hta⟩ := hR
        have hBA9 := dpAll_take n (dp_sameAll s89 hBA8)
        have nms := gbody_name hg hb0
        have tl : (bs.take n).length ≤ 24 := by rw [List.length_take, bl]; omega
        refine ⟨ta, rfl, ⟨_, hta⟩, fun DD hDD => lc_tup (xs := bs.take n) (fun i H' => Same H9 H' ∧ ∃ acc, H' DD = some (.lst acc) ∧ DpAll K H' acc (((ds.take n).take i).filter nb)) ⟨same_upd hDD, [], upd_same, .nil⟩ (fun j H' _ q => Same.tup q.1 hta) ?_ ?_⟩
        · rintro ii xx H' hxx ⟨q1, acc, q2, q3⟩
          obtain ⟨d, hd, hxd⟩ := dpAll_at hBA9 ii xx hxx
          have hmem : d ∈ ds := List.mem_of_mem_take (List.mem_of_getElem? hd)
          have hxd' := dp_same q1 hxd
          have ht : ((ds.take n).take (ii + 1)).filter nb = ((ds.take n).take ii).filter nb ++ [d].filter nb := by
            rw [List.take_add_one, hd, List.filter_append]
            rfl
          have al : acc.length ≤ 24 := by
            rw [dpAll_len q3]
            have h1 := List.length_filter_le nb ((ds.take n).take ii)
            have h2 := List.length_take_le ii (ds.take n)
            have h3 := List.length_take_le' n ds
            rw [List.length_take, List.length_take] at h1
            omega
          obtain ⟨nm, r, rfl⟩ := nms d hmem
          obtain ⟨tt, yys, rfl, hT2, hA2⟩ := dp_tupOf hxd'
          refine ⟨rfl, ?_⟩
          obtain _ | ⟨g1, hA3⟩ := id hA2
          cases g1
          refine ⟨_, rfl, tt, _, 0, .str nm, rfl, rfl, hT2, atI_nat (j := 0) rfl, ?_⟩
          refine ⟨small_listD rfl, fun q hq => ?_⟩
          have sq := same_upd (o := .lst [.str "if", .str "while"]) hq
          refine ⟨q, _, rfl, .inl (SqL.of upd_same), rfl, rfl, _, rfl, ?_⟩
          have ei : (if true = true then !inV (V.str nm) [V.str (Str.ofString "if"), V.str (Str.ofString "while")] else inV (V.str nm) [V.str (Str.ofString "if"), V.str (Str.ofString "while")]) = nb (.tuple (.str nm :: r)) := by
            rw [if_pos rfl, nb_name]
            exact congrArg not (inV_strs nm blNames)
          rw [ei]
          have nDq : DD ≠ q := ne_of_none q2 hq
          refine ite_b (fun c => ?_) (fun c => ?_)
          · have e1 : [PyData.tuple (.str nm :: r)].filter nb = [PyData.tuple (.str nm :: r)] := by
              rw [List.filter_cons, if_pos c]; rfl
            refine ⟨_, rfl, acc, sq _ _ q2, by rw [sizeLine_eq]; omega, ?_, _, upd_same, ?_⟩
            · intro b o e
              rw [upd_ne (ne_of_none e hDD)]
              exact sq _ _ (q1 b o e)
            · have kp : Keep H' (upd (upd H' q (.lst [.str "if", .str "while"])) DD (.lst (acc ++ [.ref tt]))) := (Same.keep sq).trans (keep_put (sq _ _ q2))
              have sm1 : smplAll (((ds.take n).take ii).filter nb) = true := smplAll_of fun e he => (bf.sm e (List.mem_of_mem_take (List.mem_of_mem_take (List.mem_filter.mp he).1))).1
              rw [ht, e1]
              exact dpAll_app (DpAll.keep kp q3 sm1) (.cons (Dp.keep kp hxd' (bf.sm _ hmem).1) .nil)
          · have e1 : [PyData.tuple (.str nm :: r)].filter nb = [] := by
              rw [List.filter_cons, if_neg (by rw [c]; exact Bool.false_ne_true)]; rfl
            refine ⟨q1.trans sq, acc, sq _ _ q2, ?_⟩
            rw [ht, e1, List.append_nil]
            exact dp_sameAll sq q3
        · rintro H10 ⟨s910, acc, hacc, eacc⟩
          have tl2 : (bs.take n).length = (ds.take n).length := by rw [List.length_take, List.length_take, bl]
          rw [tl2, List.take_length] at eacc
          have s810 := s89.trans s910
          obtain ⟨l18, hplan⟩ := lead_wrong (d1 := .tuple (given.map PyData.str)) (d3 := res) (d4 := .bool must) hg hb0 hm n hwm (given_argsL hg) (strsOf_map given)
          have al := dpAll_len eacc
          have fL := fine_lead n smB hwm
          generalize (ds.take n).filter nb = lead at eacc l18 hplan al fL ⊢
          have hA10 := hacc
          refine ⟨_, rfl, _, rfl, _, rfl, small_listD rfl, fun p1 hp1 => ?_⟩
          have u1 := same_upd (o := .lst [wx]) hp1
          refine ⟨DD, p1, _, _, rfl, rfl, u1 _ _ hacc, upd_same, by rw [sizeLine_eq]; show acc.length + 1 ≤ _; omega, fun p2 hp2 => ?_⟩
          have u2 := u1.trans (same_upd (o := .lst (acc ++ [wx])) hp2)
          have d2 : DpAll K (upd (upd H10 p1 (.lst [wx])) p2 (.lst (acc ++ [wx]))) (acc ++ [wx]) (lead ++ [wd]) := dpAll_app (dp_sameAll u2 eacc) (.cons (dp_same (s810.trans u2) hwx8) .nil)
          have hp2' : upd (upd H10 p1 (.lst [wx])) p2 (.lst (acc ++ [wx])) p2 = some (.lst (acc ++ [wx])) := upd_same
          generalize upd (upd H10 p1 _) p2 _ = H11 at u2 d2 hp2' ⊢
          have s811 := s810.trans u2
          have dG11 : Dp K H11 (.ref gt) (.tuple (given.map PyData.str)) := .tup (Same.tup s811 hG8) (dp_sameAll s811 hGA8)
          refine ⟨_, rfl, _, rfl, ?_⟩
          refine ⟨_, _, _, _, _, _, _, _, rfl, ⟨dG11, dp_listOf hp2' d2, dp_same s811 hR8, .bl must⟩, ⟨smpl_none_fine hg, fun _ => fL, smpl_fine hres.s, rfl⟩, fun H12 r12 q12 _ hr12 => ?_⟩
          rw [hplan, num_eq l18, ← al] at hr12
          have l18' : acc.length ≤ 18 := by omega
          have u12 := u2.trans q12
          refine ⟨_, rfl, DD, acc, rfl, .inl (SqL.of (u12 _ _ hacc)), ?_⟩
          refine ⟨_, rfl, small_log2 l18', small_listD rfl, fun p3 hp3 => ?_⟩
          have u13 := same_upd (o := .lst [.str (Str.ofString (toString ((acc.length : Nat) : Int))), .bl true]) hp3
          refine ask_ne2 (part_num l18') (u13 _ _ hr12) upd_same (.cons (.str _) (.cons (.bl _) .nil)) ?_
          refine ⟨_, rfl, iteF ?_⟩
          have s814 := (s810.trans u12).trans u13
          have tk14 := tk8.same s814
          have dG14 := (s814 : Same H8 _)
          clear hr12 u13 u12 q12
          generalize upd H12 p3 _ = H14 at s814 tk14 dG14 ⊢
          have dG : Dp K H14 (.ref gt) (.tuple (given.map PyData.str)) := .tup (Same.tup s814 hG8) (dp_sameAll s814 hGA8)
          refine fun loa yoa Ga soa noa hoa eoa => ⟨loa, rfl, ⟨_, SqL.of hoa⟩, for_list (xs := yoa) (fun j σ2 H' => (∃ v15 v16 : Option V, σ2 = [some (.ref a), some (.ref t), v2, v3, v4, some wx, v6, some (.int (0 + (i : Int))), some (.ref dd), some (.ref gt), some (.ref bt), some rv, some (.bl must), some (.int at_), some (.ref DD), v15, v16]) ∧ Same Ga H') ⟨⟨_, _, rfl⟩, fun _ _ q => q⟩ (fun j σ2 H' _ q => SqL.of (q.2 _ _ hoa)) ?_ ?_⟩
          · rintro j y σ2 H' hy ⟨⟨v15, v16, rfl⟩, q⟩
            obtain ⟨d, hd, hyd⟩ := dpAll_at eoa j y hy
            obtain ⟨f1, f2⟩ := all_of odd_a d (List.mem_of_getElem? hd)
            have hyd' := dp_same q hyd
            refine ⟨_, rfl, ?_⟩
            refine ⟨_, _, _, _, _, _, _, _, rfl, ⟨hyd', .inl .non, .non, .non⟩, ⟨f2, fun z => (by cases z), rfl, rfl⟩, fun H2 r1 q1 _ hr1 => ?_⟩
            rw [f1] at hr1
            refine .inl ⟨_, rfl, by rw [sizeLine_eq]; exact Nat.le_trans tx_len.1 (by decide), small_listD rfl, fun l2 hl2 => ?_⟩
            have r2 := same_upd (o := .lst [.str txA, .bl true]) hl2
            refine ask_ne2 tx_ok.1 (r2 _ _ hr1) upd_same (.cons (.str _) (.cons (.bl _) .nil)) ?_
            refine ⟨_, rfl, iteF ?_⟩
            exact ⟨⟨_, _, rfl⟩, (q.trans q1).trans r2⟩
          · rintro σ2 H15 ⟨⟨v15, v16, rfl⟩, qa⟩
            have dG15 := dp_same (soa.trans qa) dG
            have tk15 := tk14.same (soa.trans qa)
            -- bodies
            refine fun ed hed => ?_
            have b1 := same_upd (o := .dK []) hed
            refine fun lr yr Hr sr nr hr' er => ?_
            obtain ⟨wv, _, rfl, ew, er⟩ := dpA_cons er
            obtain rfl := dpA_nil er
            refine ⟨lr, _, _, rfl, rfl, hr', by decide, by decide, (by rw [sizeLine_eq]; exact (by decide : 1 * 25 ≤ 16777216)), fun pr hpr => ?_⟩
            rw [show (25 : Int).toNat = 25 from rfl]
            have b2 := same_upd (o := .lst (List.replicate 25 [wv]).flatten) hpr
            have eR : DpAll K (upd Hr pr (.lst (List.replicate 25 [wv]).flatten)) (List.replicate 25 [wv]).flatten (works 25) := by
              rw [flat_rep]
              exact dpAll_rep (dp_same b2 ew) 25
            have hR25 : upd Hr pr (.lst (List.replicate 25 [wv]).flatten) pr = some (.lst (List.replicate 25 [wv]).flatten) := upd_same
            generalize hrep : (List.replicate 25 [wv]).flatten = yR at b2 eR hR25 ⊢
            have hed3 : upd Hr pr (.lst yR) ed = some (.dK []) := b2 _ _ (sr _ _ upd_same)
            have b03 := (b1.trans sr).trans b2
            generalize upd Hr pr _ = H16 at b2 b03 eR hR25 hed3 ⊢
            refine ⟨small_listD rfl, fun lq hlq => ?_⟩
            have b4 := same_upd (o := .lst [.non, .int 5, .str "work", .ref ed, .ref pr]) hlq
            have hlq' : upd H16 lq (.lst [.non, .int 5, .str "work", .ref ed, .ref pr]) lq = some (.lst [.non, .int 5, .str "work", .ref ed, .ref pr]) := upd_same
            have odds : ∀ (j : Nat) (y : V), [V.non, V.int 5, V.str "work", V.ref ed, V.ref pr][j]? = some y → ∃ d, Dp2 K (upd H16 lq (.lst [.non, .int 5, .str "work", .ref ed, .ref pr])) y d ∧ (seqD d && decide ((seqItems d).length ≤ 24)) = false ∧ (seqD d = true → fine d = true) := by
              intro j y hy
              match j, hy with
              | 0, hy => obtain rfl := Option.some.inj hy; exact ⟨.none, .inl .non, rfl, fun z => by cases z⟩
              | 1, hy => obtain rfl := Option.some.inj hy; exact ⟨.int 5, .inl (.int 5), rfl, fun z => by cases z⟩
              | 2, hy => obtain rfl := Option.some.inj hy; exact ⟨.str "work", .inl (.str _), rfl, fun z => by cases z⟩
              | 3, hy => obtain rfl := Option.some.inj hy; exact ⟨.dict [], .inr ⟨rfl, ed, rfl, b4 _ _ hed3⟩, rfl, fun z => by cases z⟩
              | 4, hy => obtain rfl := Option.some.inj hy; exact ⟨.list (works 25), .inl (.lst (SqL.of (b4 _ _ hR25)) (dp_sameAll b4 eR)), rfl, fun _ => fine_works 25⟩
              | j + 5, hy => cases hy
            have dG17 := dp_same (b03.trans b4) dG15
            have tk17 := tk15.same (b03.trans b4)
            generalize upd H16 lq _ = H17 at b4 hlq' odds dG17 tk17 ⊢
            refine ⟨lq, rfl, ⟨_, SqL.of hlq'⟩, for_list (xs := [V.non, V.int 5, V.str "work", V.ref ed, V.ref pr]) (fun j σ2 H' => (∃ v15 v16 : Option V, σ2 = [some (.ref a), some (.ref t), v2, v3, v4, some wx, v6, some (.int (0 + (i : Int))), some (.ref dd), some (.ref gt), some (.ref bt), some rv, some (.bl must), some (.int at_), some (.ref DD), v15, v16]) ∧ Same H17 H') ⟨⟨_, _, rfl⟩, fun _ _ q => q⟩ (fun j σ2 H' _ q => SqL.of (q.2 _ _ hlq')) ?_ ?_⟩
            · rintro j y σ2 H' hy ⟨⟨v15, v16, rfl⟩, q⟩
              obtain ⟨d, hyd, hbad, hfd⟩ := odds j y hy
              refine ⟨_, rfl, _, rfl, ?_⟩
              refine ⟨_, _, _, _, _, _, _, _, rfl, ⟨dp_same q dG17, hyd.same q, .non, .non⟩, ⟨smpl_none_fine hg, hfd, rfl, rfl⟩, fun H2 r1 q1 _ hr1 => ?_⟩
              rw [odd_b (given_argsL hg) hbad] at hr1
              refine .inl ⟨_, rfl, by rw [sizeLine_eq]; exact Nat.le_trans tx_len.2.1 (by decide), small_listD rfl, fun l2 hl2 => ?_⟩
              have r2 := same_upd (o := .lst [.str txB, .bl true]) hl2
              refine ask_ne2 tx_ok.2.1 (r2 _ _ hr1) upd_same (.cons (.str _) (.cons (.bl _) .nil)) ?_
              refine ⟨_, rfl, iteF ?_⟩
              exact ⟨⟨_, _, rfl⟩, (q.trans q1).trans r2⟩
            · rintro σ2 H18 ⟨⟨v15, v16, rfl⟩, qb⟩
              have tk18 := tk17.same qb
              refine fun loc yoc Gc soc noc hoc eoc => ⟨loc, rfl, ⟨_, SqL.of hoc⟩, for_list (xs := yoc) (fun j σ2 H' => (∃ v15 v16 : Option V, σ2 = [some (.ref a), some (.ref t), v2, v3, v4, some wx, v6, some (.int (0 + (i : Int))), some (.ref dd), some (.ref gt), some (.ref bt), some rv, some (.bl must), some (.int at_), some (.ref DD), v15, v16]) ∧ Same Gc H') ⟨⟨_, _, rfl⟩, fun _ _ q => q⟩ (fun j σ2 H' _ q => SqL.of (q.2 _ _ hoc)) ?_ ?_⟩
              · rintro j y σ2 H' hy ⟨⟨v15, v16, rfl⟩, q⟩
                obtain ⟨d, hd, hyd⟩ := dpAll_at eoc j y hy
                obtain ⟨f1, f2⟩ := all_of odd_r d (List.mem_of_getElem? hd)
                have hyd' := dp_same q hyd
                refine fun w1 J1 t1 a1 => fun lr2 yr2 J2 t2 n2 h2 e2 => ?_
                obtain ⟨wv2, _, rfl, ew2, e2⟩ := dpA_cons e2
                obtain rfl := dpA_nil e2
                refine ⟨lr2, _, _, rfl, rfl, h2, by decide, by decide, (by rw [sizeLine_eq]; exact (by decide : 1 * 24 ≤ 16777216)), fun pr2 hpr2 => ?_⟩
                have t3 := same_upd (o := .lst (List.replicate 24 [wv2]).flatten) hpr2
                have eR2 : DpAll K (upd J2 pr2 (.lst (List.replicate 24 [wv2]).flatten)) (List.replicate 24 [wv2]).flatten (works 24) := by
                  rw [flat_rep]
                  exact dpAll_rep (dp_same t3 ew2) 24
                have hR24 : upd J2 pr2 (.lst (List.replicate 24 [wv2]).flatten) pr2 = some (.lst (List.replicate 24 [wv2]).flatten) := upd_same
                refine ⟨_, rfl, ?_⟩
                refine ⟨_, _, _, _, _, _, _, _, rfl, ⟨dp_same (t2.trans t3) a1, dp_listOf hR24 eR2, dp_same ((t1.trans t2).trans t3) hyd', .non⟩, ⟨rfl, fun _ => fine_works 24, f2, rfl⟩, fun H2 r1 q1 _ hr1 => ?_⟩
                rw [f1] at hr1
                refine .inl ⟨_, rfl, by rw [sizeLine_eq]; exact Nat.le_trans tx_len.2.2.1 (by decide), small_listD rfl, fun l2 hl2 => ?_⟩
                have r2 := same_upd (o := .lst [.str txR, .bl true]) hl2
                refine ask_ne2 tx_ok.2.2.1 (r2 _ _ hr1) upd_same (.cons (.str _) (.cons (.bl _) .nil)) ?_
                refine ⟨_, rfl, iteF ?_⟩
                exact ⟨⟨_, _, rfl⟩, ((q.trans ((t1.trans t2).trans t3)).trans q1).trans r2⟩
              · rintro σ2 H19 ⟨⟨v15, v16, rfl⟩, qc⟩
                have tk19 := tk18.same (soc.trans qc)
                refine fun lod yod Gd sod nod hod eod => ⟨lod, rfl, ⟨_, SqL.of hod⟩, for_list (xs := yod) (fun j σ2 H' => (∃ v15 v16 : Option V, σ2 = [some (.ref a), some (.ref t), v2, v3, v4, some wx, v6, some (.int (0 + (i : Int))), some (.ref dd), some (.ref gt), some (.ref bt), some rv, some (.bl must), some (.int at_), some (.ref DD), v15, v16]) ∧ Same Gd H') ⟨⟨_, _, rfl⟩, fun _ _ q => q⟩ (fun j σ2 H' _ q => SqL.of (q.2 _ _ hod)) ?_ ?_⟩
                · rintro j y σ2 H' hy ⟨⟨v15, v16, rfl⟩, q⟩
                  obtain ⟨d, hd, hyd⟩ := dpAll_at eod j y hy
                  obtain ⟨f1, f2⟩ := all_of odd_m d (List.mem_of_getElem? hd)
                  have hyd' := dp_same q hyd
                  refine fun w1 J1 t1 a1 => fun w2 J2 t2 a2 => fun w3 J3 t3 a3 => ⟨_, rfl, ?_⟩
                  refine ⟨_, _, _, _, _, _, _, _, rfl, ⟨dp_same (t2.trans t3) a1, .inl (dp_same t3 a2), a3, dp_same ((t1.trans t2).trans t3) hyd'⟩, ⟨rfl, fun _ => rfl, rfl, f2⟩, fun H2 r1 q1 _ hr1 => ?_⟩
                  rw [f1] at hr1
                  refine .inl ⟨_, rfl, by rw [sizeLine_eq]; exact Nat.le_trans tx_len.2.2.2 (by decide), small_listD rfl, fun l2 hl2 => ?_⟩
                  have r2 := same_upd (o := .lst [.str txM, .bl true]) hl2
                  refine ask_ne2 tx_ok.2.2.2 (r2 _ _ hr1) upd_same (.cons (.str _) (.cons (.bl _) .nil)) ?_
                  refine ⟨_, rfl, iteF ?_⟩
                  exact ⟨⟨_, _, rfl⟩, ((q.trans ((t1.trans t2).trans t3)).trans q1).trans r2⟩
                · rintro σ2 H20 ⟨⟨v15, v16, rfl⟩, qd⟩
                  exact ⟨_, _, _, _, _, _, _, _, _, _, _, _, _, _, _, rfl, tk19.same (sod.trans qd)⟩
      · rintro σ H3 ⟨v2, v3, v4, v5, v6, v7, v8, v9, v10, v11, v12, v13, v14, v15, v16, rfl, tk3⟩
        exact ⟨rfl, fun H4 s4 => k _⟩
end
end Pl

namespace L2
open PySem PySem.Spec PyProof.Rows
/-- the law's call, from its promise where no repr is under way and sys.modules stands -/
theorem law_callG {P : Program} {w : World} {K : PySem.W.Frag} {mg mb : Str → Option Value} {k : Nat} {fa a : Addr} {fd : FuncData} {x : Str} {sp : Sp} {s₁ : Shared} {vs : List Value} {ns : List Int}
    (KX : K.In s₁.heap) (hns : s₁.heap.Ns mainGlobals mg) (hb : s₁.heap.Ns builtinsNs mb) (hbb : ∀ x : Str, x ≠ "__name__" → mb x = bootBuiltins x) (hlim : s₁.heap.NoLimit) (hsy : ∃ mm, s₁.heap.Ns sysModules mm) (hg : s₁.gens = #[])
    (ha : s₁.heap.get? a = some { cls := .type "list", data := .seq vs.toArray }) (hi : IntsAre vs ns) (hl : ns.length ≤ sizeLine) (hr : Room k callerA)
    (F : ∀ base : Heap, K.In base → base.Ns mainGlobals mg → (∃ o, base.get? sysModules = some o) → FnG P w K mg base k fa fd [x] sp) (hbind : ∀ (s : Shared) (u : Value), BindsTo s fd ⟨[u], []⟩ [(x, u)])
    (hsp : ∀ H : Hp, SqL K H a (ns.map V.int) → sp [.ref a] H (fun v _ => v = .bl true) E0) :
    codeAny (model P w) callerA (.call (.ref fa) ⟨[.ref a], []⟩) (fun r s' => r = .ok (.ret (.bool true)) ∧ OldK s₁.heap s'.heap ∧ s'.os = s₁.os ∧ AllBare s'.gens) s₁ := by
  have rv := vals_ints hi
  have lenV := hi.length
  have go : ∀ H : Hp, SqL K H a (ns.map V.int) → HOk P w H s₁.heap → (∀ b u, H b = some u → b = a ∧ u = .frz { cls := .type "list", data := .seq vs.toArray } (.lst (ns.map V.int))) → (H a ≠ none → K.lookup a = none) →
      codeAny (model P w) callerA (.call (.ref fa) ⟨[.ref a], []⟩) (fun r s' => r = .ok (.ret (.bool true)) ∧ OldK s₁.heap s'.heap ∧ s'.os = s₁.os ∧ AllBare s'.gens) s₁ := by
    intro H hS hok hA hK
    have free : ∀ {b : Addr} {o : Obj}, s₁.heap.get? b = some o → o.data ≠ .seq vs.toArray 0 → H b = none := fun {b o} e d => by
      cases q : H b with
      | none => rfl
      | some u =>
        have z := (hA b u q).1
        subst z
        rw [ha] at e
        cases e
        exact absurd rfl d
    have ns2 : ∀ {b : Addr} {m : Str → Option Value}, s₁.heap.Ns b m → (hidT s₁.heap H).Ns b m := fun {b m} ⟨o, es, ep, e, d, r⟩ =>
      ⟨o, es, ep, hidT_get e (free e (by rw [d]; intro z; cases z)), d, r⟩
    have K2 : K.In (hidT s₁.heap H) := fun b o e => hidT_get (KX b o e) (by
      cases q : H b with
      | none => rfl
      | some u =>
        have z := (hA b u q).1
        subst z
        rw [hK (by rw [q]; intro y; cases y)] at e
        cases e)
    obtain ⟨mc, l1, l2⟩ := hlim
    obtain ⟨mm, y1⟩ := hsy
    obtain ⟨os, _, _, y2, _⟩ := ns2 y1
    have M : Mod K mg (hidT s₁.heap H) := ⟨K2, ns2 hns, ⟨mb, ns2 hb, hbb⟩, ⟨mc, ns2 l1, l2⟩⟩
    have e0 : Env0 P w K mg (hidT s₁.heap H) callerA [] s₁ H :=
      ⟨rfl, M, fun b o e => of_hidT e, Nat.le_of_eq (hidT_size _ _), trivial, fun b z => absurd (show b ∈ ([] : List Addr) from z) (by simp), hok, .of_eq hg⟩
    refine codeAny_mono ((F _ K2 (ns2 hns) ⟨_, y2⟩).run callerA [] s₁ H ⟨[.ref a], []⟩ [.ref a] [.ref a] _ hr rfl e0 (hbind s₁ (.ref a)) (.cons rfl .nil) (hsp H hS)) fun r s' h => ?_
    cases r with
    | error e => exact False.elim h
    | ok fl =>
      cases fl with
      | next => exact False.elim h
      | brk => exact False.elim h
      | cont => exact False.elim h
      | ret u =>
        obtain ⟨v, H', os', bare, un, hok', r', q⟩ := h
        have q' : v = .bl true := q
        subst q'
        obtain rfl : u = Value.bool true := r'
        refine ⟨rfl, OldK.of_keep fun b o e => ?_, os', bare⟩
        cases q : H b with
        | none => exact un.keep b o e q (by intro z; exact absurd (show b ∈ ([] : List Addr) from z) (by simp)) (by simp)
        | some u =>
          obtain ⟨z1, z2⟩ := hA b u q
          subst z2
          obtain ⟨e1, _⟩ := hok b _ q
          obtain ⟨e2, _⟩ := hok' b _ (un.frzs b _ _ q)
          exact e2.trans (e1.symm.trans e)
  cases hk : K.lookup a with
  | some o =>
    have e := KX a o hk
    rw [ha] at e
    cases e
    exact go (fun _ => none) (.inr ⟨_, vs.toArray, _, hk, rfl, rfl, rfl, by rw [List.size_toArray, lenV]; exact hl, by simpa using rv⟩) (fun _ _ z => nomatch z) (fun _ _ z => nomatch z) fun z => absurd rfl z
  | none =>
    have at_ : ∀ {b : Addr} {u : HO}, (if b = a then some (HO.frz { cls := .type "list", data := .seq vs.toArray } (.lst (ns.map V.int))) else none) = some u → b = a ∧ u = .frz { cls := .type "list", data := .seq vs.toArray } (.lst (ns.map V.int)) := fun {b u} z => by
      by_cases h : b = a
      · rw [if_pos h] at z
        exact ⟨h, (Option.some.inj z).symm⟩
      · rw [if_neg h] at z
        cases z
    refine go (fun b => if b = a then some (.frz { cls := .type "list", data := .seq vs.toArray } (.lst (ns.map V.int))) else none) (.inl (.inr ⟨_, if_pos rfl⟩)) (fun b u z => ?_) (fun b u z => at_ z) fun _ => hk
    obtain ⟨z1, z2⟩ := at_ z
    subst z1 z2
    exact ⟨ha, by rw [List.length_map]; exact hl, vs, _, rv, ha⟩
theorem walk_ofG {l : PySem.W.OpenLaw} {n k : Nat} {q : Program} {loose : List Str} {XP : (Str → Option Value) → Heap → Prop} {YP : World → Heap → Prop} {d : DefRec} {K : Params → PySem.W.Frag} {sp : PySem.W.Frag → Sp} {x : Str}
    (hn : l.most = some n) (hn2 : n ≤ sizeLine) (hdf : d.params.defaults = []) (hr : Room k callerA) (hq : importsNone q = true) (hY : ∀ (w : World) (h : Heap), YP w h → (K w.params).In h)
    (F : ∀ (w : World) (mg : Str → Option Value) (fa : Addr) (h : Heap), (K w.params).In h → h.Ns mainGlobals mg → mg d.name = some (.ref fa) →
      ∃ fd : FuncData, (∀ (s : Shared) (u : Value), BindsTo s fd ⟨[u], []⟩ [(x, u)]) ∧
        ∀ base : Heap, (K w.params).In base → base.Ns mainGlobals mg → (∃ o, base.get? sysModules = some o) → FnG l.prog w (K w.params) mg base k fa fd [x] (sp (K w.params)))
    (hsp : ∀ (K : PySem.W.Frag) (H : Hp) (a : Addr) (ns : List Int), ns.length ≤ n → SqL K H a (ns.map V.int) → sp K [.ref a] H (fun v _ => v = .bl true) E0) :
    PySem.W.WalkO q loose XP YP l.row.toRowW d [] (fun f vs => PySem.call f vs) := by
  refine Att.attach_call hn hdf fun w s₀ s₁ mg mb fa o pm cd doc a vs ns G Y ho hd hcd hmg hobj hints hlen hg => ?_
  have KX := hY w _ Y
  obtain ⟨fd, hb, hF⟩ := F w mg fa _ KX G.T.g hmg
  obtain ⟨mm, hm, _⟩ := (G.T.seer hq).mods
  exact law_callG KX G.T.g G.T.b G.T.builtins G.T.nolimit ⟨mm, hm⟩ hg hobj hints (Nat.le_trans hlen hn2) hr hF hb fun H hS => hsp (K w.params) H a ns hlen hS
end L2

namespace Pl
open PySem PySem.Spec PyProof.Rows L2
theorem all_mk {l : PySem.W.OpenLaw} {w : World} {K : PySem.W.Frag} {h : Heap} {mg : Str → Option Value} {fa : Addr} (X : K.In h) (G : h.Ns mainGlobals mg) (hfa : mg "law" = some (.ref fa))
    {f3_0 f10 f11 f12 f13 f14 f15 f21 f22 f29 f30 f31 f32 f33 f34 f35 f36 f37 f38 f39 f40 f41 f42 f45 f48 f49 f52 f53 f54 f55 f56 f57 f58 f59 f60 f61 f62 f63 f20 f28_0 f28_1 f28_2 f50_0 C3 W0 T20 C28 C50 KD50_0 q_OPERATIONS q_QUESTIONS q_BLOCKS d_SIZES d_CHECKS : Addr} {od3_0 an3_0 od10 an10 od11 an11 od12 an12 od13 an13 od14 an14 od15 an15 od21 an21 od22 an22 od29 an29 od30 an30 od31 an31 od32 an32 od33 an33 od34 an34 od35 an35 od36 an36 od37 an37 od38 an38 od39 an39 od40 an40 od41 an41 od42 an42 od45 an45 od48 an48 od49 an49 od52 an52 od53 an53 od54 an54 od55 an55 od56 an56 od57 an57 od58 an58 od59 an59 od60 an60 od61 an61 od62 an62 od63 an63 od20 an20 od28_0 an28_0 od28_1 an28_1 od28_2 an28_2 od50_0 an50_0 : Option Addr} {sl3_0 sl10 sl11 sl12 sl13 sl14 sl15 sl21 sl22 sl29 sl30 sl31 sl32 sl33 sl34 sl35 sl36 sl37 sl38 sl39 sl40 sl41 sl42 sl45 sl48 sl49 sl52 sl53 sl54 sl55 sl56 sl57 sl58 sl59 sl60 sl61 sl62 sl63 sl20 sl28_0 sl28_1 sl28_2 sl50_0 : Array (Option Value)} {oc3_0 kV3_0 dc3_0 pm3_0 cd3_0 ct3_0 oc10 kV10 dc10 pm10 cd10 ct10 oc11 kV11 dc11 pm11 cd11 ct11 oc12 kV12 dc12 pm12 cd12 ct12 oc13 kV13 dc13 pm13 cd13 ct13 oc14 kV14 dc14 pm14 cd14 ct14 oc15 kV15 dc15 pm15 cd15 ct15 oc21 kV21 dc21 pm21 cd21 ct21 oc22 kV22 dc22 pm22 cd22 ct22 oc29 kV29 dc29 pm29 cd29 ct29 oc30 kV30 dc30 pm30 cd30 ct30 oc31 kV31 dc31 pm31 cd31 ct31 oc32 kV32 dc32 pm32 cd32 ct32 oc33 kV33 dc33 pm33 cd33 ct33 oc34 kV34 dc34 pm34 cd34 ct34 oc35 kV35 dc35 pm35 cd35 ct35 oc36 kV36 dc36 pm36 cd36 ct36 oc37 kV37 dc37 pm37 cd37 ct37 oc38 kV38 dc38 pm38 cd38 ct38 oc39 kV39 dc39 pm39 cd39 ct39 oc40 kV40 dc40 pm40 cd40 ct40 oc41 kV41 dc41 pm41 cd41 ct41 oc42 kV42 dc42 pm42 cd42 ct42 oc45 kV45 dc45 pm45 cd45 ct45 oc48 kV48 dc48 pm48 cd48 ct48 oc49 kV49 dc49 pm49 cd49 ct49 oc52 kV52 dc52 pm52 cd52 ct52 oc53 kV53 dc53 pm53 cd53 ct53 oc54 kV54 dc54 pm54 cd54 ct54 oc55 kV55 dc55 pm55 cd55 ct55 oc56 kV56 dc56 pm56 cd56 ct56 oc57 kV57 dc57 pm57 cd57 ct57 oc58 kV58 dc58 pm58 cd58 ct58 oc59 kV59 dc59 pm59 cd59 ct59 oc60 kV60 dc60 pm60 cd60 ct60 oc61 kV61 dc61 pm61 cd61 ct61 oc62 kV62 dc62 pm62 cd62 ct62 oc63 kV63 dc63 pm63 cd63 ct63 oc20 kV20 dc20 pm20 cd20 ct20 oc28_0 kV28_0 dc28_0 pm28_0 cd28_0 ct28_0 oc28_1 kV28_1 dc28_1 pm28_1 cd28_1 ct28_1 oc28_2 kV28_2 dc28_2 pm28_2 cd28_2 ct28_2 oc50_0 dc50_0 pm50_0 cd50_0 ct50_0 : Value} {tkE6 tk_LETTERS tk_CAPITALS tk_DIGITS tk_MODULUS tk_MOST_ARGUMENTS tk_MOST_INSTRUCTIONS tk_MOST_EXPRESSIONS tk_MOST_VARIABLES tk_HIGHEST_COST tq_OPERATIONS_0 tq_OPERATIONS_1 tq_OPERATIONS_2 tq_OPERATIONS_3 tq_OPERATIONS_4 tq_QUESTIONS_0 tq_QUESTIONS_1 tq_BLOCKS_0 tq_BLOCKS_1 td_SIZES_work td_SIZES_set td_SIZES_fail td_SIZES_call td_SIZES_wait td_SIZES_catch td_SIZES_drop td_SIZES_effect td_SIZES_if td_SIZES_while : Tok} {ocT20 : Value} {odT20 : Option Addr} {itT20 : Array Value} {nT20 : Nat} {slT20 : Array (Option Value)} {oq_OPERATIONS : Option Addr} {iq_OPERATIONS : Array Value} {nq_OPERATIONS : Nat} {sq_OPERATIONS : Array (Option Value)} {oq_QUESTIONS : Option Addr} {iq_QUESTIONS : Array Value} {nq_QUESTIONS : Nat} {sq_QUESTIONS : Array (Option Value)} {oq_BLOCKS : Option Addr} {iq_BLOCKS : Array Value} {nq_BLOCKS : Nat} {sq_BLOCKS : Array (Option Value)} {es_SIZES : Array DictEntry} {ep_SIZES : Nat} {es_CHECKS : Array DictEntry} {ep_CHECKS : Nat}
    (cn : PySem.W.specialIn K (.builtin "object.__class__") "__get__" = some (some (.builtin "getset_descriptor.__get__")))
    (ctk : PySem.W.takesIn K (.builtin "object.__class__") = some true)
    (ac3 : PySem.W.nsIn K mainGlobals "InvalidPlan" = some (some (.ref C3)))
    (i3 : PySem.W.findIn K (.ref C3) "__init__" = some (some (.ref f3_0)))
    (l3_0 : K.lookup f3_0 = some ⟨oc3_0, od3_0, .func (PySem.W.fnOf "__init__" "InvalidPlan.__init__" (defArgs sInitE) (defBody sInitE) (defScope sInitE) .none kV3_0 dc3_0 pm3_0 an3_0 cd3_0 ct3_0), sl3_0⟩)
    (g3_0 : PySem.W.codeIn K cd3_0 "InvalidPlan.__init__" = true)
    (k3_0 : PySem.W.keepIn K (.ref f3_0) = true)
    (t3_0 : PySem.W.typeIn K (.ref f3_0) = some (.type "function"))
    (ht3 : PySem.W.takerIn K C3 "part" = some none)
    (isn3 : PySem.W.excInitIn K C3 veT "ValueError.__new__" = true)
    (ovr3 : PySem.W.excOver K C3 veT = true)
    (sa3 : PySem.W.findIn K (.ref C3) "__setattr__" = some (some (.builtin "object.__setattr__")))
    (hd3 : PySem.W.hasDictIn K C3 = true)
    (kc3 : PySem.W.keepIn K (.ref C3) = true)
    (ga3 : PySem.W.findIn K (.ref C3) "__getattribute__" = some (some (.builtin "BaseException.__getattribute__")))
    (gg3 : PySem.W.findIn K (.ref C3) "__getattr__" = some none)
    (ex3 : PySem.W.subIn K (.ref C3) (.type "BaseException") = some true)
    (ca3 : PySem.W.findIn K (.ref C3) "__class__" = some (some (.builtin "object.__class__")))
    (mo3 : PySem.W.mroIn K C3 (.type "object") = some true)
    (ty3 : PySem.W.typeIn K (.ref C3) = some (.type "type"))
    (aW : PySem.W.nsIn K mainGlobals "WorkError" = some (some (.ref W0)))
    (spW : PySem.W.specialIn K (.ref W0) "__getattribute__" = some (some (.builtin "type.__getattribute__")))
    (rdW : PySem.W.readsIn K W0 (.type "type") = true)
    (fcW : PySem.W.findCls K (.ref W0) (.type "type") "__init__" = some (.val (.builtin "ValueError.__init__")))
    (a10 : PySem.W.nsIn K mainGlobals "is_made_of" = some (some (.ref f10)))
    (l10 : K.lookup f10 = some ⟨oc10, od10, .func (PySem.W.fnOf "is_made_of" "is_made_of" (defArgs sMadeOf) (defBody sMadeOf) (defScope sMadeOf) .none kV10 dc10 pm10 an10 cd10 ct10), sl10⟩)
    (g10 : PySem.W.codeIn K cd10 "is_made_of" = true)
    (k10 : PySem.W.keepIn K (.ref f10) = true)
    (a11 : PySem.W.nsIn K mainGlobals "is_integer" = some (some (.ref f11)))
    (l11 : K.lookup f11 = some ⟨oc11, od11, .func (PySem.W.fnOf "is_integer" "is_integer" (defArgs sInteger) (defBody sInteger) (defScope sInteger) .none kV11 dc11 pm11 an11 cd11 ct11), sl11⟩)
    (g11 : PySem.W.codeIn K cd11 "is_integer" = true)
    (k11 : PySem.W.keepIn K (.ref f11) = true)
    (a12 : PySem.W.nsIn K mainGlobals "is_number" = some (some (.ref f12)))
    (l12 : K.lookup f12 = some ⟨oc12, od12, .func (PySem.W.fnOf "is_number" "is_number" (defArgs sNumber) (defBody sNumber) (defScope sNumber) .none kV12 dc12 pm12 an12 cd12 ct12), sl12⟩)
    (g12 : PySem.W.codeIn K cd12 "is_number" = true)
    (k12 : PySem.W.keepIn K (.ref f12) = true)
    (a13 : PySem.W.nsIn K mainGlobals "is_word" = some (some (.ref f13)))
    (l13 : K.lookup f13 = some ⟨oc13, od13, .func (PySem.W.fnOf "is_word" "is_word" (defArgs sWord) (defBody sWord) (defScope sWord) .none kV13 dc13 pm13 an13 cd13 ct13), sl13⟩)
    (g13 : PySem.W.codeIn K cd13 "is_word" = true)
    (k13 : PySem.W.keepIn K (.ref f13) = true)
    (a14 : PySem.W.nsIn K mainGlobals "is_effect" = some (some (.ref f14)))
    (l14 : K.lookup f14 = some ⟨oc14, od14, .func (PySem.W.fnOf "is_effect" "is_effect" (defArgs sEffect) (defBody sEffect) (defScope sEffect) .none kV14 dc14 pm14 an14 cd14 ct14), sl14⟩)
    (g14 : PySem.W.codeIn K cd14 "is_effect" = true)
    (k14 : PySem.W.keepIn K (.ref f14) = true)
    (a15 : PySem.W.nsIn K mainGlobals "name_of" = some (some (.ref f15)))
    (l15 : K.lookup f15 = some ⟨oc15, od15, .func (PySem.W.fnOf "name_of" "name_of" (defArgs sNameOf) (defBody sNameOf) (defScope sNameOf) .none kV15 dc15 pm15 an15 cd15 ct15), sl15⟩)
    (g15 : PySem.W.codeIn K cd15 "name_of" = true)
    (k15 : PySem.W.keepIn K (.ref f15) = true)
    (a21 : PySem.W.nsIn K mainGlobals "_is_question" = some (some (.ref f21)))
    (l21 : K.lookup f21 = some ⟨oc21, od21, .func (PySem.W.fnOf "_is_question" "_is_question" (defArgs sQues) (defBody sQues) (defScope sQues) .none kV21 dc21 pm21 an21 cd21 ct21), sl21⟩)
    (g21 : PySem.W.codeIn K cd21 "_is_question" = true)
    (k21 : PySem.W.keepIn K (.ref f21) = true)
    (a22 : PySem.W.nsIn K mainGlobals "_is_operation" = some (some (.ref f22)))
    (l22 : K.lookup f22 = some ⟨oc22, od22, .func (PySem.W.fnOf "_is_operation" "_is_operation" (defArgs sOper) (defBody sOper) (defScope sOper) .none kV22 dc22 pm22 an22 cd22 ct22), sl22⟩)
    (g22 : PySem.W.codeIn K cd22 "_is_operation" = true)
    (k22 : PySem.W.keepIn K (.ref f22) = true)
    (a29 : PySem.W.nsIn K mainGlobals "end_of_block" = some (some (.ref f29)))
    (l29 : K.lookup f29 = some ⟨oc29, od29, .func (PySem.W.fnOf "end_of_block" "end_of_block" (defArgs sEnd) (defBody sEnd) (defScope sEnd) .none kV29 dc29 pm29 an29 cd29 ct29), sl29⟩)
    (g29 : PySem.W.codeIn K cd29 "end_of_block" = true)
    (k29 : PySem.W.keepIn K (.ref f29) = true)
    (a30 : PySem.W.nsIn K mainGlobals "_is_variable" = some (some (.ref f30)))
    (l30 : K.lookup f30 = some ⟨oc30, od30, .func (PySem.W.fnOf "_is_variable" "_is_variable" (defArgs sVar) (defBody sVar) (defScope sVar) .none kV30 dc30 pm30 an30 cd30 ct30), sl30⟩)
    (g30 : PySem.W.codeIn K cd30 "_is_variable" = true)
    (k30 : PySem.W.keepIn K (.ref f30) = true)
    (a31 : PySem.W.nsIn K mainGlobals "_is_called" = some (some (.ref f31)))
    (l31 : K.lookup f31 = some ⟨oc31, od31, .func (PySem.W.fnOf "_is_called" "_is_called" (defArgs sCalled) (defBody sCalled) (defScope sCalled) .none kV31 dc31 pm31 an31 cd31 ct31), sl31⟩)
    (g31 : PySem.W.codeIn K cd31 "_is_called" = true)
    (k31 : PySem.W.keepIn K (.ref f31) = true)
    (a32 : PySem.W.nsIn K mainGlobals "_are_called" = some (some (.ref f32)))
    (l32 : K.lookup f32 = some ⟨oc32, od32, .func (PySem.W.fnOf "_are_called" "_are_called" (defArgs sAreCalled) (defBody sAreCalled) (defScope sAreCalled) .none kV32 dc32 pm32 an32 cd32 ct32), sl32⟩)
    (g32 : PySem.W.codeIn K cd32 "_are_called" = true)
    (k32 : PySem.W.keepIn K (.ref f32) = true)
    (a33 : PySem.W.nsIn K mainGlobals "_is_worth" = some (some (.ref f33)))
    (l33 : K.lookup f33 = some ⟨oc33, od33, .func (PySem.W.fnOf "_is_worth" "_is_worth" (defArgs sWorth) (defBody sWorth) (defScope sWorth) .none kV33 dc33 pm33 an33 cd33 ct33), sl33⟩)
    (g33 : PySem.W.codeIn K cd33 "_is_worth" = true)
    (k33 : PySem.W.keepIn K (.ref f33) = true)
    (a34 : PySem.W.nsIn K mainGlobals "_is_work" = some (some (.ref f34)))
    (l34 : K.lookup f34 = some ⟨oc34, od34, .func (PySem.W.fnOf "_is_work" "_is_work" (defArgs sIsWork) (defBody sIsWork) (defScope sIsWork) .none kV34 dc34 pm34 an34 cd34 ct34), sl34⟩)
    (g34 : PySem.W.codeIn K cd34 "_is_work" = true)
    (k34 : PySem.W.keepIn K (.ref f34) = true)
    (a35 : PySem.W.nsIn K mainGlobals "_is_set" = some (some (.ref f35)))
    (l35 : K.lookup f35 = some ⟨oc35, od35, .func (PySem.W.fnOf "_is_set" "_is_set" (defArgs sIsSet) (defBody sIsSet) (defScope sIsSet) .none kV35 dc35 pm35 an35 cd35 ct35), sl35⟩)
    (g35 : PySem.W.codeIn K cd35 "_is_set" = true)
    (k35 : PySem.W.keepIn K (.ref f35) = true)
    (a36 : PySem.W.nsIn K mainGlobals "_is_fail" = some (some (.ref f36)))
    (l36 : K.lookup f36 = some ⟨oc36, od36, .func (PySem.W.fnOf "_is_fail" "_is_fail" (defArgs sIsFail) (defBody sIsFail) (defScope sIsFail) .none kV36 dc36 pm36 an36 cd36 ct36), sl36⟩)
    (g36 : PySem.W.codeIn K cd36 "_is_fail" = true)
    (k36 : PySem.W.keepIn K (.ref f36) = true)
    (a37 : PySem.W.nsIn K mainGlobals "_is_call" = some (some (.ref f37)))
    (l37 : K.lookup f37 = some ⟨oc37, od37, .func (PySem.W.fnOf "_is_call" "_is_call" (defArgs sIsCall) (defBody sIsCall) (defScope sIsCall) .none kV37 dc37 pm37 an37 cd37 ct37), sl37⟩)
    (g37 : PySem.W.codeIn K cd37 "_is_call" = true)
    (k37 : PySem.W.keepIn K (.ref f37) = true)
    (a38 : PySem.W.nsIn K mainGlobals "_is_wait" = some (some (.ref f38)))
    (l38 : K.lookup f38 = some ⟨oc38, od38, .func (PySem.W.fnOf "_is_wait" "_is_wait" (defArgs sIsWait) (defBody sIsWait) (defScope sIsWait) .none kV38 dc38 pm38 an38 cd38 ct38), sl38⟩)
    (g38 : PySem.W.codeIn K cd38 "_is_wait" = true)
    (k38 : PySem.W.keepIn K (.ref f38) = true)
    (a39 : PySem.W.nsIn K mainGlobals "_is_catch" = some (some (.ref f39)))
    (l39 : K.lookup f39 = some ⟨oc39, od39, .func (PySem.W.fnOf "_is_catch" "_is_catch" (defArgs sIsCatch) (defBody sIsCatch) (defScope sIsCatch) .none kV39 dc39 pm39 an39 cd39 ct39), sl39⟩)
    (g39 : PySem.W.codeIn K cd39 "_is_catch" = true)
    (k39 : PySem.W.keepIn K (.ref f39) = true)
    (a40 : PySem.W.nsIn K mainGlobals "_is_drop" = some (some (.ref f40)))
    (l40 : K.lookup f40 = some ⟨oc40, od40, .func (PySem.W.fnOf "_is_drop" "_is_drop" (defArgs sIsDrop) (defBody sIsDrop) (defScope sIsDrop) .none kV40 dc40 pm40 an40 cd40 ct40), sl40⟩)
    (g40 : PySem.W.codeIn K cd40 "_is_drop" = true)
    (k40 : PySem.W.keepIn K (.ref f40) = true)
    (a41 : PySem.W.nsIn K mainGlobals "_is_say" = some (some (.ref f41)))
    (l41 : K.lookup f41 = some ⟨oc41, od41, .func (PySem.W.fnOf "_is_say" "_is_say" (defArgs sIsSay) (defBody sIsSay) (defScope sIsSay) .none kV41 dc41 pm41 an41 cd41 ct41), sl41⟩)
    (g41 : PySem.W.codeIn K cd41 "_is_say" = true)
    (k41 : PySem.W.keepIn K (.ref f41) = true)
    (a42 : PySem.W.nsIn K mainGlobals "_is_block" = some (some (.ref f42)))
    (l42 : K.lookup f42 = some ⟨oc42, od42, .func (PySem.W.fnOf "_is_block" "_is_block" (defArgs sIsBlock) (defBody sIsBlock) (defScope sIsBlock) .none kV42 dc42 pm42 an42 cd42 ct42), sl42⟩)
    (g42 : PySem.W.codeIn K cd42 "_is_block" = true)
    (k42 : PySem.W.keepIn K (.ref f42) = true)
    (a45 : PySem.W.nsIn K mainGlobals "is_instruction" = some (some (.ref f45)))
    (l45 : K.lookup f45 = some ⟨oc45, od45, .func (PySem.W.fnOf "is_instruction" "is_instruction" (defArgs sInstr) (defBody sInstr) (defScope sInstr) .none kV45 dc45 pm45 an45 cd45 ct45), sl45⟩)
    (g45 : PySem.W.codeIn K cd45 "is_instruction" = true)
    (k45 : PySem.W.keepIn K (.ref f45) = true)
    (a48 : PySem.W.nsIn K mainGlobals "_are_arguments" = some (some (.ref f48)))
    (l48 : K.lookup f48 = some ⟨oc48, od48, .func (PySem.W.fnOf "_are_arguments" "_are_arguments" (defArgs sArgs) (defBody sArgs) (defScope sArgs) .none kV48 dc48 pm48 an48 cd48 ct48), sl48⟩)
    (g48 : PySem.W.codeIn K cd48 "_are_arguments" = true)
    (k48 : PySem.W.keepIn K (.ref f48) = true)
    (a49 : PySem.W.nsIn K mainGlobals "_checked_scope" = some (some (.ref f49)))
    (l49 : K.lookup f49 = some ⟨oc49, od49, .func (PySem.W.fnOf "_checked_scope" "_checked_scope" (defArgs sChecked) (defBody sChecked) (defScope sChecked) .none kV49 dc49 pm49 an49 cd49 ct49), sl49⟩)
    (g49 : PySem.W.codeIn K cd49 "_checked_scope" = true)
    (k49 : PySem.W.keepIn K (.ref f49) = true)
    (a52 : PySem.W.nsIn K mainGlobals "_law_tape" = some (some (.ref f52)))
    (l52 : K.lookup f52 = some ⟨oc52, od52, .func (PySem.W.fnOf "_law_tape" "_law_tape" (defArgs sTape) (defBody sTape) (defScope sTape) .none kV52 dc52 pm52 an52 cd52 ct52), sl52⟩)
    (g52 : PySem.W.codeIn K cd52 "_law_tape" = true)
    (k52 : PySem.W.keepIn K (.ref f52) = true)
    (a53 : PySem.W.nsIn K mainGlobals "_law_draw" = some (some (.ref f53)))
    (l53 : K.lookup f53 = some ⟨oc53, od53, .func (PySem.W.fnOf "_law_draw" "_law_draw" (defArgs sDraw) (defBody sDraw) (defScope sDraw) .none kV53 dc53 pm53 an53 cd53 ct53), sl53⟩)
    (g53 : PySem.W.codeIn K cd53 "_law_draw" = true)
    (k53 : PySem.W.keepIn K (.ref f53) = true)
    (a54 : PySem.W.nsIn K mainGlobals "_law_one" = some (some (.ref f54)))
    (l54 : K.lookup f54 = some ⟨oc54, od54, .func (PySem.W.fnOf "_law_one" "_law_one" (defArgs sOne) (defBody sOne) (defScope sOne) .none kV54 dc54 pm54 an54 cd54 ct54), sl54⟩)
    (g54 : PySem.W.codeIn K cd54 "_law_one" = true)
    (k54 : PySem.W.keepIn K (.ref f54) = true)
    (a55 : PySem.W.nsIn K mainGlobals "_law_expression" = some (some (.ref f55)))
    (l55 : K.lookup f55 = some ⟨oc55, od55, .func (PySem.W.fnOf "_law_expression" "_law_expression" (defArgs sLExpr) (defBody sLExpr) (defScope sLExpr) .none kV55 dc55 pm55 an55 cd55 ct55), sl55⟩)
    (g55 : PySem.W.codeIn K cd55 "_law_expression" = true)
    (k55 : PySem.W.keepIn K (.ref f55) = true)
    (a56 : PySem.W.nsIn K mainGlobals "_law_small" = some (some (.ref f56)))
    (l56 : K.lookup f56 = some ⟨oc56, od56, .func (PySem.W.fnOf "_law_small" "_law_small" (defArgs sSmall) (defBody sSmall) (defScope sSmall) .none kV56 dc56 pm56 an56 cd56 ct56), sl56⟩)
    (g56 : PySem.W.codeIn K cd56 "_law_small" = true)
    (k56 : PySem.W.keepIn K (.ref f56) = true)
    (a57 : PySem.W.nsIn K mainGlobals "_law_instruction" = some (some (.ref f57)))
    (l57 : K.lookup f57 = some ⟨oc57, od57, .func (PySem.W.fnOf "_law_instruction" "_law_instruction" (defArgs sLInstr) (defBody sLInstr) (defScope sLInstr) .none kV57 dc57 pm57 an57 cd57 ct57), sl57⟩)
    (g57 : PySem.W.codeIn K cd57 "_law_instruction" = true)
    (k57 : PySem.W.keepIn K (.ref f57) = true)
    (a58 : PySem.W.nsIn K mainGlobals "_law_plan" = some (some (.ref f58)))
    (l58 : K.lookup f58 = some ⟨oc58, od58, .func (PySem.W.fnOf "_law_plan" "_law_plan" (defArgs sLPlan) (defBody sLPlan) (defScope sLPlan) .none kV58 dc58 pm58 an58 cd58 ct58), sl58⟩)
    (g58 : PySem.W.codeIn K cd58 "_law_plan" = true)
    (k58 : PySem.W.keepIn K (.ref f58) = true)
    (a59 : PySem.W.nsIn K mainGlobals "_law_own" = some (some (.ref f59)))
    (l59 : K.lookup f59 = some ⟨oc59, od59, .func (PySem.W.fnOf "_law_own" "_law_own" (defArgs sOwn) (defBody sOwn) (defScope sOwn) .none kV59 dc59 pm59 an59 cd59 ct59), sl59⟩)
    (g59 : PySem.W.codeIn K cd59 "_law_own" = true)
    (k59 : PySem.W.keepIn K (.ref f59) = true)
    (a60 : PySem.W.nsIn K mainGlobals "_law_part" = some (some (.ref f60)))
    (l60 : K.lookup f60 = some ⟨oc60, od60, .func (PySem.W.fnOf "_law_part" "_law_part" (defArgs sPart) (defBody sPart) (defScope sPart) .none kV60 dc60 pm60 an60 cd60 ct60), sl60⟩)
    (g60 : PySem.W.codeIn K cd60 "_law_part" = true)
    (k60 : PySem.W.keepIn K (.ref f60) = true)
    (a61 : PySem.W.nsIn K mainGlobals "_law_wrong" = some (some (.ref f61)))
    (l61 : K.lookup f61 = some ⟨oc61, od61, .func (PySem.W.fnOf "_law_wrong" "_law_wrong" (defArgs sWrong) (defBody sWrong) (defScope sWrong) .none kV61 dc61 pm61 an61 cd61 ct61), sl61⟩)
    (g61 : PySem.W.codeIn K cd61 "_law_wrong" = true)
    (k61 : PySem.W.keepIn K (.ref f61) = true)
    (a62 : PySem.W.nsIn K mainGlobals "_law_blocks_right" = some (some (.ref f62)))
    (l62 : K.lookup f62 = some ⟨oc62, od62, .func (PySem.W.fnOf "_law_blocks_right" "_law_blocks_right" (defArgs sBlocks) (defBody sBlocks) (defScope sBlocks) .none kV62 dc62 pm62 an62 cd62 ct62), sl62⟩)
    (g62 : PySem.W.codeIn K cd62 "_law_blocks_right" = true)
    (k62 : PySem.W.keepIn K (.ref f62) = true)
    (a63 : PySem.W.nsIn K mainGlobals "law" = some (some (.ref f63)))
    (l63 : K.lookup f63 = some ⟨oc63, od63, .func (PySem.W.fnOf "law" "law" (defArgs sLaw) (defBody sLaw) (defScope sLaw) .none kV63 dc63 pm63 an63 cd63 ct63), sl63⟩)
    (g63 : PySem.W.codeIn K cd63 "law" = true)
    (k63 : PySem.W.keepIn K (.ref f63) = true)
    (a20 : PySem.W.nsIn K mainGlobals "is_expression" = some (some (.ref f20)))
    (l20 : K.lookup f20 = some ⟨oc20, od20, .func (PySem.W.fnOf "is_expression" "is_expression" (defArgs sExpr) (defBody sExpr) (defScope sExpr) (.ref T20) kV20 dc20 pm20 an20 cd20 ct20), sl20⟩)
    (g20 : PySem.W.codeIn K cd20 "is_expression" = true)
    (k20 : PySem.W.keepIn K (.ref f20) = true)
    (t20 : K.lookup T20 = some ⟨ocT20, odT20, .seq itT20 nT20, slT20⟩)
    (u20 : itT20.toList = [.int 6 tkE6])
    (ac28 : PySem.W.nsIn K mainGlobals "Scope" = some (some (.ref C28)))
    (pg28 : PySem.W.plainGet K C28 Str.empty = true)
    (hd28 : PySem.W.hasDictIn K C28 = true)
    (po28 : PySem.W.plainOver K C28 = true)
    (sa28 : PySem.W.findIn K (.ref C28) "__setattr__" = some (some (.builtin "object.__setattr__")))
    (kc28 : PySem.W.keepIn K (.ref C28) = true)
    (mk28 : PySem.W.makesIn K C28 = true)
    (no28_given : PySem.W.findIn K (.ref C28) "given" = some none)
    (no28_named : PySem.W.findIn K (.ref C28) "named" = some none)
    (no28_called : PySem.W.findIn K (.ref C28) "called" = some none)
    (no28_ends : PySem.W.findIn K (.ref C28) "ends" = some none)
    (no28_room : PySem.W.findIn K (.ref C28) "room" = some none)
    (am28_0 : PySem.W.findIn K (.ref C28) "__init__" = some (some (.ref f28_0)))
    (l28_0 : K.lookup f28_0 = some ⟨oc28_0, od28_0, .func (PySem.W.fnOf "__init__" "Scope.__init__" (defArgs sScInit) (defBody sScInit) (defScope sScInit) .none kV28_0 dc28_0 pm28_0 an28_0 cd28_0 ct28_0), sl28_0⟩)
    (g28_0 : PySem.W.codeIn K cd28_0 "Scope.__init__" = true)
    (k28_0 : PySem.W.keepIn K (.ref f28_0) = true)
    (nm28_0 : PySem.W.isFn K (.ref f28_0) = true)
    (am28_1 : PySem.W.findIn K (.ref C28) "enter" = some (some (.ref f28_1)))
    (l28_1 : K.lookup f28_1 = some ⟨oc28_1, od28_1, .func (PySem.W.fnOf "enter" "Scope.enter" (defArgs sEnter) (defBody sEnter) (defScope sEnter) .none kV28_1 dc28_1 pm28_1 an28_1 cd28_1 ct28_1), sl28_1⟩)
    (g28_1 : PySem.W.codeIn K cd28_1 "Scope.enter" = true)
    (k28_1 : PySem.W.keepIn K (.ref f28_1) = true)
    (nm28_1 : PySem.W.isFn K (.ref f28_1) = true)
    (am28_2 : PySem.W.findIn K (.ref C28) "leave" = some (some (.ref f28_2)))
    (l28_2 : K.lookup f28_2 = some ⟨oc28_2, od28_2, .func (PySem.W.fnOf "leave" "Scope.leave" (defArgs sLeave) (defBody sLeave) (defScope sLeave) .none kV28_2 dc28_2 pm28_2 an28_2 cd28_2 ct28_2), sl28_2⟩)
    (g28_2 : PySem.W.codeIn K cd28_2 "Scope.leave" = true)
    (k28_2 : PySem.W.keepIn K (.ref f28_2) = true)
    (nm28_2 : PySem.W.isFn K (.ref f28_2) = true)
    (ac50 : PySem.W.nsIn K mainGlobals "Plan" = some (some (.ref C50)))
    (pg50 : PySem.W.plainGet K C50 Str.empty = true)
    (hd50 : PySem.W.hasDictIn K C50 = true)
    (po50 : PySem.W.plainOver K C50 = true)
    (sa50 : PySem.W.findIn K (.ref C50) "__setattr__" = some (some (.builtin "object.__setattr__")))
    (kc50 : PySem.W.keepIn K (.ref C50) = true)
    (mk50 : PySem.W.makesIn K C50 = true)
    (no50__arguments : PySem.W.findIn K (.ref C50) "_arguments" = some none)
    (no50__body : PySem.W.findIn K (.ref C50) "_body" = some none)
    (no50__result : PySem.W.findIn K (.ref C50) "_result" = some none)
    (no50__must_finish : PySem.W.findIn K (.ref C50) "_must_finish" = some none)
    (am50_0 : PySem.W.findIn K (.ref C50) "__init__" = some (some (.ref f50_0)))
    (l50_0 : K.lookup f50_0 = some ⟨oc50_0, od50_0, .func (PySem.W.fnOf "__init__" "Plan.__init__" (defArgs sPlInit) (defBody sPlInit) (defScope sPlInit) .none (.ref KD50_0) dc50_0 pm50_0 an50_0 cd50_0 ct50_0), sl50_0⟩)
    (g50_0 : PySem.W.codeIn K cd50_0 "Plan.__init__" = true)
    (k50_0 : PySem.W.keepIn K (.ref f50_0) = true)
    (nm50_0 : PySem.W.isFn K (.ref f50_0) = true)
    (kd50_0_must_finish : PySem.W.nsIn K KD50_0 "must_finish" = some (some (.bool false)))
    (y_te : PySem.W.exmOne K (.ref C3) (.ref C3) = some true)
    (y_w : PySem.W.kitOne K (.ref C3) (.ref W0) = some true)
    (y_v : PySem.W.kitOne K (.ref C3) (.type "ValueError") = some true)
    (y_n : PySem.W.findIn K (.ref C3) "part" = some none)
    (z_all : PySem.W.nsIn K mainGlobals "all" = some none)
    (z_len : PySem.W.nsIn K mainGlobals "len" = some none)
    (z_int : PySem.W.nsIn K mainGlobals "int" = some none)
    (z_bool : PySem.W.nsIn K mainGlobals "bool" = some none)
    (z_isinstance : PySem.W.nsIn K mainGlobals "isinstance" = some none)
    (z_str : PySem.W.nsIn K mainGlobals "str" = some none)
    (z_tuple : PySem.W.nsIn K mainGlobals "tuple" = some none)
    (z_list : PySem.W.nsIn K mainGlobals "list" = some none)
    (z_set : PySem.W.nsIn K mainGlobals "set" = some none)
    (z_min : PySem.W.nsIn K mainGlobals "min" = some none)
    (z_enumerate : PySem.W.nsIn K mainGlobals "enumerate" = some none)
    (z_range : PySem.W.nsIn K mainGlobals "range" = some none)
    (z_sorted : PySem.W.nsIn K mainGlobals "sorted" = some none)
    (z_dict : PySem.W.nsIn K mainGlobals "dict" = some none)
    (z_repr : PySem.W.nsIn K mainGlobals "repr" = some none)
    (z_ValueError : PySem.W.nsIn K mainGlobals "ValueError" = some none)
    (c_LETTERS : PySem.W.nsIn K mainGlobals "LETTERS" = some (some (.str sLetters tk_LETTERS)))
    (c_CAPITALS : PySem.W.nsIn K mainGlobals "CAPITALS" = some (some (.str sCapitals tk_CAPITALS)))
    (c_DIGITS : PySem.W.nsIn K mainGlobals "DIGITS" = some (some (.str sDigits tk_DIGITS)))
    (c_MODULUS : PySem.W.nsIn K mainGlobals "MODULUS" = some (some (.int 1000000007 tk_MODULUS)))
    (c_MOST_ARGUMENTS : PySem.W.nsIn K mainGlobals "MOST_ARGUMENTS" = some (some (.int 3 tk_MOST_ARGUMENTS)))
    (c_MOST_INSTRUCTIONS : PySem.W.nsIn K mainGlobals "MOST_INSTRUCTIONS" = some (some (.int 24 tk_MOST_INSTRUCTIONS)))
    (c_MOST_EXPRESSIONS : PySem.W.nsIn K mainGlobals "MOST_EXPRESSIONS" = some (some (.int 3 tk_MOST_EXPRESSIONS)))
    (c_MOST_VARIABLES : PySem.W.nsIn K mainGlobals "MOST_VARIABLES" = some (some (.int 6 tk_MOST_VARIABLES)))
    (c_HIGHEST_COST : PySem.W.nsIn K mainGlobals "HIGHEST_COST" = some (some (.int 1000 tk_HIGHEST_COST)))
    (qa_OPERATIONS : PySem.W.nsIn K mainGlobals "OPERATIONS" = some (some (.ref q_OPERATIONS)))
    (ql_OPERATIONS : K.lookup q_OPERATIONS = some ⟨.type "tuple", oq_OPERATIONS, .seq iq_OPERATIONS nq_OPERATIONS, sq_OPERATIONS⟩)
    (qi_OPERATIONS : iq_OPERATIONS.toList = [.str "plus" tq_OPERATIONS_0, .str "minus" tq_OPERATIONS_1, .str "times" tq_OPERATIONS_2, .str "less" tq_OPERATIONS_3, .str "same" tq_OPERATIONS_4])
    (qa_QUESTIONS : PySem.W.nsIn K mainGlobals "QUESTIONS" = some (some (.ref q_QUESTIONS)))
    (ql_QUESTIONS : K.lookup q_QUESTIONS = some ⟨.type "tuple", oq_QUESTIONS, .seq iq_QUESTIONS nq_QUESTIONS, sq_QUESTIONS⟩)
    (qi_QUESTIONS : iq_QUESTIONS.toList = [.str "known" tq_QUESTIONS_0, .str "reason" tq_QUESTIONS_1])
    (qa_BLOCKS : PySem.W.nsIn K mainGlobals "BLOCKS" = some (some (.ref q_BLOCKS)))
    (ql_BLOCKS : K.lookup q_BLOCKS = some ⟨.type "tuple", oq_BLOCKS, .seq iq_BLOCKS nq_BLOCKS, sq_BLOCKS⟩)
    (qi_BLOCKS : iq_BLOCKS.toList = [.str "if" tq_BLOCKS_0, .str "while" tq_BLOCKS_1])
    (da_SIZES : PySem.W.nsIn K mainGlobals "SIZES" = some (some (.ref d_SIZES)))
    (dl_SIZES : K.lookup d_SIZES = some ⟨.type "dict", none, .dict es_SIZES ep_SIZES, #[]⟩)
    (dk_SIZES : PySem.W.KeysLit w.params es_SIZES.toList)
    (dv_SIZES_work : PySem.W.nsIn K d_SIZES "work" = some (some (.int 2 td_SIZES_work)))
    (dv_SIZES_set : PySem.W.nsIn K d_SIZES "set" = some (some (.int 3 td_SIZES_set)))
    (dv_SIZES_fail : PySem.W.nsIn K d_SIZES "fail" = some (some (.int 2 td_SIZES_fail)))
    (dv_SIZES_call : PySem.W.nsIn K d_SIZES "call" = some (some (.int 4 td_SIZES_call)))
    (dv_SIZES_wait : PySem.W.nsIn K d_SIZES "wait" = some (some (.int 3 td_SIZES_wait)))
    (dv_SIZES_catch : PySem.W.nsIn K d_SIZES "catch" = some (some (.int 2 td_SIZES_catch)))
    (dv_SIZES_drop : PySem.W.nsIn K d_SIZES "drop" = some (some (.int 2 td_SIZES_drop)))
    (dv_SIZES_effect : PySem.W.nsIn K d_SIZES "effect" = some (some (.int 2 td_SIZES_effect)))
    (dv_SIZES_if : PySem.W.nsIn K d_SIZES "if" = some (some (.int 3 td_SIZES_if)))
    (dv_SIZES_while : PySem.W.nsIn K d_SIZES "while" = some (some (.int 3 td_SIZES_while)))
    (dm_SIZES : es_SIZES.toList.map (fun en => match en.key with | .str x _ => some x | _ => none) = [some ("work" : Str), some ("set" : Str), some ("fail" : Str), some ("call" : Str), some ("wait" : Str), some ("catch" : Str), some ("drop" : Str), some ("effect" : Str), some ("if" : Str), some ("while" : Str)])
    (dn_SIZES : (d_SIZES == sysModules) = false)
    (da_CHECKS : PySem.W.nsIn K mainGlobals "CHECKS" = some (some (.ref d_CHECKS)))
    (dl_CHECKS : K.lookup d_CHECKS = some ⟨.type "dict", none, .dict es_CHECKS ep_CHECKS, #[]⟩)
    (dk_CHECKS : PySem.W.KeysLit w.params es_CHECKS.toList)
    (dv_CHECKS_work : PySem.W.nsIn K d_CHECKS "work" = some (some (.ref f34)))
    (dv_CHECKS_set : PySem.W.nsIn K d_CHECKS "set" = some (some (.ref f35)))
    (dv_CHECKS_fail : PySem.W.nsIn K d_CHECKS "fail" = some (some (.ref f36)))
    (dv_CHECKS_call : PySem.W.nsIn K d_CHECKS "call" = some (some (.ref f37)))
    (dv_CHECKS_wait : PySem.W.nsIn K d_CHECKS "wait" = some (some (.ref f38)))
    (dv_CHECKS_catch : PySem.W.nsIn K d_CHECKS "catch" = some (some (.ref f39)))
    (dv_CHECKS_drop : PySem.W.nsIn K d_CHECKS "drop" = some (some (.ref f40)))
    (dv_CHECKS_effect : PySem.W.nsIn K d_CHECKS "effect" = some (some (.ref f41)))
    (dv_CHECKS_if : PySem.W.nsIn K d_CHECKS "if" = some (some (.ref f42)))
    (dv_CHECKS_while : PySem.W.nsIn K d_CHECKS "while" = some (some (.ref f42)))
    (dm_CHECKS : es_CHECKS.toList.map (fun en => match en.key with | .str x _ => some x | _ => none) = [some ("work" : Str), some ("set" : Str), some ("fail" : Str), some ("call" : Str), some ("wait" : Str), some ("catch" : Str), some ("drop" : Str), some ("effect" : Str), some ("if" : Str), some ("while" : Str)])
    (dn_CHECKS : (d_CHECKS == sysModules) = false)
    : ∃ fd : FuncData, (∀ (s : Shared) (v : Value), BindsTo s fd ⟨[v], []⟩ [("_law_script", v)]) ∧ ∀ base : Heap, K.In base → base.Ns mainGlobals mg → (∃ o, base.get? sysModules = some o) → FnG l.prog w K mg base 23 fa fd ["_law_script"] (spLaw K) := by
  have e := hfa.symm.trans (PySem.W.mg_of X G a63)
  cases e
  have F3_0 := fun_mk (st := sInitE) l3_0 g3_0 k3_0
  have ER3 : ErC K C3 "ValueError" "ValueError.__new__" veT := ⟨isn3, ovr3, sa3, hd3, kc3, ga3, gg3, ex3, ca3, cn, ctk, mo3, by decide +kernel⟩
  have BI3 : Binds K (PySem.W.fnOf "__init__" "InvalidPlan.__init__" (defArgs sInitE) (defBody sInitE) (defScope sInitE) .none kV3_0 dc3_0 pm3_0 an3_0 cd3_0 ct3_0) ["self", "part"] [] := F3_0.binds fun _ _ _ _ _ _ us hl => match us, hl with | [_, _], _ => rfl
  have EX0 : ErX K mg C3 W0 f3_0 _ := ⟨ER3, ty3, PySem.W.mg_of X G ac3, i3, t3_0, F3_0, BI3, ht3, ⟨PySem.W.mg_of X G aW, spW, rdW, fcW⟩⟩
  have F10 := fun_mk (st := sMadeOf) l10 g10 k10
  have D10 : DefX K mg "is_made_of" sMadeOf ["text", "allowed"] f10 (PySem.W.fnOf "is_made_of" "is_made_of" (defArgs sMadeOf) (defBody sMadeOf) (defScope sMadeOf) .none kV10 dc10 pm10 an10 cd10 ct10) := ⟨PySem.W.mg_of X G a10, F10, F10.binds fun _ _ _ _ _ _ us hl => match us, hl with | [_, _], _ => rfl⟩
  have F11 := fun_mk (st := sInteger) l11 g11 k11
  have D11 : DefX K mg "is_integer" sInteger ["value", "low", "high"] f11 (PySem.W.fnOf "is_integer" "is_integer" (defArgs sInteger) (defBody sInteger) (defScope sInteger) .none kV11 dc11 pm11 an11 cd11 ct11) := ⟨PySem.W.mg_of X G a11, F11, F11.binds fun _ _ _ _ _ _ us hl => match us, hl with | [_, _, _], _ => rfl⟩
  have F12 := fun_mk (st := sNumber) l12 g12 k12
  have D12 : DefX K mg "is_number" sNumber ["value"] f12 (PySem.W.fnOf "is_number" "is_number" (defArgs sNumber) (defBody sNumber) (defScope sNumber) .none kV12 dc12 pm12 an12 cd12 ct12) := ⟨PySem.W.mg_of X G a12, F12, F12.binds fun _ _ _ _ _ _ us hl => match us, hl with | [_], _ => rfl⟩
  have F13 := fun_mk (st := sWord) l13 g13 k13
  have D13 : DefX K mg "is_word" sWord ["value"] f13 (PySem.W.fnOf "is_word" "is_word" (defArgs sWord) (defBody sWord) (defScope sWord) .none kV13 dc13 pm13 an13 cd13 ct13) := ⟨PySem.W.mg_of X G a13, F13, F13.binds fun _ _ _ _ _ _ us hl => match us, hl with | [_], _ => rfl⟩
  have F14 := fun_mk (st := sEffect) l14 g14 k14
  have D14 : DefX K mg "is_effect" sEffect ["value"] f14 (PySem.W.fnOf "is_effect" "is_effect" (defArgs sEffect) (defBody sEffect) (defScope sEffect) .none kV14 dc14 pm14 an14 cd14 ct14) := ⟨PySem.W.mg_of X G a14, F14, F14.binds fun _ _ _ _ _ _ us hl => match us, hl with | [_], _ => rfl⟩
  have F15 := fun_mk (st := sNameOf) l15 g15 k15
  have D15 : DefX K mg "name_of" sNameOf ["value"] f15 (PySem.W.fnOf "name_of" "name_of" (defArgs sNameOf) (defBody sNameOf) (defScope sNameOf) .none kV15 dc15 pm15 an15 cd15 ct15) := ⟨PySem.W.mg_of X G a15, F15, F15.binds fun _ _ _ _ _ _ us hl => match us, hl with | [_], _ => rfl⟩
  have F21 := fun_mk (st := sQues) l21 g21 k21
  have D21 : DefX K mg "_is_question" sQues ["value", "variables"] f21 (PySem.W.fnOf "_is_question" "_is_question" (defArgs sQues) (defBody sQues) (defScope sQues) .none kV21 dc21 pm21 an21 cd21 ct21) := ⟨PySem.W.mg_of X G a21, F21, F21.binds fun _ _ _ _ _ _ us hl => match us, hl with | [_, _], _ => rfl⟩
  have F22 := fun_mk (st := sOper) l22 g22 k22
  have D22 : DefX K mg "_is_operation" sOper ["value", "arguments", "variables", "deepest"] f22 (PySem.W.fnOf "_is_operation" "_is_operation" (defArgs sOper) (defBody sOper) (defScope sOper) .none kV22 dc22 pm22 an22 cd22 ct22) := ⟨PySem.W.mg_of X G a22, F22, F22.binds fun _ _ _ _ _ _ us hl => match us, hl with | [_, _, _, _], _ => rfl⟩
  have F29 := fun_mk (st := sEnd) l29 g29 k29
  have D29 : DefX K mg "end_of_block" sEnd ["instruction", "at"] f29 (PySem.W.fnOf "end_of_block" "end_of_block" (defArgs sEnd) (defBody sEnd) (defScope sEnd) .none kV29 dc29 pm29 an29 cd29 ct29) := ⟨PySem.W.mg_of X G a29, F29, F29.binds fun _ _ _ _ _ _ us hl => match us, hl with | [_, _], _ => rfl⟩
  have F30 := fun_mk (st := sVar) l30 g30 k30
  have D30 : DefX K mg "_is_variable" sVar ["value", "scope"] f30 (PySem.W.fnOf "_is_variable" "_is_variable" (defArgs sVar) (defBody sVar) (defScope sVar) .none kV30 dc30 pm30 an30 cd30 ct30) := ⟨PySem.W.mg_of X G a30, F30, F30.binds fun _ _ _ _ _ _ us hl => match us, hl with | [_, _], _ => rfl⟩
  have F31 := fun_mk (st := sCalled) l31 g31 k31
  have D31 : DefX K mg "_is_called" sCalled ["value", "scope"] f31 (PySem.W.fnOf "_is_called" "_is_called" (defArgs sCalled) (defBody sCalled) (defScope sCalled) .none kV31 dc31 pm31 an31 cd31 ct31) := ⟨PySem.W.mg_of X G a31, F31, F31.binds fun _ _ _ _ _ _ us hl => match us, hl with | [_, _], _ => rfl⟩
  have F32 := fun_mk (st := sAreCalled) l32 g32 k32
  have D32 : DefX K mg "_are_called" sAreCalled ["value", "scope"] f32 (PySem.W.fnOf "_are_called" "_are_called" (defArgs sAreCalled) (defBody sAreCalled) (defScope sAreCalled) .none kV32 dc32 pm32 an32 cd32 ct32) := ⟨PySem.W.mg_of X G a32, F32, F32.binds fun _ _ _ _ _ _ us hl => match us, hl with | [_, _], _ => rfl⟩
  have F33 := fun_mk (st := sWorth) l33 g33 k33
  have D33 : DefX K mg "_is_worth" sWorth ["value", "scope"] f33 (PySem.W.fnOf "_is_worth" "_is_worth" (defArgs sWorth) (defBody sWorth) (defScope sWorth) .none kV33 dc33 pm33 an33 cd33 ct33) := ⟨PySem.W.mg_of X G a33, F33, F33.binds fun _ _ _ _ _ _ us hl => match us, hl with | [_, _], _ => rfl⟩
  have F34 := fun_mk (st := sIsWork) l34 g34 k34
  have D34 : DefX K mg "_is_work" sIsWork ["instruction", "scope"] f34 (PySem.W.fnOf "_is_work" "_is_work" (defArgs sIsWork) (defBody sIsWork) (defScope sIsWork) .none kV34 dc34 pm34 an34 cd34 ct34) := ⟨PySem.W.mg_of X G a34, F34, F34.binds fun _ _ _ _ _ _ us hl => match us, hl with | [_, _], _ => rfl⟩
  have F35 := fun_mk (st := sIsSet) l35 g35 k35
  have D35 : DefX K mg "_is_set" sIsSet ["instruction", "scope"] f35 (PySem.W.fnOf "_is_set" "_is_set" (defArgs sIsSet) (defBody sIsSet) (defScope sIsSet) .none kV35 dc35 pm35 an35 cd35 ct35) := ⟨PySem.W.mg_of X G a35, F35, F35.binds fun _ _ _ _ _ _ us hl => match us, hl with | [_, _], _ => rfl⟩
  have F36 := fun_mk (st := sIsFail) l36 g36 k36
  have D36 : DefX K mg "_is_fail" sIsFail ["instruction", "scope"] f36 (PySem.W.fnOf "_is_fail" "_is_fail" (defArgs sIsFail) (defBody sIsFail) (defScope sIsFail) .none kV36 dc36 pm36 an36 cd36 ct36) := ⟨PySem.W.mg_of X G a36, F36, F36.binds fun _ _ _ _ _ _ us hl => match us, hl with | [_, _], _ => rfl⟩
  have F37 := fun_mk (st := sIsCall) l37 g37 k37
  have D37 : DefX K mg "_is_call" sIsCall ["instruction", "scope"] f37 (PySem.W.fnOf "_is_call" "_is_call" (defArgs sIsCall) (defBody sIsCall) (defScope sIsCall) .none kV37 dc37 pm37 an37 cd37 ct37) := ⟨PySem.W.mg_of X G a37, F37, F37.binds fun _ _ _ _ _ _ us hl => match us, hl with | [_, _], _ => rfl⟩
  have F38 := fun_mk (st := sIsWait) l38 g38 k38
  have D38 : DefX K mg "_is_wait" sIsWait ["instruction", "scope"] f38 (PySem.W.fnOf "_is_wait" "_is_wait" (defArgs sIsWait) (defBody sIsWait) (defScope sIsWait) .none kV38 dc38 pm38 an38 cd38 ct38) := ⟨PySem.W.mg_of X G a38, F38, F38.binds fun _ _ _ _ _ _ us hl => match us, hl with | [_, _], _ => rfl⟩
  have F39 := fun_mk (st := sIsCatch) l39 g39 k39
  have D39 : DefX K mg "_is_catch" sIsCatch ["instruction", "scope"] f39 (PySem.W.fnOf "_is_catch" "_is_catch" (defArgs sIsCatch) (defBody sIsCatch) (defScope sIsCatch) .none kV39 dc39 pm39 an39 cd39 ct39) := ⟨PySem.W.mg_of X G a39, F39, F39.binds fun _ _ _ _ _ _ us hl => match us, hl with | [_, _], _ => rfl⟩
  have F40 := fun_mk (st := sIsDrop) l40 g40 k40
  have D40 : DefX K mg "_is_drop" sIsDrop ["instruction", "scope"] f40 (PySem.W.fnOf "_is_drop" "_is_drop" (defArgs sIsDrop) (defBody sIsDrop) (defScope sIsDrop) .none kV40 dc40 pm40 an40 cd40 ct40) := ⟨PySem.W.mg_of X G a40, F40, F40.binds fun _ _ _ _ _ _ us hl => match us, hl with | [_, _], _ => rfl⟩
  have F41 := fun_mk (st := sIsSay) l41 g41 k41
  have D41 : DefX K mg "_is_say" sIsSay ["instruction", "scope"] f41 (PySem.W.fnOf "_is_say" "_is_say" (defArgs sIsSay) (defBody sIsSay) (defScope sIsSay) .none kV41 dc41 pm41 an41 cd41 ct41) := ⟨PySem.W.mg_of X G a41, F41, F41.binds fun _ _ _ _ _ _ us hl => match us, hl with | [_, _], _ => rfl⟩
  have F42 := fun_mk (st := sIsBlock) l42 g42 k42
  have D42 : DefX K mg "_is_block" sIsBlock ["instruction", "scope"] f42 (PySem.W.fnOf "_is_block" "_is_block" (defArgs sIsBlock) (defBody sIsBlock) (defScope sIsBlock) .none kV42 dc42 pm42 an42 cd42 ct42) := ⟨PySem.W.mg_of X G a42, F42, F42.binds fun _ _ _ _ _ _ us hl => match us, hl with | [_, _], _ => rfl⟩
  have F45 := fun_mk (st := sInstr) l45 g45 k45
  have D45 : DefX K mg "is_instruction" sInstr ["value", "scope"] f45 (PySem.W.fnOf "is_instruction" "is_instruction" (defArgs sInstr) (defBody sInstr) (defScope sInstr) .none kV45 dc45 pm45 an45 cd45 ct45) := ⟨PySem.W.mg_of X G a45, F45, F45.binds fun _ _ _ _ _ _ us hl => match us, hl with | [_, _], _ => rfl⟩
  have F48 := fun_mk (st := sArgs) l48 g48 k48
  have D48 : DefX K mg "_are_arguments" sArgs ["value"] f48 (PySem.W.fnOf "_are_arguments" "_are_arguments" (defArgs sArgs) (defBody sArgs) (defScope sArgs) .none kV48 dc48 pm48 an48 cd48 ct48) := ⟨PySem.W.mg_of X G a48, F48, F48.binds fun _ _ _ _ _ _ us hl => match us, hl with | [_], _ => rfl⟩
  have F49 := fun_mk (st := sChecked) l49 g49 k49
  have D49 : DefX K mg "_checked_scope" sChecked ["arguments", "body"] f49 (PySem.W.fnOf "_checked_scope" "_checked_scope" (defArgs sChecked) (defBody sChecked) (defScope sChecked) .none kV49 dc49 pm49 an49 cd49 ct49) := ⟨PySem.W.mg_of X G a49, F49, F49.binds fun _ _ _ _ _ _ us hl => match us, hl with | [_, _], _ => rfl⟩
  have F52 := fun_mk (st := sTape) l52 g52 k52
  have D52 : DefX K mg "_law_tape" sTape ["_law_script"] f52 (PySem.W.fnOf "_law_tape" "_law_tape" (defArgs sTape) (defBody sTape) (defScope sTape) .none kV52 dc52 pm52 an52 cd52 ct52) := ⟨PySem.W.mg_of X G a52, F52, F52.binds fun _ _ _ _ _ _ us hl => match us, hl with | [_], _ => rfl⟩
  have F53 := fun_mk (st := sDraw) l53 g53 k53
  have D53 : DefX K mg "_law_draw" sDraw ["_law_tape_here", "_law_many"] f53 (PySem.W.fnOf "_law_draw" "_law_draw" (defArgs sDraw) (defBody sDraw) (defScope sDraw) .none kV53 dc53 pm53 an53 cd53 ct53) := ⟨PySem.W.mg_of X G a53, F53, F53.binds fun _ _ _ _ _ _ us hl => match us, hl with | [_, _], _ => rfl⟩
  have F54 := fun_mk (st := sOne) l54 g54 k54
  have D54 : DefX K mg "_law_one" sOne ["_law_tape_here", "_law_some"] f54 (PySem.W.fnOf "_law_one" "_law_one" (defArgs sOne) (defBody sOne) (defScope sOne) .none kV54 dc54 pm54 an54 cd54 ct54) := ⟨PySem.W.mg_of X G a54, F54, F54.binds fun _ _ _ _ _ _ us hl => match us, hl with | [_, _], _ => rfl⟩
  have F55 := fun_mk (st := sLExpr) l55 g55 k55
  have D55 : DefX K mg "_law_expression" sLExpr ["_law_tape_here", "_law_scope"] f55 (PySem.W.fnOf "_law_expression" "_law_expression" (defArgs sLExpr) (defBody sLExpr) (defScope sLExpr) .none kV55 dc55 pm55 an55 cd55 ct55) := ⟨PySem.W.mg_of X G a55, F55, F55.binds fun _ _ _ _ _ _ us hl => match us, hl with | [_, _], _ => rfl⟩
  have F56 := fun_mk (st := sSmall) l56 g56 k56
  have D56 : DefX K mg "_law_small" sSmall ["_law_tape_here", "_law_scope"] f56 (PySem.W.fnOf "_law_small" "_law_small" (defArgs sSmall) (defBody sSmall) (defScope sSmall) .none kV56 dc56 pm56 an56 cd56 ct56) := ⟨PySem.W.mg_of X G a56, F56, F56.binds fun _ _ _ _ _ _ us hl => match us, hl with | [_, _], _ => rfl⟩
  have F57 := fun_mk (st := sLInstr) l57 g57 k57
  have D57 : DefX K mg "_law_instruction" sLInstr ["_law_tape_here", "_law_scope"] f57 (PySem.W.fnOf "_law_instruction" "_law_instruction" (defArgs sLInstr) (defBody sLInstr) (defScope sLInstr) .none kV57 dc57 pm57 an57 cd57 ct57) := ⟨PySem.W.mg_of X G a57, F57, F57.binds fun _ _ _ _ _ _ us hl => match us, hl with | [_, _], _ => rfl⟩
  have F58 := fun_mk (st := sLPlan) l58 g58 k58
  have D58 : DefX K mg "_law_plan" sLPlan ["_law_tape_here", "_law_many", "_law_name", "_law_sure"] f58 (PySem.W.fnOf "_law_plan" "_law_plan" (defArgs sLPlan) (defBody sLPlan) (defScope sLPlan) .none kV58 dc58 pm58 an58 cd58 ct58) := ⟨PySem.W.mg_of X G a58, F58, F58.binds fun _ _ _ _ _ _ us hl => match us, hl with | [_, _, _, _], _ => rfl⟩
  have F59 := fun_mk (st := sOwn) l59 g59 k59
  have D59 : DefX K mg "_law_own" sOwn ["_law_tape_here", "_law_sure"] f59 (PySem.W.fnOf "_law_own" "_law_own" (defArgs sOwn) (defBody sOwn) (defScope sOwn) .none kV59 dc59 pm59 an59 cd59 ct59) := ⟨PySem.W.mg_of X G a59, F59, F59.binds fun _ _ _ _ _ _ us hl => match us, hl with | [_, _], _ => rfl⟩
  have F60 := fun_mk (st := sPart) l60 g60 k60
  have D60 : DefX K mg "_law_part" sPart ["_law_given", "_law_body", "_law_result", "_law_must"] f60 (PySem.W.fnOf "_law_part" "_law_part" (defArgs sPart) (defBody sPart) (defScope sPart) .none kV60 dc60 pm60 an60 cd60 ct60) := ⟨PySem.W.mg_of X G a60, F60, F60.binds fun _ _ _ _ _ _ us hl => match us, hl with | [_, _, _, _], _ => rfl⟩
  have F61 := fun_mk (st := sWrong) l61 g61 k61
  have D61 : DefX K mg "_law_wrong" sWrong [] f61 (PySem.W.fnOf "_law_wrong" "_law_wrong" (defArgs sWrong) (defBody sWrong) (defScope sWrong) .none kV61 dc61 pm61 an61 cd61 ct61) := ⟨PySem.W.mg_of X G a61, F61, F61.binds fun _ _ _ _ _ _ us hl => match us, hl with | [], _ => rfl⟩
  have F62 := fun_mk (st := sBlocks) l62 g62 k62
  have D62 : DefX K mg "_law_blocks_right" sBlocks [] f62 (PySem.W.fnOf "_law_blocks_right" "_law_blocks_right" (defArgs sBlocks) (defBody sBlocks) (defScope sBlocks) .none kV62 dc62 pm62 an62 cd62 ct62) := ⟨PySem.W.mg_of X G a62, F62, F62.binds fun _ _ _ _ _ _ us hl => match us, hl with | [], _ => rfl⟩
  have F63 := fun_mk (st := sLaw) l63 g63 k63
  have FD20 : FunD K "is_expression" "is_expression" (defArgs sExpr) (defBody sExpr) (defScope sExpr) [.int 6] [] f20 (PySem.W.fnOf "is_expression" "is_expression" (defArgs sExpr) (defBody sExpr) (defScope sExpr) (.ref T20) kV20 dc20 pm20 an20 cd20 ct20) := ⟨⟨oc20, od20, _, kV20, dc20, pm20, an20, cd20, ct20, sl20, rfl, l20, g20, .inr ⟨by simp, T20, _, itT20.toList, nT20, rfl, t20, by rw [Array.toArray_toList], by rw [u20]; exact (.cons ⟨_, rfl⟩ .nil)⟩, .inl rfl⟩, k20⟩
  have EXX : ExprX K mg f20 _ := ⟨PySem.W.mg_of X G a20, FD20, by
    obtain ⟨ds, v, b⟩ := (FD20.binds1 (ps := ["value", "arguments", "variables", "deepest"]) 4 1 (by simp) rfl fun _ _ _ _ _ _ _ us its h1 h2 => match us, its, h1, h2 with | [_, _, _, _], [_], _, _ => ⟨_, rfl, rfl⟩)
    cases v
    exact b, (FD20.binds1 (ps := ["value", "arguments", "variables", "deepest"]) 3 0 (by simp) rfl fun _ _ _ _ _ _ _ us its h1 h2 => match us, its, h1, h2 with | [_, _, _], [_], _, _ => ⟨_, rfl, rfl⟩)⟩
  have cl28 : Cls K C28 := ⟨pg28, hd28, po28, sa28⟩
  have F28_0 := fun_mk (st := sScInit) l28_0 g28_0 k28_0
  have M28_0 : MethX K C28 "__init__" "Scope.__init__" sScInit ["self", "arguments", "length"] f28_0 (PySem.W.fnOf "__init__" "Scope.__init__" (defArgs sScInit) (defBody sScInit) (defScope sScInit) .none kV28_0 dc28_0 pm28_0 an28_0 cd28_0 ct28_0) := ⟨⟨am28_0, nm28_0, k28_0⟩, F28_0, F28_0.binds fun _ _ _ _ _ _ us hl => match us, hl with | [_, _, _], _ => rfl⟩
  have F28_1 := fun_mk (st := sEnter) l28_1 g28_1 k28_1
  have M28_1 : MethX K C28 "enter" "Scope.enter" sEnter ["self", "at"] f28_1 (PySem.W.fnOf "enter" "Scope.enter" (defArgs sEnter) (defBody sEnter) (defScope sEnter) .none kV28_1 dc28_1 pm28_1 an28_1 cd28_1 ct28_1) := ⟨⟨am28_1, nm28_1, k28_1⟩, F28_1, F28_1.binds fun _ _ _ _ _ _ us hl => match us, hl with | [_, _], _ => rfl⟩
  have F28_2 := fun_mk (st := sLeave) l28_2 g28_2 k28_2
  have M28_2 : MethX K C28 "leave" "Scope.leave" sLeave ["self", "at", "instruction"] f28_2 (PySem.W.fnOf "leave" "Scope.leave" (defArgs sLeave) (defBody sLeave) (defScope sLeave) .none kV28_2 dc28_2 pm28_2 an28_2 cd28_2 ct28_2) := ⟨⟨am28_2, nm28_2, k28_2⟩, F28_2, F28_2.binds fun _ _ _ _ _ _ us hl => match us, hl with | [_, _, _], _ => rfl⟩
  have cl50 : Cls K C50 := ⟨pg50, hd50, po50, sa50⟩
  have FD50_0 : FunD K "__init__" "Plan.__init__" (defArgs sPlInit) (defBody sPlInit) (defScope sPlInit) [] [("must_finish", .bl false)] f50_0 (PySem.W.fnOf "__init__" "Plan.__init__" (defArgs sPlInit) (defBody sPlInit) (defScope sPlInit) .none (.ref KD50_0) dc50_0 pm50_0 an50_0 cd50_0 ct50_0) := ⟨⟨oc50_0, od50_0, _, _, dc50_0, pm50_0, an50_0, cd50_0, ct50_0, sl50_0, rfl, l50_0, g50_0, .inl ⟨rfl, rfl⟩, .inr ⟨KD50_0, rfl, fun q hq => by rw [List.mem_singleton.mp hq]; exact ⟨_, kd50_0_must_finish, rfl⟩⟩⟩, k50_0⟩
  have tq_OPERATIONS : ∀ H, SqT K H q_OPERATIONS ((["plus", "minus", "times", "less", "same"] : List Str).map V.str) := fun H => .inr ⟨_, iq_OPERATIONS, nq_OPERATIONS, ql_OPERATIONS, rfl, rfl, by rw [← Array.length_toList, qi_OPERATIONS, sizeLine_eq]; exact (by decide : 5 ≤ 16777216), by rw [qi_OPERATIONS]; exact (.cons ⟨_, rfl⟩ (.cons ⟨_, rfl⟩ (.cons ⟨_, rfl⟩ (.cons ⟨_, rfl⟩ (.cons ⟨_, rfl⟩ .nil)))))⟩
  have tq_QUESTIONS : ∀ H, SqT K H q_QUESTIONS ((["known", "reason"] : List Str).map V.str) := fun H => .inr ⟨_, iq_QUESTIONS, nq_QUESTIONS, ql_QUESTIONS, rfl, rfl, by rw [← Array.length_toList, qi_QUESTIONS, sizeLine_eq]; exact (by decide : 2 ≤ 16777216), by rw [qi_QUESTIONS]; exact (.cons ⟨_, rfl⟩ (.cons ⟨_, rfl⟩ .nil))⟩
  have tq_BLOCKS : ∀ H, SqT K H q_BLOCKS ((["if", "while"] : List Str).map V.str) := fun H => .inr ⟨_, iq_BLOCKS, nq_BLOCKS, ql_BLOCKS, rfl, rfl, by rw [← Array.length_toList, qi_BLOCKS, sizeLine_eq]; exact (by decide : 2 ≤ 16777216), by rw [qi_BLOCKS]; exact (.cons ⟨_, rfl⟩ (.cons ⟨_, rfl⟩ .nil))⟩
  have kd_SIZES_work : KDct K w d_SIZES "work" (.int 2) := ⟨_, _, _, dl_SIZES, dk_SIZES, dv_SIZES_work, ⟨_, rfl⟩⟩
  have kd_SIZES_set : KDct K w d_SIZES "set" (.int 3) := ⟨_, _, _, dl_SIZES, dk_SIZES, dv_SIZES_set, ⟨_, rfl⟩⟩
  have kd_SIZES_fail : KDct K w d_SIZES "fail" (.int 2) := ⟨_, _, _, dl_SIZES, dk_SIZES, dv_SIZES_fail, ⟨_, rfl⟩⟩
  have kd_SIZES_call : KDct K w d_SIZES "call" (.int 4) := ⟨_, _, _, dl_SIZES, dk_SIZES, dv_SIZES_call, ⟨_, rfl⟩⟩
  have kd_SIZES_wait : KDct K w d_SIZES "wait" (.int 3) := ⟨_, _, _, dl_SIZES, dk_SIZES, dv_SIZES_wait, ⟨_, rfl⟩⟩
  have kd_SIZES_catch : KDct K w d_SIZES "catch" (.int 2) := ⟨_, _, _, dl_SIZES, dk_SIZES, dv_SIZES_catch, ⟨_, rfl⟩⟩
  have kd_SIZES_drop : KDct K w d_SIZES "drop" (.int 2) := ⟨_, _, _, dl_SIZES, dk_SIZES, dv_SIZES_drop, ⟨_, rfl⟩⟩
  have kd_SIZES_effect : KDct K w d_SIZES "effect" (.int 2) := ⟨_, _, _, dl_SIZES, dk_SIZES, dv_SIZES_effect, ⟨_, rfl⟩⟩
  have kd_SIZES_if : KDct K w d_SIZES "if" (.int 3) := ⟨_, _, _, dl_SIZES, dk_SIZES, dv_SIZES_if, ⟨_, rfl⟩⟩
  have kd_SIZES_while : KDct K w d_SIZES "while" (.int 3) := ⟨_, _, _, dl_SIZES, dk_SIZES, dv_SIZES_while, ⟨_, rfl⟩⟩
  have kk_SIZES : KKw K w d_SIZES ["work", "set", "fail", "call", "wait", "catch", "drop", "effect", "if", "while"] := ⟨⟨es_SIZES, ep_SIZES, dl_SIZES, dk_SIZES, dm_SIZES⟩, dn_SIZES⟩
  have kd_CHECKS_work : KDct K w d_CHECKS "work" (.ref f34) := ⟨_, _, _, dl_CHECKS, dk_CHECKS, dv_CHECKS_work, rfl⟩
  have kd_CHECKS_set : KDct K w d_CHECKS "set" (.ref f35) := ⟨_, _, _, dl_CHECKS, dk_CHECKS, dv_CHECKS_set, rfl⟩
  have kd_CHECKS_fail : KDct K w d_CHECKS "fail" (.ref f36) := ⟨_, _, _, dl_CHECKS, dk_CHECKS, dv_CHECKS_fail, rfl⟩
  have kd_CHECKS_call : KDct K w d_CHECKS "call" (.ref f37) := ⟨_, _, _, dl_CHECKS, dk_CHECKS, dv_CHECKS_call, rfl⟩
  have kd_CHECKS_wait : KDct K w d_CHECKS "wait" (.ref f38) := ⟨_, _, _, dl_CHECKS, dk_CHECKS, dv_CHECKS_wait, rfl⟩
  have kd_CHECKS_catch : KDct K w d_CHECKS "catch" (.ref f39) := ⟨_, _, _, dl_CHECKS, dk_CHECKS, dv_CHECKS_catch, rfl⟩
  have kd_CHECKS_drop : KDct K w d_CHECKS "drop" (.ref f40) := ⟨_, _, _, dl_CHECKS, dk_CHECKS, dv_CHECKS_drop, rfl⟩
  have kd_CHECKS_effect : KDct K w d_CHECKS "effect" (.ref f41) := ⟨_, _, _, dl_CHECKS, dk_CHECKS, dv_CHECKS_effect, rfl⟩
  have kd_CHECKS_if : KDct K w d_CHECKS "if" (.ref f42) := ⟨_, _, _, dl_CHECKS, dk_CHECKS, dv_CHECKS_if, rfl⟩
  have kd_CHECKS_while : KDct K w d_CHECKS "while" (.ref f42) := ⟨_, _, _, dl_CHECKS, dk_CHECKS, dv_CHECKS_while, rfl⟩
  have kk_CHECKS : KKw K w d_CHECKS ["work", "set", "fail", "call", "wait", "catch", "drop", "effect", "if", "while"] := ⟨⟨es_CHECKS, ep_CHECKS, dl_CHECKS, dk_CHECKS, dm_CHECKS⟩, dn_CHECKS⟩
  let ff : Nat → Addr := fun n => match n with | 9 => f11 | 11 => f13 | 12 => f14 | 27 => f30 | 28 => f31 | 29 => f32 | 30 => f33 | 31 => f34 | 32 => f35 | 33 => f36 | 34 => f37 | 35 => f38 | 36 => f39 | 37 => f40 | 38 => f41 | 39 => f42 | 26 => f29 | 0 => f28_0 | 1 => f28_1 | 2 => f28_2 | 50 => f52 | 51 => f53 | 52 => f54 | 53 => f55 | 54 => f56 | 55 => f57 | 56 => f58 | 57 => f59 | _ => 0
  let gg : Nat → FuncData := fun n => match n with | 9 => (PySem.W.fnOf "is_integer" "is_integer" (defArgs sInteger) (defBody sInteger) (defScope sInteger) .none kV11 dc11 pm11 an11 cd11 ct11) | 11 => (PySem.W.fnOf "is_word" "is_word" (defArgs sWord) (defBody sWord) (defScope sWord) .none kV13 dc13 pm13 an13 cd13 ct13) | 12 => (PySem.W.fnOf "is_effect" "is_effect" (defArgs sEffect) (defBody sEffect) (defScope sEffect) .none kV14 dc14 pm14 an14 cd14 ct14) | 27 => (PySem.W.fnOf "_is_variable" "_is_variable" (defArgs sVar) (defBody sVar) (defScope sVar) .none kV30 dc30 pm30 an30 cd30 ct30) | 28 => (PySem.W.fnOf "_is_called" "_is_called" (defArgs sCalled) (defBody sCalled) (defScope sCalled) .none kV31 dc31 pm31 an31 cd31 ct31) | 29 => (PySem.W.fnOf "_are_called" "_are_called" (defArgs sAreCalled) (defBody sAreCalled) (defScope sAreCalled) .none kV32 dc32 pm32 an32 cd32 ct32) | 30 => (PySem.W.fnOf "_is_worth" "_is_worth" (defArgs sWorth) (defBody sWorth) (defScope sWorth) .none kV33 dc33 pm33 an33 cd33 ct33) | 31 => (PySem.W.fnOf "_is_work" "_is_work" (defArgs sIsWork) (defBody sIsWork) (defScope sIsWork) .none kV34 dc34 pm34 an34 cd34 ct34) | 32 => (PySem.W.fnOf "_is_set" "_is_set" (defArgs sIsSet) (defBody sIsSet) (defScope sIsSet) .none kV35 dc35 pm35 an35 cd35 ct35) | 33 => (PySem.W.fnOf "_is_fail" "_is_fail" (defArgs sIsFail) (defBody sIsFail) (defScope sIsFail) .none kV36 dc36 pm36 an36 cd36 ct36) | 34 => (PySem.W.fnOf "_is_call" "_is_call" (defArgs sIsCall) (defBody sIsCall) (defScope sIsCall) .none kV37 dc37 pm37 an37 cd37 ct37) | 35 => (PySem.W.fnOf "_is_wait" "_is_wait" (defArgs sIsWait) (defBody sIsWait) (defScope sIsWait) .none kV38 dc38 pm38 an38 cd38 ct38) | 36 => (PySem.W.fnOf "_is_catch" "_is_catch" (defArgs sIsCatch) (defBody sIsCatch) (defScope sIsCatch) .none kV39 dc39 pm39 an39 cd39 ct39) | 37 => (PySem.W.fnOf "_is_drop" "_is_drop" (defArgs sIsDrop) (defBody sIsDrop) (defScope sIsDrop) .none kV40 dc40 pm40 an40 cd40 ct40) | 38 => (PySem.W.fnOf "_is_say" "_is_say" (defArgs sIsSay) (defBody sIsSay) (defScope sIsSay) .none kV41 dc41 pm41 an41 cd41 ct41) | 39 => (PySem.W.fnOf "_is_block" "_is_block" (defArgs sIsBlock) (defBody sIsBlock) (defScope sIsBlock) .none kV42 dc42 pm42 an42 cd42 ct42) | 26 => (PySem.W.fnOf "end_of_block" "end_of_block" (defArgs sEnd) (defBody sEnd) (defScope sEnd) .none kV29 dc29 pm29 an29 cd29 ct29) | 0 => (PySem.W.fnOf "__init__" "Scope.__init__" (defArgs sScInit) (defBody sScInit) (defScope sScInit) .none kV28_0 dc28_0 pm28_0 an28_0 cd28_0 ct28_0) | 1 => (PySem.W.fnOf "enter" "Scope.enter" (defArgs sEnter) (defBody sEnter) (defScope sEnter) .none kV28_1 dc28_1 pm28_1 an28_1 cd28_1 ct28_1) | 2 => (PySem.W.fnOf "leave" "Scope.leave" (defArgs sLeave) (defBody sLeave) (defScope sLeave) .none kV28_2 dc28_2 pm28_2 an28_2 cd28_2 ct28_2) | 50 => (PySem.W.fnOf "_law_tape" "_law_tape" (defArgs sTape) (defBody sTape) (defScope sTape) .none kV52 dc52 pm52 an52 cd52 ct52) | 51 => (PySem.W.fnOf "_law_draw" "_law_draw" (defArgs sDraw) (defBody sDraw) (defScope sDraw) .none kV53 dc53 pm53 an53 cd53 ct53) | 52 => (PySem.W.fnOf "_law_one" "_law_one" (defArgs sOne) (defBody sOne) (defScope sOne) .none kV54 dc54 pm54 an54 cd54 ct54) | 53 => (PySem.W.fnOf "_law_expression" "_law_expression" (defArgs sLExpr) (defBody sLExpr) (defScope sLExpr) .none kV55 dc55 pm55 an55 cd55 ct55) | 54 => (PySem.W.fnOf "_law_small" "_law_small" (defArgs sSmall) (defBody sSmall) (defScope sSmall) .none kV56 dc56 pm56 an56 cd56 ct56) | 55 => (PySem.W.fnOf "_law_instruction" "_law_instruction" (defArgs sLInstr) (defBody sLInstr) (defScope sLInstr) .none kV57 dc57 pm57 an57 cd57 ct57) | 56 => (PySem.W.fnOf "_law_plan" "_law_plan" (defArgs sLPlan) (defBody sLPlan) (defScope sLPlan) .none kV58 dc58 pm58 an58 cd58 ct58) | 57 => (PySem.W.fnOf "_law_own" "_law_own" (defArgs sOwn) (defBody sOwn) (defScope sOwn) .none kV59 dc59 pm59 an59 cd59 ct59) | _ => (PySem.W.fnOf "is_integer" "is_integer" (defArgs sInteger) (defBody sInteger) (defScope sInteger) .none kV11 dc11 pm11 an11 cd11 ct11)
  have T : Tx mg := ⟨(PySem.W.mg_none_of X G z_all), (PySem.W.mg_none_of X G z_len), (PySem.W.mg_none_of X G z_int), (PySem.W.mg_none_of X G z_bool), (PySem.W.mg_none_of X G z_isinstance), (PySem.W.mg_none_of X G z_str), (PySem.W.mg_none_of X G z_tuple), (PySem.W.mg_none_of X G z_list), (PySem.W.mg_none_of X G z_set), (PySem.W.mg_none_of X G z_min), (PySem.W.mg_none_of X G z_enumerate), ⟨_, PySem.W.mg_of X G c_LETTERS⟩, ⟨_, PySem.W.mg_of X G c_CAPITALS⟩, ⟨_, PySem.W.mg_of X G c_DIGITS⟩, ⟨_, PySem.W.mg_of X G c_MODULUS⟩⟩
  have TG : TxG mg := ⟨(PySem.W.mg_none_of X G z_range), (PySem.W.mg_none_of X G z_sorted), (PySem.W.mg_none_of X G z_dict), (PySem.W.mg_none_of X G z_repr)⟩
  have TE : TxE K mg := ⟨⟨q_QUESTIONS, PySem.W.mg_of X G qa_QUESTIONS, tq_QUESTIONS⟩, ⟨q_OPERATIONS, PySem.W.mg_of X G qa_OPERATIONS, tq_OPERATIONS⟩⟩
  have TB : TxB K mg := ⟨⟨q_BLOCKS, PySem.W.mg_of X G qa_BLOCKS, tq_BLOCKS⟩⟩
  have TN : TxN mg := ⟨⟨_, PySem.W.mg_of X G c_MOST_VARIABLES⟩, ⟨_, PySem.W.mg_of X G c_MOST_EXPRESSIONS⟩, ⟨_, PySem.W.mg_of X G c_HIGHEST_COST⟩⟩
  have TP : TxP mg := ⟨⟨_, PySem.W.mg_of X G c_MOST_ARGUMENTS⟩, ⟨_, PySem.W.mg_of X G c_MOST_INSTRUCTIONS⟩⟩
  have SX : ScX K mg C28 := ⟨cl28, no28_given, no28_named, no28_called, no28_ends, no28_room, PySem.W.mg_of X G ac28⟩
  have LO : Lo K mg ff gg := ⟨⟨⟨⟨D52, D53, D54, D55, D56⟩, D57⟩, D58⟩, D59⟩
  have MX : ScM K mg C28 ff gg := ⟨SX, ⟨mk28, am28_0, nm28_0, kc28⟩, F28_0, M28_0.b, M28_1, M28_2, D29⟩
  have PX : PlX K mg C50 := ⟨cl50, no50__arguments, no50__body, no50__result, no50__must_finish, PySem.W.mg_of X G ac50⟩
  refine ⟨PySem.W.fnOf "law" "law" (defArgs sLaw) (defBody sLaw) (defScope sLaw) .none kV63 dc63 pm63 an63 cd63 ct63, fun s v => .of_eq rfl, fun base _ _ _ => ?_⟩
  have GW := ok_isWord (P := l.prog) (w := w) (base := base) D13.F T D10
  have GX := ok_expr (P := l.prog) (w := w) (base := base) T EXX D21 D22 D12 D11 TE 6
  have CX0' : Cx0 l.prog w K mg base C28 ff gg := ⟨D11, D13, D14, D30, D31, D32, D33, ok_integer D11.F T, GW, ok_effect D14.F T D10,
    ok_var D30.F SX D13 GW, ok_called D31.F T SX, ok_areCalled D32.F T TN SX D31, ok_worth D33.F SX EXX GX⟩
  have CK : CkX l.prog w K mg base C28 ff := by
    refine ⟨⟨d_CHECKS, PySem.W.mg_of X G da_CHECKS, kk_CHECKS, fun e he => ?_⟩, ⟨d_SIZES, PySem.W.mg_of X G da_SIZES, fun e he => ?_⟩, fun e he => ?_⟩
    · simp only [ckTab, List.mem_cons, List.not_mem_nil, or_false] at he
      rcases he with rfl | rfl | rfl | rfl | rfl | rfl | rfl | rfl | rfl | rfl
      · exact kd_CHECKS_work
      · exact kd_CHECKS_set
      · exact kd_CHECKS_fail
      · exact kd_CHECKS_call
      · exact kd_CHECKS_wait
      · exact kd_CHECKS_catch
      · exact kd_CHECKS_drop
      · exact kd_CHECKS_effect
      · exact kd_CHECKS_if
      · exact kd_CHECKS_while
    · simp only [ckTab, List.mem_cons, List.not_mem_nil, or_false] at he
      rcases he with rfl | rfl | rfl | rfl | rfl | rfl | rfl | rfl | rfl | rfl
      · exact kd_SIZES_work
      · exact kd_SIZES_set
      · exact kd_SIZES_fail
      · exact kd_SIZES_call
      · exact kd_SIZES_wait
      · exact kd_SIZES_catch
      · exact kd_SIZES_drop
      · exact kd_SIZES_effect
      · exact kd_SIZES_if
      · exact kd_SIZES_while
    · simp only [ckTab, List.mem_cons, List.not_mem_nil, or_false] at he
      rcases he with rfl | rfl | rfl | rfl | rfl | rfl | rfl | rfl | rfl | rfl
      · exact ⟨_, _, ok_isWork D34.F T TN SX CX0', D34.F.kp, D34.b⟩
      · exact ⟨_, _, ok_isSet D35.F T TN SX CX0', D35.F.kp, D35.b⟩
      · exact ⟨_, _, ok_isFail D36.F T TN SX CX0', D36.F.kp, D36.b⟩
      · exact ⟨_, _, ok_isCall D37.F T TN SX CX0', D37.F.kp, D37.b⟩
      · exact ⟨_, _, ok_isWait D38.F T TN SX CX0', D38.F.kp, D38.b⟩
      · exact ⟨_, _, ok_isCatch D39.F T TN SX CX0', D39.F.kp, D39.b⟩
      · exact ⟨_, _, ok_isDrop D40.F T TN SX CX0', D40.F.kp, D40.b⟩
      · exact ⟨_, _, ok_isSay D41.F T TN SX CX0', D41.F.kp, D41.b⟩
      · exact ⟨_, _, ok_isBlock D42.F T TN SX CX0', D42.F.kp, D42.b⟩
      · exact ⟨_, _, ok_isBlock D42.F T TN SX CX0', D42.F.kp, D42.b⟩
  have GI := ok_instr D45.F T D15 CK
  have GC := ok_checked D49.F T TB MX EX0 D45 GI
  have GA := ok_args (P := l.prog) (w := w) (base := base) D48.F T TP D13 GW
  have PM : PlM K mg C50 f50_0 _ := ⟨PX, ⟨mk50, am50_0, nm50_0, kc50⟩, FD50_0⟩
  have GP := ok_plInit PM T TP SX EX0 D48 GA D49 GC EXX GX
  obtain ⟨mvv, kb⟩ := FD50_0.kbinds0 (ps := ["self", "arguments", "body", "result", "must_finish"]) 4 ["must_finish"] [] (fun us _ ws => us ++ ws) (by simp) (fun q hq => by cases hq) (fun a _ c => a.append c) (fun _ _ _ _ _ _ us mv ws h1 h2 h3 => match us, mv, ws, h1, h2, h3 with | [_, _, _, _], [], [_], _, _, _ => rfl)
  have GPt := ok_part (P := l.prog) (w := w) (base := base) D60.F T (PySem.W.mg_none_of X G z_repr) (PySem.W.mg_none_of X G z_ValueError) EX0 ⟨y_te, y_w, y_v, y_n⟩ PM.makes PX.mgC GP kb
  exact FnG.of (ok_law F63 T TG LO D60 GPt D61 D62)
theorem walk {l : PySem.W.OpenLaw} {q : Program} {loose : List Str} {XP : (Str → Option Value) → Heap → Prop} {YP : World → Heap → Prop} {d : DefRec} {K : Params → PySem.W.Frag} (hn : l.most = some 63) (hdf : d.params.defaults = []) (hq : importsNone q = true)
    (hY : ∀ (w : World) (h : Heap), YP w h → (K w.params).In h)
    (F : ∀ (w : World) (mg : Str → Option Value) (fa : Addr) (h : Heap), (K w.params).In h → h.Ns mainGlobals mg → mg d.name = some (.ref fa) →
      ∃ fd : FuncData, (∀ (s : Shared) (u : Value), BindsTo s fd ⟨[u], []⟩ [("_law_script", u)]) ∧
        ∀ base : Heap, (K w.params).In base → base.Ns mainGlobals mg → (∃ o, base.get? sysModules = some o) → FnG l.prog w (K w.params) mg base 23 fa fd ["_law_script"] (spLaw (K w.params))) :
    PySem.W.WalkO q loose XP YP l.row.toRowW d [] (fun f vs => PySem.call f vs) :=
  walk_ofG (n := 63) (k := 23) (x := "_law_script") (sp := spLaw) hn (by decide) hdf ⟨rfl, by decide, by decide⟩ hq hY F (fun _ _ a ns hl hS => ⟨a, ns, rfl, hS, hl, fun _ => rfl⟩)
end Pl

open PySem PySem.W PyProof.Rows in
set_option maxRecDepth 100000 in
set_option maxHeartbeats 0 in
theorem PySem.Challenge.cw_wantedwork_k02_plans_refused_holds : PySem.Challenge.rw_wantedwork_k02_plans_refused.Holds := by
  w_on; o_law; k_head; (case hw => w_witness2)
  k_fill
  refine Pl.walk (l := PySem.Challenge.rw_wantedwork_k02_plans_refused) rfl rfl (by decide +kernel) (fun w h Y => PySem.W.kIn_of Y) ?F
  case F =>
    intro w mg fa h KX G hmg
    refine' Pl.all_mk KX G hmg ?cn ?ctk ?ac3 ?i3 ?l3_0 ?g3_0 ?k3_0 ?t3_0 ?ht3 ?isn3 ?ovr3 ?sa3 ?hd3 ?kc3 ?ga3 ?gg3 ?ex3 ?ca3 ?mo3 ?ty3 ?aW ?spW ?rdW ?fcW ?a10 ?l10 ?g10 ?k10 ?a11 ?l11 ?g11 ?k11 ?a12 ?l12 ?g12 ?k12 ?a13 ?l13 ?g13 ?k13 ?a14 ?l14 ?g14 ?k14 ?a15 ?l15 ?g15 ?k15 ?a21 ?l21 ?g21 ?k21 ?a22 ?l22 ?g22 ?k22 ?a29 ?l29 ?g29 ?k29 ?a30 ?l30 ?g30 ?k30 ?a31 ?l31 ?g31 ?k31 ?a32 ?l32 ?g32 ?k32 ?a33 ?l33 ?g33 ?k33 ?a34 ?l34 ?g34 ?k34 ?a35 ?l35 ?g35 ?k35 ?a36 ?l36 ?g36 ?k36 ?a37 ?l37 ?g37 ?k37 ?a38 ?l38 ?g38 ?k38 ?a39 ?l39 ?g39 ?k39 ?a40 ?l40 ?g40 ?k40 ?a41 ?l41 ?g41 ?k41 ?a42 ?l42 ?g42 ?k42 ?a45 ?l45 ?g45 ?k45 ?a48 ?l48 ?g48 ?k48 ?a49 ?l49 ?g49 ?k49 ?a52 ?l52 ?g52 ?k52 ?a53 ?l53 ?g53 ?k53 ?a54 ?l54 ?g54 ?k54 ?a55 ?l55 ?g55 ?k55 ?a56 ?l56 ?g56 ?k56 ?a57 ?l57 ?g57 ?k57 ?a58 ?l58 ?g58 ?k58 ?a59 ?l59 ?g59 ?k59 ?a60 ?l60 ?g60 ?k60 ?a61 ?l61 ?g61 ?k61 ?a62 ?l62 ?g62 ?k62 ?a63 ?l63 ?g63 ?k63 ?a20 ?l20 ?g20 ?k20 ?t20 ?u20 ?ac28 ?pg28 ?hd28 ?po28 ?sa28 ?kc28 ?mk28 ?no28_given ?no28_named ?no28_called ?no28_ends ?no28_room ?am28_0 ?l28_0 ?g28_0 ?k28_0 ?nm28_0 ?am28_1 ?l28_1 ?g28_1 ?k28_1 ?nm28_1 ?am28_2 ?l28_2 ?g28_2 ?k28_2 ?nm28_2 ?ac50 ?pg50 ?hd50 ?po50 ?sa50 ?kc50 ?mk50 ?no50__arguments ?no50__body ?no50__result ?no50__must_finish ?am50_0 ?l50_0 ?g50_0 ?k50_0 ?nm50_0 ?kd50_0_must_finish ?y_te ?y_w ?y_v ?y_n ?z_all ?z_len ?z_int ?z_bool ?z_isinstance ?z_str ?z_tuple ?z_list ?z_set ?z_min ?z_enumerate ?z_range ?z_sorted ?z_dict ?z_repr ?z_ValueError ?c_LETTERS ?c_CAPITALS ?c_DIGITS ?c_MODULUS ?c_MOST_ARGUMENTS ?c_MOST_INSTRUCTIONS ?c_MOST_EXPRESSIONS ?c_MOST_VARIABLES ?c_HIGHEST_COST ?qa_OPERATIONS ?ql_OPERATIONS ?qi_OPERATIONS ?qa_QUESTIONS ?ql_QUESTIONS ?qi_QUESTIONS ?qa_BLOCKS ?ql_BLOCKS ?qi_BLOCKS ?da_SIZES ?dl_SIZES ?dk_SIZES ?dv_SIZES_work ?dv_SIZES_set ?dv_SIZES_fail ?dv_SIZES_call ?dv_SIZES_wait ?dv_SIZES_catch ?dv_SIZES_drop ?dv_SIZES_effect ?dv_SIZES_if ?dv_SIZES_while ?dm_SIZES ?dn_SIZES ?da_CHECKS ?dl_CHECKS ?dk_CHECKS ?dv_CHECKS_work ?dv_CHECKS_set ?dv_CHECKS_fail ?dv_CHECKS_call ?dv_CHECKS_wait ?dv_CHECKS_catch ?dv_CHECKS_drop ?dv_CHECKS_effect ?dv_CHECKS_if ?dv_CHECKS_while ?dm_CHECKS ?dn_CHECKS
    (case cn => k_is)
    (case ctk => k_is)
    (case ac3 => k_is)
    (case i3 => k_is)
    (case l3_0 => k_is)
    (case g3_0 => k_is)
    (case k3_0 => k_is)
    (case t3_0 => k_is)
    (case ht3 => k_is)
    (case isn3 => kernel_rfl)
    (case ovr3 => kernel_rfl)
    (case sa3 => k_is)
    (case hd3 => k_is)
    (case kc3 => k_is)
    (case ga3 => k_is)
    (case gg3 => k_is)
    (case ex3 => k_is)
    (case ca3 => k_is)
    (case mo3 => k_is)
    (case ty3 => k_is)
    (case aW => k_is)
    (case spW => k_is)
    (case rdW => kernel_rfl)
    (case fcW => k_is)
    (case a10 => k_is)
    (case l10 => k_is)
    (case g10 => k_is)
    (case k10 => k_is)
    (case a11 => k_is)
    (case l11 => k_is)
    (case g11 => k_is)
    (case k11 => k_is)
    (case a12 => k_is)
    (case l12 => k_is)
    (case g12 => k_is)
    (case k12 => k_is)
    (case a13 => k_is)
    (case l13 => k_is)
    (case g13 => k_is)
    (case k13 => k_is)
    (case a14 => k_is)
    (case l14 => k_is)
    (case g14 => k_is)
    (case k14 => k_is)
    (case a15 => k_is)
    (case l15 => k_is)
    (case g15 => k_is)
    (case k15 => k_is)
    (case a21 => k_is)
    (case l21 => k_is)
    (case g21 => k_is)
    (case k21 => k_is)
    (case a22 => k_is)
    (case l22 => k_is)
    (case g22 => k_is)
    (case k22 => k_is)
    (case a29 => k_is)
    (case l29 => k_is)
    (case g29 => k_is)
    (case k29 => k_is)
    (case a30 => k_is)
    (case l30 => k_is)
    (case g30 => k_is)
    (case k30 => k_is)
    (case a31 => k_is)
    (case l31 => k_is)
    (case g31 => k_is)
    (case k31 => k_is)
    (case a32 => k_is)
    (case l32 => k_is)
    (case g32 => k_is)
    (case k32 => k_is)
    (case a33 => k_is)
    (case l33 => k_is)
    (case g33 => k_is)
    (case k33 => k_is)
    (case a34 => k_is)
    (case l34 => k_is)
    (case g34 => k_is)
    (case k34 => k_is)
    (case a35 => k_is)
    (case l35 => k_is)
    (case g35 => k_is)
    (case k35 => k_is)
    (case a36 => k_is)
    (case l36 => k_is)
    (case g36 => k_is)
    (case k36 => k_is)
    (case a37 => k_is)
    (case l37 => k_is)
    (case g37 => k_is)
    (case k37 => k_is)
    (case a38 => k_is)
    (case l38 => k_is)
    (case g38 => k_is)
    (case k38 => k_is)
    (case a39 => k_is)
    (case l39 => k_is)
    (case g39 => k_is)
    (case k39 => k_is)
    (case a40 => k_is)
    (case l40 => k_is)
    (case g40 => k_is)
    (case k40 => k_is)
    (case a41 => k_is)
    (case l41 => k_is)
    (case g41 => k_is)
    (case k41 => k_is)
    (case a42 => k_is)
    (case l42 => k_is)
    (case g42 => k_is)
    (case k42 => k_is)
    (case a45 => k_is)
    (case l45 => k_is)
    (case g45 => k_is)
    (case k45 => k_is)
    (case a48 => k_is)
    (case l48 => k_is)
    (case g48 => k_is)
    (case k48 => k_is)
    (case a49 => k_is)
    (case l49 => k_is)
    (case g49 => k_is)
    (case k49 => k_is)
    (case a52 => k_is)
    (case l52 => k_is)
    (case g52 => k_is)
    (case k52 => k_is)
    (case a53 => k_is)
    (case l53 => k_is)
    (case g53 => k_is)
    (case k53 => k_is)
    (case a54 => k_is)
    (case l54 => k_is)
    (case g54 => k_is)
    (case k54 => k_is)
    (case a55 => k_is)
    (case l55 => k_is)
    (case g55 => k_is)
    (case k55 => k_is)
    (case a56 => k_is)
    (case l56 => k_is)
    (case g56 => k_is)
    (case k56 => k_is)
    (case a57 => k_is)
    (case l57 => k_is)
    (case g57 => k_is)
    (case k57 => k_is)
    (case a58 => k_is)
    (case l58 => k_is)
    (case g58 => k_is)
    (case k58 => k_is)
    (case a59 => k_is)
    (case l59 => k_is)
    (case g59 => k_is)
    (case k59 => k_is)
    (case a60 => k_is)
    (case l60 => k_is)
    (case g60 => k_is)
    (case k60 => k_is)
    (case a61 => k_is)
    (case l61 => k_is)
    (case g61 => k_is)
    (case k61 => k_is)
    (case a62 => k_is)
    (case l62 => k_is)
    (case g62 => k_is)
    (case k62 => k_is)
    (case a63 => k_is)
    (case l63 => k_is)
    (case g63 => k_is)
    (case k63 => k_is)
    (case a20 => k_is)
    (case l20 => k_is)
    (case g20 => k_is)
    (case k20 => k_is)
    (case t20 => k_is)
    (case u20 => rfl)
    (case ac28 => k_is)
    (case pg28 => k_is)
    (case hd28 => k_is)
    (case po28 => k_is)
    (case sa28 => k_is)
    (case kc28 => k_is)
    (case mk28 => k_is)
    (case no28_given => k_is)
    (case no28_named => k_is)
    (case no28_called => k_is)
    (case no28_ends => k_is)
    (case no28_room => k_is)
    (case am28_0 => k_is)
    (case l28_0 => k_is)
    (case g28_0 => k_is)
    (case k28_0 => k_is)
    (case nm28_0 => k_is)
    (case am28_1 => k_is)
    (case l28_1 => k_is)
    (case g28_1 => k_is)
    (case k28_1 => k_is)
    (case nm28_1 => k_is)
    (case am28_2 => k_is)
    (case l28_2 => k_is)
    (case g28_2 => k_is)
    (case k28_2 => k_is)
    (case nm28_2 => k_is)
    (case ac50 => k_is)
    (case pg50 => k_is)
    (case hd50 => k_is)
    (case po50 => k_is)
    (case sa50 => k_is)
    (case kc50 => k_is)
    (case mk50 => k_is)
    (case no50__arguments => k_is)
    (case no50__body => k_is)
    (case no50__result => k_is)
    (case no50__must_finish => k_is)
    (case am50_0 => k_is)
    (case l50_0 => k_is)
    (case g50_0 => k_is)
    (case k50_0 => k_is)
    (case nm50_0 => k_is)
    (case kd50_0_must_finish => k_is)
    (case y_te => kernel_rfl)
    (case y_w => kernel_rfl)
    (case y_v => kernel_rfl)
    (case y_n => k_is)
    (case z_all => k_is)
    (case z_len => k_is)
    (case z_int => k_is)
    (case z_bool => k_is)
    (case z_isinstance => k_is)
    (case z_str => k_is)
    (case z_tuple => k_is)
    (case z_list => k_is)
    (case z_set => k_is)
    (case z_min => k_is)
    (case z_enumerate => k_is)
    (case z_range => k_is)
    (case z_sorted => k_is)
    (case z_dict => k_is)
    (case z_repr => k_is)
    (case z_ValueError => k_is)
    (case c_LETTERS => k_is)
    (case c_CAPITALS => k_is)
    (case c_DIGITS => k_is)
    (case c_MODULUS => k_is)
    (case c_MOST_ARGUMENTS => k_is)
    (case c_MOST_INSTRUCTIONS => k_is)
    (case c_MOST_EXPRESSIONS => k_is)
    (case c_MOST_VARIABLES => k_is)
    (case c_HIGHEST_COST => k_is)
    (case qa_OPERATIONS => k_is)
    (case ql_OPERATIONS => k_is)
    (case qi_OPERATIONS => rfl)
    (case qa_QUESTIONS => k_is)
    (case ql_QUESTIONS => k_is)
    (case qi_QUESTIONS => rfl)
    (case qa_BLOCKS => k_is)
    (case ql_BLOCKS => k_is)
    (case qi_BLOCKS => rfl)
    (case da_SIZES => k_is)
    (case dl_SIZES => k_is)
    (case dk_SIZES => (show PySem.W.KeysLit _ [_, _, _, _, _, _, _, _, _, _]; exact ⟨⟨_, _, rfl, rfl⟩, ⟨_, _, rfl, rfl⟩, ⟨_, _, rfl, rfl⟩, ⟨_, _, rfl, rfl⟩, ⟨_, _, rfl, rfl⟩, ⟨_, _, rfl, rfl⟩, ⟨_, _, rfl, rfl⟩, ⟨_, _, rfl, rfl⟩, ⟨_, _, rfl, rfl⟩, ⟨_, _, rfl, rfl⟩, trivial⟩))
    (case dv_SIZES_work => k_is)
    (case dv_SIZES_set => k_is)
    (case dv_SIZES_fail => k_is)
    (case dv_SIZES_call => k_is)
    (case dv_SIZES_wait => k_is)
    (case dv_SIZES_catch => k_is)
    (case dv_SIZES_drop => k_is)
    (case dv_SIZES_effect => k_is)
    (case dv_SIZES_if => k_is)
    (case dv_SIZES_while => k_is)
    (case dm_SIZES => rfl)
    (case dn_SIZES => rfl)
    (case da_CHECKS => k_is)
    (case dl_CHECKS => k_is)
    (case dk_CHECKS => (show PySem.W.KeysLit _ [_, _, _, _, _, _, _, _, _, _]; exact ⟨⟨_, _, rfl, rfl⟩, ⟨_, _, rfl, rfl⟩, ⟨_, _, rfl, rfl⟩, ⟨_, _, rfl, rfl⟩, ⟨_, _, rfl, rfl⟩, ⟨_, _, rfl, rfl⟩, ⟨_, _, rfl, rfl⟩, ⟨_, _, rfl, rfl⟩, ⟨_, _, rfl, rfl⟩, ⟨_, _, rfl, rfl⟩, trivial⟩))
    (case dv_CHECKS_work => k_is)
    (case dv_CHECKS_set => k_is)
    (case dv_CHECKS_fail => k_is)
    (case dv_CHECKS_call => k_is)
    (case dv_CHECKS_wait => k_is)
    (case dv_CHECKS_catch => k_is)
    (case dv_CHECKS_drop => k_is)
    (case dv_CHECKS_effect => k_is)
    (case dv_CHECKS_if => k_is)
    (case dv_CHECKS_while => k_is)
    (case dm_CHECKS => rfl)
    (case dn_CHECKS => rfl)
#print axioms PySem.Challenge.cw_wantedwork_k02_plans_refused_holds
