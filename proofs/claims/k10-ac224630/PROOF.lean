import PyProof.Rows.All
import Wide.All
import OpenK.AllK
import Wide.FinOn
import HandS.ForMost
import HandS.ExcInit
import HandS.IsInst
import HandS.FStr
import KE.KExcInit
import KE.KExcMake
import KE.KExcIs
import HandS.Words
import PyProof.ReprRoads
import PyProof.FString4
import HandS.StrMore
import HandS.More
import HandS.RaiseMore
import HandS.Ends
import PySem.Challenge.RW_wantedwork_k10_expressions_as_texts
set_option Elab.async false
set_option linter.all false
set_option maxRecDepth 100000
set_option maxHeartbeats 4000000
/-! Own error classes over ValueError, KeyError, LookupError, RuntimeError, OverflowError, as values. -/
namespace PySem
namespace Er
open PySem.W PySem.Calls PyProof.Rows
open Builtin Builtin.ObjectAttr
section
variable {prog : Program} {w : World} {M : Model} {A : Around} {E : Value → Shared → Prop} {R : Result → Shared → Prop}
variable {hh : Heap} {gg : Array GenState} {dr : Drawn} {tk : Nat} {oo : OsState}
variable {nm qn : Str} {C N : Addr} {bs bm bo : List Value} {hd : Bool} {sn : List Str} {sub : List Value} {ab : Bool} {cl : Option Bool} {dd : Option Addr} {k0 k1 k2 k3 k5 : Option Value} {B nw ini : String}

/-- what the making of such an object asks of the classes above it -/
structure Above (B : String) (bm : List Value) : Prop where
  has : bm.contains (.type B) = true
  noA : bm.contains (.type "AttributeError") = false
  noN : bm.contains (.type "NameError") = false
theorem Above.has1 (u : Above B bm) : (Value.ref C :: bm).contains (.type B) = true := by
  rw [List.contains_cons, u.has, Bool.or_true]
theorem Above.noA1 (u : Above B bm) : (Value.ref C :: bm).contains (.type "AttributeError") = false := by
  rw [List.contains_cons, u.noA]
  rfl
theorem Above.noN1 (u : Above B bm) : (Value.ref C :: bm).contains (.type "NameError") = false := by
  rw [List.contains_cons, u.noN]
  rfl
theorem new_check (F : ExcBaseFacts B nw ini bo) (u : Above B bm) {args : List Value} {Q : Unit → Shared → Prop}
    (hC : hh.get? C = some (excClassObj nm qn C N bs bm hd sn sub ab cl dd k0 k1 k2 k3 k5 nw)) (q : Q () ⟨hh, gg, dr, tk, oo⟩) :
    wpAny M A (checkBuiltinCall nw ⟨.ref C :: args, []⟩) Q E ⟨hh, gg, dr, tk, oo⟩ := by
  have c1 := u.has1 (C := C)
  have c2 := F.noStar
  simp only [checkBuiltinCall, F.newKind, F.newSplit, F.newRow]
  repeat (first
    | refine wpAny_loadPart_at hC ?_
    | (refine wpAny_isSubtype_exc hC ?_
       rw [c1])
    | refine wpAny_staticBase_exc hC ?_
    | refine wpAny_madeBy_exc hC ?_
    | simp only [bne_self_eq_false, Bool.false_eq_true, if_false]
    | wp_step)
  exact q
theorem new_run (F : ExcBaseFacts B nw ini bo) (u : Above B bm) {args : List Value}
    (hC : hh.get? C = some (excClassObj nm qn C N bs bm hd sn sub ab cl dd k0 k1 k2 k3 k5 nw))
    (q : R (.ok (.ret (.ref (hh.objs.size + 1)))) ⟨(hh.push (kdv_tup args)).push (HandSPX.excO C hh.objs.size), gg, dr, tk, oo⟩)
    (hz : args.length ≤ sizeLine) : codeAny (model prog w) A (.builtin nw ⟨.ref C :: args, []⟩) R ⟨hh, gg, dr, tk, oo⟩ := by
  have e1 := F.ends
  have c1 := u.has1 (C := C)
  have c2 := u.noA1 (C := C)
  have c3 := u.noN1 (C := C)
  refine codeAny_builtinAt F.entry ?_
  unfold Builtin.«BaseException.__new__»
  refine wpAt_bind ?_
  show wpAt _ _ _ (stack >>= _) _ _ _
  refine wpAt_bind (wpAt_stack fun _ _ => wpAt_of_wpAny ?_)
  wp_walk
  refine wpAt_of_wpAny ?_
  rw [F.owner]
  repeat (first
    | with_reducible refine wpAny_madeHere_exc F.canon hC ?_
    | with_reducible refine wpAny_loadPart_at hC ?_
    | (with_reducible refine wpAny_isSubtype_exc hC ?_
       first | rw [c1] | rw [c2] | rw [c3])
    | wp_step)
  show R _ _
  rw [Heap.size_push]
  exact q
theorem kept2 {o1 o2 : Obj} : ∀ b o, hh.get? b = some o → ((hh.push o1).push o2).get? b = some o := fun b o e =>
  Heap.get?_push_of_some _ (Heap.get?_push_of_some _ e)
theorem type_call (F : ExcBaseFacts B nw ini bo) (u : Above B bm) {args : List Value} {kw : List (Str × Value)} {fI : Addr} {Q : Fin → Shared → Prop}
    (hC : hh.get? C = some (excClassObj nm qn C N bs bm hd sn sub ab cl dd k0 k1 k2 k3 k5 nw)) (ek : kw = [])
    (hi : Looks (model prog w) hh (typeLookup (.ref C) "__init__") (some (.ref fI)))
    (hb : ∀ self, Looks (model prog w) hh (bindSpecial (.ref fI) self) (.ref fI, [self])) (hz : args.length ≤ sizeLine)
    (q : codeAny (model prog w) A (.call (.ref fI) ⟨.ref (hh.objs.size + 1) :: args, kw⟩)
      (fun r s' => match r with | .ok (.ret v) => v = .none ∧ Q (.done (.ret (.ref (hh.objs.size + 1)))) s' | .ok _ => False | .error e => E e s')
      ⟨(hh.push (kdv_tup args)).push (HandSPX.excO C hh.objs.size), gg, dr, tk, oo⟩) :
    wpAny (model prog w) A (Builtin.«type.__call__» ⟨.ref C :: args, kw⟩) Q E ⟨hh, gg, dr, tk, oo⟩ := by
  subst ek
  repeat (first
    | with_reducible refine wpAny_loadPart_at hC ?_
    | with_reducible refine wpAny_madeBy_exc hC ?_
    | wp_step)
  refine codeAny_call_builtin_code (Code.quiet_builtin _ F.quiet) (new_check F u hC ?_)
  refine new_run F u hC ?_ hz
  show wpAny _ _ _ _ _ _
  have hC2 := kept2 (o1 := kdv_tup args) (o2 := HandSPX.excO C hh.objs.size) _ _ hC
  have hnew : ((hh.push (kdv_tup args)).push (HandSPX.excO C hh.objs.size)).get? (hh.objs.size + 1) = some (HandSPX.excO C hh.objs.size) := by heap_get
  have hself : (Value.ref C :: bm).contains (.ref C) = true := by simp
  have i2 := hi.keeps (kept2 (o1 := kdv_tup args) (o2 := HandSPX.excO C hh.objs.size))
  have b2 := (hb (.ref (hh.objs.size + 1))).keeps (kept2 (o1 := kdv_tup args) (o2 := HandSPX.excO C hh.objs.size))
  unfold isInstance
  repeat (first
    | with_reducible refine wpAny_loadPart_at hnew ?_
    | (with_reducible refine wpAny_isSubtype_exc hC2 ?_
       rw [hself])
    | wp_step)
  show wpAny _ _ (typeLookup (.ref C) _) _ _ _
  refine i2.at ?_
  refine wpAny_holding (wpAny_bind (b2.at ?_))
  refine wpAny_bind (wpAny_call (codeAny_mono q fun r s' z => ?_))
  rcases r with e | (v | _ | _ | _) <;> first
    | exact z
    | exact z.elim
    | (obtain ⟨rfl, z⟩ := z
       first
         | exact wpAny_pure (wpAny_pure z)
         | (wp_walk
            exact z))
theorem make_call (F : ExcBaseFacts B nw ini bo) (u : Above B bm) {args : List Value} {fI : Addr}
    (hC : hh.get? C = some (excClassObj nm qn C N bs bm hd sn sub ab cl dd k0 k1 k2 k3 k5 nw))
    (hi : Looks (model prog w) hh (typeLookup (.ref C) "__init__") (some (.ref fI)))
    (hb : ∀ self, Looks (model prog w) hh (bindSpecial (.ref fI) self) (.ref fI, [self])) (hz : args.length ≤ sizeLine)
    (q : codeAny (model prog w) (A.under (.builtin "type.__call__" ⟨.ref C :: args, []⟩)) (.call (.ref fI) ⟨.ref (hh.objs.size + 1) :: args, []⟩)
      (InitBack (hh.objs.size + 1) R) ⟨(hh.push (kdv_tup args)).push (HandSPX.excO C hh.objs.size), gg, dr, tk, oo⟩) :
    codeAny (model prog w) A (.call (.ref C) ⟨args, []⟩) R ⟨hh, gg, dr, tk, oo⟩ := by
  have g1 := tc_lookup
  have g2 := tc_bind (.ref C)
  have gT : (⟨hh, gg, dr, tk, oo⟩ : Shared).TypeIs (.ref C) "type" := ⟨_, hC, rfl⟩
  refine codeAny_of_tree ?_
  show wpAny _ _ (callAny (.ref C) _) _ _ _
  repeat (any_goals (first
    | assumption
    | with_reducible refine wpAny_loadPart_at hC ?_
    | wp_step))
  refine ⟨rfl, ?_⟩
  refine codeAny_call_builtin_at (Code.quiet_builtin _ (by decide +kernel)) entry_typeCall ?_
  refine wpAny_check_type_call_sub hC (type_call F u hC rfl hi hb hz (codeAny_mono q fun r s' z => ?_))
  rcases r with e | (v | _ | _ | _) <;> exact z
/-! the same with one keyword -/
variable {f : Str} {v : Value}
theorem new_checkK (F : ExcBaseFacts B nw ini bo) (u : Above B bm) {Q : Unit → Shared → Prop}
    (hC : hh.get? C = some (excClassObj nm qn C N bs bm hd sn sub ab cl dd k0 k1 k2 k3 k5 nw)) (q : Q () ⟨hh, gg, dr, tk, oo⟩) :
    wpAny M A (checkBuiltinCall nw ⟨[.ref C], [(f, v)]⟩) Q E ⟨hh, gg, dr, tk, oo⟩ := by
  have c1 := u.has1 (C := C)
  have c2 := F.noStar
  simp only [checkBuiltinCall, F.newKind, F.newSplit, F.newRow]
  repeat (first
    | refine wpAny_loadPart_at hC ?_
    | (refine wpAny_isSubtype_exc hC ?_
       rw [c1])
    | refine wpAny_staticBase_exc hC ?_
    | refine wpAny_madeBy_exc hC ?_
    | simp only [bne_self_eq_false, Bool.false_eq_true, if_false]
    | wp_step)
  exact q
theorem new_runK (F : ExcBaseFacts B nw ini bo) (u : Above B bm)
    (hC : hh.get? C = some (excClassObj nm qn C N bs bm hd sn sub ab cl dd k0 k1 k2 k3 k5 nw))
    (q : R (.ok (.ret (.ref (hh.objs.size + 1)))) ⟨(hh.push (kdv_tup [])).push (HandSPX.excO C hh.objs.size), gg, dr, tk, oo⟩) :
    codeAny (model prog w) A (.builtin nw ⟨[.ref C], [(f, v)]⟩) R ⟨hh, gg, dr, tk, oo⟩ := by
  have e1 := F.ends
  have c1 := u.has1 (C := C)
  have c2 := u.noA1 (C := C)
  have c3 := u.noN1 (C := C)
  refine codeAny_builtinAt F.entry ?_
  unfold Builtin.«BaseException.__new__»
  refine wpAt_bind ?_
  show wpAt _ _ _ (stack >>= _) _ _ _
  refine wpAt_bind (wpAt_stack fun _ _ => wpAt_of_wpAny ?_)
  wp_walk
  refine wpAt_of_wpAny ?_
  rw [F.owner]
  repeat (first
    | with_reducible refine wpAny_madeHere_exc F.canon hC ?_
    | with_reducible refine wpAny_loadPart_at hC ?_
    | (with_reducible refine wpAny_isSubtype_exc hC ?_
       first | rw [c1] | rw [c2] | rw [c3])
    | wp_step)
  show R _ _
  rw [Heap.size_push]
  exact q
theorem type_callK (F : ExcBaseFacts B nw ini bo) (u : Above B bm) {fI : Addr} {Q : Fin → Shared → Prop}
    (hC : hh.get? C = some (excClassObj nm qn C N bs bm hd sn sub ab cl dd k0 k1 k2 k3 k5 nw))
    (hi : Looks (model prog w) hh (typeLookup (.ref C) "__init__") (some (.ref fI)))
    (hb : ∀ self, Looks (model prog w) hh (bindSpecial (.ref fI) self) (.ref fI, [self]))
    (q : codeAny (model prog w) A (.call (.ref fI) ⟨[.ref (hh.objs.size + 1)], [(f, v)]⟩)
      (fun r s' => match r with | .ok (.ret v) => v = .none ∧ Q (.done (.ret (.ref (hh.objs.size + 1)))) s' | .ok _ => False | .error e => E e s')
      ⟨(hh.push (kdv_tup [])).push (HandSPX.excO C hh.objs.size), gg, dr, tk, oo⟩) :
    wpAny (model prog w) A (Builtin.«type.__call__» ⟨[.ref C], [(f, v)]⟩) Q E ⟨hh, gg, dr, tk, oo⟩ := by
  repeat (first
    | with_reducible refine wpAny_loadPart_at hC ?_
    | with_reducible refine wpAny_madeBy_exc hC ?_
    | wp_step)
  refine codeAny_call_builtin_code (Code.quiet_builtin _ F.quiet) (new_checkK F u hC ?_)
  refine new_runK F u hC ?_
  show wpAny _ _ _ _ _ _
  have hC2 := kept2 (o1 := kdv_tup []) (o2 := HandSPX.excO C hh.objs.size) _ _ hC
  have hnew : ((hh.push (kdv_tup [])).push (HandSPX.excO C hh.objs.size)).get? (hh.objs.size + 1) = some (HandSPX.excO C hh.objs.size) := by heap_get
  have hself : (Value.ref C :: bm).contains (.ref C) = true := by simp
  have i2 := hi.keeps (kept2 (o1 := kdv_tup []) (o2 := HandSPX.excO C hh.objs.size))
  have b2 := (hb (.ref (hh.objs.size + 1))).keeps (kept2 (o1 := kdv_tup []) (o2 := HandSPX.excO C hh.objs.size))
  unfold isInstance
  repeat (first
    | with_reducible refine wpAny_loadPart_at hnew ?_
    | (with_reducible refine wpAny_isSubtype_exc hC2 ?_
       rw [hself])
    | wp_step)
  show wpAny _ _ (typeLookup (.ref C) _) _ _ _
  refine i2.at ?_
  refine wpAny_holding (wpAny_bind (b2.at ?_))
  refine wpAny_bind (wpAny_call (codeAny_mono q fun r s' z => ?_))
  rcases r with e | (v | _ | _ | _) <;> first
    | exact z
    | exact z.elim
    | (obtain ⟨rfl, z⟩ := z
       first
         | exact wpAny_pure (wpAny_pure z)
         | (wp_walk
            exact z))
theorem type_checkK {Q : Unit → Shared → Prop} (hC : hh.get? C = some (excClassObj nm qn C N bs bm hd sn sub ab cl dd k0 k1 k2 k3 k5 nw))
    (q : Q () ⟨hh, gg, dr, tk, oo⟩) : wpAny M A (checkBuiltinCall "type.__call__" ⟨[.ref C], [(f, v)]⟩) Q E ⟨hh, gg, dr, tk, oo⟩ := by
  have g3 := tc_sub
  have gT : (⟨hh, gg, dr, tk, oo⟩ : Shared).TypeIs (.ref C) "type" := ⟨_, hC, rfl⟩
  simp only [checkBuiltinCall, tc_kind, tc_split]
  repeat (any_goals (first
    | assumption
    | with_reducible refine wpAny_loadPart_at hC ?_
    | with_reducible refine wpAny_onRaise ?_
    | with_reducible refine wpAny_map ?_
    | wp_step))
theorem make_callK (F : ExcBaseFacts B nw ini bo) (u : Above B bm) {fI : Addr}
    (hC : hh.get? C = some (excClassObj nm qn C N bs bm hd sn sub ab cl dd k0 k1 k2 k3 k5 nw))
    (hi : Looks (model prog w) hh (typeLookup (.ref C) "__init__") (some (.ref fI)))
    (hb : ∀ self, Looks (model prog w) hh (bindSpecial (.ref fI) self) (.ref fI, [self]))
    (q : codeAny (model prog w) (A.under (.builtin "type.__call__" ⟨[.ref C], [(f, v)]⟩)) (.call (.ref fI) ⟨[.ref (hh.objs.size + 1)], [(f, v)]⟩)
      (InitBack (hh.objs.size + 1) R) ⟨(hh.push (kdv_tup [])).push (HandSPX.excO C hh.objs.size), gg, dr, tk, oo⟩) :
    codeAny (model prog w) A (.call (.ref C) ⟨[], [(f, v)]⟩) R ⟨hh, gg, dr, tk, oo⟩ := by
  have g1 := tc_lookup
  have g2 := tc_bind (.ref C)
  have gT : (⟨hh, gg, dr, tk, oo⟩ : Shared).TypeIs (.ref C) "type" := ⟨_, hC, rfl⟩
  refine codeAny_of_tree ?_
  show wpAny _ _ (callAny (.ref C) _) _ _ _
  repeat (any_goals (first
    | assumption
    | with_reducible refine wpAny_loadPart_at hC ?_
    | wp_step))
  refine ⟨rfl, ?_⟩
  refine codeAny_call_builtin_at (Code.quiet_builtin _ (by decide +kernel)) entry_typeCall ?_
  refine type_checkK hC (type_callK F u hC hi hb (codeAny_mono q fun r s' z => ?_))
  rcases r with e | (v | _ | _ | _) <;> exact z
end
end Er
end PySem

namespace PySem
namespace Er
open PySem.W PySem.Calls PyProof.Rows
open Builtin Builtin.ObjectAttr
/-- B's own __init__, by the name ini, lays the args anew -/
structure IniB (B ini : String) : Prop where
  slot : Slot B "__init__" ini
  entry : entryFor table ini = some Builtin.«BaseException.__init__»
  split : splitId ini = some (B, "__init__")
  kind : builtinKind ini = some .slot
  row : Manifest.signature? ini = some ⟨.positional, "*", B, .self, [⟨"args", .varPos, false⟩]⟩
  noStar : (B != "*") = true
theorem IniB.of {B nw ini : String} (F : ExcCallFacts B nw ini) : IniB B ini := ⟨F.init, F.initEntry, F.initSplit, F.initKind, F.initRow, F.noStar⟩
theorem ini_KeyError : IniB "KeyError" "KeyError.__init__" where
  slot := .of (owner := "KeyError") (n := "__init__") (by rw [typeLookup_type, builtinLookup_eq_fast]; kernel_rfl) (by decide +kernel) (by decide +kernel)
    (by decide +kernel) (by first | exact .inl (by decide +kernel) | exact .inr (by decide +kernel)) (by rw [isSubtype_type]; kernel_rfl)
  entry := entryFor_alias (id' := "BaseException.__init__") (by rw [fastTable_eq_tree]; kernel_rfl)
    (by first | rfl | decide +kernel) (by decide +kernel) (by rw [fastTable_eq_tree]; kernel_rfl)
  split := by kernel_rfl
  kind := by kernel_rfl
  row := by kernel_rfl
  noStar := by decide +kernel
abbrev keyTail : List Value := [.type "KeyError", .type "LookupError", .type "Exception", .type "BaseException", .type "object"]
theorem store_KeyError : StoreFacts "KeyError" keyTail "object.__setattr__" "object" where
  mro := by kernel_rfl
  slot := .of (owner := "object") (n := "__setattr__") (by rw [typeLookup_type, builtinLookup_eq_fast]; kernel_rfl)
    (by decide +kernel) (by decide +kernel) (by decide +kernel)
    (by first | exact .inl (by decide +kernel) | exact .inr (by decide +kernel)) (by rw [isSubtype_type]; kernel_rfl)
  entry := F.entry_object_sa
  kind := by decide +kernel
  split := by decide +kernel
  hasOwner := by decide +kernel
  args := fun _ _ _ => by unfold argsOk; kernel_rfl
  passes := fun _ => by kernel_rfl
section
variable {prog : Program} {w : World} {M : Model} {A : Around} {E : Value → Shared → Prop} {R : Result → Shared → Prop}
variable {hh : Heap} {gg : Array GenState} {dr : Drawn} {tk : Nat} {oo : OsState}
variable {nm qn : Str} {C N : Addr} {bs bm bo : List Value} {hd : Bool} {sn : List Str} {sub : List Value} {ab : Bool} {cl : Option Bool} {dd : Option Addr} {k0 k1 k2 k3 k5 : Option Value} {B nw ini : String}
theorem ini_check (F : IniB B ini) (hB : bm.contains (.type B) = true) {e : Addr} {oe : Obj} {args : List Value} {Q : Unit → Shared → Prop}
    (hC : hh.get? C = some (excClassObj nm qn C N bs bm hd sn sub ab cl dd k0 k1 k2 k3 k5 nw)) (he : hh.get? e = some oe) (hc : oe.cls = .ref C)
    (q : Q () ⟨hh, gg, dr, tk, oo⟩) : wpAny M A (checkBuiltinCall ini ⟨.ref e :: args, []⟩) Q E ⟨hh, gg, dr, tk, oo⟩ := by
  have c1 : (Value.ref C :: bm).contains (.type B) = true := by
    rw [List.contains_cons, hB, Bool.or_true]
  have c2 := F.noStar
  simp only [checkBuiltinCall, F.kind, F.split, F.row]
  repeat (first
    | (with_reducible refine wpAny_loadPart_at he ?_
       rw [hc])
    | with_reducible refine wpAny_loadPart_at hC ?_
    | (with_reducible refine wpAny_isSubtype_exc hC ?_
       rw [c1])
    | wp_step)
  refine wpAny_onRaise ?_
  have z : ∀ (a b : String) (n : Nat), Bind.check ⟨.positional, "*", B, .self, [⟨"args", .varPos, false⟩]⟩ a b n (List.map (fun x => x.fst) ({ pos := Value.ref e :: args } : Args).kw) = pure () :=
    fun _ _ _ => check_star_args _ _ _ _ _ _
  rw [z]
  exact wpAny_pure q
theorem ini_run (F : IniB B ini) (hB : bm.contains (.type B) = true) {e t0 : Addr} {args : List Value}
    (hC : hh.get? C = some (excClassObj nm qn C N bs bm hd sn sub ab cl dd k0 k1 k2 k3 k5 nw)) (he : hh.get? e = some (HandSPX.excO C t0)) (hz : args.length ≤ sizeLine)
    (q : ∀ h' t1, (∀ b o, b ≠ e → hh.get? b = some o → h'.get? b = some o) → h'.get? e = some (HandSPX.excO C t1) → R (.ok (.ret .none)) ⟨h', gg, dr, tk, oo⟩) :
    codeAny (model prog w) A (.call (.builtin ini) ⟨.ref e :: args, []⟩) R ⟨hh, gg, dr, tk, oo⟩ := by
  refine codeAny_call_builtin F.slot.plain F.entry (ini_check F hB hC he rfl ?_)
  exact exc_init_tree (cls := .ref C) (t0 := t0) (dv := none) (c2 := .none) (c3 := .none) (b4 := .bool false) he hz fun h' k1 k2 _ => q h' _ k1 k2
end
end Er
end PySem

namespace L2
open PySem PySem.Spec PyProof.Rows
/-- an own error class at C, over the built-in class B (whose tail is bo), made by nw -/
structure ErC (K : PySem.W.Frag) (C : Addr) (B nw : String) (bo : List Value) : Prop where
  isn : PySem.W.excInitIn K C bo nw = true
  ovr : PySem.W.excOver K C bo = true
  sa : PySem.W.findIn K (.ref C) "__setattr__" = some (some (.builtin "object.__setattr__"))
  hd : PySem.W.hasDictIn K C = true
  kC : PySem.W.keepIn K (.ref C) = true
  ga : PySem.W.findIn K (.ref C) "__getattribute__" = some (some (.builtin "BaseException.__getattribute__"))
  gg : PySem.W.findIn K (.ref C) "__getattr__" = some none
  exC : PySem.W.subIn K (.ref C) (.type "BaseException") = some true
  ca : PySem.W.findIn K (.ref C) "__class__" = some (some (.builtin "object.__class__"))
  cn : PySem.W.specialIn K (.builtin "object.__class__") "__get__" = some (some (.builtin "getset_descriptor.__get__"))
  ct : PySem.W.takesIn K (.builtin "object.__class__") = some true
  mo : PySem.W.mroIn K C (.type "object") = some true
  hB : bo.contains (.type B) = true
section
variable {X : Cx} {pins : List (Addr × Obj)} {σ : St} {H : Hp} {s : Shared} {a C dx : Addr} {f : Str} {y : V} {u : Value} {fs : List (Str × V)} {E : Value → Shared → Prop} {A : Around} {B nw ini : String} {bo : List Value}
/-- B.__init__(self, ..) -/
theorem er_ini {us : List Value} {Q : Value → Shared → Prop} (T : ErC X.K C B nw bo) (F : PySem.Er.IniB B ini) (I : Inv X pins σ H s) (e : H a = some (exo a C none)) (hl : us.length ≤ sizeLine)
    (h : ∀ s', Inv X pins σ H s' → Q .none s') : wpAny (model X.prog X.w) A (call (.builtin ini) (.ref a :: us)) Q E s := by
  obtain ⟨nm, N, qn, bs, bm, hd, sn, sub, ab, cl, dd, k0, k1, k2, k3, k5, hC, hT⟩ := PySem.W.excInit_of I.kIn T.isn
  obtain ⟨t1, ho⟩ := exo_at I.hok e
  obtain ⟨hp, g, d, t, os⟩ := s
  refine wpAny_call (PySem.Er.ini_run F ((hT B).trans T.hB) hC ho hl fun h' t2 k hx => ?_)
  have J := I.write (t' := t) (x := a) (e := a) (o := exo a C none) (by rw [e]; exact True.intro) (.inl rfl) k ⟨_, hx⟩ (exo_ok hx)
  have eu : upd H a (exo a C none) = H := by
    funext b
    by_cases hb : b = a
    · rw [hb, upd_same, e]
    · rw [upd_ne hb]
  rw [eu] at J
  exact h _ J
end
end L2

namespace PySem
namespace Er
open PySem.W PySem.Calls PyProof.Rows
open Builtin Builtin.ObjectAttr
section
variable {prog : Program} {w : World} {A : Around} {R : Result → Shared → Prop} {hp : Heap} {gg : Array GenState} {dr : Drawn} {tk : Nat} {oo : OsState}
theorem first_store {K : W.Frag} {B : String} {bo : List Value} {name : Str} {tt : Tok} {v : Value} {x C t0 : Addr} (SF : StoreFacts B bo "object.__setattr__" "object")
    (X : K.In hp) (hx : hp.get? x = some (HandSPX.excO C t0)) (ho : W.excOver K C bo = true) (ht : W.takerIn K C name = some none) (hd : W.hasDictIn K C = true)
    (q : ∀ h' t' dx, (∀ b o, b ≠ x → hp.get? b = some o → h'.get? b = some o) → hp.objs.size ≤ dx → dx ≠ x →
      h'.get? x = some { cls := .ref C, dict := some dx, data := .fields #[.ref t0, .none, .none, .none, .bool false, .none] } →
      h'.Ns1 dx (fun y => if y = name then some v else none) → R (.ok (.ret .none)) ⟨h', gg, dr, t', oo⟩) :
    codeAny (model prog w) A (.call (.builtin "object.__setattr__") ⟨[.ref x, .str name tt, v], []⟩) R ⟨hp, gg, dr, tk, oo⟩ := by
  refine osa_openX (s := ⟨hp, gg, dr, tk, oo⟩) (od := none) SF X ⟨hx, rfl, rfl, trivial⟩ ho ht fun b => ?_
  obtain ⟨cd, hc, hd'⟩ := any_some hd
  have hxs : x ≠ hp.objs.size := Nat.ne_of_lt (Heap.lt_size hx)
  refine wpAny_bind (wpAny_pure (wpAny_bind (instanceDict_exc (s := ⟨hp, gg, dr, tk, oo⟩) (t := t0) (c2 := .none) hx (looks_clsIn X hc) hd' ?_)))
  show wpAny _ _ (storeInDict hp.objs.size (.str name tt) name v) _ _ _
  have hx1 : (hp.push (dictOf [] 0)).get? x = some (HandSPX.excO C t0) := Heap.get?_push_of_some _ hx
  have hnew : (hp.push (dictOf [] 0)).get? hp.objs.size = some (dictOf [] 0) := Heap.get?_push_size _ rfl
  refine HandSPX.store_in_new ⟨dictOf [] 0, #[], 0, (Heap.get?_update_ne _ _ _ _ hxs.symm).trans hnew, rfl, fun e he => absurd he (by simp), fun _ => rfl⟩ fun h' t' hn hs => ?_
  refine q h' t' hp.objs.size (fun b o hb hbo => ?_) (Nat.le_refl _) hxs.symm ?_ hn
  · exact (hs.2 b (Nat.ne_of_lt (Heap.lt_size hbo))).trans ((Heap.get?_update_ne _ _ _ _ hb).trans (Heap.get?_push_of_some _ hbo))
  · exact (hs.2 x hxs).trans (Heap.get?_update_self _ hx1 rfl)
end
end Er
end PySem
namespace L2
open PySem PySem.Spec PyProof.Rows
section
variable {X : Cx} {pins : List (Addr × Obj)} {σ : St} {H : Hp} {s : Shared} {a C dx : Addr} {f : Str} {y : V} {u : Value} {fs : List (Str × V)} {E : Value → Shared → Prop} {A : Around} {B nw ini : String} {bo : List Value}
/-- self.f = y on an error that has no dict yet -/
theorem er_set {Q : Unit → Shared → Prop} (T : ErC X.K C B nw bo) (SF : StoreFacts B bo "object.__setattr__" "object") (I : Inv X pins σ H s) (e : H a = some (exo a C none)) (ht : PySem.W.takerIn X.K C f = some none) (ry : RelV y u)
    (h : ∀ dx s', H dx = none → dx ≠ a → Inv X pins σ (upd (upd H dx (exd dx [(f, y)])) a (exo a C (some dx))) s' → Q () s') :
    wpAny (model X.prog X.w) A (setAttr (.ref a) f u) Q E s := by
  obtain ⟨t1, ho⟩ := exo_at I.hok e
  obtain ⟨hp, g, d, t, os⟩ := s
  refine PySem.W.set_plain I.kIn (ox := HandSPX.excO C t1) (od := none) ⟨ho, rfl, rfl, trivial⟩ T.sa ?_
  refine PySem.Er.first_store SF I.kIn ho T.ovr ht T.hd (fun h' tk' dx k dn dne hx hn => ?_)
  have hnd : H dx = none := I.hok.fresh dn
  have nd : ∀ {b : Addr} {o : Obj}, hp.get? b = some o → b ≠ dx := fun {b o} q => Nat.ne_of_lt (Nat.lt_of_lt_of_le (Heap.lt_size q) dn)
  have na : ∀ {b : Addr}, H b = none → b ≠ a := fun {b} n z => by
    rw [z, e] at n
    cases n
  have two : ∀ {b : Addr} {o : HO}, H b = some o → exo a C none ≠ o → upd (upd H dx (exd dx [(f, y)])) a (exo a C (some dx)) b = some o := fun {b o} q ne => by
    rw [upd_ne (at_ne e q ne), upd_ne (ne_of_none q hnd)]
    exact q
  have U : Un X.fs [] H (upd (upd H dx (exd dx [(f, y)])) a (exo a C (some dx))) hp h' := {
    keep := fun b o q n _ _ => k b o (na n) q
    slot := fun b o q n _ _ => ⟨o.slots, k b o (na n) q⟩
    free := fun b o q n _ => by rw [upd_ne (na n), upd_ne (nd q)]; exact n
    there := fun b o q _ => by
      by_cases hb : b = a
      · exact ⟨_, by rw [hb]; exact hx⟩
      · exact ⟨o, k b o hb q⟩
    tups := fun b xs q => two q exo_tup
    frzs := fun b o v q => two q exo_frz
    tbls := fun b ps q => ⟨#[], by rw [two q exo_tbl]; simp⟩ }
  refine h dx _ hnd dne (I.un (t' := tk') U fun b o q => ?_)
  by_cases hb : b = a
  · subst hb
    rw [upd_same] at q
    cases q
    exact exo_ok hx
  · rw [upd_ne hb] at q
    by_cases hd : b = dx
    · subst hd
      rw [upd_same] at q
      cases q
      exact exd_ok hn (relO_put (fs := []) ry fun g => True.intro)
    · rw [upd_ne hd] at q
      refine (I.hok b o q).stay (fun c v hc z => k c v ?_ z) (fun c hc => two hc exo_own) fun c xs hc => two hc exo_tup
      rcases hc with hc | hc
      · rw [hc]
        exact hb
      · exact at_ne e hc exo_own
end
/-! ### the readings -/
/-- Z.__init__(self, ..): Z above the error's class; nothing is told of it -/
def tErI (ta : TA) (B : String) : TE := fun σ H Q => ta σ H fun vs H1 => ∃ (a C : Addr) (ws : List V), vs = .ref a :: ws ∧ ws.length ≤ 1000 ∧ H1 a = some (exo a C none) ∧ Q .non H1
/-- self.f = e, the first -/
def tErS (f : Str) (to te : TE) : TS := fun D σ H => te σ H fun y H1 => to σ H1 fun x H2 => ∃ a C : Addr, x = .ref a ∧ H2 a = some (exo a C none) ∧
  ∀ dx, H2 dx = none → dx ≠ a → D.nx σ (upd (upd H2 dx (exd dx [(f, y)])) a (exo a C (some dx)))
section
variable {X : Cx} {o e : Expr} {es : List Expr} {to te : TE} {ta : TA} {f x : Str} {p p' p1 p2 pos : Pos} {B nw ini : String} {bo : List Value} {W0 : Addr}
/-- self.f = e; all tracked errors without a dict here are of the class at C -/
theorem ps_ers {C : Addr} (T : ErC X.K C B nw bo) (SF : StoreFacts B bo "object.__setattr__" "object") (ht : PySem.W.takerIn X.K C f = some none) (ho : PE X o to) (he : PE X e te)
    (hs : swapsWith e (some (.Attribute o f p')) pos.line X.env = pure false := by rfl) : PS X (.Assign [.Attribute o f p'] e pos)
      (fun D σ H => te σ H fun y H1 => to σ H1 fun x H2 => ∃ a : Addr, x = .ref a ∧ H2 a = some (exo a C none) ∧
        ∀ dx, H2 dx = none → dx ≠ a → D.nx σ (upd (upd H2 dx (exd dx [(f, y)])) a (exo a C (some dx)))) := by
  refine ⟨fun pins s σ H D I h => ?_⟩
  refine plainObj_wpAny_Assign_Attribute (thn (he.run pins s σ H _ I h) fun v s1 ⟨y, H1, I1, r1, q1⟩ => thn (ho.run pins s1 σ H1 _ I1 q1) fun u s2 ⟨x, H2, I2, r2, a, ex, ea, q⟩ => ?_) hs
  subst ex
  obtain rfl : u = Value.ref a := r2
  exact er_set T SF I2 ea ht r1 fun dx s' n ne J => ⟨σ, _, J, q dx n ne⟩
/-- W.__init__(self, ..), W an own class that has its __init__ from B -/
theorem pe_eri {C : Addr} {pl : Sem Bool} (T : ErC X.K C B nw bo) (F : PySem.Er.IniB B ini) (hg : Gl X x) (hm : X.mg x = some (.ref W0))
    (hsp : PySem.W.specialIn X.K (.ref W0) "__getattribute__" = some (some (.builtin "type.__getattribute__"))) (hrd : PySem.W.readsIn X.K W0 (.type "type") = true)
    (hf : PySem.W.findCls X.K (.ref W0) (.type "type") "__init__" = some (.val (.builtin ini))) (hin : PySem.W.handedIn (.builtin ini) = true) (ha : PA X (e :: es) ta) (hdb : (x == ("__debug__" : Str)) = false := by decide)
    (hc : eval (.Call (.Attribute (.Name x p1) "__init__" p2) (e :: es) [] pos) X.env = (do
      let ov ← eval (.Name x p1) X.env
      standAt p2.atName
      let (f, first) ← holding [ov] (getMethod ov "__init__" pl)
      callWith pos f first (backTo pos (starEach (e :: es) X.env)) (backToKw pos (keywordEach [] X.env))) := by rfl)
    (he : starEach (e :: es) X.env = (false, eval e X.env) :: starEach es X.env := by rfl) (hpl : (backTo pos (starEach es X.env)).any (·.1) = false := by rfl) :
    PE X (.Call (.Attribute (.Name x p1) "__init__" p2) (e :: es) [] pos)
      (fun σ H Q => ta σ H fun vs H1 => ∃ (a : Addr) (ws : List V), vs = .ref a :: ws ∧ ws.length ≤ 1000 ∧ H1 a = some (exo a C none) ∧ Q .non H1) := by
  refine ⟨fun pins s σ H Q I h => ?_⟩
  refine PySem.W.methodCall_KW (ld_glob I hg hm ?_ hdb) hc
  refine PySem.W.method_cls I.kIn hsp (PySem.W.cls_value I.kIn hrd hf hin ?_)
  show wpAny _ _ (callWith pos (Value.builtin ini) [] (backTo pos (starEach (e :: es) X.env)) []) _ _ _
  refine PyProof.Rows.callWith_method1 (thn (ha.run pos pins _ σ H _ (I.tok _) h) fun us s1 ⟨vs, H1, I1, r1, a, ws, ev, hl, ea, q⟩ => ?_) he hpl
  subst ev
  cases r1 with
  | @cons _ u0 _ ur ra rw' =>
    obtain rfl : u0 = Value.ref a := ra
    have hlen : ur.length ≤ sizeLine := by
      rw [← Paired.length rw', sizeLine_eq]
      omega
    exact er_ini T F I1 ea hlen fun s' J => ⟨.non, H1, J, rfl, q⟩
/-- the same of a built-in class -/
theorem pe_erb {C : Addr} {pl : Sem Bool} (T : ErC X.K C B nw bo) (F : PySem.Er.IniB B ini) (hg : Gl X x) (hm : X.mg x = none) (hv : bootBuiltins x = some (.type B)) (hty : typeOf (.type B) = pure (.type "type")) (hst : Manifest.isStub B = false)
    (hf : PySem.W.findCls X.K (.type B) (.type "type") "__init__" = some (.val (.builtin ini))) (hin : PySem.W.handedIn (.builtin ini) = true) (ha : PA X (e :: es) ta) (hn : x ≠ "__name__" := by decide) (hdb : (x == ("__debug__" : Str)) = false := by decide)
    (hc : eval (.Call (.Attribute (.Name x p1) "__init__" p2) (e :: es) [] pos) X.env = (do
      let ov ← eval (.Name x p1) X.env
      standAt p2.atName
      let (f, first) ← holding [ov] (getMethod ov "__init__" pl)
      callWith pos f first (backTo pos (starEach (e :: es) X.env)) (backToKw pos (keywordEach [] X.env))) := by rfl)
    (he : starEach (e :: es) X.env = (false, eval e X.env) :: starEach es X.env := by rfl) (hpl : (backTo pos (starEach es X.env)).any (·.1) = false := by rfl) :
    PE X (.Call (.Attribute (.Name x p1) "__init__" p2) (e :: es) [] pos)
      (fun σ H Q => ta σ H fun vs H1 => ∃ (a : Addr) (ws : List V), vs = .ref a :: ws ∧ ws.length ≤ 1000 ∧ H1 a = some (exo a C none) ∧ Q .non H1) := by
  refine ⟨fun pins s σ H Q I h => ?_⟩
  refine PySem.W.methodCall_KW (ld_blt I hg hm hv ?_ hn hdb) hc
  obtain ⟨m, fr⟩ := I.fr
  refine PySem.W.method_type fr I.ok.mod.kin hty hst hf hin ?_
  show wpAny _ _ (callWith pos (Value.builtin ini) [] (backTo pos (starEach (e :: es) X.env)) []) _ _ _
  refine PyProof.Rows.callWith_method1 (thn (ha.run pos pins _ σ H _ (I.tok _) h) fun us s1 ⟨vs, H1, I1, r1, a, ws, ev, hl, ea, q⟩ => ?_) he hpl
  subst ev
  cases r1 with
  | @cons _ u0 _ ur ra rw' =>
    obtain rfl : u0 = Value.ref a := ra
    have hlen : ur.length ≤ sizeLine := by
      rw [← Paired.length rw', sizeLine_eq]
      omega
    exact er_ini T F I1 ea hlen fun s' J => ⟨.non, H1, J, rfl, q⟩
end
end L2

namespace L2
open PySem PySem.Spec PyProof.Rows
/-- a def's promise where no repr is under way -/
structure FnG (P : Program) (w : World) (K : PySem.W.Frag) (mg : Str → Option Value) (base : Heap) (k : Nat) (f : Addr) (fd : FuncData) (ps : List Str) (sp : Sp) : Prop where
  len : ∀ vs H Q, sp vs H Q E0 → vs.length = ps.length
  run : ∀ (A : Around) (outer : List Env) (s : Shared) (H : Hp) (args : Args) (us : List Value) (vs : List V) (Q : VK), Room k A → A.guards = some [] →
    Env0 P w K mg base A outer s H → BindsTo s fd args (ps.zip us) → Vals vs us → sp vs H Q E0 →
    codeAny (model P w) A (.call (.ref f) args) (CR CX0 outer P w H s Q E0) s
theorem FnG.of {P : Program} {w : World} {K : PySem.W.Frag} {mg : Str → Option Value} {base : Heap} {k : Nat} {f : Addr} {fd : FuncData} {ps : List Str} {sp : Sp}
    (F : FnOk P w K mg base CX0 k f fd ps sp) : FnG P w K mg base k f fd ps sp :=
  ⟨fun vs H Q => F.len vs H Q E0, fun A outer s H args us vs Q hr _ e b r q => F.run A outer s H args us vs Q E0 hr e b r q⟩
theorem FnG.mono {P : Program} {w : World} {K : PySem.W.Frag} {mg : Str → Option Value} {base : Heap} {j k : Nat} {f : Addr} {fd : FuncData} {ps : List Str} {sp : Sp}
    (F : FnG P w K mg base j f fd ps sp) (h : j ≤ k) : FnG P w K mg base k f fd ps sp :=
  ⟨F.len, fun A outer s H args us vs Q hr => F.run A outer s H args us vs Q (hr.mono h)⟩
section
variable {P : Program} {w : World} {K : PySem.W.Frag} {mg : Str → Option Value} {base : Heap}
theorem Fun.okG {x qual : Str} {st : Stmt} {f : Addr} {fd : FuncData} {N ps : List Str} {k : Nat} {sp : Sp} (F : Fun K x qual st f fd) (S : FnScope N ps (defScope st))
    (len : ∀ vs H Q, sp vs H Q E0 → vs.length = ps.length)
    (body : ∀ (cdv : Value) (A : Around) (outer : List Env) (s : Shared) (H : Hp) (vs : List V) (Q : VK),
      Room k (A.deeper (envOfC qual (defScope st) s.heap.objs.size f cdv)) → (A.deeper (envOfC qual (defScope st) s.heap.objs.size f cdv)).guards = some [] → sp vs H Q E0 →
      ∃ t, PSs (cxOf CX0 P w K mg base N qual (defScope st) f cdv A outer s H E0).nox (defBody st) t ∧ t { nx := fun _ H' => Q .non H', rt := Q } (start N vs) H) :
    FnG P w K mg base (k + 1) f fd ps sp := by
  obtain ⟨oc, od, kV, doc, pm, an, cdv, ct, osl, rfl, lk, hcd⟩ := F.ex
  refine ⟨len, fun A outer s H args us vs Q hr hg e0 hb r hsp => ?_⟩
  have hl := len _ _ _ hsp
  have KX : K.In s.heap := e0.mod.kin.keeps fun b o e => (e0.bs b o e).1
  have lim : s.heap.NoLimit := e0.mod.nolimit.keeps fun b o e => (e0.bs b o e).1
  refine codeAny_call_function hr.depth (KX _ _ lk) rfl S.co S.gen rfl (PySem.W.codeRec_of KX hcd) (hb _ _ _ _ ?_)
  refine wpAny_newFunctionEnv_cells S.kind (fun ⟨n, v⟩ hy => ?_) fun env he s1 x => ?_
  · rcases S.par n (List.of_mem_zip hy).1 with q | q
    · exact .inl q
    · exact .inr ⟨q, PySem.W.cellsFrom_some _ _ _ (.inl q)⟩
  subst he
  refine ⟨lim.keeps x.toInCall.keep, codeAny_func ?_⟩
  obtain ⟨t, ht, hq⟩ := body cdv A outer s H vs Q (hr.deeper _) hg hsp
  have I := inv_start (CX := CX0) (P := P) (w := w) (E := E0) S hr.hd e0 hl r x
  refine wpAny_mono (ht.run [] s1 (start N vs) H _ (I.wish _) hq) (fun fl s' hs => ?_) fun e s' hs => hs.elim
  cases fl with
  | ret u =>
    obtain ⟨v, σ', H', J, rv, q⟩ := hs
    exact ⟨v, H', J.os, J.bare, J.base, J.hok, rv, q⟩
  | next =>
    obtain ⟨σ', H', J, q⟩ := hs
    exact ⟨V.non, H', J.os, J.bare, J.base, J.hok, rfl, q⟩
  | brk =>
    obtain ⟨_, _, _, z⟩ := hs
    exact False.elim z
  | cont =>
    obtain ⟨_, _, _, z⟩ := hs
    exact False.elim z
end
section
variable {X : Cx} {k : Nat} {f : Addr} {fd : FuncData} {ps : List Str} {sp : Sp} {x : Str} {p pos : Pos} {e : Expr} {es : List Expr} {t : TA}
theorem run_fnG {pins : List (Addr × Obj)} {σ : St} {H : Hp} {s : Shared} {Q : VK} {us : List Value} {vs : List V} (F : FnG X.prog X.w X.K X.mg X.base k f fd ps sp) (hr : Room k X.A)
    (hgd : X.A.guards = some []) (hb : Binds X.K fd ps []) (I : Inv X pins σ H s) (r : Vals vs us) (h : sp vs H Q E0) :
    wpAny (model X.prog X.w) X.A (call (.ref f) us) (EP X pins σ Q) X.xe s := by
  have hl : (us ++ []).length = ps.length := by
    rw [List.append_nil, ← r.length]
    exact F.len _ _ _ h
  have hb' := hb s us I.kIn hl
  rw [List.append_nil] at hb'
  refine wpAny_call (codeAny_mono (F.run X.A X.stack s H ⟨us, []⟩ us vs Q hr hgd I.env0 hb' r h) fun r s' hq => ?_)
  rcases r with er | (u | _ | _ | _)
  all_goals first | exact hq.elim | exact I.after hq
/-- f(e, ..) -/
theorem pe_callG (F : FnG X.prog X.w X.K X.mg X.base k f fd ps sp) (hr : Room k X.A) (hgd : X.A.guards = some []) (hg : Gl X x) (hm : X.mg x = some (.ref f)) (hk : PySem.W.keepIn X.K (.ref f) = true)
    (hb : Binds X.K fd ps []) (ha : PA X (e :: es) t) (hdb : (x == ("__debug__" : Str)) = false := by decide) (he : starEach (e :: es) X.env = (false, eval e X.env) :: starEach es X.env := by rfl)
    (hpl : (backTo pos (starEach es X.env)).any (·.1) = false := by rfl) : PE X (.Call (.Name x p) (e :: es) [] pos) (fun σ H Q => t σ H fun vs H1 => sp vs H1 Q E0) := by
  refine ⟨fun pins s σ H Q I h => ?_⟩
  refine wpAny_Call_Name_kw (ld_glob I hg hm ?_ hdb)
  refine PySem.W.callWith_K (h₀ := X.base) I.ok.mod.kin hk (thn (ha.run pos pins s σ H _ I h) fun us s1 ⟨vs, H1, I1, r, q⟩ => ⟨I1.kIn, ?_⟩) he hpl
  exact run_fnG F hr hgd hb I1 r q
end
/-! ### an error as a value -/
/-- at a: an error of the class at C whose field f is y -/
def ErrAt (H : Hp) (a C : Addr) (f : Str) (y : V) : Prop := ∃ d, H a = some (exo a C (some d)) ∧ H d = some (exd d [(f, y)])
theorem ErrAt.same {H H' : Hp} {a C : Addr} {f : Str} {y : V} (x : ErrAt H a C f y) (e : Same H H') : ErrAt H' a C f y :=
  let ⟨d, h1, h2⟩ := x
  ⟨d, e _ _ h1, e _ _ h2⟩
/-- the promise of an __init__ that keeps its argument in f -/
def spErr (C : Addr) (f : Str) (Ok : V → Hp → Prop) : Sp := fun vs H Q _ => ∃ (a : Addr) (y : V), vs = [.ref a, y] ∧ H a = some (exo a C none) ∧ Ok y H ∧
  ∀ d, H d = none → d ≠ a → Q .non (upd (upd H d (exd d [(f, y)])) a (exo a C (some d)))
section
variable {X : Cx} {k : Nat} {fI C : Addr} {fd : FuncData} {ps : List Str} {f x kn : Str} {p pos kpos : Pos} {e : Expr} {te : TE} {B nw ini nwi : String} {bo bn : List Value} {Ok : V → Hp → Prop}
/-- behind the making -/
theorem er_made {pins : List (Addr × Obj)} {σ : St} {H1 : Hp} {y : V} {s1 : Shared} {args : Args} {R : Result → Shared → Prop} {A1 : Around}
    {tup : Obj} {us : List Value} (F1 : FnG X.prog X.w X.K X.mg X.base k fI fd ps (spErr C f Ok)) (hA : Room k A1) (hA2 : A1.guards = some []) (hA3 : A1.frames = X.A.frames)
    (I1 : Inv X pins σ H1 s1) (hb : BindsTo { s1 with heap := (s1.heap.push tup).push (HandSPX.excO C s1.heap.objs.size) } fd args (ps.zip us))
    (rv : Vals [V.ref (s1.heap.objs.size + 1), y] us) (hOk : ∀ a, H1 a = none → Ok y (upd H1 a (exo a C none)))
    (hR : ∀ s' H2, Inv X pins σ H2 s' → Same H1 H2 → H1 (s1.heap.objs.size + 1) = none → ErrAt H2 (s1.heap.objs.size + 1) C f y → R (.ok (.ret .none)) s') :
    codeAny (model X.prog X.w) A1 (.call (.ref fI) args) R { s1 with heap := (s1.heap.push tup).push (HandSPX.excO C s1.heap.objs.size) } := by
  have hsz : s1.heap.objs.size ≤ s1.heap.objs.size + 1 := Nat.le_succ _
  have hn : H1 (s1.heap.objs.size + 1) = none := I1.hok.fresh hsz
  have hget : ((s1.heap.push tup).push (HandSPX.excO C s1.heap.objs.size)).get? (s1.heap.objs.size + 1) = some (HandSPX.excO C s1.heap.objs.size) := by
    have z := Heap.get?_push_size (s1.heap.push tup) (o := HandSPX.excO C s1.heap.objs.size) rfl
    rw [Heap.size_push] at z
    exact z
  have I2 : Inv X pins σ (upd H1 (s1.heap.objs.size + 1) (exo (s1.heap.objs.size + 1) C none)) { s1 with heap := (s1.heap.push tup).push (HandSPX.excO C s1.heap.objs.size) } :=
    I1.laid (t' := s1.toks) (fun b o q => Heap.get?_push_of_some _ (Heap.get?_push_of_some _ q)) hsz (exo_ok hget)
  have e0 := I2.env0
  refine codeAny_mono (F1.run A1 X.stack _ _ args us _ (fun v H2 => v = .non ∧ Same H1 H2 ∧ ErrAt H2 (s1.heap.objs.size + 1) C f y) hA hA2
    ⟨hA3.trans e0.frames, e0.mod, e0.bs, e0.bsz, e0.funs, e0.frf, e0.hok, e0.bare⟩ hb rv
    ⟨s1.heap.objs.size + 1, y, rfl, upd_same, hOk _ hn, fun d hd nd => ⟨rfl, fun b o q => ?_, d, upd_same, ?_⟩⟩) fun r s' hq => ?_
  · rw [upd_ne (ne_of_none q hn)]
    have nb : b ≠ d := fun z => by
      rw [z] at q
      rw [upd_ne nd, q] at hd
      cases hd
    rw [upd_ne nb, upd_ne (ne_of_none q hn)]
    exact q
  · rw [upd_ne nd, upd_same]
  · cases r with
    | error er => exact False.elim hq
    | ok fl =>
      cases fl with
      | ret u =>
        obtain ⟨v, H2, J, rv2, ev, hs, he⟩ := I2.after hq
        subst ev
        cases (show u = Value.none from rv2)
        exact hR s' H2 J hs hn he
      | next => exact False.elim hq
      | brk => exact False.elim hq
      | cont => exact False.elim hq
end
end L2

namespace L2
open PySem PySem.Spec PyProof.Rows
theorem typeCall_guards {A : Around} {us : List Value} {kw : List (Str × Value)} (h : A.guards = some []) : (A.under (.builtin "type.__call__" ⟨us, kw⟩)).guards = some [] := by
  first
    | exact h
    | (show pushGuards (Code.guards _) A.guards = some []
       rw [show Code.guards (.builtin "type.__call__" ⟨us, kw⟩) = [] from by first | rfl | simp [Code.guards, Code.isGuard, guardIds]]
       exact h)
theorem typeCall_frames {A : Around} {us : List Value} {kw : List (Str × Value)} : (A.under (.builtin "type.__call__" ⟨us, kw⟩)).frames = A.frames := by
  first
    | rfl
    | simp [Around.under, Code.envs, Code.isFrame, pushEnvs]
/-- the reading of C(y) and C(f=y), as a value -/
def tErV (C : Addr) (f : Str) (Ok : V → Hp → Prop) (ta : TA) : TE := fun σ H Q => ta σ H fun vs H1 => ∃ y, vs = [y] ∧ (∀ a, H1 a = none → Ok y (upd H1 a (exo a C none))) ∧
  ∀ H2 a, Same H1 H2 → H1 a = none → ErrAt H2 a C f y → Q (.ref a) H2
section
variable {X : Cx} {k : Nat} {fI C : Addr} {fd : FuncData} {ps : List Str} {f x kn : Str} {p pos kpos : Pos} {e : Expr} {ta : TA} {B nw Bn nwi : String} {bo bn : List Value} {Ok : V → Hp → Prop}
theorem above_of {bm : List Value} (u : PySem.Er.Above Bn bo) (hT : ∀ X : String, bm.contains (.type X) = bo.contains (.type X)) : PySem.Er.Above Bn bm :=
  ⟨(hT _).trans u.has, (hT _).trans u.noA, (hT _).trans u.noN⟩
/-- C(y) -/
theorem pe_errV (T : ErC X.K C B nw bo) (FB : ExcBaseFacts Bn nw nwi bn) (u : PySem.Er.Above Bn bo) (iC : PySem.W.findIn X.K (.ref C) "__init__" = some (some (.ref fI)))
    (tI : PySem.W.typeIn X.K (.ref fI) = some (.type "function")) (F1 : FnG X.prog X.w X.K X.mg X.base k fI fd ["self", f] (spErr C f Ok)) (hr : Room (k + 1) X.A) (hgd : X.A.guards = some [])
    (hb : Binds X.K fd ["self", f] []) (hg : Gl X x) (hm : X.mg x = some (.ref C)) (ha : PA X [e] ta) (hdb : (x == ("__debug__" : Str)) = false := by decide)
    (hs : starEach (e :: []) X.env = (false, eval e X.env) :: starEach [] X.env := by rfl) (hpl : (backTo pos (starEach [] X.env)).any (·.1) = false := by rfl) :
    PE X (.Call (.Name x p) [e] [] pos) (tErV C f Ok ta) := by
  refine ⟨fun pins s σ H Q I h => ?_⟩
  refine wpAny_Call_Name_kw (ld_glob I hg hm ?_ hdb)
  refine PySem.W.callWith_K (h₀ := X.base) I.ok.mod.kin T.kC (thn (ha.run pos pins s σ H _ I h) fun us s1 ⟨vs, H1, I1, r1, y, ev, hOk, hq⟩ => ⟨I1.kIn, ?_⟩) hs hpl
  subst ev
  show wpAny _ _ (call (.ref C) us) _ _ _
  obtain ⟨nm, N, qn, bs, bm, hd, sn, sub, ab, cl, dd, k0, k1, k2, k3, k5, hC, hT⟩ := PySem.W.excInit_of I1.kIn T.isn
  have hus : us.length ≤ sizeLine := by
    rw [← Paired.length r1, sizeLine_eq]
    exact (by decide : 1 ≤ 16777216)
  obtain ⟨hp, gg, dr, tk, oo⟩ := s1
  have hsz : hp.objs.size ≤ hp.objs.size + 1 := Nat.le_succ _
  refine wpAny_call (PySem.Er.make_call FB (above_of u hT) hC (PySem.W.looks_findIn I1.kIn iC) (fun self => PySem.W.bind_fn I1.kIn self tI) hus
    (er_made (s1 := ⟨hp, gg, dr, tk, oo⟩) (A1 := X.A.under (.builtin "type.__call__" ⟨.ref C :: us, []⟩)) (us := Value.ref (hp.objs.size + 1) :: us) F1 (hr.make C us []) (typeCall_guards hgd) typeCall_frames I1 ?_ (.cons rfl r1) hOk fun s' H2 J hsame hn he => ⟨rfl, .ref (hp.objs.size + 1), H2, J, rfl, hq H2 _ hsame hn he⟩))
  · have KX : X.K.In ((hp.push (PySem.W.kdv_tup us)).push (HandSPX.excO C hp.objs.size)) := I1.kIn.keeps PySem.Er.kept2
    have z := hb ⟨(hp.push (PySem.W.kdv_tup us)).push (HandSPX.excO C hp.objs.size), gg, dr, tk, oo⟩ (Value.ref (hp.objs.size + 1) :: us) KX (by
      rw [List.append_nil, List.length_cons, ← Paired.length r1]
      rfl)
    rw [List.append_nil] at z
    exact z
/-- C(f=y) -/
theorem pe_errK {tk : TA} {kws : List Keyword} (T : ErC X.K C B nw bo) (FB : ExcBaseFacts Bn nw nwi bn) (u : PySem.Er.Above Bn bo) (iC : PySem.W.findIn X.K (.ref C) "__init__" = some (some (.ref fI)))
    (tI : PySem.W.typeIn X.K (.ref fI) = some (.type "function")) (F1 : FnG X.prog X.w X.K X.mg X.base k fI fd ["self", f] (spErr C f Ok)) (hr : Room (k + 1) X.A) (hgd : X.A.guards = some [])
    (hb : ∀ (s : Shared) (u v : Value), BindsTo s fd ⟨[u], [(f, v)]⟩ [("self", u), (f, v)]) (hg : Gl X x) (hm : X.mg x = some (.ref C)) (ha : PK X kws tk) (hdb : (x == ("__debug__" : Str)) = false := by decide)
    (hall : (backToKw pos (keywordEach kws X.env)).all (·.1.isSome) = true := by rfl) (hks : (backToKw pos (keywordEach kws X.env)).filterMap (·.1) = [f] := by rfl)
    (hpl : ((backTo pos (starEach [] X.env)).any (·.1) || (backToKw pos (keywordEach kws X.env)).any (·.1.isNone)) = false := by rfl) :
    PE X (.Call (.Name x p) [] kws pos) (tErV C f Ok tk) := by
  refine ⟨fun pins s σ H Q I h => ?_⟩
  refine wpAny_Call_Name_kw (ld_glob I hg hm ?_ hdb)
  refine PySem.W.callWith_KW0 (h₀ := X.base) I.ok.mod.kin T.kC hall (thn (ha.run pos pins s σ H _ I h) fun us s1 ⟨vs, H1, I1, r1, y, ev, hOk, hq⟩ => ⟨I1.kIn, ?_⟩) hpl
  subst ev
  rw [hks]
  cases r1 with
  | @cons _ u1 _ ur ry rn =>
  cases rn
  show wpAny _ _ (call (.ref C) [] [(f, u1)]) _ _ _
  obtain ⟨nm, N, qn, bs, bm, hd, sn, sub, ab, cl, dd, k0, k1, k2, k3, k5, hC, hT⟩ := PySem.W.excInit_of I1.kIn T.isn
  obtain ⟨hp, gg, dr, tk, oo⟩ := s1
  exact wpAny_call (PySem.Er.make_callK FB (above_of u hT) hC (PySem.W.looks_findIn I1.kIn iC) (fun self => PySem.W.bind_fn I1.kIn self tI)
    (er_made (s1 := ⟨hp, gg, dr, tk, oo⟩) (A1 := X.A.under (.builtin "type.__call__" ⟨[.ref C], [(f, u1)]⟩)) (us := [Value.ref (hp.objs.size + 1), u1]) F1 (hr.make C [] [(f, u1)]) (typeCall_guards hgd) typeCall_frames I1
      (hb _ _ _) (.cons rfl (.cons ry .nil)) hOk fun s' H2 J hsame hn he => ⟨rfl, .ref (hp.objs.size + 1), H2, J, rfl, hq H2 _ hsame hn he⟩))
/-! ### what is asked of an error -/
theorem err_inst {pins : List (Addr × Obj)} {σ : St} {H : Hp} {s : Shared} {a : Addr} {y : V} (I : Inv X pins σ H s) (h : ErrAt H a C f y) :
    ∃ ox od mA d, PySem.W.InstAt s.heap a ox C (some od) ∧ s.heap.Ns1 d mA ∧ s.heap.get? d = some od ∧ ∀ g, RelO ([(f, y)].lookup g) (mA g) := by
  obtain ⟨d, h1, h2⟩ := h
  obtain ⟨t1, ho⟩ := exo_at I.hok h1
  obtain ⟨mA, hns, rel⟩ := exd_at I.hok h2
  obtain ⟨od, es, ep, hod, hr⟩ := id hns
  exact ⟨_, od, mA, d, ⟨ho, rfl, rfl, hod⟩, hns, hod, rel⟩
/-- e.f -/
theorem pe_errF {o : Expr} {to : TE} {n : Str} (ho : PE X o to) (hb : attributeBase o n X.env (eval o X.env) = eval o X.env := by rfl) :
    PE X (.Attribute o n pos) (fun σ H Q => to σ H fun x H1 => ∃ (a C : Addr) (y : V) (B nw : String) (bo : List Value), x = .ref a ∧ ErrAt H1 a C n y ∧ ErC X.K C B nw bo ∧ PySem.W.findIn X.K (.ref C) n = some none ∧ Q y H1) := by
  refine ⟨fun pins s σ H Q I h => ?_⟩
  refine attr_of hb (thn (ho.run pins s σ H _ I h) fun u s1 ⟨x, H1, I1, rx, a, C, y, B, nw, bo, ex, he, T, hno, q⟩ => ?_)
  subst ex
  obtain rfl : u = Value.ref a := rx
  obtain ⟨d, h1, h2⟩ := he
  obtain ⟨t1, hoe⟩ := exo_at I1.hok h1
  obtain ⟨mA, hns, rel⟩ := exd_at I1.hok h2
  obtain ⟨od, hod, hl⟩ := lookIn_ns hns
  have r1 := rel n
  have lk : [(n, y)].lookup n = some y := by simp [List.lookup]
  rw [lk] at r1
  obtain ⟨u, hu, ru⟩ := RelO.some_of r1
  have J : PySem.W.InstAt s1.heap a { cls := .ref C, dict := some d, data := .fields #[.ref t1, .none, .none, .none, .bool false, .none] } C (some od) := ⟨hoe, rfl, rfl, hod⟩
  exact HandSPX.exc_get I1.kIn J T.ga T.gg T.exC (PySem.W.findObj_own T.hd hno rfl (by rw [hl, hu])) (handed_of ru) ⟨y, H1, I1.tok _, ru, q⟩
/-- isinstance(e, c) -/
def rIsErr (K : PySem.W.Frag) : List V → Hp → VK → Prop := fun xs H Q => ∃ (a C : Addr) (f : Str) (y c : V) (u : Value) (b : Bool) (B nw : String) (bo : List Value), xs = [.ref a, c] ∧ ErrAt H a C f y ∧ ErC K C B nw bo ∧
  ClsV c u ∧ PySem.W.kitOne K (.ref C) u = some b ∧ Q (.bl b) H
theorem call_isErr : CallR X (.builtin "isinstance") (rIsErr X.K) := by
  intro pins s σ H xs us Q I r h
  obtain ⟨a, C, f, y, c, u, b, B, nw, bo, rfl, he, T, k, e, q⟩ := h
  obtain ⟨u1, u2, rfl, r1, r2⟩ := vals2 r
  have e2 := k.eq r2
  subst e2
  obtain rfl : u1 = Value.ref a := r1
  obtain ⟨ox, od, mA, d, J, _⟩ := err_inst I he
  obtain ⟨cd, hcd, _⟩ := PySem.W.any_some T.hd
  exact PySem.W.kia_one (PySem.W.kitx_exc (gt := none) (ox := ox) (od := some od) (by rw [hcd]; rfl) T.ga T.gg T.exC T.ca T.cn T.ct T.mo) I.kIn J e (fun z => nomatch z) fun tk => ⟨.bl b, H, I.tok tk, rfl, q⟩
end
end L2

namespace L2
open PySem PySem.Spec PyProof.Rows
/-- {'a': 1}, the one dict that is shown here -/
abbrev oneKv : List (Key × V) := [(Sum.inr ("a" : Str), V.int 1)]
abbrev oneDict : PyData := .dict [(.str "a", .int 1)]
/-- v is the data d -/
inductive Dy (K : PySem.W.Frag) (H : Hp) : V → PyData → Prop where
  | plain {v : V} {d : PyData} (h : Dp K H v d) (n : d.hasDict = false) : Dy K H v d
  | dict {a : Addr} (e : H a = some (.dK oneKv)) : Dy K H (.ref a) oneDict
section
variable {X : Cx} {pins : List (Addr × Obj)} {σ : St} {H : Hp} {s : Shared}
theorem Dy.reads (I : Inv X pins σ H s) {v : V} {d : PyData} {u : Value} (h : Dy X.K H v d) (r : RelV v u) : ∃ as, Reads s.heap u d as ∧ (d.hasDict = true → sysModules ∉ as) := by
  cases h with
  | plain h n =>
    obtain ⟨as, q⟩ := Dp.reads I _ _ _ h r
    exact ⟨as, q, fun z => by rw [n] at z; cases z⟩
  | @dict a e =>
    obtain rfl : u = Value.ref a := r
    obtain ⟨_, hm, vs, kv, o, es, ep, ho, ex, hd, _, pr, _⟩ := (show ObjOk X.prog X.w H s.heap a (.dK oneKv) from I.hok a _ e)
    cases kv with
    | @cons _ q _ _ h1 h2 =>
      cases h2
      obtain ⟨k, w⟩ := q
      obtain ⟨e1, t, e2⟩ := h1
      dsimp only at e1 e2
      subst e1 e2
      obtain ⟨es⟩ := es
      dsimp only at pr
      cases pr with
      | @cons en _ _ _ p1 p2 p3 =>
        cases p3
        dsimp only at p1 p2
        obtain ⟨x, tk, e3, e4⟩ : ∃ (x : Str) (tk : Tok), en.key = .str x tk ∧ x = "a" := by
          have p1' : keyIs (Sum.inr ("a" : Str)) en.key = true := p1
          rcases keyIs_shape p1' with ⟨i, t', q1, q2⟩ | ⟨x, t', q1, q2⟩
          · cases q1
          · exact ⟨x, t', q2, (Sum.inr.inj q1).symm⟩
        subst e4
        refine ⟨_, Reads.dict (kvs := [(.str "a", .int 1)]) ho ex.1 hd (as := []) (bs := []) ?_ ?_, fun _ => ?_⟩
        · show ReadsAll _ [en.key] [.str "a"] []
          rw [e3]
          exact .cons (.str _ _) .nil
        · show ReadsAll _ [en.val] [.int 1] []
          rw [p2]
          exact .cons (.int _ _) .nil
        · have na : a ≠ sysModules := by simpa using hm
          simp [Ne.symm na]
theorem Dy.readsAll (I : Inv X pins σ H s) {v : V} {d : PyData} (h : Dy X.K H v d) : ∀ (n : Nat) (us : List Value), Vals (List.replicate n v) us → ∃ as, ReadsAll s.heap us (List.replicate n d) as ∧ (d.hasDict = true → sysModules ∉ as)
  | 0, _, r => by
    cases r
    exact ⟨[], .nil, fun _ => by simp⟩
  | n + 1, _, r => by
    cases r with
    | cons r1 r2 =>
      obtain ⟨as, q1, q2⟩ := Dy.reads I h r1
      obtain ⟨bs, q3, q4⟩ := Dy.readsAll I h n _ r2
      exact ⟨as ++ bs, .cons q1 q3, fun z w => (List.mem_append.mp w).elim (q2 z) (q4 z)⟩
end
/-- what can be shown, shortly -/
structure Short (d : PyData) : Prop where
  sh : d.showable = true
  ln : d.shown.length ≤ 100
  dp : d.depth ≤ 10
  st : ∀ x, d = .str x → x.length ≤ 100
section
variable {X : Cx} {e : Expr} {te : TE} {pos : Pos} {k : Nat}
/-- {x}: some short text -/
theorem pe_fmtD (hr : Room k X.A) (hgd : X.A.guards = some []) (he : PE X e te) : PE X (.FormattedValue e (-1) none pos)
    (fun σ H Q => te σ H fun x H1 => ∃ d, Dy X.K H1 x d ∧ Short d ∧ ∀ m : Str, m.length ≤ 100 → Q (.str m) H1) := by
  refine ⟨fun pins s σ H Q I h => ?_⟩
  refine wpAny_FormattedValue_plain (thn (he.run pins s σ H _ I h) fun v s1 ⟨x, H1, I1, r1, d, hd, sh, q⟩ => ?_)
  have hun := hr.units
  obtain ⟨as, rd, hsm⟩ := Dy.reads I1 hd r1
  have hz : d.shown.length ≤ sizeLine := Nat.le_trans sh.ln (by rw [sizeLine_eq]; decide)
  have fin : ∀ {a : Addr}, v = .ref a → wpAny (model X.prog X.w) X.A (formatField v Str.empty) (EP X pins σ Q) X.xe s1 := fun {a} ev => by
    subst ev
    exact formatField_of_reads rd sh.sh hsm hgd (by have := sh.dp; omega) (fun _ _ z => z) (fun h' u tk hk => ⟨.str d.shown, H1, I1.kept hk, ⟨u, rfl⟩, q _ sh.ln⟩) hz
  cases rd with
  | none => exact wpAny_formatField_none ⟨.str "None", H1, I1.tok _, ⟨_, rfl⟩, q _ sh.ln⟩
  | bool b => exact wpAny_formatField_bool ⟨.str (if b then "True" else "False"), H1, I1.tok _, ⟨_, rfl⟩, q _ sh.ln⟩
  | int i t =>
    have hi : i.natAbs.log2 < 1920 := by
      have z := sh.sh
      simpa [PyData.showable] using z
    exact wpAny_formatField_int hi ⟨.str (toString i), H1, I1.tok _, ⟨_, rfl⟩, q _ sh.ln⟩
  | str x t =>
    have hx := sh.st x rfl
    exact wpAny_formatField_str ⟨.str x, H1, I1, ⟨_, rfl⟩, q _ hx⟩ ⟨.str x, H1, I1.tok _, ⟨_, rfl⟩, q _ hx⟩ (Nat.le_trans hx (by rw [sizeLine_eq]; decide))
  | list => exact fin rfl
  | tuple => exact fin rfl
  | dict => exact fin rfl
theorem dictAll_rep {d : PyData} : ∀ n : Nat, PyData.hasDictAll (List.replicate n d) = true → d.hasDict = true
  | 0, z => by cases z
  | n + 1, z => by
    have z3 : (d.hasDict || PyData.hasDictAll (List.replicate n d)) = true := z
    cases hh : d.hasDict with
    | true => rfl
    | false =>
      rw [hh, Bool.false_or] at z3
      exact hh.symm.trans (dictAll_rep n z3)
/-- repr([v] * n) -/
def rRepr (K : PySem.W.Frag) : List V → Hp → VK → Prop := fun xs H Q => ∃ (l : Addr) (n : Nat) (v : V) (d : PyData), xs = [.ref l] ∧ H l = some (.lst (List.replicate n v)) ∧ Dy K H v d ∧
  (PyData.list (List.replicate n d)).showable = true ∧ (PyData.list (List.replicate n d)).shown.length ≤ 10000 ∧ (PyData.list (List.replicate n d)).depth ≤ 20 ∧
  Q (.str (PyData.list (List.replicate n d)).shown) H
theorem call_reprL (hr : Room k X.A) (hgd : X.A.guards = some []) (hS : ∃ o, X.base.get? sysModules = some o) : CallR X (.builtin "repr") (rRepr X.K) := by
  intro pins s σ H xs us Q I r h
  obtain ⟨l, n, v, d, rfl, hl, hd, h1, h2, h3, q⟩ := h
  cases r with
  | @cons _ u _ ur ru rn =>
  cases rn
  obtain rfl : u = Value.ref l := ru
  obtain ⟨_, its, m, rv, hget⟩ := (show ObjOk X.prog X.w H s.heap l (.lst (List.replicate n v)) from I.hok l _ hl)
  obtain ⟨as, ra, hsm⟩ := Dy.readsAll I hd n its rv
  have hun := hr.units
  have nl : l ≠ sysModules := fun z => by
    obtain ⟨o, ho⟩ := hS
    have w := (I.bs _ _ ho).2
    rw [← z, hl] at w
    cases w
  have rd : Reads s.heap (.ref l) (.list (List.replicate n d)) (l :: as) := Reads.list hget rfl rfl ra
  refine repr_of_reads' rd h1 (fun z w => ?_) hgd (by omega) (fun _ _ z => z) (fun h' u tk hk => ⟨.str _, H, I.kept hk, ⟨u, rfl⟩, q⟩) (Nat.le_trans h2 (by rw [sizeLine_eq]; decide))
  rcases List.mem_cons.mp w with w | w
  · exact nl w.symm
  · exact hsm (dictAll_rep n z) w
end
end L2

namespace Lg
open PySem PySem.Spec PyProof.Rows L2
inductive Op where
  | plus | minus | times | less | same
deriving DecidableEq
def Op.sign : Op → List Nat
  | .plus => [32, 43, 32]
  | .minus => [32, 45, 32]
  | .times => [32, 42, 32]
  | .less => [32, 60, 32]
  | .same => [32, 61, 61, 32]
def Op.str : Op → Nat
  | .plus => 2
  | .minus => 2
  | .times => 3
  | .less => 1
  | .same => 1
def Op.name : Op → Str
  | .plus => "plus"
  | .minus => "minus"
  | .times => "times"
  | .less => "less"
  | .same => "same"
theorem Op.str_pos (o : Op) : 1 ≤ o.str := by cases o <;> decide
theorem Op.str_le (o : Op) : o.str ≤ 3 := by cases o <;> decide
inductive E where
  | word (z : List Nat)
  | num (n : Nat)
  | ask (q z : List Nat)
  | op (o : Op) (a b : E)
/-- the code points of str(n) -/
def ntx (n : Nat) : List Nat := (Str.ofString (toString (n : Int))).cps.toList
def Dig (c : Nat) : Prop := 48 ≤ c ∧ c ≤ 57
def Let (c : Nat) : Prop := 97 ≤ c ∧ c ≤ 122
instance : DecidablePred Dig := fun c => by unfold Dig; exact inferInstance
instance : DecidablePred Let := fun c => by unfold Let; exact inferInstance
structure WordOk (z : List Nat) : Prop where
  ne : z ≠ []
  len : z.length ≤ 8
  all : ∀ c ∈ z, Let c
structure NumOk (n : Nat) : Prop where
  lt : n < 1000000007
  ne : ntx n ≠ []
  len : (ntx n).length ≤ 10
  all : ∀ c ∈ ntx n, Dig c
  lead : (ntx n)[0]? = some 48 → (ntx n).length ≤ 1
  int : intText? ⟨(ntx n).toArray⟩ = some (n : Int)
/-- the code points of a word -/
def wd (s : String) : List Nat := (Str.ofString s).cps.toList
def Ques (q : List Nat) : Prop := q = wd "known" ∨ q = wd "reason"
def E.Ok : E → Prop
  | .word z => WordOk z
  | .num n => NumOk n
  | .ask q z => Ques q ∧ WordOk z
  | .op _ a b => a.Ok ∧ b.Ok
def E.dep : E → Nat
  | .op _ a b => max a.dep b.dep + 1
  | _ => 1
def E.str : E → Nat
  | .op o _ _ => o.str
  | _ => 4
theorem E.dep_pos (e : E) : 1 ≤ e.dep := by cases e <;> simp [E.dep]
theorem E.str_pos (e : E) : 1 ≤ e.str := by
  cases e with
  | op o a b => exact o.str_pos
  | _ => show 1 ≤ 4; decide
def signAt (l : List Nat) : Option Op :=
  if [32, 43, 32].isPrefixOf l then some .plus else if [32, 45, 32].isPrefixOf l then some .minus else if [32, 42, 32].isPrefixOf l then some .times
  else if [32, 60, 32].isPrefixOf l then some .less else if [32, 61, 61, 32].isPrefixOf l then some .same else none
def NoHead (P : Nat → Prop) (l : List Nat) : Prop := ∀ c r, l = c :: r → ¬ P c
def Bef (l : List Nat) : Prop := ∃ c r, l = 32 :: c :: r ∧ Let c
inductive J where
  | opd
  | ops (least : Nat)
  | loop (least : Nat) (e : E) (d : Nat)
inductive Rd : Nat → Nat → J → List Nat → E → Nat → List Nat → Prop where
  | par {h ar l e d l'} : ar < 20 → Rd h (ar + 1) (.ops 1) l e d (41 :: l') → Rd (h + 1) ar .opd (40 :: l) e d l'
  | num {h ar n l'} : NumOk n → NoHead Dig l' → Rd h ar .opd (ntx n ++ l') (.num n) 1 l'
  | word {h ar z l'} : WordOk z → NoHead Let l' → ¬ (Ques z ∧ Bef l') → Rd h ar .opd (z ++ l') (.word z) 1 l'
  | ask {h ar q z l'} : Ques q → WordOk z → NoHead Let l' → Rd h ar .opd (q ++ 32 :: (z ++ l')) (.ask q z) 1 l'
  | ops {h ar least l e0 d0 l1 e d l'} : Rd h ar .opd l e0 d0 l1 → Rd h ar (.loop least e0 d0) l1 e d l' → Rd (h + 1) ar (.ops least) l e d l'
  | stop {h ar least e d l} : (∀ o, signAt l = some o → o.str < least) → Rd h ar (.loop least e d) l e d l
  | step {h ar least e d o l1 e2 d2 l2 e' d' l'} : signAt (o.sign ++ l1) = some o → least ≤ o.str → Rd h ar (.ops (o.str + 1)) l1 e2 d2 l2 → max d d2 + 1 ≤ 6 →
      Rd h ar (.loop least (.op o e e2) (max d d2 + 1)) l2 e' d' l' → Rd h ar (.loop least e d) (o.sign ++ l1) e' d' l'
theorem Rd.mono {h ar j l e d l'} (r : Rd h ar j l e d l') : ∀ {h2}, h ≤ h2 → Rd h2 ar j l e d l' := by
  induction r with
  | par a _ ih => intro h2 z; obtain ⟨m, rfl⟩ : ∃ m, h2 = m + 1 := ⟨h2 - 1, by omega⟩; exact .par a (ih (by omega))
  | num a b => intro h2 z; exact .num a b
  | word a b c => intro h2 z; exact .word a b c
  | ask a b c => intro h2 z; exact .ask a b c
  | ops _ _ i1 i2 => intro h2 z; obtain ⟨m, rfl⟩ : ∃ m, h2 = m + 1 := ⟨h2 - 1, by omega⟩; exact .ops (i1 (by omega)) (i2 (by omega))
  | stop a => intro h2 z; exact .stop a
  | step a b _ c _ i1 i2 => intro h2 z; exact .step a b (i1 z) c (i2 z)
/-! ### what stands behind is left -/
theorem split_one {P : Nat → Prop} : ∀ {a b r s : List Nat}, (∀ c ∈ a, P c) → (∀ c ∈ b, P c) → NoHead P r → NoHead P s → a ++ r = b ++ s → a = b ∧ r = s
  | [], [], _, _, _, _, _, _, e => ⟨rfl, e⟩
  | [], c :: b, r, s, _, hb, hr, _, e => absurd (hb c (by simp)) (hr c _ (by simpa using e))
  | c :: a, [], r, s, ha, _, _, hs, e => absurd (ha c (by simp)) (hs c _ (by simpa using e.symm))
  | c :: a, c2 :: b, r, s, ha, hb, hr, hs, e => by
    have e' : c :: (a ++ r) = c2 :: (b ++ s) := e
    injection e' with e1 e2
    obtain ⟨x, y⟩ := split_one (fun q hq => ha q (by simp [hq])) (fun q hq => hb q (by simp [hq])) hr hs e2
    exact ⟨by rw [e1, x], y⟩
theorem WordOk.head {z : List Nat} (w : WordOk z) : ∃ c r, z = c :: r ∧ Let c := by
  cases z with
  | nil => exact absurd rfl w.ne
  | cons c r => exact ⟨c, r, rfl, w.all c (by simp)⟩
theorem Ques.word {q : List Nat} (h : Ques q) : WordOk q := by
  rcases h with rfl | rfl
  · exact ⟨by decide +kernel, by decide +kernel, by decide +kernel⟩
  · exact ⟨by decide +kernel, by decide +kernel, by decide +kernel⟩
theorem NumOk.head {n : Nat} (w : NumOk n) : ∃ c r, ntx n = c :: r ∧ Dig c := by
  cases z : ntx n with
  | nil => exact absurd z w.ne
  | cons c r => exact ⟨c, r, rfl, w.all c (by rw [z]; simp)⟩
theorem let_dig {c : Nat} (h : Let c) (g : Dig c) : False := by
  obtain ⟨a, b⟩ := h
  obtain ⟨x, y⟩ := g
  omega
theorem let_open {c : Nat} (h : Let c) : c ≠ 40 := by
  obtain ⟨a, b⟩ := h
  omega
theorem dig_open {c : Nat} (h : Dig c) : c ≠ 40 := by
  obtain ⟨a, b⟩ := h
  omega
theorem nohead32 (r : List Nat) : NoHead Let (32 :: r) := fun c r' e => by
  injection e with e1 _
  rw [← e1]
  decide
theorem ntx_inj {n m : Nat} (hn : NumOk n) (hm : NumOk m) (e : ntx n = ntx m) : n = m := by
  have a := hn.int
  rw [e, hm.int] at a
  have b := Option.some.inj a
  omega
theorem det {h ar j l e d l'} (r : Rd h ar j l e d l') : ∀ {h2 e2 d2 l2}, Rd h2 ar j l e2 d2 l2 → e = e2 ∧ d = d2 ∧ l' = l2 := by
  induction r with
  | @par h ar l e d l' a _ ih =>
    intro h2 e2 d2 l2 r2
    generalize hl : 40 :: l = L at r2
    cases r2 with
    | par _ q =>
      injection hl with _ hl
      subst hl
      obtain ⟨x, y, z⟩ := ih q
      injection z with _ z
      exact ⟨x, y, z⟩
    | num w _ =>
      obtain ⟨c, r, e1, hc⟩ := w.head
      rw [e1] at hl
      injection hl with q _
      exact absurd q.symm (dig_open hc)
    | word w _ _ =>
      obtain ⟨c, r, e1, hc⟩ := w.head
      rw [e1] at hl
      injection hl with q _
      exact absurd q.symm (let_open hc)
    | ask w _ _ =>
      obtain ⟨c, r, e1, hc⟩ := w.word.head
      rw [e1] at hl
      injection hl with q _
      exact absurd q.symm (let_open hc)
  | @num h ar n l' hn hl' =>
    intro h2 e2 d2 l2 r2
    generalize hl : ntx n ++ l' = L at r2
    obtain ⟨c0, r0, en, hc0⟩ := hn.head
    cases r2 with
    | par _ q =>
      rw [en] at hl
      injection hl with q _
      exact absurd q (dig_open hc0)
    | num w k =>
      obtain ⟨x, y⟩ := split_one hn.all w.all hl' k hl
      exact ⟨by rw [ntx_inj hn w x], rfl, y⟩
    | word w _ _ =>
      obtain ⟨c, r, e1, hc⟩ := w.head
      rw [e1, en] at hl
      injection hl with q _
      exact (let_dig hc (q ▸ hc0)).elim
    | ask w _ _ =>
      obtain ⟨c, r, e1, hc⟩ := w.word.head
      rw [e1, en] at hl
      injection hl with q _
      exact (let_dig hc (q ▸ hc0)).elim
  | @word h ar z l' hn hl' nq =>
    intro h2 e2 d2 l2 r2
    generalize hl : z ++ l' = L at r2
    obtain ⟨c0, r0, en, hc0⟩ := hn.head
    cases r2 with
    | par _ q =>
      rw [en] at hl
      injection hl with q _
      exact absurd q (let_open hc0)
    | num w k =>
      obtain ⟨c, r, e1, hc⟩ := w.head
      rw [e1, en] at hl
      injection hl with q _
      exact (let_dig hc0 (q.symm ▸ hc)).elim
    | word w k _ =>
      obtain ⟨x, y⟩ := split_one hn.all w.all hl' k hl
      exact ⟨by rw [x], rfl, y⟩
    | ask w u k =>
      obtain ⟨x, y⟩ := split_one hn.all w.word.all hl' (nohead32 _) hl
      obtain ⟨c, r, e1, hc⟩ := u.head
      exact absurd ⟨x ▸ w, c, r ++ l2, by rw [y, e1]; rfl, hc⟩ nq
  | @ask h ar q z l' hq hz hl' =>
    intro h2 e2 d2 l2 r2
    generalize hl : q ++ 32 :: (z ++ l') = L at r2
    obtain ⟨c0, r0, en, hc0⟩ := hq.word.head
    cases r2 with
    | par _ q =>
      rw [en] at hl
      injection hl with q _
      exact absurd q (let_open hc0)
    | num w k =>
      obtain ⟨c, r, e1, hc⟩ := w.head
      rw [e1, en] at hl
      injection hl with q _
      exact (let_dig hc0 (q.symm ▸ hc)).elim
    | word w k nq =>
      obtain ⟨x, y⟩ := split_one hq.word.all w.all (nohead32 _) k hl
      obtain ⟨c, r, e1, hc⟩ := hz.head
      exact absurd ⟨x ▸ hq, c, r ++ l', by rw [← y, e1]; rfl, hc⟩ nq
    | ask w u k =>
      obtain ⟨x, y⟩ := split_one hq.word.all w.word.all (nohead32 _) (nohead32 _) hl
      injection y with _ y
      obtain ⟨y1, y2⟩ := split_one hz.all u.all hl' k y
      exact ⟨by rw [x, y1], rfl, y2⟩
  | ops _ _ i1 i2 =>
    intro h2 e2 d2 l2 r2
    cases r2 with
    | ops p q =>
      obtain ⟨x, y, z⟩ := i1 p
      subst x y z
      exact i2 q
  | @stop h ar least e d l a =>
    intro h2 e2 d2 l2 r2
    cases r2 with
    | stop _ => exact ⟨rfl, rfl, rfl⟩
    | step s k _ _ _ => exact absurd k (Nat.not_le.mpr (a _ s))
  | @step h ar least e d o l1 e2 d2 l2 e' d' l' s k _ _ _ i1 i2 =>
    intro h2 e2 d2 l2 r2
    generalize hl : o.sign ++ l1 = L at r2
    cases r2 with
    | stop a => exact absurd k (Nat.not_le.mpr (a _ (hl ▸ s)))
    | @step _ _ _ _ _ o2 l12 _ _ _ _ _ _ s2 k2 p m q =>
      have eo : o = o2 := by
        rw [← hl, s] at s2
        exact Option.some.inj s2
      subst eo
      have el := List.append_cancel_left hl
      subst el
      obtain ⟨x, y, z⟩ := i1 p
      subst x y z
      exact i2 q
end Lg

namespace Lg
open PySem PySem.Spec PyProof.Rows L2
def paren (s : List Nat) : List Nat := 40 :: (s ++ [41])
inductive Shw : E → List Nat → Prop where
  | word {z} : Shw (.word z) z
  | num {n} : Shw (.num n) (ntx n)
  | ask {q z} : Shw (.ask q z) (q ++ 32 :: z)
  | op {o a b sa sb xa xb} : Shw a sa → Shw b sb → (xa = paren sa ∨ (xa = sa ∧ o.str ≤ a.str)) → (xb = paren sb ∨ (xb = sb ∧ o.str < b.str)) → Shw (.op o a b) (xa ++ o.sign ++ xb)
def fmt : E → List Nat
  | .word z => z
  | .num n => ntx n
  | .ask q z => q ++ 32 :: z
  | .op o a b => (if a.str < o.str then paren (fmt a) else fmt a) ++ o.sign ++ (if b.str < o.str + 1 then paren (fmt b) else fmt b)
theorem shw_fmt : ∀ e : E, Shw e (fmt e)
  | .word _ => .word
  | .num _ => .num
  | .ask _ _ => .ask
  | .op o a b => by
    refine .op (shw_fmt a) (shw_fmt b) ?_ ?_
    · by_cases c : a.str < o.str
      · rw [if_pos c]; exact .inl rfl
      · rw [if_neg c]; exact .inr ⟨rfl, by omega⟩
    · by_cases c : b.str < o.str + 1
      · rw [if_pos c]; exact .inl rfl
      · rw [if_neg c]; exact .inr ⟨rfl, by omega⟩
/-- what may stand behind an expression so strong -/
def Fol (k : Nat) (r : List Nat) : Prop := r = [] ∨ (∃ r', r = 41 :: r') ∨ ∃ (o : Op) (r' : List Nat), r = o.sign ++ r' ∧ o.str ≤ k
theorem Fol.let {k : Nat} {r : List Nat} (f : Fol k r) : NoHead Let r := by
  intro c x e
  rcases f with rfl | ⟨r', rfl⟩ | ⟨o, r', rfl, _⟩
  · cases e
  · injection e with e _; rw [← e]; decide
  · cases o <;> (injection e with e _; rw [← e]; decide)
theorem Fol.dig {k : Nat} {r : List Nat} (f : Fol k r) : NoHead Dig r := by
  intro c x e
  rcases f with rfl | ⟨r', rfl⟩ | ⟨o, r', rfl, _⟩
  · cases e
  · injection e with e _; rw [← e]; decide
  · cases o <;> (injection e with e _; rw [← e]; decide)
theorem Fol.bef {k : Nat} {r : List Nat} (f : Fol k r) : ¬ Bef r := by
  rintro ⟨c, x, e, hc⟩
  rcases f with rfl | ⟨r', rfl⟩ | ⟨o, r', rfl, _⟩
  · cases e
  · injection e with e _; cases e
  · cases o <;> (injection e with _ e; injection e with e _; rw [← e] at hc; revert hc; decide)
theorem signAt_sign (o : Op) (r : List Nat) : signAt (o.sign ++ r) = some o := by
  cases o <;> rfl
theorem signAt_shut (r : List Nat) : signAt (41 :: r) = none := rfl
theorem Fol.stop {k : Nat} {r : List Nat} (f : Fol k r) : ∀ o, signAt r = some o → o.str < k + 1 := by
  intro o e
  rcases f with rfl | ⟨r', rfl⟩ | ⟨o2, r', rfl, h⟩
  · cases e
  · cases e
  · rw [signAt_sign] at e
    cases e
    omega
theorem Fol.up {k m : Nat} {r : List Nat} (f : Fol k r) (h : k ≤ m) : Fol m r := by
  rcases f with a | a | ⟨o, r', e, q⟩
  · exact .inl a
  · exact .inr (.inl a)
  · exact .inr (.inr ⟨o, r', e, by omega⟩)
theorem fol_shut {k : Nat} {r : List Nat} : Fol k (41 :: r) := .inr (.inl ⟨r, rfl⟩)
/-- a reading of the text of e, and of what comes behind it -/
theorem reads {e : E} {s : List Nat} (S : Shw e s) : e.Ok → e.dep ≤ 6 → ∀ {least h ar r e' d' l'}, least ≤ e.str → 3 * e.dep ≤ h → ar + e.dep ≤ 20 → Fol e.str r →
    Rd h ar (.loop least e e.dep) r e' d' l' → Rd (h + 1) ar (.ops least) (s ++ r) e' d' l' := by
  induction S with
  | word => intro ok _ least h ar r e' d' l' _ _ _ f k; exact .ops (.word ok f.let fun z => f.bef z.2) k
  | num => intro ok _ least h ar r e' d' l' _ _ _ f k; exact .ops (.num ok f.dig) k
  | ask =>
    intro ok _ least h ar r e' d' l' _ _ _ f k
    have q := Rd.ask (h := h) (ar := ar) ok.1 ok.2 f.let
    rw [List.append_assoc]
    exact .ops q k
  | @op o a b sa sb xa xb SA SB ha hb ia ib =>
    intro ok dp least h ar r e' d' l' hl hh har f k
    have dm : (E.op o a b).dep = max a.dep b.dep + 1 := rfl
    have d1 : a.dep ≤ max a.dep b.dep := Nat.le_max_left _ _
    have d2 : b.dep ≤ max a.dep b.dep := Nat.le_max_right _ _
    have p1 := a.dep_pos
    have p2 := b.dep_pos
    have hl' : least ≤ o.str := hl
    rw [dm] at dp hh har
    -- the second part
    have second : Rd h ar (.ops (o.str + 1)) (xb ++ r) b b.dep r := by
      obtain ⟨g, rfl⟩ : ∃ g, h = g + 1 := ⟨h - 1, by omega⟩
      rcases hb with rfl | ⟨rfl, hb⟩
      · have f' : Fol 0 (41 :: r) := fol_shut
        obtain ⟨g2, rfl⟩ : ∃ g2, g = g2 + 2 := ⟨g - 2, by omega⟩
        have inn : Rd (g2 + 1) (ar + 1) (.ops 1) (sb ++ 41 :: r) b b.dep (41 :: r) :=
          ib ok.2 (by omega) b.str_pos (by omega) (by omega) fol_shut (.stop fun o z => by cases z)
        have e1 : paren sb ++ r = 40 :: (sb ++ 41 :: r) := by simp [paren]
        rw [e1]
        exact .ops (.par (by omega) inn) (.stop fun o2 z => f.stop o2 z)
      · refine ib ok.2 (by omega) hb (by omega) (by omega) (f.up ?_) (.stop fun o2 z => f.stop o2 z)
        show o.str ≤ _
        omega
    have cont : Rd h ar (.loop least a a.dep) (o.sign ++ (xb ++ r)) e' d' l' := .step (signAt_sign o _) hl' second (by omega) k
    have ea : xa ++ o.sign ++ xb ++ r = xa ++ (o.sign ++ (xb ++ r)) := by simp
    rw [ea]
    rcases ha with rfl | ⟨rfl, ha⟩
    · obtain ⟨g2, rfl⟩ : ∃ g2, h = g2 + 2 := ⟨h - 2, by omega⟩
      have inn : Rd (g2 + 1) (ar + 1) (.ops 1) (sa ++ 41 :: (o.sign ++ (xb ++ r))) a a.dep (41 :: (o.sign ++ (xb ++ r))) :=
        ia ok.1 (by omega) a.str_pos (by omega) (by omega) fol_shut (.stop fun o z => by cases z)
      have e1 : paren sa ++ (o.sign ++ (xb ++ r)) = 40 :: (sa ++ 41 :: (o.sign ++ (xb ++ r))) := by simp [paren]
      rw [e1]
      exact .ops (.par (by omega) inn) cont
    · exact ia ok.1 (by omega) (by omega) (by omega) (by omega) (.inr (.inr ⟨o, _, rfl, ha⟩)) cont
/-- the whole text, in up to m parentheses more -/
theorem reads_all {e : E} {s : List Nat} (S : Shw e s) (ok : e.Ok) (dp : e.dep ≤ 6) {ar : Nat} (har : ar ≤ 4) {r : List Nat} (hr : r = [] ∨ ∃ r', r = 41 :: r') : Rd 19 ar (.ops 1) (s ++ r) e e.dep r := by
  refine reads S ok dp e.str_pos (by omega) (by omega) ?_ (.stop fun o z => ?_)
  · rcases hr with h | h
    · exact .inl h
    · exact .inr (.inl h)
  · rcases hr with rfl | ⟨r', rfl⟩ <;> cases z
theorem reads_par {e : E} {s : List Nat} (S : Shw e s) (ok : e.Ok) (dp : e.dep ≤ 6) : Rd 24 0 (.ops 1) (40 :: 40 :: (s ++ [41, 41])) e e.dep [] := by
  have a : Rd 19 2 (.ops 1) (s ++ [41, 41]) e e.dep [41, 41] := reads_all S ok dp (by omega) (.inr ⟨_, rfl⟩)
  have b : Rd 21 1 (.ops 1) (40 :: (s ++ [41, 41])) e e.dep [41] := .ops (.par (by omega) a) (.stop fun o z => by cases z)
  have c : Rd 23 0 (.ops 1) (40 :: 40 :: (s ++ [41, 41])) e e.dep [] := .ops (.par (by omega) b) (.stop fun o z => by cases z)
  exact c.mono (by omega)
theorem shw_inj {e e2 : E} {s : List Nat} (S : Shw e s) (S2 : Shw e2 s) (ok : e.Ok) (ok2 : e2.Ok) (dp : e.dep ≤ 6) (dp2 : e2.dep ≤ 6) : e = e2 :=
  (det (reads_all (ar := 0) S ok dp (by omega) (r := []) (.inl rfl)) (reads_all (ar := 0) S2 ok2 dp2 (by omega) (r := []) (.inl rfl))).1
end Lg

namespace Lg
open PySem PySem.Spec PyProof.Rows L2
abbrev st (z : List Nat) : Str := ⟨z.toArray⟩
def dat : E → PyData
  | .word z => .str (st z)
  | .num n => .int n
  | .ask q z => .tuple [.str (st q), .str (st z)]
  | .op o a b => .tuple [.str o.name, dat a, dat b]
def nm (o : Op) : List Nat := o.name.cps.toList
def rp : E → List Nat
  | .word z => 39 :: (z ++ [39])
  | .num n => ntx n
  | .ask q z => 40 :: 39 :: (q ++ 39 :: 44 :: 32 :: 39 :: (z ++ [39, 41]))
  | .op o a b => 40 :: 39 :: (nm o ++ 39 :: 44 :: 32 :: (rp a ++ 44 :: 32 :: (rp b ++ [41])))
theorem nm_let (o : Op) : ∀ c ∈ nm o, Let c := by cases o <;> decide +kernel
theorem nm_inj {o o2 : Op} (e : nm o = nm o2) : o = o2 := by
  revert e
  cases o <;> cases o2 <;> decide +kernel
theorem nm_ques {o : Op} (h : Ques (nm o)) : False := by
  rcases h with h | h <;> (revert h; cases o <;> decide +kernel)
theorem repr_char {c : Nat} (h : Let c) : Builtin.Str.reprChar 39 c = [c] := by
  obtain ⟨h1, h2⟩ := h
  have : ∀ c, c < 123 → 97 ≤ c → Builtin.Str.reprChar 39 c = [c] := by decide +kernel
  exact this c (by omega) h1
theorem fold_repr : ∀ (z : List Nat) (acc : Array Nat), (∀ c ∈ z, Let c) → (z.foldl (fun out c => out ++ (Builtin.Str.reprChar 39 c).toArray) acc).toList = acc.toList ++ z
  | [], acc, _ => by simp
  | c :: z, acc, h => by
    rw [List.foldl_cons, fold_repr z _ fun q hq => h q (by simp [hq]), repr_char (h c (by simp))]
    simp
theorem quote_let {z : List Nat} (h : ∀ c ∈ z, Let c) : reprQuote (st z) = 39 := by
  unfold reprQuote
  have n : ¬ (39 ∈ z) := fun q => by
    obtain ⟨a, b⟩ := h _ q
    omega
  simp [n]
theorem repr_word {z : List Nat} (h : ∀ c ∈ z, Let c) : (reprText (st z)).cps.toList = 39 :: (z ++ [39]) := by
  unfold reprText
  rw [quote_let h]
  rw [Array.toList_push, ← Array.foldl_toList, fold_repr _ _ h]
  simp
theorem strExt {a b : Str} (h : a.cps.toList = b.cps.toList) : a = b := by
  obtain ⟨⟨a⟩⟩ := a
  obtain ⟨⟨b⟩⟩ := b
  simp at h
  rw [h]
theorem app_list (a b : Str) : (a ++ b).cps.toList = a.cps.toList ++ b.cps.toList := by
  show (a.cps ++ b.cps).toList = _
  simp
theorem comma_list : (Str.ofString ", ").cps.toList = [44, 32] := by decide +kernel
theorem open_list : (Str.ofString "(").cps.toList = [40] := by decide +kernel
theorem shut_list : (Str.ofString ")").cps.toList = [41] := by decide +kernel
theorem name_list (o : Op) : (st (nm o)) = o.name := by cases o <;> rfl
theorem tup2 (a b : Str) : (tupleText [a, b]).cps.toList = 40 :: (a.cps.toList ++ 44 :: 32 :: (b.cps.toList ++ [41])) := by
  unfold tupleText
  rw [app_list, app_list, open_list]
  rw [if_neg (show ¬ (([a, b].length == 1) = true) by simp), shut_list]
  show [40] ++ (a ++ Str.ofString ", " ++ b).cps.toList ++ [41] = _
  rw [app_list, app_list, comma_list]
  simp
theorem tup3 (a b c : Str) : (tupleText [a, b, c]).cps.toList = 40 :: (a.cps.toList ++ 44 :: 32 :: (b.cps.toList ++ 44 :: 32 :: (c.cps.toList ++ [41]))) := by
  unfold tupleText
  rw [app_list, app_list, open_list]
  rw [if_neg (show ¬ (([a, b, c].length == 1) = true) by simp), shut_list]
  show [40] ++ (a ++ Str.ofString ", " ++ (b ++ Str.ofString ", " ++ c)).cps.toList ++ [41] = _
  rw [app_list, app_list, app_list, app_list, comma_list]
  simp
theorem shown_dat : ∀ e : E, e.Ok → (dat e).shown.cps.toList = rp e
  | .word z, ok => by
    show (PyData.shown (.str (st z))).cps.toList = _
    rw [PyData.shown.eq_4]
    exact repr_word ok.all
  | .num n, ok => by
    show (PyData.shown (.int n)).cps.toList = _
    rw [PyData.shown.eq_3]
    rfl
  | .ask q z, ok => by
    show (PyData.shown (.tuple [.str (st q), .str (st z)])).cps.toList = _
    rw [PyData.shown.eq_6, PyData.shownAll.eq_2, PyData.shownAll.eq_2, PyData.shownAll.eq_1, tup2, PyData.shown.eq_4, PyData.shown.eq_4, repr_word ok.1.word.all, repr_word ok.2.all]
    simp [rp]
  | .op o a b, ok => by
    show (PyData.shown (.tuple [.str o.name, dat a, dat b])).cps.toList = _
    rw [PyData.shown.eq_6, PyData.shownAll.eq_2, PyData.shownAll.eq_2, PyData.shownAll.eq_2, PyData.shownAll.eq_1, tup3, PyData.shown.eq_4, ← name_list, repr_word (nm_let o), shown_dat a ok.1, shown_dat b ok.2]
    simp [rp]
theorem nh39 (r : List Nat) : NoHead Let (39 :: r) := fun c r' e => by
  injection e with e1 _
  rw [← e1]
  decide
theorem nd44 (r : List Nat) : NoHead Dig (44 :: r) := fun c r' e => by
  injection e with e1 _
  rw [← e1]
  decide
theorem nd41 (r : List Nat) : NoHead Dig (41 :: r) := fun c r' e => by
  injection e with e1 _
  rw [← e1]
  decide
theorem rp_head (e : E) : e.Ok → ∃ c r, rp e = c :: r ∧ ((∃ z, e = .word z) ∧ c = 39 ∨ (∃ n, e = .num n) ∧ Dig c ∨ ((∃ q z, e = .ask q z) ∨ ∃ o a b, e = .op o a b) ∧ c = 40) := by
  cases e with
  | word z => intro _; exact ⟨_, _, rfl, .inl ⟨⟨_, rfl⟩, rfl⟩⟩
  | num n => intro ok; obtain ⟨c, r, h1, h2⟩ := NumOk.head ok; exact ⟨c, r, h1, .inr (.inl ⟨⟨_, rfl⟩, h2⟩)⟩
  | ask q z => intro _; exact ⟨_, _, rfl, .inr (.inr ⟨.inl ⟨_, _, rfl⟩, rfl⟩)⟩
  | op o a b => intro _; exact ⟨_, _, rfl, .inr (.inr ⟨.inr ⟨_, _, _, rfl⟩, rfl⟩)⟩
theorem rp_inj : ∀ (e e2 : E), e.Ok → e2.Ok → ∀ {r r2 : List Nat}, NoHead Dig r → NoHead Dig r2 → rp e ++ r = rp e2 ++ r2 → e = e2 ∧ r = r2
  | .word z, e2, ok, ok2, r, r2, n1, n2, h => by
    obtain ⟨c, x, hx, w⟩ := rp_head e2 ok2
    rw [hx] at h
    have hc : (39 : Nat) = c := by injection h
    rcases w with ⟨⟨z2, rfl⟩, _⟩ | ⟨_, w⟩ | ⟨_, w⟩
    · have h' : 39 :: (z ++ 39 :: r) = 39 :: (z2 ++ 39 :: r2) := by
        rw [← hx] at h
        simpa [rp] using h
      injection h' with _ h'
      obtain ⟨a, b⟩ := split_one ok.all ok2.all (nh39 _) (nh39 _) h'
      injection b with _ b
      exact ⟨by rw [a], b⟩
    · rw [← hc] at w; exact absurd w (by decide)
    · rw [← hc] at w; cases w
  | .num n, e2, ok, ok2, r, r2, n1, n2, h => by
    obtain ⟨c0, x0, hx0, w0⟩ := NumOk.head ok
    obtain ⟨c, x, hx, w⟩ := rp_head e2 ok2
    have hc : c0 = c := by
      have h' : ntx n ++ r = rp e2 ++ r2 := h
      rw [hx0, hx] at h'
      injection h'
    rcases w with ⟨_, w⟩ | ⟨⟨m, rfl⟩, _⟩ | ⟨_, w⟩
    · rw [← hc] at w; rw [w] at w0; exact absurd w0 (by decide)
    · obtain ⟨a, b⟩ := split_one ok.all ok2.all n1 n2 h
      exact ⟨by rw [ntx_inj ok ok2 a], b⟩
    · rw [← hc] at w; rw [w] at w0; exact absurd w0 (by decide)
  | .ask q z, e2, ok, ok2, r, r2, n1, n2, h => by
    obtain ⟨c, x, hx, w⟩ := rp_head e2 ok2
    have hc : (40 : Nat) = c := by
      rw [hx] at h
      injection h
    rcases w with ⟨_, w⟩ | ⟨_, w⟩ | ⟨w, _⟩
    · rw [← hc] at w; cases w
    · rw [← hc] at w; exact absurd w (by decide)
    · rcases w with ⟨q2, z2, rfl⟩ | ⟨o, a, b, rfl⟩
      · have h' : q ++ 39 :: (44 :: 32 :: 39 :: (z ++ 39 :: 41 :: r)) = q2 ++ 39 :: (44 :: 32 :: 39 :: (z2 ++ 39 :: 41 :: r2)) := by simpa [rp] using h
        obtain ⟨a, b⟩ := split_one ok.1.word.all ok2.1.word.all (nh39 _) (nh39 _) h'
        have b' : z ++ 39 :: 41 :: r = z2 ++ 39 :: 41 :: r2 := by simpa using b
        obtain ⟨a2, b2⟩ := split_one ok.2.all ok2.2.all (nh39 _) (nh39 _) b'
        exact ⟨by rw [a, a2], by simpa using b2⟩
      · have h' : q ++ 39 :: (44 :: 32 :: 39 :: (z ++ 39 :: 41 :: r)) = nm o ++ 39 :: (44 :: 32 :: (rp a ++ 44 :: 32 :: (rp b ++ 41 :: r2))) := by simpa [rp] using h
        obtain ⟨a, _⟩ := split_one ok.1.word.all (nm_let o) (nh39 _) (nh39 _) h'
        exact (nm_ques (a ▸ ok.1)).elim
  | .op o a b, e2, ok, ok2, r, r2, n1, n2, h => by
    obtain ⟨c, x, hx, w⟩ := rp_head e2 ok2
    have hc : (40 : Nat) = c := by
      rw [hx] at h
      injection h
    rcases w with ⟨_, w⟩ | ⟨_, w⟩ | ⟨w, _⟩
    · rw [← hc] at w; cases w
    · rw [← hc] at w; exact absurd w (by decide)
    · rcases w with ⟨q2, z2, rfl⟩ | ⟨o2, a2, b2, rfl⟩
      · have h' : nm o ++ 39 :: (44 :: 32 :: (rp a ++ 44 :: 32 :: (rp b ++ 41 :: r))) = q2 ++ 39 :: (44 :: 32 :: 39 :: (z2 ++ 39 :: 41 :: r2)) := by simpa [rp] using h
        obtain ⟨a, _⟩ := split_one (nm_let o) ok2.1.word.all (nh39 _) (nh39 _) h'
        exact (nm_ques (a ▸ ok2.1)).elim
      · have h' : nm o ++ 39 :: (44 :: 32 :: (rp a ++ 44 :: 32 :: (rp b ++ 41 :: r))) = nm o2 ++ 39 :: (44 :: 32 :: (rp a2 ++ 44 :: 32 :: (rp b2 ++ 41 :: r2))) := by simpa [rp] using h
        obtain ⟨x1, x2⟩ := split_one (nm_let o) (nm_let o2) (nh39 _) (nh39 _) h'
        have x3 : rp a ++ 44 :: 32 :: (rp b ++ 41 :: r) = rp a2 ++ 44 :: 32 :: (rp b2 ++ 41 :: r2) := by simpa using x2
        obtain ⟨x4, x5⟩ := rp_inj a a2 ok.1 ok2.1 (nd44 _) (nd44 _) x3
        have x6 : rp b ++ 41 :: r = rp b2 ++ 41 :: r2 := by simpa using x5
        obtain ⟨x7, x8⟩ := rp_inj b b2 ok.2 ok2.2 (nd41 _) (nd41 _) x6
        exact ⟨by rw [nm_inj x1, x4, x7], by simpa using x8⟩
theorem shown_inj {e e2 : E} (ok : e.Ok) (ok2 : e2.Ok) (h : (dat e).shown = (dat e2).shown) : e = e2 := by
  have h' : rp e ++ [] = rp e2 ++ [] := by rw [← shown_dat e ok, ← shown_dat e2 ok2, h]
  exact (rp_inj e e2 ok ok2 (fun c r z => by cases z) (fun c r z => by cases z) h').1
end Lg

namespace Lg
open PySem PySem.Spec PyProof.Rows L2
/-! ### for k in d, d a dict of the written part with text keys -/
structure KKeys (K : PySem.W.Frag) (d : Addr) (ks : List Str) : Prop where
  ex : ∃ (es : Array DictEntry) (ep : Nat), K.lookup d = some ⟨.type "dict", none, .dict es ep, #[]⟩ ∧ es.toList.map (fun en => match en.key with | .str x _ => some x | _ => none) = ks.map some
  ns : (d == sysModules) = false
def Itw (ks : List Str) : It := ⟨fun i _ => i < ks.length, fun i H x H' => H' = H ∧ ∃ z, ks[i]? = some z ∧ x = .str z, fun i _ => ks.length ≤ i⟩
theorem KKeys.at {es : Array DictEntry} {ks : List Str} (h : es.toList.map (fun en => match en.key with | .str x _ => some x | _ => none) = ks.map some) {i : Nat} (hi : i < ks.length) :
    ∃ (en : DictEntry) (z : Str) (t : Tok), es[i]? = some en ∧ ks[i]? = some z ∧ en.key = .str z t := by
  have hz : ks[i]? = some ks[i] := List.getElem?_eq_getElem hi
  have q : (es.toList.map (fun en => match en.key with | .str x _ => some x | _ => none))[i]? = some (some ks[i]) := by rw [h, List.getElem?_map, hz]; rfl
  rw [List.getElem?_map] at q
  cases he : es.toList[i]? with
  | none => rw [he] at q; cases q
  | some en =>
    rw [he] at q
    have q' : (match en.key with | .str x _ => some x | _ => none) = some ks[i] := Option.some.inj q
    refine ⟨en, ks[i], ?_⟩
    cases hk : en.key with
    | str x t =>
      rw [hk] at q'
      have q2 : x = ks[i] := Option.some.inj q'
      exact ⟨t, by simpa using he, hz, by rw [q2]⟩
    | _ => rw [hk] at q'; cases q'
theorem turn_kkeys {P : Program} {w : World} {K : PySem.W.Frag} {tg : Expr} {d : Addr} {ks : List Str} {es : Array DictEntry} {ep : Nat} (it : Addr) (hl : K.lookup d = some ⟨.type "dict", none, .dict es ep, #[]⟩)
    (hk : es.toList.map (fun en => match en.key with | .str x _ => some x | _ => none) = ks.map some) : Turn P w K tg (Itw ks) [it] it (fun i h => h.IsKeyIter it d i ks.length ep) where
  mem := by simp
  obj := fun i h st b hb => by
    have e : b = it := by simpa using hb
    subst e
    obtain ⟨oi, e, c, dd⟩ := st
    exact ⟨oi, e, fun v z => by rw [dd] at z; cases z⟩
  keep := fun i h h' st k => st.at fun oi e => k it (by simp) oi e
  item := by
    intro X hP hw hK hc i pins s σ H E I hf st hg
    subst hP hw hK
    obtain ⟨f0, f1, f2, f3, f4, f5⟩ := hf it (by simp)
    obtain ⟨en, z, t, e1, e2, e3⟩ := KKeys.at hk hg
    have hsz : es.size = ks.length := by
      have := congrArg List.length hk
      simpa using this
    refine next_key_item st (I.kIn _ _ hl) rfl hsz e1 fun h' st' sb => ?_
    have I1 : Inv X pins σ H { s with heap := h' } := I.turned (t' := s.toks) (fun b ob hb e => (sb.2 b hb).trans e) f0 f1 f3 f4 f5
    obtain ⟨oi, e, c, dd⟩ := id st'
    exact ⟨en.key, rfl, go_of (s := { s with heap := h' }) e c dd (by decide) ⟨.str z, H, I1, ⟨t, e3⟩, ⟨rfl, z, e2, rfl⟩, st', fun b hb => (hf b hb).1⟩⟩
  done := by
    intro X hP hw hK hc i pins s σ H E I hf st hg
    subst hP hw hK
    obtain ⟨f0, f1, f2, f3, f4, f5⟩ := hf it (by simp)
    have hsz : es.size = ks.length := by
      have := congrArg List.length hk
      simpa using this
    exact next_key_end (I.ok.hd hc) st (I.kIn _ _ hl) rfl hsz hg fun h' eb => ⟨rfl, I.turned (t' := s.toks) (fun b ob hb e => eb b ob hb e) f0 f1 f3 f4 f5⟩
  self := fun A i s Q E st h => by
    refine wpAny_pyIter_slot st.typeIs F.slot_dict_keyiterator_iter (wpAny_call_entry F.slot_dict_keyiterator_iter st.typeIs F.entry_dict_keyiterator_iter ?_ (F.args_dict_keyiterator_iter_1 _))
    show wpAny _ _ (ret (.ref it)) _ _ s
    exact wpAny_pure ⟨_, rfl, "dict_keyiterator", _, st.typeIs, F.slot_dict_keyiterator_next.lookup, h⟩
def iKKeys (K : PySem.W.Frag) (td : TE) : TI := fun σ H R => td σ H fun x H1 => ∃ d ks, x = .ref d ∧ KKeys K d ks ∧ R (Itw ks) H1
theorem pi_kkeys {X : Cx} {tg e : Expr} {td : TE} (he : PE X e td) : PI X tg e (iKKeys X.K td) := by
  refine ⟨fun pins s σ H R I h => ?_⟩
  refine thn (he.run pins s σ H _ I h) fun u s1 ⟨x, H1, I1, rx, d, ks, ex, ⟨⟨es, ep, hl, hk⟩, hns⟩, q⟩ => ?_
  subst ex
  obtain rfl : u = Value.ref d := rx
  have hsz : es.size = ks.length := by
    have := congrArg List.length hk
    simpa using this
  refine iter_keys hns (I1.kIn _ _ hl) ⟨rfl, rfl, rfl⟩ rfl (pi_one (tk := s1.toks) I1 _ (turn_kkeys _ hl hk) ⟨_, Heap.get?_push_size _ rfl, rfl, ?_⟩ q)
  rw [hsz] <;> rfl
end Lg

namespace Lg
open PySem PySem.Spec PyProof.Rows L2
def top (i : Nat) : Stmt := PySem.Challenge.pw_wantedwork_k10_expressions_as_texts.main.body.getD i (.Pass ⟨0, 0, 0, 0⟩)
abbrev sMade : Stmt := top 7
abbrev sIsWord : Stmt := top 8
abbrev sNumber : Stmt := top 16
abbrev sWord : Stmt := top 17
abbrev sExpr : Stmt := top 18
abbrev sInit : Stmt := inClass (top 19) 0
abbrev sOps : Stmt := inClass (top 19) 1
abbrev sSign : Stmt := inClass (top 19) 2
abbrev sOpd : Stmt := inClass (top 19) 3
abbrev sPar : Stmt := inClass (top 19) 4
abbrev sTaken : Stmt := inClass (top 19) 5
abbrev sBefore : Stmt := inClass (top 19) 6
abbrev sFormat : Stmt := top 22
abbrev sWritten : Stmt := top 23
abbrev sParse : Stmt := top 24
abbrev sTape : Stmt := top 26
abbrev sDraw : Stmt := top 27
abbrev sOne : Stmt := top 28
abbrev sTree : Stmt := top 29
abbrev sStrength : Stmt := top 30
abbrev sShown : Stmt := top 31
abbrev sLaw : Stmt := top 32
end Lg

namespace Lg
open PySem PySem.Spec PyProof.Rows L2
/-! ### over the signs of a text -/
theorem lc_str {z : Str} {g : TG} {tt : TT} {te : TE} {vs : List Nat} {σ : L2.St} {H1 : Hp} {D : Addr} {Qd : Hp → Prop} (Pv : Nat → Hp → Prop) (h0 : Pv 0 (upd H1 D (.lst [])))
    (hs : ∀ i c H, z.cps.toList[i]? = some c → Pv i H → g (.str ⟨#[c]⟩) (wipe σ vs) H fun σ2 H2 => wipe σ2 vs = wipe σ vs ∧ tt σ2 H2 fun b H3 =>
      if b = true then te σ2 H3 fun y H4 => ∃ acc, H4 D = some (.lst acc) ∧ acc.length < sizeLine ∧ Pv (i + 1) (upd H4 D (.lst (acc ++ [y]))) else Pv (i + 1) H3) (hd : ∀ H, Pv z.cps.size H → Qd H) :
    ∃ W : Nat → Nat → Hp → Prop, (∃ m, W 0 m (upd H1 D (.lst []))) ∧ ∀ i m H, W i m H →
      ((Its z).stop i H ∧ Qd H) ∨ ((Its z).go i H ∧ ∃ Nx : Hp → Prop, (∀ H', Nx H' → ∃ m', m' < m ∧ W (i + 1) m' H') ∧ ∀ x H', (Its z).yld i H x H' → g x (wipe σ vs) H' fun σ2 H2 => wipe σ2 vs = wipe σ vs ∧ tt σ2 H2 fun b H3 =>
        if b = true then te σ2 H3 fun y H4 => ∃ acc, H4 D = some (.lst acc) ∧ acc.length < sizeLine ∧ Nx (upd H4 D (.lst (acc ++ [y]))) else Nx H3) := by
  refine ⟨fun i m H => m = z.cps.size - i ∧ i ≤ z.cps.size ∧ Pv i H, ⟨_, rfl, Nat.zero_le _, h0⟩, ?_⟩
  rintro i m H ⟨rfl, hi, p⟩
  by_cases hlt : i < z.cps.size
  · refine .inr ⟨hlt, Pv (i + 1), fun H' p' => ⟨z.cps.size - (i + 1), by omega, rfl, hlt, p'⟩, fun x H' y => ?_⟩
    obtain ⟨e, c, hc, rfl⟩ := y
    subst e
    exact hs i c _ (by simpa using hc) p
  · have e : i = z.cps.size := by omega
    subst e
    exact .inl ⟨Nat.le_refl _, hd H p⟩
/-- for over the keys of a written dict -/
theorem for_keysW {ks : List Str} {g : TG} {tb : TS} {D : Ends} {σ : L2.St} {H : Hp} (Pv : Nat → L2.St → Hp → Prop) (h0 : Pv 0 σ H)
    (hs : ∀ i x σ H, ks[i]? = some x → Pv i σ H → g (.str x) σ H fun σ2 H2 => tb { D with nx := Pv (i + 1), ct := Pv (i + 1), bk := D.nx } σ2 H2) (hd : ∀ σ H, Pv ks.length σ H → D.nx σ H) :
    ∃ W : Nat → Nat → L2.St → Hp → Prop, (∃ m, W 0 m σ H) ∧ ∀ i m σ H, W i m σ H →
      ((Itw ks).stop i H ∧ D.nx σ H) ∨ ((Itw ks).go i H ∧ ∃ N : L2.St → Hp → Prop, (∀ σ' H', N σ' H' → ∃ m', m' < m ∧ W (i + 1) m' σ' H') ∧ ∀ x H', (Itw ks).yld i H x H' → g x σ H' fun σ2 H2 => tb { D with nx := N, ct := N, bk := D.nx } σ2 H2) := by
  refine ⟨fun i m σ H => m = ks.length - i ∧ i ≤ ks.length ∧ Pv i σ H, ⟨_, rfl, Nat.zero_le _, h0⟩, ?_⟩
  rintro i m σ H ⟨rfl, hi, p⟩
  by_cases hlt : i < ks.length
  · refine .inr ⟨hlt, Pv (i + 1), fun σ' H' p' => ⟨ks.length - (i + 1), by omega, rfl, hlt, p'⟩, fun x H' y => ?_⟩
    obtain ⟨e, z, hz, rfl⟩ := y
    subst e
    exact hs i z σ _ hz p
  · have e : i = ks.length := by omega
    subst e
    exact .inl ⟨Nat.le_refl _, hd σ H p⟩
/-! ### what the written part says -/
abbrev sLetters : Str := "abcdefghijklmnopqrstuvwxyz"
abbrev sDigits : Str := "0123456789"
theorem letters_iff (c : Nat) : c ∈ sLetters.cps.toList ↔ Let c := by
  constructor
  · have : ∀ c ∈ sLetters.cps.toList, Let c := by decide +kernel
    exact this c
  · rintro ⟨h1, h2⟩
    have : ∀ c, c < 123 → 97 ≤ c → c ∈ sLetters.cps.toList := by decide +kernel
    exact this c (by omega) h1
theorem digits_iff (c : Nat) : c ∈ sDigits.cps.toList ↔ Dig c := by
  constructor
  · have : ∀ c ∈ sDigits.cps.toList, Dig c := by decide +kernel
    exact this c
  · rintro ⟨h1, h2⟩
    have : ∀ c, c < 58 → 48 ≤ c → c ∈ sDigits.cps.toList := by decide +kernel
    exact this c (by omega) h1
theorem same_upd {H : Hp} {a : Addr} {o : HO} (h : H a = none) : Same H (upd H a o) := fun b q e => by
  rw [upd_ne (ne_of_none e h)]
  exact e
structure DefX (K : PySem.W.Frag) (mg : Str → Option Value) (nm : Str) (s : Stmt) (ps : List Str) (f : Addr) (fd : FuncData) : Prop where
  mg : mg nm = some (.ref f)
  F : Fun K nm nm s f fd
  b : Binds K fd ps []
def Op.key : Op → Str := fun o => ⟨o.sign.toArray⟩
def opAll : List Op := [.plus, .minus, .times, .less, .same]
structure Gx (K : PySem.W.Frag) (w : World) (mg : Str → Option Value) : Prop where
  all : mg "all" = none
  len : mg "len" = none
  int : mg "int" = none
  isi : mg "isinstance" = none
  str : mg "str" = none
  max : mg "max" = none
  tuple : mg "tuple" = none
  list : mg "list" = none
  range : mg "range" = none
  repr : mg "repr" = none
  letters : ∃ t, mg "LETTERS" = some (.str sLetters t)
  digits : ∃ t, mg "DIGITS" = some (.str sDigits t)
  modulus : ∃ t, mg "MODULUS" = some (.int 1000000007 t)
  deepest : ∃ t, mg "DEEPEST" = some (.int 6 t)
  mostP : ∃ t, mg "MOST_PARENTHESES" = some (.int 20 t)
  mostD : ∃ t, mg "MOST_DIGITS" = some (.int 10 t)
  ops : ∃ d, mg "OPERATIONS_OF_SIGNS" = some (.ref d) ∧ KKeys K d (opAll.map Op.key) ∧ ∀ o : Op, KDct K w d o.key (.str o.name)
  strengths : ∃ d, mg "STRENGTHS" = some (.ref d) ∧ ∀ o : Op, KDct K w d o.name (.int o.str)
  quests : ∃ t, mg "QUESTIONS" = some (.ref t) ∧ ∀ H, SqT K H t [.str (st (wd "known")), .str (st (wd "reason"))]
theorem scMade : FnScope ["text", "allowed", "character"] ["text", "allowed"] (defScope sMade) := ⟨rfl, rfl, rfl, by decide +kernel, rfl, by decide +kernel, by decide +kernel⟩
theorem scIsWord : FnScope ["value"] ["value"] (defScope sIsWord) := ⟨rfl, rfl, rfl, by decide +kernel, rfl, by decide +kernel, by decide +kernel⟩
theorem scNumber : FnScope ["text"] ["text"] (defScope sNumber) := ⟨rfl, rfl, rfl, by decide +kernel, rfl, by decide +kernel, by decide +kernel⟩
theorem scWord : FnScope ["text"] ["text"] (defScope sWord) := ⟨rfl, rfl, rfl, by decide +kernel, rfl, by decide +kernel, by decide +kernel⟩
/-- is_made_of: all signs are allowed ones -/
def spMadeOf : Sp := fun vs H Q _ => ∃ z al : Str, vs = [.str z, .str al] ∧ z.length ≤ 40000 ∧ ∀ H', Same H H' → Q (.bl (decide (∀ c ∈ z.cps.toList, c ∈ al.cps.toList))) H'
def spIsWord : Sp := fun vs H Q _ => ∃ z : List Nat, vs = [.str (st z)] ∧ WordOk z ∧ ∀ H', Same H H' → Q (.bl true) H'
def spNumber : Sp := fun vs H Q _ => ∃ n : Nat, vs = [.str (st (ntx n))] ∧ NumOk n ∧ ∀ H', Same H H' → Q (.int n) H'
def spWord : Sp := fun vs H Q _ => ∃ z : List Nat, vs = [.str (st z)] ∧ WordOk z ∧ ∀ H', Same H H' → Q (.str (st z)) H'
theorem all_taken : ∀ (l : List Nat) (p : Nat → Bool), (l.map p).all id = l.all p
  | [], _ => rfl
  | c :: l, p => by simp [all_taken l p]
section
variable {P : Program} {w : World} {K : PySem.W.Frag} {mg : Str → Option Value} {base : Heap} {f : Addr} {fd : FuncData}
theorem ok_madeOf (F : Fun K "is_made_of" "is_made_of" sMade f fd) (T : Gx K w mg) : FnOk P w K mg base CX0 1 f fd ["text", "allowed"] spMadeOf := by
  refine F.ok scMade (fun vs H Q E h => ?_) (fun cdv A outer s H vs Q E hr h => ?_)
  · obtain ⟨z, al, rfl, _⟩ := h
    rfl
  · obtain ⟨z, al, rfl, hz, k⟩ := h
    refine ⟨_, pss_one (ps_ret (pe_callB (cr_all rfl) (by rfl) T.all (by decide +kernel) (pa_cons
      (pe_lc (own := [("character", 2)]) (g := gName 2) (tt := tYes) (by rfl) scMade.nd (pi_str (pv 0)) (blkOk_by (own := [("character", 2)]) (N := ["text", "allowed", "character"]) (sc := defScope sMade) (by decide +kernel))
        (fun _ _ _ _ _ => pg_name (i := 2) scMade.nd rfl (Or.inl rfl)) (fun _ _ _ _ _ => pts_nil) (fun _ _ _ _ _ => pe_cmpR op_in_sign (pv 2) (pv 1) rfl)) pa_nil))), ?_⟩
    refine ⟨_, rfl, z, rfl, fun D hD => lc_str (z := z) (fun i H' => Same H H' ∧ H' D = some (.lst ((z.cps.toList.take i).map fun c => V.bl (decide (c ∈ al.cps.toList))))) ⟨same_upd hD, upd_same⟩ ?_ ?_⟩
    · rintro i c H' hc ⟨q1, q2⟩
      refine ⟨rfl, ?_⟩
      unfold tYes
      refine iteT ?_
      have hi : i < z.cps.toList.length := by
        rcases Nat.lt_or_ge i z.cps.toList.length with h | h
        · exact h
        · rw [List.getElem?_eq_none h] at hc; cases hc
      refine ⟨_, rfl, _, rfl, c, al, rfl, rfl, _, q2, ?_, ?_, ?_⟩
      · rw [List.length_map, List.length_take, sizeLine_eq]
        have : z.cps.toList.length = z.length := by simp [PySem.Str.length]
        omega
      · intro b o e
        rw [upd_ne (ne_of_none e hD)]
        exact q1 b o e
      · rw [upd_same, List.take_succ, hc, List.map_append]
        rfl
    · rintro H' ⟨q1, q2⟩
      refine ⟨D, z.cps.toList.map fun c => decide (c ∈ al.cps.toList), rfl, SqL.of ?_, ?_⟩
      · rw [q2]
        have e : z.cps.toList.take z.cps.size = z.cps.toList := List.take_of_length_le (by simp)
        rw [e, List.map_map]
        rfl
      · have e : (List.map (fun c => decide (c ∈ al.cps.toList)) z.cps.toList).all id = decide (∀ c ∈ z.cps.toList, c ∈ al.cps.toList) := by
          rw [all_taken, Bool.eq_iff_iff, List.all_eq_true, decide_eq_true_iff]
          exact forall_congr' fun c => forall_congr' fun _ => by rw [decide_eq_true_iff]
        rw [e]
        exact k H' q1
theorem bl_of {p : Prop} [Decidable p] (h : p) : V.bl (decide p) = V.bl true := by rw [decide_eq_true h]
theorem bl_no {p : Prop} [Decidable p] (h : ¬ p) : V.bl (decide p) = V.bl false := by rw [decide_eq_false h]
theorem st_len (z : List Nat) : (st z).length = z.length := by simp [PySem.Str.length]
theorem ok_isWord (F : Fun K "is_word" "is_word" sIsWord f fd) (T : Gx K w mg) {fm : Addr} {fdm : FuncData} (M : DefX K mg "is_made_of" sMade ["text", "allowed"] fm fdm) : FnOk P w K mg base CX0 2 f fd ["value"] spIsWord := by
  have GM : FnOk P w K mg base CX0 1 _ _ ["text", "allowed"] spMadeOf := ok_madeOf M.F T
  obtain ⟨tl, hlet⟩ := T.letters
  refine F.ok scIsWord (fun vs H Q E h => ?_) (fun cdv A outer s H vs Q E hr h => ?_)
  · obtain ⟨z, rfl, _⟩ := h
    rfl
  · obtain ⟨z, rfl, wz, k⟩ := h
    refine ⟨_, pss_one (ps_ret (pe_and (pe_callB call_isi (by rfl) T.isi (by decide +kernel) (pa_cons (pv 0) (pa_cons (pe_bltn (v := .ty "str") (by rfl) T.str (by decide +kernel) rfl) pa_nil)))
      (pe_and (pe_chain op_le op_le pe_int (pe_callB call_len_str (by rfl) T.len (by decide +kernel) (pa_cons (pv 0) pa_nil)) pe_int)
        (pe_one (pe_call GM hr (by rfl) M.mg M.F.kp M.b .nil pass0 (pa_cons (pv 0) (pa_cons (pe_glob (v := .str sLetters) rfl hlet ⟨_, rfl⟩) pa_nil))))))), ?_⟩
    refine ⟨_, rfl, _, _, _, _, true, rfl, .ty "str", .base (.str _), kit_ty (by decide +kernel), ?_⟩
    refine ⟨true, rfl, iteT ?_⟩
    have hl : (st z).length ≤ 8 := by rw [st_len]; exact wz.len
    have h1 : 1 ≤ (st z).length := by
      rw [st_len]
      have := wz.ne
      cases z with
      | nil => exact absurd rfl this
      | cons c r => simp
    have hsz : (st z).length ≤ sizeLine := by rw [sizeLine_eq]; omega
    refine ⟨_, rfl, _, rfl, hsz, 1, _, rfl, rfl, true, ?_, ?_⟩
    · exact bl_of (p := (1 : Int) ≤ ((st z).length : Int)) (by omega)
    refine iteT ?_
    refine ⟨_, _, rfl, rfl, ?_⟩
    refine ⟨true, ?_, iteT ?_⟩
    · exact bl_of (p := ((st z).length : Int) ≤ 8) (by omega)
    refine ⟨_, rfl, st z, sLetters, rfl, by omega, fun H' sm => ?_⟩
    have e : decide (∀ c ∈ (st z).cps.toList, c ∈ sLetters.cps.toList) = true := decide_eq_true fun c hc => (letters_iff c).mpr (wz.all c (by simpa using hc))
    rw [e]
    exact k H' sm
theorem never_not {b : Bool} (h : b = true) {A B : Prop} (k : B) : if (!b) = true then A else B := by
  rw [h]
  exact k
theorem ok_word (F : Fun K "read_word" "read_word" sWord f fd) {fw : Addr} {fdw : FuncData} (W : DefX K mg "is_word" sIsWord ["value"] fw fdw) (GW : FnOk P w K mg base CX0 2 fw fdw ["value"] spIsWord) : FnOk P w K mg base CX0 3 f fd ["text"] spWord := by
  refine F.ok scWord (fun vs H Q E h => ?_) (fun cdv A outer s H vs Q E hr h => ?_)
  · obtain ⟨z, rfl, _⟩ := h
    rfl
  · obtain ⟨z, rfl, wz, k⟩ := h
    refine ⟨_, pss_cons (ps_if (pt_not (pt_val (pe_call GW hr (by rfl) W.mg W.F.kp W.b .nil pass0 (pa_cons (pv 0) pa_nil)))) (pss_one ps_never) pss_nil) (pss_one (ps_ret (pv 0))), ?_⟩
    refine ⟨_, rfl, z, rfl, wz, fun H' sm => ?_⟩
    refine ⟨true, rfl, ?_⟩
    refine iteF ?_
    exact ⟨_, rfl, k H' sm⟩
theorem ok_number (F : Fun K "read_number" "read_number" sNumber f fd) (T : Gx K w mg) {fm : Addr} {fdm : FuncData} (M : DefX K mg "is_made_of" sMade ["text", "allowed"] fm fdm) : FnOk P w K mg base CX0 2 f fd ["text"] spNumber := by
  have GM : FnOk P w K mg base CX0 1 _ _ ["text", "allowed"] spMadeOf := ok_madeOf M.F T
  obtain ⟨td, hdig⟩ := T.digits
  obtain ⟨tm, hmost⟩ := T.mostD
  refine F.ok scNumber (fun vs H Q E h => ?_) (fun cdv A outer s H vs Q E hr h => ?_)
  · obtain ⟨n, rfl, _⟩ := h
    rfl
  · obtain ⟨n, rfl, wn, k⟩ := h
    refine ⟨_, pss_cons (ps_if (PW.pt (pw_or (pt_not (pt_chain op_le op_le pe_int (pe_callB call_len_str (by rfl) T.len (by decide +kernel) (pa_cons (pv 0) pa_nil)) (pe_glob (v := .int 10) rfl hmost ⟨_, rfl⟩)))
        (pw_or1 (pt_not (pt_val (pe_call GM hr (by rfl) M.mg M.F.kp M.b .nil pass0 (pa_cons (pv 0) (pa_cons (pe_glob (v := .str sDigits) rfl hdig ⟨_, rfl⟩) pa_nil)))))))) (pss_one ps_never) pss_nil)
      (pss_cons (ps_if (PW.pt (pw_and (pt_cmpR op_eq (pe_ix ix_str (pv 0) pe_int (fun _ _ => rfl)) pe_str (nomark _)) (pw_and1 (pt_cmpR op_gt (pe_callB call_len_str (by rfl) T.len (by decide +kernel) (pa_cons (pv 0) pa_nil)) pe_int (nomark _))))) (pss_one ps_never) pss_nil)
      (pss_one (ps_ret (pe_callTy call_int_str (by rfl) T.int (by decide +kernel) (pa_cons (pv 0) pa_nil))))), ?_⟩
    have hl : (st (ntx n)).length ≤ 10 := by rw [st_len]; exact wn.len
    obtain ⟨c0, r0, e0, d0⟩ := wn.head
    have h1 : 1 ≤ (st (ntx n)).length := by
      rw [st_len, e0]
      simp
    have hsz : (st (ntx n)).length ≤ sizeLine := by rw [sizeLine_eq]; omega
    refine ⟨_, rfl, _, rfl, hsz, 1, _, rfl, rfl, true, ?_, ?_⟩
    · exact bl_of (p := (1 : Int) ≤ ((st (ntx n)).length : Int)) (by omega)
    refine iteT ?_
    refine ⟨_, _, rfl, rfl, ?_⟩
    refine ⟨true, ?_, ?_⟩
    · exact bl_of (p := ((st (ntx n)).length : Int) ≤ 10) (by omega)
    refine iteF ?_
    refine ⟨_, rfl, st (ntx n), sDigits, rfl, by omega, fun H' sm => ?_⟩
    have e : decide (∀ c ∈ (st (ntx n)).cps.toList, c ∈ sDigits.cps.toList) = true := decide_eq_true fun c hc => (digits_iff c).mpr (wn.all c (by simpa using hc))
    rw [e]
    refine ⟨true, rfl, ?_⟩
    refine iteF ?_
    refine ⟨_, rfl, st (ntx n), 0, c0, rfl, rfl, hsz, atI_nat (j := 0) (by show (ntx n)[0]? = _; rw [e0]; rfl), rfl, _, rfl, ?_⟩
    refine ite2 (fun c => ?_) (fun c => ?_)
    · refine ⟨_, rfl, _, rfl, hsz, _, _, rfl, rfl, false, ?_, ?_⟩
      · refine bl_no (p := (1 : Int) < ((st (ntx n)).length : Int)) ?_
        have c1 : c0 = 48 := by
          have z : (⟨#[c0]⟩ : Str) = Str.ofString "0" := by simpa using of_decide_eq_true c
          have z2 : [c0] = [48] := (congrArg (fun x : Str => x.cps.toList) z).trans (by decide +kernel)
          exact List.head_eq_of_cons_eq z2
        have z := wn.lead (by rw [e0, c1]; rfl)
        rw [st_len]
        omega
      · refine iteF ?_
        exact ⟨_, rfl, st (ntx n), n, rfl, wn.int, by omega, k H' sm⟩
    · exact ⟨_, rfl, st (ntx n), n, rfl, wn.int, by omega, k H' sm⟩
end
end Lg

namespace Lg
open PySem PySem.Spec PyProof.Rows L2
def RdO (C : Addr) (z : Str) (p g : Nat) (dx : Addr) : HO := .ins C dx [("text", .str z), ("at", .int p), ("around", .int g)]
def RdAt (C r : Addr) (z : Str) (p g : Nat) (H : Hp) : Prop := ∃ dx, H r = some (RdO C z p g dx)
def Off (r : Addr) (H H' : Hp) : Prop := ∀ b o, b ≠ r → H b = some o → H' b = some o
theorem Off.refl (r : Addr) (H : Hp) : Off r H H := fun b o _ e => e
theorem Off.trans {r : Addr} {H H' H'' : Hp} (a : Off r H H') (b : Off r H' H'') : Off r H H'' := fun q o n e => b q o n (a q o n e)
theorem off_at {r : Addr} {H : Hp} {o : HO} : Off r H (upd H r o) := fun b q n e => by
  rw [upd_ne n]
  exact e
theorem off_new {r a : Addr} {H : Hp} {o : HO} (h : H a = none) : Off r H (upd H a o) := fun b q n e => by
  rw [upd_ne (ne_of_none e h)]
  exact e
theorem Same.off {r : Addr} {H H' : Hp} (s : Same H H') : Off r H H' := fun b o _ e => s b o e
structure MethX (K : PySem.W.Frag) (C : Addr) (m qual : Str) (s : Stmt) (ps : List Str) (f : Addr) (fd : FuncData) : Prop where
  M : Meth K C m f
  F : Fun K m qual s f fd
  b : Binds K fd ps []
structure Rx (K : PySem.W.Frag) (C : Addr) : Prop where
  cls : Cls K C
  nT : NoAttr K C "text"
  nA : NoAttr K C "at"
  nR : NoAttr K C "around"
theorem scTaken : FnScope ["self", "allowed", "start"] ["self", "allowed"] (defScope sTaken) := ⟨rfl, rfl, rfl, by decide +kernel, rfl, by decide +kernel, by decide +kernel⟩
theorem scSign : FnScope ["self", "sign"] ["self"] (defScope sSign) := ⟨rfl, rfl, rfl, by decide +kernel, rfl, by decide +kernel, by decide +kernel⟩
theorem scBefore : FnScope ["self", "ahead"] ["self"] (defScope sBefore) := ⟨rfl, rfl, rfl, by decide +kernel, rfl, by decide +kernel, by decide +kernel⟩
def spTaken (C : Addr) : Sp := fun vs H Q _ => ∃ (r : Addr) (z : Str) (p g : Nat) (al : Str) (x l' : List Nat), vs = [.ref r, .str al] ∧ RdAt C r z p g H ∧ z.length ≤ 40000 ∧ p ≤ z.length ∧
  z.cps.toList.drop p = x ++ l' ∧ (∀ c ∈ x, c ∈ al.cps.toList) ∧ NoHead (fun c => c ∈ al.cps.toList) l' ∧ ∀ H', Off r H H' → RdAt C r z (p + x.length) g H' → Q (.str (st x)) H'
/-- while, by a word with its measure -/
theorem while_at {c : TT} {tb : TS} {D : Ends} {σ : L2.St} {H : Hp} (Pv : Nat → L2.St → Hp → Prop) (h0 : ∃ m, Pv m σ H)
    (hs : ∀ m σ H, Pv m σ H → c σ H fun b H1 => if b = true then ∃ N : L2.St → Hp → Prop, (∀ σ' H', N σ' H' → ∃ m', m' < m ∧ Pv m' σ' H') ∧ tb { D with nx := N, ct := N, bk := D.nx } σ H1 else D.nx σ H1) : tWhile c tb D σ H :=
  ⟨Pv, h0, hs⟩
theorem len_list (z : Str) : z.cps.toList.length = z.length := by simp [PySem.Str.length]
theorem drop_at {z : Str} {p : Nat} {x l' : List Nat} (h : z.cps.toList.drop p = x ++ l') {i : Nat} {c : Nat} (hx : (x ++ l')[i]? = some c) : z.cps.toList[p + i]? = some c := by
  rw [← h, List.getElem?_drop] at hx
  exact hx
theorem drop_len {z : Str} {p : Nat} {l : List Nat} (h : z.cps.toList.drop p = l) (hp : p ≤ z.length) : z.length = p + l.length := by
  rw [← h, List.length_drop, len_list]
  omega
theorem drop_more {z : Str} {p : Nat} {x l' : List Nat} (h : z.cps.toList.drop p = x ++ l') : z.cps.toList.drop (p + x.length) = l' := by
  rw [← List.drop_drop, h, List.drop_left]
theorem cut_at {z : Str} {p : Nat} {x l' : List Nat} (h : z.cps.toList.drop p = x ++ l') (hp : p ≤ z.length) : cutS z (some (p : Int)) (some ((p + x.length : Nat) : Int)) = st x := by
  have hl := drop_len h hp
  rw [List.length_append] at hl
  unfold cutS
  rw [HT.sIx_nat, HT.sIx_nat]
  have e1 : min p z.length = p := by omega
  have e2 : min (p + x.length) z.length = p + x.length := by omega
  rw [e1, e2, h]
  have e3 : p + x.length - p = x.length := by omega
  rw [e3, List.take_left]
section
variable {P : Program} {w : World} {K : PySem.W.Frag} {mg : Str → Option Value} {base : Heap} {f C : Addr} {fd : FuncData}
theorem ok_taken (F : Fun K "taken" "Reader.taken" sTaken f fd) (T : Gx K w mg) (R : Rx K C) : FnOk P w K mg base CX0 1 f fd ["self", "allowed"] (spTaken C) := by
  refine F.ok scTaken (fun vs H Q E h => ?_) (fun cdv A outer s H vs Q E hr h => ?_)
  · obtain ⟨r, z, p, g, al, x, l', rfl, _⟩ := h
    rfl
  · obtain ⟨r, z, p, g, al, x, l', rfl, ⟨dx, hR⟩, hz, hp, hd, hx, hn, k⟩ := h
    have hsz : z.length ≤ sizeLine := by rw [sizeLine_eq]; omega
    have hl := drop_len hd hp
    rw [List.length_append] at hl
    refine ⟨_, pss_cons (ps_set (i := 2) scTaken.nd rfl (Or.inl rfl) (pe_fld (pv 0) rfl))
      (pss_cons (ps_while PassesOwn.never (PW.pt (pw_and (pt_cmpR op_lt (pe_fld (pv 0) rfl) (pe_callB call_len_str (by rfl) T.len (by decide +kernel) (pa_cons (pe_fld (pv 0) rfl) pa_nil)) (nomark _))
          (pw_and1 (pt_cmpR op_in_sign (pe_ix ix_str (pe_fld (pv 0) rfl) (pe_fld (pv 0) rfl) (fun _ _ => rfl)) (pv 1) rfl))))
        (pss_one (ps_fldaug (pv 0) pe_int in_add)))
      (pss_one (ps_ret (pe_slice sl_str (pe_fld (pv 0) rfl) (po_some (pv 2)) (po_some (pe_fld (pv 0) rfl)))))), ?_⟩
    refine ⟨_, rfl, r, C, dx, _, .int p, rfl, hR, R.cls, R.nA, rfl, ?_⟩
    refine while_at (fun m σ H' => ∃ i, i + m = x.length ∧ σ = [some (.ref r), some (.str al), some (.int p)] ∧ Off r H H' ∧ RdAt C r z (p + i) g H') ⟨x.length, 0, by omega, rfl, Off.refl r H, dx, hR⟩ ?_
    rintro m σ H1 ⟨i, hi, rfl, off, dx1, hR1⟩
    refine ⟨_, rfl, r, C, dx1, _, .int ((p + i : Nat) : Int), rfl, hR1, R.cls, R.nA, rfl, _, rfl, r, C, dx1, _, .str z, rfl, hR1, R.cls, R.nT, rfl, _, rfl, hsz, _, _, rfl, rfl, _, rfl, ?_⟩
    have fin : i = x.length → (tRet (tSl rSlS (tFld K (tVar 0) "text") (tPart (tVar 2)) (tPart (tFld K (tVar 0) "at")))) { nx := fun x H' => Q V.non H', rt := Q } [some (V.ref r), some (V.str al), some (V.int (p : Int))] H1 := by
      rintro rfl
      refine ⟨_, rfl, r, C, dx1, _, .str z, rfl, hR1, R.cls, R.nT, rfl, _, rfl, (p : Int), rfl, _, rfl, r, C, dx1, _, .int ((p + x.length : Nat) : Int), rfl, hR1, R.cls, R.nA, rfl, ((p + x.length : Nat) : Int), rfl, z, rfl, hsz, ?_⟩
      rw [cut_at hd hp]
      exact k H1 off ⟨dx1, hR1⟩
    have hlen := len_list z
    refine ite2 (fun c => ?_) (fun c => ?_)
    · have c1 : p + i < z.length := by have := of_decide_eq_true c; omega
      obtain ⟨c0, hc0⟩ : ∃ c0, z.cps.toList[p + i]? = some c0 := ⟨_, List.getElem?_eq_getElem (by omega)⟩
      have hc1 : (x ++ l')[i]? = some c0 := by rw [← hd, List.getElem?_drop]; exact hc0
      refine ⟨_, rfl, r, C, dx1, _, .str z, rfl, hR1, R.cls, R.nT, rfl, _, rfl, r, C, dx1, _, .int ((p + i : Nat) : Int), rfl, hR1, R.cls, R.nA, rfl, z, _, c0, rfl, rfl, hsz, atI_nat hc0, ?_⟩
      refine ⟨_, rfl, c0, al, rfl, rfl, _, rfl, ?_⟩
      rcases Nat.lt_or_ge i x.length with hlt | hge
      · have hin : c0 ∈ al.cps.toList := hx _ (by
          rw [List.getElem?_append_left hlt] at hc1
          exact List.mem_of_getElem? hc1)
        rw [decide_eq_true hin]
        refine iteT ?_
        refine ⟨fun σ' H' => ∃ i, i + (m - 1) = x.length ∧ σ' = [some (.ref r), some (.str al), some (.int p)] ∧ Off r H H' ∧ RdAt C r z (p + i) g H', fun σ' H' q => ⟨m - 1, by omega, q⟩, ?_⟩
        refine ⟨_, rfl, r, C, dx1, _, .int ((p + i : Nat) : Int), rfl, hR1, R.cls, R.nA, rfl, _, _, rfl, rfl, dx1, _, hR1, (show 3 < 1000 by decide), i + 1, by omega, rfl, off.trans off_at, dx1, ?_⟩
        rw [upd_same]
        rfl
      · have hout : ¬ c0 ∈ al.cps.toList := by
          have e : i = x.length := by omega
          subst e
          rw [List.getElem?_append_right (Nat.le_refl _), Nat.sub_self] at hc1
          cases l' with
          | nil => cases hc1
          | cons c1 r1 =>
            have e2 : c1 = c0 := by simpa using hc1
            subst e2
            exact hn c1 r1 rfl
        rw [decide_eq_false hout]
        exact fin (by omega)
    · have c1 : ¬ (p + i < z.length) := by simp only [decide_eq_true_eq] at c; omega
      exact fin (by omega)
end
end Lg

namespace Lg
open PySem PySem.Spec PyProof.Rows L2
theorem starts_at {z : Str} {k : List Nat} {p : Nat} (hk : k ≠ []) (hp : p ≤ z.length) : Txt.startswith3 z (st k) p = k.isPrefixOf (z.cps.toList.drop p) := by
  have hf : fromIndex z.length (p : Int) = p := by
    unfold fromIndex
    rw [if_neg (by omega)]
    omega
  have hl := len_list z
  have hk2 : (st k).length = k.length := st_len k
  unfold Txt.startswith3
  rw [hf, hk2, Bool.eq_iff_iff, List.isPrefixOf_iff_prefix, List.prefix_iff_eq_take, Bool.and_eq_true, decide_eq_true_iff]
  unfold Builtin.Str.subAt
  rw [beq_iff_eq, hk2]
  have he : (z.cps.extract p (p + k.length)).toList = (z.cps.toList.drop p).take k.length := by
    rw [Array.toList_extract]
    simp [List.extract]
  constructor
  · rintro ⟨_, h⟩
    have h2 := congrArg Array.toList h
    rw [he] at h2
    exact h2.symm
  · intro h
    refine ⟨?_, ?_⟩
    · have h2 := congrArg List.length h
      rw [List.length_take, List.length_drop, hl, Nat.min_def] at h2
      have : k.length ≠ 0 := by
        intro z
        exact hk (List.eq_nil_of_length_eq_zero z)
      split at h2 <;> omega
    · apply Array.ext'
      rw [he, ← h]
theorem signAt_of {o : Op} {l : List Nat} (h : o.sign.isPrefixOf l = true) : signAt l = some o := by
  rw [List.isPrefixOf_iff_prefix] at h
  obtain ⟨r, rfl⟩ := h
  exact signAt_sign o r
theorem signAt_no {l : List Nat} (h : ∀ o : Op, ¬ o.sign.isPrefixOf l = true) : signAt l = none := by
  unfold signAt
  have h1 := h .plus
  have h2 := h .minus
  have h3 := h .times
  have h4 := h .less
  have h5 := h .same
  simp only [Op.sign] at h1 h2 h3 h4 h5
  rw [if_neg h1, if_neg h2, if_neg h3, if_neg h4, if_neg h5]
theorem sign_ne (o : Op) : o.sign ≠ [] := by cases o <;> simp [Op.sign]
def signV (l : List Nat) : V := match signAt l with
  | some o => .str o.key
  | none => .non
def spSign (C : Addr) : Sp := fun vs H Q _ => ∃ (r : Addr) (z : Str) (p g : Nat), vs = [.ref r] ∧ RdAt C r z p g H ∧ p ≤ z.length ∧ Q (signV (z.cps.toList.drop p)) H
def spBefore (C : Addr) : Sp := fun vs H Q _ => ∃ (r : Addr) (z : Str) (p g : Nat), vs = [.ref r] ∧ RdAt C r z p g H ∧ p ≤ z.length ∧ z.length ≤ 40000 ∧
  ((Bef (z.cps.toList.drop p) ∧ Q (.bl true) H) ∨ (¬ Bef (z.cps.toList.drop p) ∧ Q (.bl false) H))
theorem all_ops : ∀ o : Op, ∃ j, j < opAll.length ∧ opAll[j]? = some o := by
  intro o
  cases o
  · exact ⟨0, by decide, rfl⟩
  · exact ⟨1, by decide, rfl⟩
  · exact ⟨2, by decide, rfl⟩
  · exact ⟨3, by decide, rfl⟩
  · exact ⟨4, by decide, rfl⟩
section
variable {P : Program} {w : World} {K : PySem.W.Frag} {mg : Str → Option Value} {base : Heap} {f C : Addr} {fd : FuncData}
theorem ok_sign (F : Fun K "sign_here" "Reader.sign_here" sSign f fd) (T : Gx K w mg) (R : Rx K C) : FnOk P w K mg base CX0 1 f fd ["self"] (spSign C) := by
  obtain ⟨d, hmg, hkeys, _⟩ := T.ops
  refine F.ok scSign (fun vs H Q E h => ?_) (fun cdv A outer s H vs Q E hr h => ?_)
  · obtain ⟨r, z, p, g, rfl, _⟩ := h
    rfl
  · obtain ⟨r, z, p, g, rfl, ⟨dx, hR⟩, hp, k⟩ := h
    refine ⟨_, pss_cons (ps_for PassesOwn.never rfl (pi_kkeys (pe_glob (v := .ref d) rfl hmg rfl)) (pg_name (i := 1) scSign.nd rfl (Or.inl rfl))
        (pss_one (ps_if (pt_val (pe_bm PySem.F.plainAttrs_str PySem.F.slot_str_startswith PySem.F.type_str_startswith mt_startswith3 (pe_fld (pv 0) rfl) (pa_cons (pv 1) (pa_cons (pe_fld (pv 0) rfl) pa_nil)))) (pss_one (ps_ret (pv 1))) pss_nil)))
      (pss_one (ps_ret pe_non)), ?_⟩
    refine ⟨d, _, rfl, hkeys, for_keysW (fun i σ H' => (∃ v, σ = [some (.ref r), v]) ∧ H' = H ∧ ∀ j < i, ∀ o, opAll[j]? = some o → ¬ o.sign.isPrefixOf (z.cps.toList.drop p) = true) ⟨⟨_, rfl⟩, rfl, fun j hj => by omega⟩ ?_ ?_⟩
    · rintro i x σ H' hx ⟨⟨v, rfl⟩, rfl, no⟩
      rw [List.getElem?_map] at hx
      obtain ⟨o, ho, rfl⟩ : ∃ o, opAll[i]? = some o ∧ o.key = x := by
        cases q : opAll[i]? with
        | none => rw [q] at hx; cases hx
        | some o => rw [q] at hx; exact ⟨o, rfl, Option.some.inj hx⟩
      refine ⟨_, rfl, r, C, dx, _, .str z, rfl, hR, R.cls, R.nT, rfl, rfl, _, rfl, _, rfl, r, C, dx, _, .int (p : Int), rfl, hR, R.cls, R.nA, rfl, z, o.key, (p : Int), rfl, rfl, _, rfl, ?_⟩
      have e : Txt.startswith3 z o.key p = o.sign.isPrefixOf (z.cps.toList.drop p) := starts_at (sign_ne o) hp
      rw [e]
      refine ite2 (fun c => ?_) (fun c => ?_)
      · refine ⟨_, rfl, ?_⟩
        have q : signV (z.cps.toList.drop p) = .str o.key := by
          unfold signV
          rw [signAt_of c]
        rw [q] at k
        exact k
      · refine ⟨⟨_, rfl⟩, rfl, fun j hj o2 ho2 => ?_⟩
        rcases Nat.lt_or_eq_of_le (Nat.le_of_lt_succ hj) with h | h
        · exact no j h o2 ho2
        · subst h
          rw [ho] at ho2
          cases ho2
          exact c
    · rintro σ H' ⟨_, rfl, no⟩
      have q : signV (z.cps.toList.drop p) = .non := by
        unfold signV
        rw [signAt_no fun o => by
          obtain ⟨j, hj, ho⟩ := all_ops o
          exact no j (by simpa using hj) o ho]
      rw [q] at k
      exact k
end
end Lg

namespace Lg
open PySem PySem.Spec PyProof.Rows L2
theorem iteN {p A B : Prop} [Decidable p] (h : ¬ p) (k : B) : if decide p = true then A else B := by
  rw [decide_eq_false h]
  exact iteF k
theorem iteY {p A B : Prop} [Decidable p] (h : p) (k : A) : if decide p = true then A else B := by
  rw [decide_eq_true h]
  exact iteT k
theorem one_eq {c : Nat} {t : Str} {n : Nat} (ht : t.cps.toList = [n]) : (V.str ⟨#[c]⟩ = V.str t) ↔ c = n := by
  constructor
  · intro h
    have z : (⟨#[c]⟩ : Str) = t := by injection h
    have z2 : [c] = [n] := (congrArg (fun x : Str => x.cps.toList) z).trans ht
    exact List.head_eq_of_cons_eq z2
  · rintro rfl
    exact congrArg V.str (strExt (by rw [ht]))
theorem blank_list : (Str.ofString " ").cps.toList = [32] := by decide +kernel
/-- v is the expression e -/
inductive Rep (H : Hp) : V → E → Prop where
  | word {z} : Rep H (.str (st z)) (.word z)
  | num {n : Nat} : Rep H (.int (n : Int)) (.num n)
  | ask {a : Addr} {q z} : H a = some (.tup [.str (st q), .str (st z)]) → Rep H (.ref a) (.ask q z)
  | op {t : Addr} {o : Op} {va vb : V} {a b : E} : H t = some (.tup [.str o.name, va, vb]) → Rep H va a → Rep H vb b → Rep H (.ref t) (.op o a b)
theorem Rep.by {H H' : Hp} {v : V} {e : E} (h : Rep H v e) (k : ∀ b xs, H b = some (.tup xs) → H' b = some (.tup xs)) : Rep H' v e := by
  induction h with
  | word => exact .word
  | num => exact .num
  | ask e => exact .ask (k _ _ e)
  | op e _ _ i1 i2 => exact .op (k _ _ e) i1 i2
theorem Rep.same {H H' : Hp} {v : V} {e : E} (h : Rep H v e) (k : Same H H') : Rep H' v e := h.by fun b xs q => k b _ q
theorem RdAt.ne {C r : Addr} {z : Str} {p g : Nat} {H : Hp} (h : RdAt C r z p g H) {b : Addr} {xs : List V} (e : H b = some (.tup xs)) : b ≠ r := fun q => by
  obtain ⟨dx, h⟩ := h
  rw [q, h] at e
  cases e
theorem Rep.off {C r : Addr} {z : Str} {p g : Nat} {H H' : Hp} {v : V} {e : E} (h : Rep H v e) (R : RdAt C r z p g H) (k : Off r H H') : Rep H' v e := h.by fun b xs q => k b _ (R.ne q) q
theorem Rep.dp {K : PySem.W.Frag} {H : Hp} {v : V} {e : E} (h : Rep H v e) : Dp K H v (dat e) := by
  induction h with
  | word => exact .str _
  | num => exact .int _
  | ask e => exact .tup (.inl (.inl e)) (.cons (.str _) (.cons (.str _) .nil))
  | op e _ _ i1 i2 => exact .tup (.inl (.inl e)) (.cons (.str _) (.cons i1 (.cons i2 .nil)))
theorem fnNever {P : Program} {w : World} {K : PySem.W.Frag} {mg : Str → Option Value} {base : Heap} {k : Nat} {f : Addr} {fd : FuncData} {ps : List Str} {sp : Sp} (h : ∀ vs H Q E, ¬ sp vs H Q E) : FnOk P w K mg base CX0 k f fd ps sp :=
  ⟨fun vs H Q E z => absurd z (h vs H Q E), fun A outer s H args us vs Q E _ _ _ _ z => absurd z (h vs H Q E)⟩
/-- what a reading leaves behind -/
def Left (C r : Addr) (z : Str) (g : Nat) (H : Hp) (e : E) (d : Nat) (l' : List Nat) (Q : VK) : Prop :=
  ∀ (H' : Hp) (t : Addr) (v : V) (p' : Nat), Off r H H' → RdAt C r z p' g H' → p' ≤ z.length → z.cps.toList.drop p' = l' → H' t = some (.tup [v, .int (d : Int)]) → Rep H' v e → Q (.ref t) H'
def spOpd (C : Addr) (h : Nat) : Sp := fun vs H Q _ => ∃ (r : Addr) (z : Str) (p g : Nat) (l : List Nat) (e : E) (d : Nat) (l' : List Nat), vs = [.ref r] ∧ RdAt C r z p g H ∧ z.length ≤ 40000 ∧ p ≤ z.length ∧
  z.cps.toList.drop p = l ∧ Rd h g .opd l e d l' ∧ Left C r z g H e d l' Q
def spOps (C : Addr) (h : Nat) : Sp := fun vs H Q _ => ∃ (r : Addr) (least : Nat) (z : Str) (p g : Nat) (l : List Nat) (e : E) (d : Nat) (l' : List Nat), vs = [.ref r, .int least] ∧ RdAt C r z p g H ∧ z.length ≤ 40000 ∧ p ≤ z.length ∧
  z.cps.toList.drop p = l ∧ Rd h g (.ops least) l e d l' ∧ Left C r z g H e d l' Q
def spPar (C : Addr) (h : Nat) : Sp := fun vs H Q _ => ∃ (h0 : Nat) (r : Addr) (z : Str) (p g : Nat) (l : List Nat) (e : E) (d : Nat) (l' : List Nat), h = h0 + 1 ∧ vs = [.ref r] ∧ RdAt C r z p g H ∧ z.length ≤ 40000 ∧ p ≤ z.length ∧
  z.cps.toList.drop p = 40 :: l ∧ g < 20 ∧ Rd h0 (g + 1) (.ops 1) l e d (41 :: l') ∧ Left C r z g H e d l' Q
theorem scPar : FnScope ["self", "found"] ["self"] (defScope sPar) := ⟨rfl, rfl, rfl, by decide +kernel, rfl, by decide +kernel, by decide +kernel⟩
theorem cut_two {z : Str} {p : Nat} {l : List Nat} (h : z.cps.toList.drop p = l) (hp : p ≤ z.length) : cutS z (some (p : Int)) (some ((p : Int) + 2)) = st (l.take 2) := by
  have e0 : (p : Int) + 2 = ((p + 2 : Nat) : Int) := by omega
  have hl := len_list z
  have hd := drop_len h hp
  rw [e0]
  unfold cutS
  rw [HT.sIx_nat, HT.sIx_nat]
  have e1 : min p z.length = p := by omega
  rw [e1, h]
  show st (l.take (min (p + 2) z.length - p)) = _
  rcases Nat.lt_or_ge l.length 2 with q | q
  · rw [List.take_of_length_le (by omega), List.take_of_length_le (by omega)]
  · have e2 : min (p + 2) z.length - p = 2 := by omega
    rw [e2]
section
variable {P : Program} {w : World} {K : PySem.W.Frag} {mg : Str → Option Value} {base : Heap} {f C : Addr} {fd : FuncData}
theorem ok_before (F : Fun K "is_before_word" "Reader.is_before_word" sBefore f fd) (T : Gx K w mg) (R : Rx K C) : FnOk P w K mg base CX0 1 f fd ["self"] (spBefore C) := by
  obtain ⟨tl, hlet⟩ := T.letters
  refine F.ok scBefore (fun vs H Q E h => ?_) (fun cdv A outer s H vs Q E hr h => ?_)
  · obtain ⟨r, z, p, g, rfl, _⟩ := h
    rfl
  · obtain ⟨r, z, p, g, rfl, ⟨dx, hR⟩, hp, hz, k⟩ := h
    have hsz : z.length ≤ sizeLine := by rw [sizeLine_eq]; omega
    refine ⟨_, pss_cons (ps_set (i := 1) scBefore.nd rfl (Or.inl rfl) (pe_slice sl_str (pe_fld (pv 0) rfl) (po_some (pe_fld (pv 0) rfl)) (po_some (pe_op op_add (pe_fld (pv 0) rfl) pe_int))))
      (pss_one (ps_ret (pe_and (pe_cmpR op_eq (pe_callB call_len_str (by rfl) T.len (by decide +kernel) (pa_cons (pv 1) pa_nil)) pe_int (nomark _))
        (pe_and (pe_cmpR op_eq (pe_ix ix_str (pv 1) pe_int (fun _ _ => rfl)) pe_str (nomark _))
          (pe_one (pe_cmpR op_in_sign (pe_ix ix_str (pv 1) pe_int (fun _ _ => rfl)) (pe_glob (v := .str sLetters) rfl hlet ⟨_, rfl⟩) rfl)))))), ?_⟩
    refine ⟨_, rfl, r, C, dx, _, .str z, rfl, hR, R.cls, R.nT, rfl, _, rfl, r, C, dx, _, .int (p : Int), rfl, hR, R.cls, R.nA, rfl, (p : Int), rfl, _, rfl, r, C, dx, _, .int (p : Int), rfl, hR, R.cls, R.nA, rfl, _, _, rfl, rfl, (p : Int) + 2, rfl, z, rfl, hsz, ?_⟩
    rw [cut_two rfl hp]
    generalize z.cps.toList.drop p = l at k
    have small : (st (l.take 2)).length ≤ sizeLine := by
      rw [st_len, List.length_take, sizeLine_eq]
      omega
    refine ⟨_, rfl, _, rfl, small, ?_⟩
    refine ⟨rfl, _, rfl, ?_⟩
    have no : ∀ {l : List Nat}, (st (l.take 2)).length ≠ 2 → ¬ V.int ((st (l.take 2)).length : Int) = V.int 2 := fun h z => by
      injection z with z
      omega
    match l, k, small with
    | [], k, _ =>
      refine iteN (no (by rw [st_len]; simp)) ?_
      rcases k with ⟨⟨_, _, e, _⟩, _⟩ | ⟨_, k⟩
      · cases e
      · exact k
    | [a], k, _ =>
      refine iteN (no (by rw [st_len]; simp)) ?_
      rcases k with ⟨⟨_, _, e, _⟩, _⟩ | ⟨_, k⟩
      · cases e
      · exact k
    | a :: b :: l2, k, small =>
      refine iteY (by rw [st_len]; simp) ?_
      refine ⟨_, rfl, st [a, b], 0, a, rfl, rfl, small, rfl, rfl, _, rfl, ?_⟩
      refine ite2 (fun c => ?_) (fun c => ?_)
      · have ha : a = 32 := (one_eq blank_list).mp (of_decide_eq_true c)
        subst ha
        refine ⟨_, rfl, st [32, b], 1, b, rfl, rfl, small, rfl, b, sLetters, rfl, rfl, ?_⟩
        rcases k with ⟨⟨c1, r1, e, hc⟩, k⟩ | ⟨nb, k⟩
        · injection e with _ e
          injection e with e _
          subst e
          rw [decide_eq_true ((letters_iff b).mpr hc)]
          exact k
        · have hb : ¬ b ∈ sLetters.cps.toList := fun z => nb ⟨b, l2, rfl, (letters_iff b).mp z⟩
          rw [decide_eq_false hb]
          exact k
      · rcases k with ⟨⟨c1, r1, e, hc⟩, k⟩ | ⟨nb, k⟩
        · injection e with e _
          subst e
          exact absurd (decide_eq_true ((one_eq blank_list).mpr rfl)) c
        · have e : decide (V.str ⟨#[a]⟩ = V.str (Str.ofString " ")) = false := by simpa using c
          exact k
theorem ok_par (F : Fun K "parentheses" "Reader.parentheses" sPar f fd) (T : Gx K w mg) (R : Rx K C) {fo : Addr} {fdo : FuncData} (O : MethX K C "operations" "Reader.operations" sOps ["self", "least"] fo fdo) {k h : Nat}
    (GO : FnOk P w K mg base CX0 k fo fdo ["self", "least"] (spOps C h)) : FnOk P w K mg base CX0 (k + 1) f fd ["self"] (spPar C (h + 1)) := by
  obtain ⟨tp, hmp⟩ := T.mostP
  refine F.ok scPar (fun vs H Q E h => ?_) (fun cdv A outer s H vs Q E hr h => ?_)
  · obtain ⟨h0, r, z, p, g, l, e, d, l', _, rfl, _⟩ := h
    rfl
  · obtain ⟨h0, r, z, p, g, l, e, d, l', hh, rfl, ⟨dx, hR⟩, hz, hp, hd, hg, hrd, k⟩ := h
    obtain rfl : h = h0 := by omega
    have hl := drop_len hd hp
    have hl2 : (40 :: l).length = l.length + 1 := rfl
    refine ⟨_, pss_cons (ps_if (pt_cmpR op_eq (pe_fld (pv 0) rfl) (pe_glob (v := .int 20) rfl hmp ⟨_, rfl⟩) (nomark _)) (pss_one ps_never) pss_nil)
      (pss_cons (ps_fldaug (pv 0) pe_int in_add)
      (pss_cons (ps_fldaug (pv 0) pe_int in_add)
      (pss_cons (ps_set (i := 1) scPar.nd rfl (Or.inl rfl) (pe_meth (pv 0) R.cls O.M GO hr O.b .nil pass0 (pa_cons pe_int pa_nil)))
      (pss_cons (ps_if (pt_not (pt_val (pe_bm PySem.F.plainAttrs_str PySem.F.slot_str_startswith PySem.F.type_str_startswith mt_startswith3 (pe_fld (pv 0) rfl) (pa_cons pe_str (pa_cons (pe_fld (pv 0) rfl) pa_nil))))) (pss_one ps_never) pss_nil)
      (pss_cons (ps_fldaug (pv 0) pe_int in_add)
      (pss_cons (ps_fldaug (pv 0) pe_int in_sub)
      (pss_one (ps_ret (pv 1))))))))), ?_⟩
    refine ⟨_, rfl, r, C, dx, _, .int (g : Int), rfl, hR, R.cls, R.nR, rfl, rfl, _, rfl, ?_⟩
    refine iteN (fun z => by injection z with z; omega) ?_
    refine ⟨_, rfl, r, C, dx, _, .int (g : Int), rfl, hR, R.cls, R.nR, rfl, _, _, rfl, rfl, dx, _, hR, (show 3 < 1000 by decide), ?_⟩
    have h1 : upd H r (.ins C dx (putF "around" (.int ((g : Int) + 1)) [("text", .str z), ("at", .int (p : Int)), ("around", .int (g : Int))])) r = some (RdO C z p (g + 1) dx) := by
      rw [upd_same]
      rfl
    refine ⟨_, rfl, r, C, dx, _, .int (p : Int), rfl, h1, R.cls, R.nA, rfl, _, _, rfl, rfl, dx, _, h1, (show 3 < 1000 by decide), ?_⟩
    refine ⟨_, rfl, r, dx, _, rfl, upd_same, rfl, r, 1, z, p + 1, g + 1, l, e, d, _, rfl, ⟨dx, by rw [upd_same]; rfl⟩, hz, by omega, ?_, hrd, ?_⟩
    · rw [← List.drop_drop, hd]
      rfl
    · intro H' t v p' off ⟨dx', hR'⟩ hp' hd' ht rep
      have hl3 := drop_len hd' hp'
      have hl4 : (41 :: l').length = l'.length + 1 := rfl
      refine ⟨_, rfl, r, C, dx', _, .str z, rfl, hR', R.cls, R.nT, rfl, rfl, _, rfl, r, C, dx', _, .int (p' : Int), rfl, hR', R.cls, R.nA, rfl, z, _, (p' : Int), rfl, rfl, _, rfl, ?_⟩
      have e1 : Txt.startswith3 z (Str.ofString ")") p' = true := by
        have q := starts_at (z := z) (k := [41]) (p := p') (by simp) hp'
        rw [hd'] at q
        exact q
      rw [e1]
      refine iteF ?_
      refine ⟨_, rfl, r, C, dx', _, .int (p' : Int), rfl, hR', R.cls, R.nA, rfl, _, _, rfl, rfl, dx', _, hR', (show 3 < 1000 by decide), ?_⟩
      have h2 : upd H' r (.ins C dx' (putF "at" (.int ((p' : Int) + 1)) [("text", .str z), ("at", .int (p' : Int)), ("around", .int ((g + 1 : Nat) : Int))])) r = some (RdO C z (p' + 1) (g + 1) dx') := by
        rw [upd_same]
        rfl
      refine ⟨_, rfl, r, C, dx', _, .int ((g + 1 : Nat) : Int), rfl, h2, R.cls, R.nR, rfl, _, _, rfl, rfl, dx', _, h2, (show 3 < 1000 by decide), ?_⟩
      have nt : t ≠ r := RdAt.ne ⟨dx', hR'⟩ ht
      refine ⟨_, rfl, k _ t v (p' + 1) ?_ ⟨dx', ?_⟩ (by omega) ?_ ?_ ?_⟩
      · exact ((off_at.trans off_at).trans off).trans (off_at.trans off_at)
      · rw [upd_same]
        show some (HO.ins C dx' [("text", .str z), ("at", .int ((p' + 1 : Nat) : Int)), ("around", .int (((g + 1 : Nat) : Int) - 1))]) = _
        have : ((g + 1 : Nat) : Int) - 1 = (g : Int) := by omega
        rw [this]
        rfl
      · rw [← List.drop_drop, hd']
        rfl
      · rw [upd_ne nt, upd_ne nt]
        exact ht
      · exact rep.off ⟨dx', hR'⟩ (off_at.trans off_at)
end
end Lg

namespace Lg
open PySem PySem.Spec PyProof.Rows L2
theorem scOpd : FnScope ["self", "digits", "number", "word"] ["self"] (defScope sOpd) := ⟨rfl, rfl, rfl, by decide +kernel, rfl, by decide +kernel, by decide +kernel⟩
theorem st_inj {a b : List Nat} (h : st a = st b) : a = b := by
  have := congrArg (fun x : Str => x.cps.toList) h
  simpa using this
theorem in_quests (z : List Nat) : inV (.str (st z)) [.str (st (wd "known")), .str (st (wd "reason"))] = true ↔ Ques z := by
  have e : ∀ a : List Nat, eqV (.str (st a)) (.str (st z)) = true ↔ a = z := fun a => by
    show (decide (st a = st z)) = true ↔ _
    rw [decide_eq_true_iff]
    exact ⟨st_inj, fun h => by rw [h]⟩
  unfold inV
  rw [List.any_cons, List.any_cons, List.any_nil, Bool.or_false, Bool.or_eq_true, e, e]
  exact ⟨fun h => h.imp Eq.symm Eq.symm, fun h => h.imp Eq.symm Eq.symm⟩
theorem iteNN {c A B : Prop} [Decidable c] (hc : ¬ c) (h : A) : if (!decide c) = true then A else B := by
  rw [decide_eq_false hc]
  exact iteT h
theorem empty_eq : V.str (st []) = V.str (Str.ofString "") := congrArg V.str (strExt (by decide +kernel))
theorem empty_ne {l : List Nat} (h : l ≠ []) : ¬ V.str (st l) = V.str (Str.ofString "") := fun z => by
  rw [← empty_eq] at z
  injection z with z
  exact h (st_inj z)
theorem two_size (a b : V) : [a, b].length ≤ sizeLine := by
  rw [sizeLine_eq]
  exact (by decide : 2 ≤ 16777216)
theorem nohead_dig {l : List Nat} (h : NoHead Dig l) : NoHead (fun c => c ∈ sDigits.cps.toList) l := fun c r e m => h c r e ((digits_iff c).mp m)
theorem nohead_let {l : List Nat} (h : NoHead Let l) : NoHead (fun c => c ∈ sLetters.cps.toList) l := fun c r e m => h c r e ((letters_iff c).mp m)
theorem word_nodig {z l : List Nat} (w : WordOk z) : NoHead Dig (z ++ l) := fun c r e m => by
  obtain ⟨c1, r1, e1, h1⟩ := w.head
  rw [e1] at e
  injection e with e _
  exact let_dig h1 (e ▸ m)
section
variable {P : Program} {w : World} {K : PySem.W.Frag} {mg : Str → Option Value} {base : Heap} {f C : Addr} {fd : FuncData}
theorem ok_opd (F : Fun K "operand" "Reader.operand" sOpd f fd) (T : Gx K w mg) (R : Rx K C) {fp ft fb fn fw : Addr} {fdp fdt fdb fdn fdw : FuncData} {k h : Nat} (hk : 3 ≤ k)
    (PM : MethX K C "parentheses" "Reader.parentheses" sPar ["self"] fp fdp) (GP : FnOk P w K mg base CX0 k fp fdp ["self"] (spPar C h))
    (TM : MethX K C "taken" "Reader.taken" sTaken ["self", "allowed"] ft fdt) (GT : FnOk P w K mg base CX0 1 ft fdt ["self", "allowed"] (spTaken C))
    (BM : MethX K C "is_before_word" "Reader.is_before_word" sBefore ["self"] fb fdb) (GB : FnOk P w K mg base CX0 1 fb fdb ["self"] (spBefore C))
    (ND : DefX K mg "read_number" sNumber ["text"] fn fdn) (GN : FnOk P w K mg base CX0 2 fn fdn ["text"] spNumber)
    (WD : DefX K mg "read_word" sWord ["text"] fw fdw) (GW : FnOk P w K mg base CX0 3 fw fdw ["text"] spWord) : FnOk P w K mg base CX0 (k + 1) f fd ["self"] (spOpd C h) := by
  obtain ⟨tl, hlet⟩ := T.letters
  obtain ⟨td, hdig⟩ := T.digits
  obtain ⟨tm, hmod⟩ := T.modulus
  obtain ⟨qa, hqu, hqs⟩ := T.quests
  refine F.ok scOpd (fun vs H Q E h => ?_) (fun cdv A outer s H vs Q E hr h => ?_)
  · obtain ⟨r, z, p, g, l, e, d, l', rfl, _⟩ := h
    rfl
  · obtain ⟨r, z, p, g, l, e, d, l', rfl, ⟨dx, hR⟩, hz, hp, hd, hrd, kk⟩ := h
    have hr1 : Room 1 _ := hr.mono (by omega)
    have hr2 : Room 2 _ := hr.mono (by omega)
    have hr3 : Room 3 _ := hr.mono (by omega)
    refine ⟨_, pss_cons (ps_if (pt_val (pe_bm PySem.F.plainAttrs_str PySem.F.slot_str_startswith PySem.F.type_str_startswith mt_startswith3 (pe_fld (pv 0) rfl) (pa_cons pe_str (pa_cons (pe_fld (pv 0) rfl) pa_nil)))) (pss_one (ps_ret (pe_meth0 (pv 0) R.cls PM.M GP hr PM.b .nil pass0))) pss_nil)
      (pss_cons (ps_set (i := 1) scOpd.nd rfl (Or.inl rfl) (pe_meth (pv 0) R.cls TM.M GT hr1 TM.b .nil pass0 (pa_cons (pe_glob (v := .str sDigits) rfl hdig ⟨_, rfl⟩) pa_nil)))
      (pss_cons (ps_if (pt_cmpR op_ne (pv 1) pe_str (nomark _))
        (pss_cons (ps_set (i := 2) scOpd.nd rfl (Or.inl rfl) (pe_call GN hr2 (by rfl) ND.mg ND.F.kp ND.b .nil pass0 (pa_cons (pv 1) pa_nil)))
        (pss_cons (ps_if (pt_cmpR op_ge (pv 2) (pe_glob (v := .int 1000000007) rfl hmod ⟨_, rfl⟩) (nomark _)) (pss_one ps_never) pss_nil)
        (pss_one (ps_ret (pe_tup (pa_cons (pv 2) (pa_cons pe_int pa_nil))))))) pss_nil)
      (pss_cons (ps_set (i := 3) scOpd.nd rfl (Or.inl rfl) (pe_call GW hr3 (by rfl) WD.mg WD.F.kp WD.b .nil pass0 (pa_cons (pe_meth (pv 0) R.cls TM.M GT hr1 TM.b .nil pass0 (pa_cons (pe_glob (v := .str sLetters) rfl hlet ⟨_, rfl⟩) pa_nil)) pa_nil)))
      (pss_cons (ps_if (PW.pt (pw_and (pt_cmpR op_in_seq (pv 3) (pe_glob (v := .ref qa) rfl hqu rfl) (by rfl)) (pw_and1 (pt_val (pe_meth0 (pv 0) R.cls BM.M GB hr1 BM.b .nil pass0)))))
        (pss_cons (ps_fldaug (pv 0) pe_int in_add)
        (pss_one (ps_ret (pe_tup (pa_cons (pe_tup (pa_cons (pv 3) (pa_cons (pe_call GW hr3 (by rfl) WD.mg WD.F.kp WD.b .nil pass0 (pa_cons (pe_meth (pv 0) R.cls TM.M GT hr1 TM.b .nil pass0 (pa_cons (pe_glob (v := .str sLetters) rfl hlet ⟨_, rfl⟩) pa_nil)) pa_nil)) pa_nil))) (pa_cons pe_int pa_nil)))))) pss_nil)
      (pss_one (ps_ret (pe_tup (pa_cons (pv 3) (pa_cons pe_int pa_nil))))))))), ?_⟩
    refine ⟨_, rfl, r, C, dx, _, .str z, rfl, hR, R.cls, R.nT, rfl, rfl, _, rfl, r, C, dx, _, .int (p : Int), rfl, hR, R.cls, R.nA, rfl, z, _, (p : Int), rfl, rfl, _, rfl, ?_⟩
    have e1 : Txt.startswith3 z (Str.ofString "(") p = [40].isPrefixOf l := by
      have q := starts_at (z := z) (k := [40]) (p := p) (by simp) hp
      rw [hd] at q
      exact q
    rw [e1]
    clear e1
    cases hrd with
    | @par h0 _ l0 _ _ _ hg q =>
      have e2 : [40].isPrefixOf (40 :: l0) = true := by simp [List.isPrefixOf]
      rw [e2]
      refine iteT ?_
      exact ⟨_, rfl, r, dx, _, rfl, hR, rfl, h0, r, z, p, g, l0, e, d, l', rfl, rfl, ⟨dx, hR⟩, hz, hp, hd, hg, q, kk⟩
    | @num _ _ n _ wn nh =>
      obtain ⟨c0, r0, en, hc0⟩ := wn.head
      have e2 : [40].isPrefixOf (ntx n ++ l') = false := by
        rw [en]
        have : ¬ (40 = c0) := fun z => dig_open hc0 z.symm
        simp [List.isPrefixOf, this]
      rw [e2]
      refine iteF ?_
      refine ⟨_, rfl, r, dx, _, rfl, hR, rfl, r, z, p, g, sDigits, ntx n, l', rfl, ⟨dx, hR⟩, hz, hp, hd, fun c hc => (digits_iff c).mpr (wn.all c hc), nohead_dig nh, fun H1 off1 R1 => ?_⟩
      refine ⟨_, rfl, rfl, _, rfl, ?_⟩
      refine iteNN (empty_ne wn.ne) ?_
      refine ⟨_, rfl, n, rfl, wn, fun H2 sm => ?_⟩
      refine ⟨_, rfl, _, _, rfl, rfl, _, rfl, ?_⟩
      refine iteN (fun z => by have := wn.lt; omega) ?_
      refine ⟨_, rfl, two_size _ _, fun t ht => ?_⟩
      have hl := drop_len hd hp
      rw [List.length_append] at hl
      have off2 : Off r H (upd H2 t (.tup [.int (n : Int), .int 1])) := (off1.trans (Same.off sm)).trans (off_new ht)
      obtain ⟨dx1, hR1⟩ := R1
      exact kk _ t _ _ off2 ⟨dx1, by rw [upd_ne (ne_of_none (sm _ _ hR1) ht)]; exact sm _ _ hR1⟩ (by omega) (drop_more hd) upd_same .num
    | @word _ _ zz _ wz nh nq =>
      obtain ⟨c0, r0, en, hc0⟩ := wz.head
      have e2 : [40].isPrefixOf (zz ++ l') = false := by
        rw [en]
        have : ¬ (40 = c0) := fun z => let_open hc0 z.symm
        simp [List.isPrefixOf, this]
      rw [e2]
      refine iteF ?_
      refine ⟨_, rfl, r, dx, _, rfl, hR, rfl, r, z, p, g, sDigits, [], zz ++ l', rfl, ⟨dx, hR⟩, hz, hp, hd, fun c hc => (nomatch hc), nohead_dig (word_nodig wz), fun H1 off1 R1 => ?_⟩
      refine ⟨_, rfl, rfl, _, rfl, ?_⟩
      refine iteNS empty_eq ?_
      obtain ⟨dx1, hR1⟩ := R1
      have hl := drop_len hd hp
      rw [List.length_append] at hl
      refine ⟨_, rfl, r, dx1, _, rfl, hR1, rfl, r, z, p, g, sLetters, zz, l', rfl, ⟨dx1, hR1⟩, hz, hp, hd, fun c hc => (letters_iff c).mpr (wz.all c hc), nohead_let nh, fun H2 off2 ⟨dx2, hR2⟩ => ?_⟩
      refine ⟨zz, rfl, wz, fun H3 sm => ?_⟩
      have hR3 := sm _ _ hR2
      have hd3 : z.cps.toList.drop (p + zz.length) = l' := drop_more hd
      have last : ∀ t, H3 t = none → Q (.ref t) (upd H3 t (.tup [.str (st zz), .int 1])) := fun t ht =>
        kk _ t _ (p + zz.length) (((off1.trans off2).trans (Same.off sm)).trans (off_new ht)) ⟨dx2, by rw [upd_ne (ne_of_none hR3 ht)]; exact hR3⟩ (by omega) hd3 upd_same .word
      refine ⟨_, rfl, qa, _, rfl, .inr (hqs H3), rfl, rfl, _, rfl, ?_⟩
      refine ite2 (fun c => ?_) (fun c => ?_)
      · have hq := (in_quests zz).mp c
        refine ⟨_, rfl, r, dx2, _, rfl, hR3, rfl, r, z, p + zz.length, g, rfl, ⟨dx2, hR3⟩, by omega, hz, .inr ⟨?_, ?_⟩⟩
        · rw [hd3]
          exact fun b => nq ⟨hq, b⟩
        · refine ⟨false, rfl, iteF ?_⟩
          exact ⟨_, rfl, two_size _ _, last⟩
      · exact ⟨_, rfl, two_size _ _, last⟩
    | @ask _ _ q zz _ wq wz nh =>
      obtain ⟨c0, r0, en, hc0⟩ := wq.word.head
      have e2 : [40].isPrefixOf (q ++ 32 :: (zz ++ l')) = false := by
        rw [en]
        have : ¬ (40 = c0) := fun z => let_open hc0 z.symm
        simp [List.isPrefixOf, this]
      rw [e2]
      refine iteF ?_
      refine ⟨_, rfl, r, dx, _, rfl, hR, rfl, r, z, p, g, sDigits, [], q ++ 32 :: (zz ++ l'), rfl, ⟨dx, hR⟩, hz, hp, hd, fun c hc => (nomatch hc), nohead_dig (word_nodig wq.word), fun H1 off1 R1 => ?_⟩
      refine ⟨_, rfl, rfl, _, rfl, ?_⟩
      refine iteNS empty_eq ?_
      obtain ⟨dx1, hR1⟩ := R1
      have hl := drop_len hd hp
      have hl2 : (q ++ 32 :: (zz ++ l')).length = q.length + (1 + (zz.length + l'.length)) := by simp; omega
      refine ⟨_, rfl, r, dx1, _, rfl, hR1, rfl, r, z, p, g, sLetters, q, 32 :: (zz ++ l'), rfl, ⟨dx1, hR1⟩, hz, hp, hd, fun c hc => (letters_iff c).mpr (wq.word.all c hc), nohead_let (nohead32 _), fun H2 off2 ⟨dx2, hR2⟩ => ?_⟩
      refine ⟨q, rfl, wq.word, fun H3 sm => ?_⟩
      have hR3 := sm _ _ hR2
      have hd3 : z.cps.toList.drop (p + q.length) = 32 :: (zz ++ l') := drop_more hd
      refine ⟨_, rfl, qa, _, rfl, .inr (hqs H3), rfl, rfl, _, rfl, ?_⟩
      refine ite2 (fun c => ?_) (fun c => absurd ((in_quests q).mpr wq) c)
      obtain ⟨c1, r1, e1, hc1⟩ := wz.head
      refine ⟨_, rfl, r, dx2, _, rfl, hR3, rfl, r, z, p + q.length, g, rfl, ⟨dx2, hR3⟩, by omega, hz, .inl ⟨?_, ?_⟩⟩
      · rw [hd3, e1]
        exact ⟨c1, r1 ++ l', rfl, hc1⟩
      · refine ⟨true, rfl, iteT ?_⟩
        refine ⟨_, rfl, r, C, dx2, _, .int ((p + q.length : Nat) : Int), rfl, hR3, R.cls, R.nA, rfl, _, _, rfl, rfl, dx2, _, hR3, (show 3 < 1000 by decide), ?_⟩
        have hR4 : upd H3 r (.ins C dx2 (putF "at" (.int (((p + q.length : Nat) : Int) + 1)) [("text", .str z), ("at", .int ((p + q.length : Nat) : Int)), ("around", .int (g : Int))])) r = some (RdO C z (p + q.length + 1) g dx2) := by
          rw [upd_same]
          rfl
        have hd4 : z.cps.toList.drop (p + q.length + 1) = zz ++ l' := by
          rw [← List.drop_drop, hd3]
          rfl
        refine ⟨_, rfl, _, rfl, r, dx2, _, rfl, hR4, rfl, r, z, p + q.length + 1, g, sLetters, zz, l', rfl, ⟨dx2, hR4⟩, hz, by omega, hd4, fun c hc => (letters_iff c).mpr (wz.all c hc), nohead_let nh, fun H5 off5 ⟨dx5, hR5⟩ => ?_⟩
        refine ⟨zz, rfl, wz, fun H6 sm6 => ?_⟩
        have hR6 := sm6 _ _ hR5
        refine ⟨two_size _ _, fun t ht => ⟨two_size _ _, fun u hu => ?_⟩⟩
        have hut : t ≠ u := fun z => by
          rw [← z, upd_same] at hu
          cases hu
        have hR7 : upd H6 t (.tup [.str (st q), .str (st zz)]) r = some (RdO C z (p + q.length + 1 + zz.length) g dx5) := by rw [upd_ne (ne_of_none hR6 ht)]; exact hR6
        refine kk _ u (.ref t) (p + q.length + 1 + zz.length) ((((((off1.trans off2).trans (Same.off sm)).trans off_at).trans off5).trans (Same.off sm6)).trans ((off_new ht).trans (off_new hu))) ⟨dx5, by rw [upd_ne (ne_of_none hR7 hu)]; exact hR7⟩ (by omega) (drop_more hd4) upd_same (.ask ?_)
        rw [upd_ne hut]
        exact upd_same
end
end Lg

namespace Lg
open PySem PySem.Spec PyProof.Rows L2
theorem Rd.len {h ar j l e d l'} (r : Rd h ar j l e d l') : l'.length ≤ l.length := by
  induction r with
  | par a _ ih => simp at ih ⊢; omega
  | num a b => simp
  | word a b c => simp
  | ask a b c => simp; omega
  | ops _ _ i1 i2 => omega
  | stop a => exact Nat.le_refl _
  | step a b _ c _ i1 i2 => simp; omega
theorem scOps : FnScope ["self", "least", "first", "depth", "sign", "operation", "second", "second_depth"] ["self", "least"] (defScope sOps) := ⟨rfl, rfl, rfl, by decide +kernel, rfl, by decide +kernel, by decide +kernel⟩
theorem max_nat (a b : Nat) : (if (b : Int) > (a : Int) then (b : Int) else (a : Int)) + 1 = ((max a b + 1 : Nat) : Int) := by
  rw [Nat.max_def]
  split <;> split <;> omega
theorem key_len (o : Op) : o.key.length = o.sign.length := by simp [Op.key, PySem.Str.length]
theorem sign_len (o : Op) : 1 ≤ o.sign.length ∧ o.sign.length ≤ 4 := by cases o <;> decide
theorem three_size (a b c : V) : [a, b, c].length ≤ sizeLine := by
  rw [sizeLine_eq]
  exact (by decide : 3 ≤ 16777216)
section
variable {P : Program} {w : World} {K : PySem.W.Frag} {mg : Str → Option Value} {base : Heap} {f C : Addr} {fd : FuncData}
theorem ok_ops (F : Fun K "operations" "Reader.operations" sOps f fd) (T : Gx K w mg) (R : Rx K C) {fo fs : Addr} {fdo fds : FuncData} {k h : Nat} (hk : 1 ≤ k)
    (OM : MethX K C "operand" "Reader.operand" sOpd ["self"] fo fdo) (GO : FnOk P w K mg base CX0 k fo fdo ["self"] (spOpd C h))
    (SM : MethX K C "sign_here" "Reader.sign_here" sSign ["self"] fs fds) (GS : FnOk P w K mg base CX0 1 fs fds ["self"] (spSign C))
    (MM : MethX K C "operations" "Reader.operations" sOps ["self", "least"] f fd) (GM : FnOk P w K mg base CX0 k f fd ["self", "least"] (spOps C h)) : FnOk P w K mg base CX0 (k + 1) f fd ["self", "least"] (spOps C (h + 1)) := by
  obtain ⟨dO, hmO, _, hO⟩ := T.ops
  obtain ⟨dS, hmS, hS⟩ := T.strengths
  obtain ⟨td, hdeep⟩ := T.deepest
  refine F.ok scOps (fun vs H Q E h => ?_) (fun cdv A outer s H vs Q E hr h => ?_)
  · obtain ⟨r, least, z, p, g, l, e, d, l', rfl, _⟩ := h
    rfl
  · obtain ⟨r, least, z, p, g, l, e, d, l', rfl, ⟨dx, hR⟩, hz, hp, hd, hrd, kk⟩ := h
    have hr1 : Room 1 _ := hr.mono (by omega)
    refine ⟨_, pss_cons (ps_asg (pe_meth0 (pv 0) R.cls OM.M GO hr OM.b .nil pass0) (pg_tup (by rfl) (pgs_cons (pg_name (i := 2) scOps.nd rfl (Or.inl rfl)) (pgs_cons (pg_name (i := 3) scOps.nd rfl (Or.inl rfl)) pgs_nil))))
      (pss_cons (ps_set (i := 4) scOps.nd rfl (Or.inl rfl) (pe_meth0 (pv 0) R.cls SM.M GS hr1 SM.b .nil pass0))
      (pss_cons (ps_while PassesOwn.never (PW.pt (pw_and (pt_cmpR op_notN (pv 4) pe_non (nomark _)) (pw_and1 (pt_cmpR op_ge (pe_ix ix_kdict (pe_glob (v := .ref dS) rfl hmS rfl) (pe_ix ix_kdict (pe_glob (v := .ref dO) rfl hmO rfl) (pv 4) (fun _ _ => rfl)) (fun _ _ => rfl)) (pv 1) (nomark _)))))
        (pss_cons (ps_set (i := 5) scOps.nd rfl (Or.inl rfl) (pe_ix ix_kdict (pe_glob (v := .ref dO) rfl hmO rfl) (pv 4) (fun _ _ => rfl)))
        (pss_cons (ps_fldaug (pv 0) (pe_callB call_len_str (by rfl) T.len (by decide +kernel) (pa_cons (pv 4) pa_nil)) in_add)
        (pss_cons (ps_asg (pe_meth (pv 0) R.cls MM.M GM hr MM.b .nil pass0 (pa_cons (pe_op op_add (pe_ix ix_kdict (pe_glob (v := .ref dS) rfl hmS rfl) (pv 5) (fun _ _ => rfl)) pe_int) pa_nil)) (pg_tup (by rfl) (pgs_cons (pg_name (i := 6) scOps.nd rfl (Or.inl rfl)) (pgs_cons (pg_name (i := 7) scOps.nd rfl (Or.inl rfl)) pgs_nil))))
        (pss_cons (ps_par (i := 2) (j := 3) rfl scOps.nd rfl rfl (by decide) rfl rfl (pa_cons (pe_tup (pa_cons (pv 5) (pa_cons (pv 2) (pa_cons (pv 6) pa_nil)))) (pa_cons (pe_op op_add (pe_callB (call_max2 rfl) (by rfl) T.max (by decide +kernel) (pa_cons (pv 3) (pa_cons (pv 7) pa_nil))) pe_int) pa_nil)) (by rfl))
        (pss_cons (ps_if (pt_cmpR op_gt (pv 3) (pe_glob (v := .int 6) rfl hdeep ⟨_, rfl⟩) (nomark _)) (pss_one ps_never) pss_nil)
        (pss_one (ps_set (i := 4) scOps.nd rfl (Or.inl rfl) (pe_meth0 (pv 0) R.cls SM.M GS hr1 SM.b .nil pass0)))))))))
      (pss_one (ps_ret (pe_tup (pa_cons (pv 2) (pa_cons (pv 3) pa_nil))))))), ?_⟩
    cases hrd with
    | @ops _ _ _ _ e0 d0 l1 _ _ _ q1 q2 =>
    refine ⟨_, rfl, r, dx, _, rfl, hR, rfl, r, z, p, g, l, e0, d0, l1, rfl, ⟨dx, hR⟩, hz, hp, hd, q1, fun H1 t v p1 off1 ⟨dx1, hR1⟩ hp1 hd1 ht rep => ?_⟩
    refine ⟨t, _, rfl, .inl (.inl ht), rfl, _, _, rfl, _, _, rfl, rfl, ?_⟩
    refine ⟨_, rfl, r, dx1, _, rfl, hR1, rfl, r, z, p1, g, rfl, ⟨dx1, hR1⟩, hp1, ?_⟩
    rw [hd1]
    refine while_at (fun m σ H' => ∃ (v : V) (e1 : Lg.E) (d1 : Nat) (l2 : List Nat) (p2 : Nat) (v5 v6 v7 : Option V), m = l2.length ∧ σ = [some (.ref r), some (.int (least : Int)), some v, some (.int (d1 : Int)), some (signV l2), v5, v6, v7] ∧
      Off r H H' ∧ RdAt C r z p2 g H' ∧ p2 ≤ z.length ∧ z.cps.toList.drop p2 = l2 ∧ Rep H' v e1 ∧ Rd h g (.loop least e1 d1) l2 e d l') ⟨_, v, e0, d0, l1, p1, _, _, _, rfl, rfl, off1, ⟨dx1, hR1⟩, hp1, hd1, rep, q2⟩ ?_
    rintro m σ H2 ⟨v1, e1, d1, l2, p2, v5, v6, v7, rfl, rfl, off2, ⟨dx2, hR2⟩, hp2, hd2, rep2, hloop⟩
    cases hloop with
    | stop hs =>
      have fin : ∀ t2, H2 t2 = none → Q (.ref t2) (upd H2 t2 (.tup [v1, .int (d : Int)])) := fun t2 ht2 =>
        kk _ t2 v1 p2 (off2.trans (off_new ht2)) ⟨dx2, by rw [upd_ne (ne_of_none hR2 ht2)]; exact hR2⟩ hp2 hd2 upd_same (rep2.same (same_upd ht2))
      cases hsig : signAt l' with
      | none =>
        have es : signV l' = .non := by
          unfold signV
          rw [hsig]
        rw [es]
        refine ⟨_, rfl, rfl, _, rfl, iteNS rfl ?_⟩
        exact ⟨_, rfl, _, rfl, two_size _ _, fin⟩
      | some o =>
        have es : signV l' = .str o.key := by
          unfold signV
          rw [hsig]
        rw [es]
        refine ⟨_, rfl, rfl, _, rfl, iteNN (fun z => by cases z) ?_⟩
        refine ⟨_, rfl, dO, o.key, .str o.name, rfl, rfl, hO o, dS, o.name, .int o.str, rfl, rfl, hS o, _, rfl, _, _, rfl, rfl, _, rfl, ?_⟩
        refine iteN (fun z => by have := hs o hsig; omega) ?_
        exact ⟨_, rfl, _, rfl, two_size _ _, fin⟩
    | @step _ _ _ _ _ o l3 e2 d2 l4 _ _ _ hs hle hops hdp hnext =>
      have es : signV (o.sign ++ l3) = .str o.key := by
        unfold signV
        rw [hs]
      rw [es]
      have hsl := sign_len o
      have hl2 := drop_len hd2 hp2
      rw [List.length_append] at hl2
      refine ⟨_, rfl, rfl, _, rfl, iteNN (fun z => by cases z) ?_⟩
      refine ⟨_, rfl, dO, o.key, .str o.name, rfl, rfl, hO o, dS, o.name, .int o.str, rfl, rfl, hS o, _, rfl, _, _, rfl, rfl, _, rfl, ?_⟩
      refine iteY (by omega) ?_
      refine ⟨fun σ' H' => ∃ (v : V) (e1 : Lg.E) (d1 : Nat) (l2 : List Nat) (p2 : Nat) (v5 v6 v7 : Option V), l2.length < (o.sign ++ l3).length ∧ σ' = [some (.ref r), some (.int (least : Int)), some v, some (.int (d1 : Int)), some (signV l2), v5, v6, v7] ∧
        Off r H H' ∧ RdAt C r z p2 g H' ∧ p2 ≤ z.length ∧ z.cps.toList.drop p2 = l2 ∧ Rep H' v e1 ∧ Rd h g (.loop least e1 d1) l2 e d l', fun σ' H' ⟨a1, a2, a3, a4, a5, a6, a7, a8, b1, b2⟩ => ⟨_, b1, a1, a2, a3, a4, a5, a6, a7, a8, rfl, b2⟩, ?_⟩
      refine ⟨_, rfl, dO, o.key, .str o.name, rfl, rfl, hO o, ?_⟩
      have hks : o.key.length ≤ sizeLine := by rw [key_len, sizeLine_eq]; omega
      refine ⟨_, rfl, r, C, dx2, _, .int (p2 : Int), rfl, hR2, R.cls, R.nA, rfl, _, rfl, _, rfl, hks, _, _, rfl, rfl, dx2, _, hR2, (show 3 < 1000 by decide), ?_⟩
      have hR3 : upd H2 r (.ins C dx2 (putF "at" (.int ((p2 : Int) + (o.key.length : Int))) [("text", .str z), ("at", .int (p2 : Int)), ("around", .int (g : Int))])) r = some (RdO C z (p2 + o.sign.length) g dx2) := by
        rw [upd_same, key_len]
        rfl
      have hd3 : z.cps.toList.drop (p2 + o.sign.length) = l3 := drop_more hd2
      refine ⟨_, rfl, r, dx2, _, rfl, hR3, rfl, _, rfl, dS, o.name, .int o.str, rfl, rfl, hS o, _, _, rfl, rfl, r, o.str + 1, z, p2 + o.sign.length, g, l3, e2, d2, l4, rfl, ⟨dx2, hR3⟩, hz, by omega, hd3, hops, fun H4 t4 v4 p4 off4 ⟨dx4, hR4⟩ hp4 hd4 ht4 rep4 => ?_⟩
      refine ⟨t4, _, rfl, .inl (.inl ht4), rfl, _, _, rfl, _, _, rfl, rfl, ?_⟩
      refine ⟨_, rfl, _, rfl, _, rfl, three_size _ _ _, fun t5 ht5 => ?_⟩
      have hR5 : upd H4 t5 (.tup [.str o.name, v1, v4]) r = some (RdO C z p4 g dx4) := by
        rw [upd_ne (ne_of_none hR4 ht5)]
        exact hR4
      have off5 : Off r H2 (upd H4 t5 (.tup [.str o.name, v1, v4])) := (off_at.trans off4).trans (off_new ht5)
      have hlen := Rd.len hops
      refine ⟨_, rfl, _, rfl, _, _, rfl, _, _, rfl, rfl, _, _, rfl, ?_⟩
      have em : (fun i j : Int => V.int (i + j)) (if (d2 : Int) > (d1 : Int) then (d2 : Int) else (d1 : Int)) 1 = V.int ((max d1 d2 + 1 : Nat) : Int) := congrArg V.int (max_nat d1 d2)
      rw [em]
      refine ⟨_, rfl, _, _, rfl, rfl, _, rfl, ?_⟩
      refine iteN (fun z => by omega) ?_
      refine ⟨_, rfl, r, dx4, _, rfl, hR5, rfl, r, z, p4, g, rfl, ⟨dx4, hR5⟩, hp4, ?_⟩
      rw [hd4]
      refine ⟨.ref t5, .op o e1 e2, max d1 d2 + 1, l4, p4, _, _, _, ?_, rfl, off2.trans off5, ⟨dx4, hR5⟩, hp4, hd4, .op upd_same ?_ ?_, hnext⟩
      · rw [List.length_append]
        omega
      · exact rep2.off ⟨dx2, hR2⟩ off5
      · exact rep4.same (same_upd ht5)
end
end Lg

namespace Lg
open PySem PySem.Spec PyProof.Rows L2
theorem scInit : FnScope ["self", "text"] ["self", "text"] (defScope sInit) := ⟨rfl, rfl, rfl, by decide +kernel, rfl, by decide +kernel, by decide +kernel⟩
theorem scExpr : FnScope ["text", "reader", "expression", "_"] ["text"] (defScope sExpr) := ⟨rfl, rfl, rfl, by decide +kernel, rfl, by decide +kernel, by decide +kernel⟩
theorem scParse : FnScope ["text"] ["text"] (defScope sParse) := ⟨rfl, rfl, rfl, by decide +kernel, rfl, by decide +kernel, by decide +kernel⟩
def spInit (C : Addr) : Sp := fun vs H Q _ => ∃ (r dx : Addr) (z : Str), vs = [.ref r, .str z] ∧ H r = some (.ins C dx []) ∧ ∀ H', Off r H H' → H' r = some (RdO C z 0 0 dx) → Q .non H'
def spRead (n : Nat) : Sp := fun vs H Q _ => ∃ (z : Str) (e : E) (d : Nat), vs = [.str z] ∧ z.length ≤ 40000 ∧ Rd n 0 (.ops 1) z.cps.toList e d [] ∧ ∀ H' v, Same H H' → Rep H' v e → Q v H'
theorem rd_zero {g least l e d l'} (r : Rd 0 g (.ops least) l e d l') : False := by
  cases r
/-- the reader's class and its methods -/
structure Rdr (K : PySem.W.Frag) (mg : Str → Option Value) (C : Addr) (f : Nat → Addr) (fd : Nat → FuncData) : Prop where
  R : Rx K C
  cmg : mg "Reader" = some (.ref C)
  makes : Mk K C (f 0)
  iF : Fun K "__init__" "Reader.__init__" sInit (f 0) (fd 0)
  ib : Binds K (fd 0) ["self", "text"] []
  ops : MethX K C "operations" "Reader.operations" sOps ["self", "least"] (f 1) (fd 1)
  sign : MethX K C "sign_here" "Reader.sign_here" sSign ["self"] (f 2) (fd 2)
  opd : MethX K C "operand" "Reader.operand" sOpd ["self"] (f 3) (fd 3)
  par : MethX K C "parentheses" "Reader.parentheses" sPar ["self"] (f 4) (fd 4)
  taken : MethX K C "taken" "Reader.taken" sTaken ["self", "allowed"] (f 5) (fd 5)
  before : MethX K C "is_before_word" "Reader.is_before_word" sBefore ["self"] (f 6) (fd 6)
  made : DefX K mg "is_made_of" sMade ["text", "allowed"] (f 7) (fd 7)
  isw : DefX K mg "is_word" sIsWord ["value"] (f 8) (fd 8)
  num : DefX K mg "read_number" sNumber ["text"] (f 9) (fd 9)
  word : DefX K mg "read_word" sWord ["text"] (f 10) (fd 10)
  expr : DefX K mg "read_expression" sExpr ["text"] (f 11) (fd 11)
  parse : DefX K mg "parse_expression" sParse ["text"] (f 12) (fd 12)
section
variable {P : Program} {w : World} {K : PySem.W.Frag} {mg : Str → Option Value} {base : Heap} {C : Addr} {f : Nat → Addr} {fd : Nat → FuncData}
theorem ok_init (F : Fun K "__init__" "Reader.__init__" sInit (f 0) (fd 0)) (R : Rx K C) : FnOk P w K mg base CX0 1 (f 0) (fd 0) ["self", "text"] (spInit C) := by
  refine F.ok scInit (fun vs H Q E h => ?_) (fun cdv A outer s H vs Q E hr h => ?_)
  · obtain ⟨r, dx, z, rfl, _⟩ := h
    rfl
  · obtain ⟨r, dx, z, rfl, hR, k⟩ := h
    refine ⟨_, pss_cons (ps_fld (pv 0) (pv 1) rfl) (pss_cons (ps_fld (pv 0) pe_int rfl) (pss_one (ps_fld (pv 0) pe_int rfl))), ?_⟩
    refine ⟨_, rfl, _, rfl, r, C, dx, [], rfl, hR, R.cls, R.nT, by decide, ?_⟩
    refine ⟨_, rfl, r, C, dx, _, rfl, upd_same, R.cls, R.nA, (show 1 < 1000 by decide), ?_⟩
    refine ⟨_, rfl, r, C, dx, _, rfl, upd_same, R.cls, R.nR, (show 2 < 1000 by decide), ?_⟩
    exact k _ ((off_at.trans off_at).trans off_at) upd_same
theorem ok_all (T : Gx K w mg) (D : Rdr K mg C f fd) : ∀ h : Nat, FnOk P w K mg base CX0 (2 * h + 4) (f 3) (fd 3) ["self"] (spOpd C h) ∧ FnOk P w K mg base CX0 (2 * h + 4) (f 1) (fd 1) ["self", "least"] (spOps C h) := by
  have GT : FnOk P w K mg base CX0 1 (f 5) (fd 5) ["self", "allowed"] (spTaken C) := ok_taken D.taken.F T D.R
  have GB : FnOk P w K mg base CX0 1 (f 6) (fd 6) ["self"] (spBefore C) := ok_before D.before.F T D.R
  have GS : FnOk P w K mg base CX0 1 (f 2) (fd 2) ["self"] (spSign C) := ok_sign D.sign.F T D.R
  have GN : FnOk P w K mg base CX0 2 (f 9) (fd 9) ["text"] spNumber := ok_number D.num.F T D.made
  have GI : FnOk P w K mg base CX0 2 (f 8) (fd 8) ["value"] spIsWord := ok_isWord D.isw.F T D.made
  have GW : FnOk P w K mg base CX0 3 (f 10) (fd 10) ["text"] spWord := ok_word D.word.F D.isw GI
  intro h
  induction h with
  | zero =>
    have GO : FnOk P w K mg base CX0 3 (f 4) (fd 4) ["self"] (spPar C 0) := fnNever fun vs H Q E z => by
      obtain ⟨h0, _, _, _, _, _, _, _, _, z, _⟩ := z
      omega
    refine ⟨ok_opd D.opd.F T D.R (by omega) D.par GO D.taken GT D.before GB D.num GN D.word GW, fnNever fun vs H Q E z => ?_⟩
    obtain ⟨_, _, _, _, _, _, _, _, _, _, _, _, _, _, z, _⟩ := z
    exact rd_zero z
  | succ h ih =>
    have GP : FnOk P w K mg base CX0 (2 * h + 5) (f 4) (fd 4) ["self"] (spPar C (h + 1)) := ok_par D.par.F T D.R D.ops ih.2
    exact ⟨ok_opd D.opd.F T D.R (by omega) D.par GP D.taken GT D.before GB D.num GN D.word GW, (ok_ops D.ops.F T D.R (by omega) D.opd ih.1 D.sign GS D.ops ih.2).mono (by omega)⟩
theorem ok_read (T : Gx K w mg) (D : Rdr K mg C f fd) (n : Nat) : FnOk P w K mg base CX0 (2 * n + 5) (f 11) (fd 11) ["text"] (spRead n) := by
  have GO : FnOk P w K mg base CX0 (2 * n + 4) (f 1) (fd 1) ["self", "least"] (spOps C n) := (ok_all T D n).2
  have GI : FnOk P w K mg base CX0 1 (f 0) (fd 0) ["self", "text"] (spInit C) := ok_init D.iF D.R
  refine D.expr.F.ok scExpr (fun vs H Q E h => ?_) (fun cdv A outer s H vs Q E hr h => ?_)
  · obtain ⟨z, e, d, rfl, _⟩ := h
    rfl
  · obtain ⟨z, e, d, rfl, hz, hrd, k⟩ := h
    have hr2 : Room 2 _ := hr.mono (by omega)
    have hsz : z.length ≤ sizeLine := by rw [sizeLine_eq]; omega
    refine ⟨_, pss_cons (ps_set (i := 1) scExpr.nd rfl (Or.inl rfl) (pe_make D.makes GI hr2 (by rfl) D.cmg D.ib .nil pass0 (pa_cons (pv 0) pa_nil)))
      (pss_cons (ps_asg (pe_meth (pv 1) D.R.cls D.ops.M GO hr D.ops.b .nil pass0 (pa_cons pe_int pa_nil)) (pg_tup (by rfl) (pgs_cons (pg_name (i := 2) scExpr.nd rfl (Or.inl rfl)) (pgs_cons (pg_name (i := 3) scExpr.nd rfl (Or.inl rfl)) pgs_nil))))
      (pss_cons (ps_if (pt_cmpR op_ne (pe_fld (pv 1) rfl) (pe_callB call_len_str (by rfl) T.len (by decide +kernel) (pa_cons (pv 0) pa_nil)) (nomark _)) (pss_one ps_never) pss_nil)
      (pss_one (ps_ret (pv 2))))), ?_⟩
    refine ⟨_, rfl, fun r dx hr0 hd0 ne => ?_⟩
    refine ⟨r, dx, z, rfl, upd_same, fun H1 off1 hR => ⟨rfl, ?_⟩⟩
    have s1 : Same H H1 := fun b o e => off1 b o (ne_of_none e hr0) (by
      rw [upd_ne (ne_of_none e hr0), upd_ne (ne_of_none e hd0)]
      exact e)
    refine ⟨_, rfl, r, dx, _, rfl, hR, rfl, r, 1, z, 0, 0, _, e, d, _, rfl, ⟨dx, hR⟩, hz, by omega, rfl, hrd, fun H2 t v p2 off2 ⟨dx2, hR2⟩ hp2 hd2 ht rep => ?_⟩
    refine ⟨t, _, rfl, .inl (.inl ht), rfl, _, _, rfl, _, _, rfl, rfl, ?_⟩
    have e2 : p2 = z.length := by
      have := drop_len hd2 hp2
      simpa using this.symm
    refine ⟨_, rfl, r, C, dx2, _, .int (p2 : Int), rfl, hR2, D.R.cls, D.R.nA, rfl, _, rfl, _, rfl, hsz, rfl, _, rfl, ?_⟩
    refine iteNS (by rw [e2]) ?_
    exact ⟨_, rfl, k H2 v (fun b o q => off2 b o (ne_of_none q hr0) (s1 b o q)) rep⟩
theorem ok_parse (T : Gx K w mg) (D : Rdr K mg C f fd) (n : Nat) : FnOk P w K mg base CX0 (2 * n + 6) (f 12) (fd 12) ["text"] (spRead n) := by
  have GR : FnOk P w K mg base CX0 (2 * n + 5) (f 11) (fd 11) ["text"] (spRead n) := ok_read T D n
  refine D.parse.F.ok scParse (fun vs H Q E h => ?_) (fun cdv A outer s H vs Q E hr h => ?_)
  · obtain ⟨z, e, d, rfl, _⟩ := h
    rfl
  · obtain ⟨z, e, d, rfl, hz, hrd, k⟩ := h
    refine ⟨_, pss_cons (ps_if (pt_not (pt_val (pe_callB call_isi (by rfl) T.isi (by decide +kernel) (pa_cons (pv 0) (pa_cons (pe_bltn (v := .ty "str") (by rfl) T.str (by decide +kernel) rfl) pa_nil))))) (pss_one ps_never) pss_nil)
      (pss_one (ps_ret (pe_call GR hr (by rfl) D.expr.mg D.expr.F.kp D.expr.b .nil pass0 (pa_cons (pv 0) pa_nil)))), ?_⟩
    refine ⟨_, rfl, _, _, _, _, true, rfl, .ty "str", .base (.str _), kit_ty (by decide +kernel), ?_⟩
    refine ⟨true, rfl, iteF ?_⟩
    exact ⟨_, rfl, z, e, d, rfl, hz, hrd, k⟩
end
end Lg

namespace Lg
open PySem PySem.Spec PyProof.Rows L2
theorem shw_len {e : E} {s : List Nat} (S : Shw e s) : e.Ok → s.length + 8 ≤ 13 * 2 ^ e.dep := by
  induction S with
  | @word z =>
    intro ok
    have := WordOk.len ok
    show _ ≤ 13 * 2 ^ 1
    omega
  | @num n =>
    intro ok
    have := NumOk.len ok
    show _ ≤ 13 * 2 ^ 1
    omega
  | @ask q z =>
    intro ok
    have h1 := ok.1.word.len
    have h2 := ok.2.len
    show _ ≤ 13 * 2 ^ 1
    simp
    omega
  | @op o a b sa sb xa xb _ _ ha hb ia ib =>
    intro ok
    have h1 := ia ok.1
    have h2 := ib ok.2
    have h3 : xa.length ≤ sa.length + 2 := by
      rcases ha with rfl | ⟨rfl, _⟩
      · simp [paren]
      · omega
    have h4 : xb.length ≤ sb.length + 2 := by
      rcases hb with rfl | ⟨rfl, _⟩
      · simp [paren]
      · omega
    have h5 := sign_len o
    have e1 : 2 ^ a.dep ≤ 2 ^ (max a.dep b.dep) := Nat.pow_le_pow_right (by decide) (Nat.le_max_left _ _)
    have e2 : 2 ^ b.dep ≤ 2 ^ (max a.dep b.dep) := Nat.pow_le_pow_right (by decide) (Nat.le_max_right _ _)
    show _ ≤ 13 * 2 ^ (max a.dep b.dep + 1)
    rw [Nat.pow_succ]
    simp only [List.length_append]
    omega
theorem shw_small {e : E} {s : List Nat} (S : Shw e s) (ok : e.Ok) (d : e.dep ≤ 6) : s.length ≤ 824 := by
  have h := shw_len S ok
  have e1 : 2 ^ e.dep ≤ 2 ^ 6 := Nat.pow_le_pow_right (by decide) d
  have e2 : (2 : Nat) ^ 6 = 64 := by decide
  omega
def Op.mark : Op → Str
  | .plus => "+"
  | .minus => "-"
  | .times => "*"
  | .less => "<"
  | .same => "=="
theorem mark_list (o : Op) : 32 :: (o.mark.cps.toList ++ [32]) = o.sign := by cases o <;> decide +kernel
theorem mark_len (o : Op) : o.mark.cps.toList.length ≤ 2 := by cases o <;> decide +kernel
/-- e's text among operations at least so strong -/
def wr (e : E) (least : Nat) : List Nat := if e.str < least then paren (fmt e) else fmt e
theorem wr_len {e : E} {least : Nat} (ok : e.Ok) (d : e.dep ≤ 6) : (wr e least).length ≤ 826 := by
  have h := shw_small (shw_fmt e) ok d
  unfold wr
  split
  · simp [paren]
    omega
  · omega
theorem sl {s : Str} (h : s.cps.toList.length ≤ 5000) : s.length ≤ sizeLine := by
  rw [len_list] at h
  rw [sizeLine_eq]
  omega
theorem empty_list : Str.empty.cps.toList = [] := rfl
section
variable {X : Cx}
/-- str(x), x a text or an int -/
theorem call_str_ev : CallR X (.type "str") (fun xs H Q => (∃ a, xs = [.str a] ∧ Q (.str a) H) ∨ ∃ i : Int, xs = [.int i] ∧ i.natAbs.log2 < 1920 ∧ Q (.str (Str.ofString (toString i))) H) := by
  intro pins s σ H xs us Q I r h
  rcases h with h | h
  · exact SkE.call_str_str pins s σ H xs us Q I r h
  · exact call_str_int pins s σ H xs us Q I r h
end
theorem scFormat : FnScope ["expression"] ["expression"] (defScope sFormat) := ⟨rfl, rfl, rfl, by decide +kernel, rfl, by decide +kernel, by decide +kernel⟩
theorem scWritten : FnScope ["expression", "least", "operation", "first", "second", "strength", "text"] ["expression", "least"] (defScope sWritten) := ⟨rfl, rfl, rfl, by decide +kernel, rfl, by decide +kernel, by decide +kernel⟩
def spWritten (n : Nat) : Sp := fun vs H Q _ => ∃ (v : V) (e : E) (least : Nat), vs = [v, .int least] ∧ Rep H v e ∧ e.Ok ∧ e.dep ≤ n ∧ n ≤ 6 ∧ least ≤ 4 ∧ Q (.str (st (wr e least))) H
def spFormat : Sp := fun vs H Q _ => ∃ (v : V) (e : E), vs = [v] ∧ Rep H v e ∧ e.Ok ∧ e.dep ≤ 6 ∧ Q (.str (st (fmt e))) H
theorem log_small {n : Nat} (h : n < 1000000007) : ((n : Int)).natAbs.log2 < 1920 := by
  have e : ((n : Int)).natAbs = n := Int.natAbs_natCast n
  rw [e]
  have h1 : n.log2 < 30 := by
    rcases Nat.eq_zero_or_pos n with rfl | hp
    · decide
    · exact (Nat.log2_lt (by omega)).mpr (by omega)
  omega
theorem ntx_str (n : Nat) : Str.ofString (toString (n : Int)) = st (ntx n) := strExt (by simp [ntx])
structure Wx (K : PySem.W.Frag) (w : World) (mg : Str → Option Value) (f1 f2 : Addr) (fd1 fd2 : FuncData) : Prop where
  written : DefX K mg "_written" sWritten ["expression", "least"] f1 fd1
  format : DefX K mg "format_expression" sFormat ["expression"] f2 fd2
  marks : ∃ d, mg "SIGNS" = some (.ref d) ∧ ∀ o : Op, KDct K w d o.name (.str o.mark)
theorem join_two (q z : List Nat) : Txt.join (Str.ofString " ") [st q, st z] = st (q ++ 32 :: z) := by
  apply strExt
  show ((st q).cps ++ (Str.ofString " ").cps ++ (st z).cps).toList = _
  rw [Array.toList_append, Array.toList_append, blank_list]
  simp
theorem st_list (z : List Nat) : (st z).cps.toList = z := by simp
theorem open1 : (Str.ofString "(").cps.toList = [40] := open_list
theorem shut1 : (Str.ofString ")").cps.toList = [41] := shut_list
section
variable {P : Program} {w : World} {K : PySem.W.Frag} {mg : Str → Option Value} {base : Heap} {f1 f2 : Addr} {fd1 fd2 : FuncData}
theorem ok_written (T : Gx K w mg) (D : Wx K w mg f1 f2 fd1 fd2) : ∀ n : Nat, FnOk P w K mg base CX0 (n + 1) f1 fd1 ["expression", "least"] (spWritten n) := by
  obtain ⟨dS, hmS, hS⟩ := T.strengths
  obtain ⟨dG, hmG, hG⟩ := D.marks
  intro n
  induction n with
  | zero =>
    refine fnNever fun vs H Q E h => ?_
    obtain ⟨v, e, least, _, _, _, h, _⟩ := h
    have := e.dep_pos
    omega
  | succ n ih =>
    refine D.written.F.ok scWritten (fun vs H Q E h => ?_) (fun cdv A outer s H vs Q E hr h => ?_)
    · obtain ⟨v, e, least, rfl, _⟩ := h
      rfl
    · obtain ⟨v, e, least, rfl, rep, ok, hd, hn, h4, k⟩ := h
      refine ⟨_, pss_cons (ps_if (pt_not (pt_val (pe_callB call_isi (by rfl) T.isi (by decide +kernel) (pa_cons (pv 0) (pa_cons (pe_bltn (v := .ty "tuple") (by rfl) T.tuple (by decide +kernel) rfl) pa_nil)))))
          (pss_one (ps_ret (pe_callTy call_str_ev (by rfl) T.str (by decide +kernel) (pa_cons (pv 0) pa_nil)))) pss_nil)
        (pss_cons (ps_if (pt_cmpR op_eq (pe_callB call_len_seq (by rfl) T.len (by decide +kernel) (pa_cons (pv 0) pa_nil)) pe_int (nomark _)) (pss_one (ps_ret (pe_join pe_str (pv 0)))) pss_nil)
        (pss_cons (ps_asg (pv 0) (pg_tup (by rfl) (pgs_cons (pg_name (i := 2) scWritten.nd rfl (Or.inl rfl)) (pgs_cons (pg_name (i := 3) scWritten.nd rfl (Or.inl rfl)) (pgs_cons (pg_name (i := 4) scWritten.nd rfl (Or.inl rfl)) pgs_nil)))))
        (pss_cons (ps_set (i := 5) scWritten.nd rfl (Or.inl rfl) (pe_ix ix_kdict (pe_glob (v := .ref dS) rfl hmS rfl) (pv 2) (fun _ _ => rfl)))
        (pss_cons (ps_set (i := 6) scWritten.nd rfl (Or.inl rfl) (pe_joined (PJ.cons (pe_fmt (pe_call ih hr (by rfl) D.written.mg D.written.F.kp D.written.b .nil pass0 (pa_cons (pv 3) (pa_cons (pv 5) pa_nil))))
            (PJ.cons pe_str (PJ.cons (pe_fmt (pe_ix ix_kdict (pe_glob (v := .ref dG) rfl hmG rfl) (pv 2) (fun _ _ => rfl))) (PJ.cons pe_str (PJ.cons (pe_fmt (pe_call ih hr (by rfl) D.written.mg D.written.F.kp D.written.b .nil pass0 (pa_cons (pv 4) (pa_cons (pe_op op_add (pv 5) pe_int) pa_nil)))) PJ.nil)))))))
        (pss_one (ps_ret (pe_ifExp (pt_cmpR op_lt (pv 5) (pv 1) (nomark _)) (pe_joined (PJ.cons pe_str (PJ.cons (pe_fmt (pv 6)) (PJ.cons pe_str PJ.nil)))) (pv 6)))))))), ?_⟩
      cases rep with
      | @word z =>
        refine ⟨_, rfl, _, _, _, _, false, rfl, .ty "tuple", .base (.str _), kit_ty (by decide +kernel), ?_⟩
        refine ⟨false, rfl, iteT ?_⟩
        refine ⟨_, rfl, .inl ⟨_, rfl, ?_⟩⟩
        have e : wr (.word z) least = z := if_neg (by show ¬ 4 < least; omega)
        rw [e] at k
        exact k
      | @num m =>
        refine ⟨_, rfl, _, _, _, _, false, rfl, .ty "tuple", .base (.int _), kit_ty (by decide +kernel), ?_⟩
        refine ⟨false, rfl, iteT ?_⟩
        refine ⟨_, rfl, .inr ⟨_, rfl, log_small ok.lt, ?_⟩⟩
        have e : wr (.num m) least = ntx m := if_neg (by show ¬ 4 < least; omega)
        rw [e] at k
        rw [ntx_str]
        exact k
      | @ask a q z ha =>
        refine ⟨_, rfl, _, _, _, _, true, rfl, .ty "tuple", .base (.tup ha), kit_ty (by decide +kernel), ?_⟩
        refine ⟨true, rfl, iteF ?_⟩
        refine ⟨_, rfl, a, _, rfl, .inr (.inl (.inl ha)), rfl, _, rfl, ?_⟩
        refine iteY rfl ?_
        refine ⟨⟨_, rfl⟩, _, rfl, Str.ofString " ", a, [st q, st z], rfl, rfl, .inr (.inl (.inl ha)), ?_, ?_⟩
        · have h1 := ok.1.word.len
          have h2 := ok.2.len
          have h3 : (Str.ofString " ").length = 1 := by decide +kernel
          simp only [List.map_cons, List.map_nil, List.sum_cons, List.sum_nil, st_len, h3, List.length_cons, List.length_nil]
          omega
        · have e : wr (.ask q z) least = q ++ 32 :: z := if_neg (by show ¬ 4 < least; omega)
          rw [e] at k
          rw [join_two]
          exact k
      | @op t o va vb a b ha ra rb =>
        refine ⟨_, rfl, _, _, _, _, true, rfl, .ty "tuple", .base (.tup ha), kit_ty (by decide +kernel), ?_⟩
        refine ⟨true, rfl, iteF ?_⟩
        refine ⟨_, rfl, t, _, rfl, .inr (.inl (.inl ha)), rfl, _, rfl, ?_⟩
        refine iteN (fun z => by injection z with z; simp at z) ?_
        refine ⟨_, rfl, t, _, rfl, .inl (.inl ha), rfl, _, _, rfl, _, _, rfl, _, _, rfl, rfl, ?_⟩
        refine ⟨_, rfl, dS, o.name, .int o.str, rfl, rfl, hS o, ?_⟩
        have d1 : a.dep ≤ max a.dep b.dep := Nat.le_max_left _ _
        have d2 : b.dep ≤ max a.dep b.dep := Nat.le_max_right _ _
        have dm : (Lg.E.op o a b).dep = max a.dep b.dep + 1 := rfl
        have hs4 := o.str_le
        have hA := wr_len (e := a) (least := o.str) ok.1 (by omega)
        have hB := wr_len (e := b) (least := o.str + 1) ok.2 (by omega)
        have hm := mark_len o
        refine ⟨_, rfl, _, rfl, va, a, o.str, rfl, ra, ok.1, by omega, by omega, by omega, .inl ⟨_, rfl, by (apply sl; (try simp only [app_list, empty_list, blank_list, open1, shut1, List.length_append, List.length_nil, List.length_cons, st_list]); omega), _, rfl, by (apply sl; (try simp only [app_list, empty_list, blank_list, open1, shut1, List.length_append, List.length_nil, List.length_cons, st_list]); omega), _, rfl, by (apply sl; (try simp only [app_list, empty_list, blank_list, open1, shut1, List.length_append, List.length_nil, List.length_cons, st_list]); omega), _, rfl, dG, o.name, .str o.mark, rfl, rfl, hG o, .inl ⟨_, rfl, by (apply sl; (try simp only [app_list, empty_list, blank_list, open1, shut1, List.length_append, List.length_nil, List.length_cons, st_list]); omega), _, rfl, by (apply sl; (try simp only [app_list, empty_list, blank_list, open1, shut1, List.length_append, List.length_nil, List.length_cons, st_list]); omega), _, rfl, by (apply sl; (try simp only [app_list, empty_list, blank_list, open1, shut1, List.length_append, List.length_nil, List.length_cons, st_list]); omega),
          _, rfl, _, rfl, _, _, rfl, rfl, vb, b, o.str + 1, rfl, rb, ok.2, by omega, by omega, by omega, .inl ⟨_, rfl, by (apply sl; (try simp only [app_list, empty_list, blank_list, open1, shut1, List.length_append, List.length_nil, List.length_cons, st_list]); omega), _, rfl, by (apply sl; (try simp only [app_list, empty_list, blank_list, open1, shut1, List.length_append, List.length_nil, List.length_cons, st_list]); omega), ?_⟩⟩⟩⟩
        have hacc : Str.empty ++ st (wr a o.str) ++ Str.ofString " " ++ o.mark ++ Str.ofString " " ++ st (wr b (o.str + 1)) = st (fmt (.op o a b)) := by
          apply strExt
          show _ = (st (wr a o.str ++ o.sign ++ wr b (o.str + 1))).cps.toList
          rw [st_list, ← mark_list]
          simp only [app_list, empty_list, blank_list, st_list]
          simp
        rw [hacc]
        have hF : (fmt (.op o a b)).length ≤ 824 := shw_small (shw_fmt _) ok (by omega)
        refine ⟨_, rfl, _, rfl, _, _, rfl, rfl, _, rfl, ?_⟩
        refine ite2 (fun c => ?_) (fun c => ?_)
        · refine ⟨_, rfl, by (apply sl; (try simp only [app_list, empty_list, blank_list, open1, shut1, List.length_append, List.length_nil, List.length_cons, st_list]); omega), _, rfl, .inl ⟨_, rfl, by (apply sl; (try simp only [app_list, empty_list, blank_list, open1, shut1, List.length_append, List.length_nil, List.length_cons, st_list]); omega), _, rfl, by (apply sl; (try simp only [app_list, empty_list, blank_list, open1, shut1, List.length_append, List.length_nil, List.length_cons, st_list]); omega), _, rfl, by (apply sl; (try simp only [app_list, empty_list, blank_list, open1, shut1, List.length_append, List.length_nil, List.length_cons, st_list]); omega), ?_⟩⟩
          have e : wr (.op o a b) least = paren (fmt (.op o a b)) := if_pos (by have := of_decide_eq_true c; show o.str < least; omega)
          rw [e] at k
          have h2 : Str.empty ++ Str.ofString "(" ++ st (fmt (.op o a b)) ++ Str.ofString ")" = st (paren (fmt (.op o a b))) := by
            apply strExt
            simp only [app_list, empty_list, open1, shut1, st_list]
            simp [paren]
          rw [h2]
          exact k
        · have e : wr (.op o a b) least = fmt (.op o a b) := if_neg (by simp only [decide_eq_true_eq] at c; show ¬ o.str < least; omega)
          rw [e] at k
          exact ⟨_, rfl, k⟩
theorem ok_format (T : Gx K w mg) (D : Wx K w mg f1 f2 fd1 fd2) : FnOk P w K mg base CX0 8 f2 fd2 ["expression"] spFormat := by
  have GW : FnOk P w K mg base CX0 7 f1 fd1 ["expression", "least"] (spWritten 6) := ok_written T D 6
  refine D.format.F.ok scFormat (fun vs H Q E h => ?_) (fun cdv A outer s H vs Q E hr h => ?_)
  · obtain ⟨v, e, rfl, _⟩ := h
    rfl
  · obtain ⟨v, e, rfl, rep, ok, hd, k⟩ := h
    refine ⟨_, pss_one (ps_ret (pe_call GW hr (by rfl) D.written.mg D.written.F.kp D.written.b .nil pass0 (pa_cons (pv 0) (pa_cons pe_int pa_nil)))), ?_⟩
    have e1 : wr e 1 = fmt e := if_neg (by have := e.str_pos; omega)
    refine ⟨_, rfl, v, e, 1, rfl, rep, ok, hd, by omega, by omega, ?_⟩
    rw [e1]
    exact k
end
end Lg

namespace Lg
open PySem PySem.Spec PyProof.Rows L2
/-- the tape: its cells, its place, what is left of a great cell, its seed -/
def tp (b : Addr) (i r s : Int) : List V := [.ref b, .int i, .int r, .int s]
def TapeOk (H : Hp) (t : Addr) : Prop := ∃ (b : Addr) (ns : List Int) (i r s : Int), H t = some (.lst (tp b i r s)) ∧ H b = some (.lst (ns.map V.int)) ∧ ns.length ≤ 1000 ∧ 0 ≤ i ∧ 0 ≤ r ∧ 0 ≤ s ∧ s < 2147483647
def spTape (K : PySem.W.Frag) : Sp := fun vs H Q _ => ∃ (a : Addr) (ns : List Int), vs = [.ref a] ∧ SqL K H a (ns.map V.int) ∧ ns.length ≤ 63 ∧
  ∀ H' t, Same H H' → TapeOk H' t → H t = none → Q (.ref t) H'
def spDraw : Sp := fun vs H Q _ => ∃ (t : Addr) (m : Int), vs = [.ref t, .int m] ∧ 1 ≤ m ∧ m < 1073741824 ∧ TapeOk H t ∧
  ∀ H' d, TapeOk H' t → (∀ b, b ≠ t → H' b = H b) → 0 ≤ d → d < m → Q (.int d) H'
theorem scT : FnScope ["_law_script"] ["_law_script"] (defScope sTape) := ⟨rfl, rfl, rfl, by decide +kernel, rfl, by decide +kernel, by decide +kernel⟩
theorem scD : FnScope ["_law_tape_here", "_law_many", "_law_digit", "_law_cell", "_law_near"] ["_law_tape_here", "_law_many"] (defScope sDraw) := ⟨rfl, rfl, rfl, by decide +kernel, rfl, by decide +kernel, by decide +kernel⟩
structure TxtD (mg : Str → Option Value) : Prop where
  list : mg "list" = none
  len : mg "len" = none
  int : mg "int" = none
theorem four_size (a b c d : V) : [a, b, c, d].length ≤ sizeLine := by
  rw [sizeLine_eq]
  exact (by decide : 4 ≤ 16777216)
theorem tp_ne {b : Addr} {i r s : Int} {ns : List Int} (h : tp b i r s = ns.map V.int) : False := by
  cases ns with
  | nil => cases h
  | cons n ns =>
    injection h with h1 _
    cases h1
theorem mod_bounds {x m : Int} (h : 1 ≤ m) : 0 ≤ x.fmod m ∧ x.fmod m < m := by
  rw [Int.fmod_eq_emod_of_nonneg _ (by omega)]
  exact ⟨Int.emod_nonneg _ (by omega), Int.emod_lt_of_pos _ (by omega)⟩
theorem seed_small (x : Int) : (x.fmod 2147483647).natAbs < 2 ^ 64 := by
  have z := mod_bounds (x := x) (m := 2147483647) (by decide)
  have e : (2 : Nat) ^ 64 = 18446744073709551616 := by decide
  rw [e]
  omega
theorem big_ne : (2147483647 : Int) ≠ 0 := by decide
theorem div_nonneg {x m : Int} (hx : 0 ≤ x) (h : 1 ≤ m) : 0 ≤ x.fdiv m := by
  rw [Int.fdiv_eq_ediv_of_nonneg _ (by omega)]
  exact Int.ediv_nonneg hx (by omega)
theorem cut_ints (ns : List Int) (lo hi : Option Int) : ∃ ms : List Int, cutV (ns.map V.int) lo hi = ms.map V.int ∧ ms.length ≤ ns.length := by
  unfold cutV
  refine ⟨(ns.drop _).take _, by rw [List.map_take, List.map_drop], ?_⟩
  rw [List.length_take, List.length_drop]
  omega
section
variable {P : Program} {w : World} {K : PySem.W.Frag} {mg : Str → Option Value} {base : Heap} {f : Addr} {fd : FuncData}
theorem ok_tape (F : Fun K "_law_tape" "_law_tape" sTape f fd) (T : TxtD mg) : FnOk P w K mg base CX0 1 f fd ["_law_script"] (spTape K) := by
  refine F.ok scT (fun vs H Q E h => ?_) (fun cdv A outer s H vs Q E hr h => ?_)
  · obtain ⟨a, ns, rfl, _⟩ := h
    rfl
  · obtain ⟨a, ns, rfl, hS, hl, k⟩ := h
    refine ⟨_, pss_one (ps_ret (pe_lst (pa_cons (pe_callTy call_list_of (by rfl) T.list (by decide +kernel) (pa_cons (pe_slice sl_list (pv 0) po_none (po_some pe_int)) pa_nil))
      (pa_cons pe_int (pa_cons pe_int (pa_cons pe_int pa_nil)))))), ?_⟩
    refine ⟨_, rfl, 63, rfl, a, _, rfl, hS, fun p hp => ?_⟩
    obtain ⟨ms, e1, e2⟩ := cut_ints ns none (some 63)
    refine ⟨p, _, rfl, .inl (SqL.of upd_same), fun l hl' => ?_⟩
    refine ⟨four_size _ _ _ _, fun t ht => ?_⟩
    have nlt : l ≠ t := fun z => by
      rw [← z, upd_same] at ht
      cases ht
    have hl0 : H l = none := by
      by_cases z : l = p
      · rw [z]; exact hp
      · rw [upd_ne z] at hl'; exact hl'
    have ht0 : upd H p (.lst (cutV (List.map V.int ns) none (some 63))) t = none := by
      rw [upd_ne nlt.symm] at ht
      exact ht
    have ht1 : H t = none := by
      by_cases z : t = p
      · rw [z]; exact hp
      · rw [upd_ne z] at ht0; exact ht0
    refine k _ t (fun b o e => ?_) ⟨l, ms, 0, 0, 17, upd_same, ?_, by omega, by decide, by decide, by decide, by decide⟩ ht1
    · rw [upd_ne (ne_of_none e ht1), upd_ne (ne_of_none e hl0), upd_ne (ne_of_none e hp)]
      exact e
    · rw [upd_ne nlt, upd_same, e1]
theorem ok_draw (F : Fun K "_law_draw" "_law_draw" sDraw f fd) (T : TxtD mg) : FnOk P w K mg base CX0 1 f fd ["_law_tape_here", "_law_many"] spDraw := by
  refine F.ok scD (fun vs H Q E h => ?_) (fun cdv A outer s H vs Q E hr h => ?_)
  · obtain ⟨t, m, rfl, _⟩ := h
    rfl
  · obtain ⟨t, m, rfl, m1, m2, ⟨b, ns, i, r, sd, ht, hb, hn, hi, hr0, hs0, hs1⟩, k⟩ := h
    have nbt : b ≠ t := fun z => by
      subst z
      rw [ht] at hb
      exact tp_ne (HO.lst.inj (Option.some.inj hb))
    refine ⟨_, pss_cons (ps_if (pt_cmpR op_gt (pe_ix ix_list (pv 0) pe_int (fun _ _ => rfl)) pe_int (nomark _))
        (pss_cons (ps_set (i := 2) scD.nd rfl (Or.inl rfl) (pe_op op_modN (pe_callTy call_int1 (by rfl) T.int (by decide +kernel) (pa_cons (pe_ix ix_list (pv 0) pe_int (fun _ _ => rfl)) pa_nil)) (pv 1)))
        (pss_cons (ps_asg (pe_op op_fdivN (pe_ix ix_list (pv 0) pe_int (fun _ _ => rfl)) (pv 1)) (pg_sub (pv 0) pe_int set_list))
        (pss_one (ps_ret (pv 2))))) pss_nil)
      (pss_cons (ps_set (i := 3) scD.nd rfl (Or.inl rfl) pe_int)
      (pss_cons (ps_if (pt_cmpR op_lt (pe_ix ix_list (pv 0) pe_int (fun _ _ => rfl)) (pe_callB call_len_seq (by rfl) T.len PySem.boot_len (pa_cons (pe_ix ix_list (pv 0) pe_int (fun _ _ => rfl)) pa_nil)) (nomark _))
        (pss_one (ps_set (i := 3) scD.nd rfl (Or.inl rfl) (pe_ix ix_list (pe_ix ix_list (pv 0) pe_int (fun _ _ => rfl)) (pe_ix ix_list (pv 0) pe_int (fun _ _ => rfl)) (fun _ _ => rfl)))) pss_nil)
      (pss_cons (ps_asg (pe_op op_add (pe_ix ix_list (pv 0) pe_int (fun _ _ => rfl)) pe_int) (pg_sub (pv 0) pe_int set_list))
      (pss_cons (ps_if (pt_cmpR op_ge (pv 3) (pe_op op_pow pe_int pe_int) (nomark _))
        (pss_cons (ps_asg (pe_op op_fdivN (pv 3) (pv 1)) (pg_sub (pv 0) pe_int set_list))
        (pss_one (ps_ret (pe_op op_modN (pe_callTy call_int1 (by rfl) T.int (by decide +kernel) (pa_cons (pv 3) pa_nil)) (pv 1))))) pss_nil)
      (pss_cons (ps_set (i := 4) scD.nd rfl (Or.inl rfl) (pe_op op_add (pe_op op_add (pe_op op_modN (pe_callTy call_int1 (by rfl) T.int (by decide +kernel) (pa_cons (pv 3) pa_nil)) pe_int)
          (pe_op op_mul pe_int (pe_ix ix_list (pv 0) pe_int (fun _ _ => rfl)))) pe_int))
      (pss_cons (ps_asg (pe_op op_modN (pe_callTy call_int1 (by rfl) T.int (by decide +kernel) (pa_cons (pe_op op_add (pe_op op_mul (pe_ix ix_list (pv 0) pe_int (fun _ _ => rfl)) pe_int) (pv 4)) pa_nil)) pe_int) (pg_sub (pv 0) pe_int set_list))
      (pss_one (ps_ret (pe_op op_modN (pe_op op_modN (pe_callTy call_int1 (by rfl) T.int (by decide +kernel) (pa_cons (pe_op op_pow (pe_ix ix_list (pv 0) pe_int (fun _ _ => rfl)) pe_int) pa_nil)) pe_int) (pv 1)))))))))), ?_⟩
    refine ⟨_, rfl, t, _, _, .int r, rfl, rfl, SqL.of ht, rfl, _, _, rfl, rfl, _, rfl, ?_⟩
    have oth : ∀ {H0 : Hp} {o : HO}, (∀ b, b ≠ t → H0 b = H b) → ∀ b, b ≠ t → upd H0 t o b = H b := fun e b nb => by
      rw [upd_ne nb]
      exact e b nb
    have hm := mod_bounds (x := r) m1
    refine ite2 (fun c => ?_) (fun c => ?_)
    · refine ⟨_, rfl, t, _, _, .int r, rfl, rfl, SqL.of ht, rfl, .inl ⟨_, rfl, ?_⟩⟩
      refine ⟨_, rfl, _, _, rfl, rfl, (by omega), ?_⟩
      refine ⟨_, rfl, t, _, _, .int r, rfl, rfl, SqL.of ht, rfl, _, rfl, _, _, rfl, rfl, ⟨by omega, by omega⟩, ?_⟩
      refine ⟨_, rfl, t, _, _, 2, rfl, rfl, ht, rfl, ?_⟩
      refine ⟨_, rfl, k _ _ ⟨b, ns, i, r.fdiv m, sd, upd_same, by rw [upd_ne nbt]; exact hb, hn, hi, div_nonneg hr0 m1, hs0, hs1⟩ (oth fun _ _ => rfl) hm.1 hm.2⟩
    · refine ⟨_, rfl, t, _, _, .int i, rfl, rfl, SqL.of ht, rfl, _, rfl, t, _, _, .ref b, rfl, rfl, SqL.of ht, rfl, b, _, rfl, .inl (SqL.of hb), _, _, rfl, rfl, _, rfl, ?_⟩
      rw [List.length_map]
      refine ite2 (fun c2 => ?_) (fun c2 => ?_)
      · have c3 : i < ns.length := by simpa using c2
        obtain ⟨j, rfl⟩ : ∃ j : Nat, i = j := ⟨i.toNat, by omega⟩
        have hj : j < ns.length := by omega
        refine ⟨_, rfl, t, _, _, .ref b, rfl, rfl, SqL.of ht, rfl, _, rfl, t, _, _, .int j, rfl, rfl, SqL.of ht, rfl, b, _, _, .int ns[j], rfl, rfl, SqL.of hb, atI_nat ?_, ?_⟩
        · rw [List.getElem?_map, List.getElem?_eq_getElem hj]
          rfl
        refine ⟨_, rfl, t, _, _, .int _, rfl, rfl, SqL.of ht, rfl, _, _, rfl, rfl, _, rfl, t, _, _, 1, rfl, rfl, ht, rfl, ?_⟩
        refine ⟨_, rfl, _, _, rfl, rfl, ⟨by decide, by decide, by decide⟩, _, _, rfl, rfl, _, rfl, ?_⟩
        refine ite2 (fun c5 => ?_) (fun c5 => ?_)
        · have cpos : 0 ≤ ns[j] := by
            have z := of_decide_eq_true c5
            exact Int.le_trans (by decide) z
          have hmc := mod_bounds (x := ns[j]) m1
          refine ⟨_, rfl, _, rfl, _, _, rfl, rfl, ⟨by omega, by omega⟩, _, rfl, t, _, _, 2, rfl, rfl, upd_same, rfl, ?_⟩
          refine ⟨_, rfl, .inl ⟨_, rfl, _, rfl, _, _, rfl, rfl, by omega, ?_⟩⟩
          exact k _ _ ⟨b, ns, _, _, sd, upd_same, by rw [upd_ne nbt, upd_ne nbt]; exact hb, hn, by omega, div_nonneg cpos m1, hs0, hs1⟩ (oth (oth fun _ _ => rfl)) hmc.1 hmc.2
        · refine ⟨_, rfl, .inl ⟨_, rfl, _, _, rfl, rfl, big_ne, _, rfl, t, _, _, .int _, rfl, rfl, SqL.of upd_same, rfl, _, _, rfl, rfl, .inl ⟨by decide, by decide⟩, _, _, rfl, rfl, _, _, rfl, rfl, ?_⟩⟩
          refine ⟨_, rfl, t, _, _, .int sd, rfl, rfl, SqL.of upd_same, rfl, _, _, rfl, rfl, .inl ⟨by omega, by omega⟩, _, rfl, _, _, rfl, rfl, .inl ⟨_, rfl, _, _, rfl, rfl, big_ne, _, rfl, t, _, _, 3, rfl, rfl, upd_same, rfl, ?_⟩⟩
          refine ⟨_, rfl, t, _, _, .int _, rfl, rfl, SqL.of upd_same, rfl, _, _, rfl, rfl, ⟨by decide, by decide, ?_⟩, .inl ⟨_, rfl, _, _, rfl, rfl, big_ne, _, rfl, _, _, rfl, rfl, by omega, ?_⟩⟩
          · exact seed_small _
          · exact k _ _ ⟨b, ns, _, _, _, upd_same, by rw [upd_ne nbt, upd_ne nbt]; exact hb, hn, by omega, hr0, (mod_bounds (by decide)).1, (mod_bounds (by decide)).2⟩ (oth (oth fun _ _ => rfl)) (mod_bounds m1).1 (mod_bounds m1).2
      · refine ⟨_, rfl, t, _, _, .int _, rfl, rfl, SqL.of ht, rfl, _, _, rfl, rfl, _, rfl, t, _, _, 1, rfl, rfl, ht, rfl, ?_⟩
        refine ⟨_, rfl, _, _, rfl, rfl, ⟨by decide, by decide, by decide⟩, _, _, rfl, rfl, _, rfl, ?_⟩
        refine ite2 (fun c5 => ?_) (fun c5 => ?_)
        · have cpos : 0 ≤ (0 : Int) := by
            have z := of_decide_eq_true c5
            exact Int.le_trans (by decide) z
          have hmc := mod_bounds (x := (0 : Int)) m1
          refine ⟨_, rfl, _, rfl, _, _, rfl, rfl, ⟨by omega, by omega⟩, _, rfl, t, _, _, 2, rfl, rfl, upd_same, rfl, ?_⟩
          refine ⟨_, rfl, .inl ⟨_, rfl, _, rfl, _, _, rfl, rfl, by omega, ?_⟩⟩
          exact k _ _ ⟨b, ns, _, _, sd, upd_same, by rw [upd_ne nbt, upd_ne nbt]; exact hb, hn, by omega, div_nonneg cpos m1, hs0, hs1⟩ (oth (oth fun _ _ => rfl)) hmc.1 hmc.2
        · refine ⟨_, rfl, .inl ⟨_, rfl, _, _, rfl, rfl, big_ne, _, rfl, t, _, _, .int _, rfl, rfl, SqL.of upd_same, rfl, _, _, rfl, rfl, .inl ⟨by decide, by decide⟩, _, _, rfl, rfl, _, _, rfl, rfl, ?_⟩⟩
          refine ⟨_, rfl, t, _, _, .int sd, rfl, rfl, SqL.of upd_same, rfl, _, _, rfl, rfl, .inl ⟨by omega, by omega⟩, _, rfl, _, _, rfl, rfl, .inl ⟨_, rfl, _, _, rfl, rfl, big_ne, _, rfl, t, _, _, 3, rfl, rfl, upd_same, rfl, ?_⟩⟩
          refine ⟨_, rfl, t, _, _, .int _, rfl, rfl, SqL.of upd_same, rfl, _, _, rfl, rfl, ⟨by decide, by decide, ?_⟩, .inl ⟨_, rfl, _, _, rfl, rfl, big_ne, _, rfl, _, _, rfl, rfl, by omega, ?_⟩⟩
          · exact seed_small _
          · exact k _ _ ⟨b, ns, _, _, _, upd_same, by rw [upd_ne nbt, upd_ne nbt]; exact hb, hn, by omega, hr0, (mod_bounds (by decide)).1, (mod_bounds (by decide)).2⟩ (oth (oth fun _ _ => rfl)) (mod_bounds m1).1 (mod_bounds m1).2
end
end Lg

namespace Lg
open PySem PySem.Spec PyProof.Rows L2
theorem scOne : FnScope ["_law_tape_here", "_law_some"] ["_law_tape_here", "_law_some"] (defScope sOne) := ⟨rfl, rfl, rfl, by decide +kernel, rfl, by decide +kernel, by decide +kernel⟩
theorem scTree : FnScope ["_law_tape_here", "_law_deep", "_law_way", "_law_word", "_law_kind"] ["_law_tape_here", "_law_deep"] (defScope sTree) := ⟨rfl, rfl, rfl, by decide +kernel, rfl, by decide +kernel, by decide +kernel⟩
def spOne : Sp := fun vs H Q _ => ∃ (t l : Addr) (xs : List V), vs = [.ref t, .ref l] ∧ TapeOk H t ∧ H l = some (.lst xs) ∧ l ≠ t ∧ 1 ≤ xs.length ∧ xs.length ≤ 1000 ∧
  ∀ H' x, x ∈ xs → TapeOk H' t → (∀ b, b ≠ t → H' b = H b) → Q x H'
def spTree (n : Nat) : Sp := fun vs H Q _ => ∃ (t : Addr) (deep : Nat), vs = [.ref t, .int deep] ∧ TapeOk H t ∧ 1 ≤ deep ∧ deep ≤ n ∧ n ≤ 6 ∧
  ∀ H' v e, Off t H H' → TapeOk H' t → Rep H' v e → e.Ok → e.dep ≤ deep → Q v H'
structure Lx (K : PySem.W.Frag) (mg : Str → Option Value) (f : Nat → Addr) (fd : Nat → FuncData) : Prop where
  tape : DefX K mg "_law_tape" sTape ["_law_script"] (f 20) (fd 20)
  draw : DefX K mg "_law_draw" sDraw ["_law_tape_here", "_law_many"] (f 21) (fd 21)
  one : DefX K mg "_law_one" sOne ["_law_tape_here", "_law_some"] (f 22) (fd 22)
  tree : DefX K mg "_law_tree" sTree ["_law_tape_here", "_law_deep"] (f 23) (fd 23)
  strength : DefX K mg "_law_strength" sStrength ["_law_one_here"] (f 24) (fd 24)
  shown : DefX K mg "_law_shown_as" sShown ["_law_one_here", "_law_more"] (f 25) (fd 25)
theorem st_wd (s : String) : Str.ofString s = st (wd s) := strExt (by simp [wd])
theorem six_words : ∀ s ∈ ["n", "x", "known", "reason", "abcdefgh", "plus"], WordOk (wd s) := fun s hs => ⟨by revert s; decide +kernel, by revert s; decide +kernel, by revert s; decide +kernel⟩
theorem num_small : ∀ n, n < 12 → NumOk n := fun n hn => ⟨by omega, by revert n; decide +kernel, by revert n; decide +kernel, by revert n; decide +kernel, by revert n; decide +kernel, by revert n; decide +kernel⟩
theorem num_big : NumOk 1000000006 := ⟨by decide, by decide +kernel, by decide +kernel, by decide +kernel, by decide +kernel, by decide +kernel⟩
theorem TxtD.of {K : PySem.W.Frag} {w : World} {mg : Str → Option Value} (T : Gx K w mg) : TxtD mg := ⟨T.list, T.len, T.int⟩
theorem small_list {xs : List V} (h : Nat.ble xs.length 1000 = true) : xs.length ≤ sizeLine := by
  rw [sizeLine_eq]
  exact Nat.le_trans (Nat.le_of_ble_eq_true h) (by decide)
theorem six_of {x : V} (h : x ∈ [V.str (Str.ofString "n"), V.str (Str.ofString "x"), V.str (Str.ofString "known"), V.str (Str.ofString "reason"), V.str (Str.ofString "abcdefgh"), V.str (Str.ofString "plus")]) : ∃ z, x = .str (st z) ∧ WordOk z := by
  simp only [List.mem_cons, List.not_mem_nil, or_false] at h
  rcases h with rfl | rfl | rfl | rfl | rfl | rfl
  · exact ⟨wd "n", congrArg V.str (st_wd _), six_words _ (by simp)⟩
  · exact ⟨wd "x", congrArg V.str (st_wd _), six_words _ (by simp)⟩
  · exact ⟨wd "known", congrArg V.str (st_wd _), six_words _ (by simp)⟩
  · exact ⟨wd "reason", congrArg V.str (st_wd _), six_words _ (by simp)⟩
  · exact ⟨wd "abcdefgh", congrArg V.str (st_wd _), six_words _ (by simp)⟩
  · exact ⟨wd "plus", congrArg V.str (st_wd _), six_words _ (by simp)⟩
theorem two_of {x : V} (h : x ∈ [V.str (Str.ofString "known"), V.str (Str.ofString "reason")]) : ∃ z, x = .str (st z) ∧ Ques z := by
  simp only [List.mem_cons, List.not_mem_nil, or_false] at h
  rcases h with rfl | rfl
  · exact ⟨wd "known", congrArg V.str (st_wd _), .inl rfl⟩
  · exact ⟨wd "reason", congrArg V.str (st_wd _), .inr rfl⟩
theorem five_of {x : V} (h : x ∈ [V.str (Str.ofString "plus"), V.str (Str.ofString "minus"), V.str (Str.ofString "times"), V.str (Str.ofString "less"), V.str (Str.ofString "same")]) : ∃ o : Op, x = .str o.name := by
  simp only [List.mem_cons, List.not_mem_nil, or_false] at h
  rcases h with rfl | rfl | rfl | rfl | rfl
  · exact ⟨.plus, rfl⟩
  · exact ⟨.minus, rfl⟩
  · exact ⟨.times, rfl⟩
  · exact ⟨.less, rfl⟩
  · exact ⟨.same, rfl⟩
theorem ne_tape {H : Hp} {t l : Addr} (h : TapeOk H t) (e : H l = none) : l ≠ t := fun z => by
  obtain ⟨b, ns, i, r, s, hx, _⟩ := h
  rw [z, hx] at e
  cases e
theorem off_tup {t : Addr} {H H' : Hp} (h : Off t H H') {a : Addr} {xs : List V} (n : a ≠ t) (e : H a = some (.tup xs)) : H' a = some (.tup xs) := h _ _ n e
theorem Rep.offT {H H' : Hp} {t : Addr} {v : V} {e : E} (h : Rep H v e) (T : TapeOk H t) (k : Off t H H') : Rep H' v e := h.by fun b xs q => k b _ (fun z => by
  obtain ⟨b', ns, i, r, s, hx, _⟩ := T
  rw [z, hx] at q
  cases q) q
section
variable {P : Program} {w : World} {K : PySem.W.Frag} {mg : Str → Option Value} {base : Heap} {f : Nat → Addr} {fd : Nat → FuncData}
theorem ok_one (T : Gx K w mg) (D : Lx K mg f fd) : FnOk P w K mg base CX0 2 (f 22) (fd 22) ["_law_tape_here", "_law_some"] spOne := by
  have GD : FnOk P w K mg base CX0 1 _ _ ["_law_tape_here", "_law_many"] spDraw := ok_draw D.draw.F (TxtD.of T)
  refine D.one.F.ok scOne (fun vs H Q E h => ?_) (fun cdv A outer s H vs Q E hr h => ?_)
  · obtain ⟨t, l, xs, rfl, _⟩ := h
    rfl
  · obtain ⟨t, l, xs, rfl, tk, hl, ne, h1, h2, k⟩ := h
    refine ⟨_, pss_one (ps_ret (pe_ix ix_list (pv 1) (pe_call GD hr (by rfl) D.draw.mg D.draw.F.kp D.draw.b .nil pass0 (pa_cons (pv 0) (pa_cons (pe_callB call_len_seq (by rfl) T.len (by decide +kernel) (pa_cons (pv 1) pa_nil)) pa_nil))) (fun _ _ => rfl))), ?_⟩
    refine ⟨_, rfl, _, rfl, _, rfl, l, _, rfl, .inl (SqL.of hl), t, (xs.length : Int), rfl, by omega, by omega, tk, fun H' d tk' oth d0 d1 => ?_⟩
    obtain ⟨j, rfl⟩ : ∃ j : Nat, d = (j : Int) := ⟨d.toNat, by omega⟩
    have hj : j < xs.length := by omega
    have hl' : H' l = some (.lst xs) := by rw [oth l ne]; exact hl
    exact ⟨l, _, _, xs[j], rfl, rfl, SqL.of hl', atI_nat (List.getElem?_eq_getElem hj), k H' _ (List.getElem_mem hj) tk' oth⟩
theorem off_of {t : Addr} {H H' : Hp} (h : ∀ b, b ≠ t → H' b = H b) : Off t H H' := fun b o n e => by
  rw [h b n]
  exact e
theorem TapeOk.ex {H : Hp} {t : Addr} (h : TapeOk H t) : ∃ xs, H t = some (.lst xs) := by
  obtain ⟨b, ns, i, r, s, h, _⟩ := h
  exact ⟨_, h⟩
theorem TapeOk.same {H H' : Hp} {t : Addr} (h : TapeOk H t) (s : Same H H') : TapeOk H' t := by
  obtain ⟨b, ns, i, r, sd, h1, h2, h3⟩ := h
  exact ⟨b, ns, i, r, sd, s _ _ h1, s _ _ h2, h3⟩
theorem ok_tree (T : Gx K w mg) (D : Lx K mg f fd) : ∀ n : Nat, FnOk P w K mg base CX0 (n + 3) (f 23) (fd 23) ["_law_tape_here", "_law_deep"] (spTree n) := by
  have GD : FnOk P w K mg base CX0 1 _ _ ["_law_tape_here", "_law_many"] spDraw := ok_draw D.draw.F (TxtD.of T)
  have GO : FnOk P w K mg base CX0 2 _ _ ["_law_tape_here", "_law_some"] spOne := ok_one T D
  intro n
  induction n with
  | zero =>
    refine fnNever fun vs H Q E h => ?_
    obtain ⟨t, deep, _, _, _, _, _⟩ := h
    omega
  | succ n ih =>
    refine D.tree.F.ok scTree (fun vs H Q E h => ?_) (fun cdv A outer s H vs Q E hr h => ?_)
    · obtain ⟨t, deep, rfl, _⟩ := h
      rfl
    · obtain ⟨t, deep, rfl, tk, h1, h2, hn, k⟩ := h
      have hr1 : Room 1 _ := hr.mono (by omega)
      have hr2 : Room 2 _ := hr.mono (by omega)
      refine ⟨_, pss_cons (ps_set (i := 2) scTree.nd rfl (Or.inl rfl) (pe_call GD hr1 (by rfl) D.draw.mg D.draw.F.kp D.draw.b .nil pass0 (pa_cons (pv 0) (pa_cons pe_int pa_nil))))
        (pss_cons (ps_if (PW.pt (pw_or (pt_cmpR op_eq (pv 1) pe_int (nomark _)) (pw_or1 (pt_cmpR op_lt (pv 2) pe_int (nomark _)))))
          (pss_cons (ps_set (i := 3) scTree.nd rfl (Or.inl rfl) (pe_call GO hr2 (by rfl) D.one.mg D.one.F.kp D.one.b .nil pass0 (pa_cons (pv 0) (pa_cons (pe_lst (pa_cons pe_str (pa_cons pe_str (pa_cons pe_str (pa_cons pe_str (pa_cons pe_str (pa_cons pe_str pa_nil))))))) pa_nil))))
          (pss_one (ps_ret (pe_ix ix_list (pe_lst (pa_cons (pv 3) (pa_cons (pe_call GD hr1 (by rfl) D.draw.mg D.draw.F.kp D.draw.b .nil pass0 (pa_cons (pv 0) (pa_cons pe_int pa_nil))) (pa_cons pe_int
            (pa_cons (pe_tup (pa_cons (pe_call GO hr2 (by rfl) D.one.mg D.one.F.kp D.one.b .nil pass0 (pa_cons (pv 0) (pa_cons (pe_lst (pa_cons pe_str (pa_cons pe_str pa_nil))) pa_nil))) (pa_cons (pv 3) pa_nil))) pa_nil)))))
            (pe_call GD hr1 (by rfl) D.draw.mg D.draw.F.kp D.draw.b .nil pass0 (pa_cons (pv 0) (pa_cons pe_int pa_nil))) (fun _ _ => rfl))))) pss_nil)
        (pss_cons (ps_set (i := 4) scTree.nd rfl (Or.inl rfl) (pe_call GO hr2 (by rfl) D.one.mg D.one.F.kp D.one.b .nil pass0 (pa_cons (pv 0) (pa_cons (pe_lst (pa_cons pe_str (pa_cons pe_str (pa_cons pe_str (pa_cons pe_str (pa_cons pe_str pa_nil)))))) pa_nil))))
        (pss_one (ps_ret (pe_tup (pa_cons (pv 4) (pa_cons (pe_call ih hr (by rfl) D.tree.mg D.tree.F.kp D.tree.b .nil pass0 (pa_cons (pv 0) (pa_cons (pe_op op_sub (pv 1) pe_int) pa_nil)))
          (pa_cons (pe_call ih hr (by rfl) D.tree.mg D.tree.F.kp D.tree.b .nil pass0 (pa_cons (pv 0) (pa_cons (pe_op op_add pe_int (pe_call GD hr1 (by rfl) D.draw.mg D.draw.F.kp D.draw.b .nil pass0 (pa_cons (pv 0) (pa_cons (pe_op op_sub (pv 1) pe_int) pa_nil)))) pa_nil))) pa_nil)))))))), ?_⟩
      refine ⟨_, rfl, t, 9, rfl, by decide, by decide, tk, fun H1 way tk1 oth1 w0 w1 => ?_⟩
      have off1 : Off t H H1 := off_of oth1
      refine ⟨_, rfl, rfl, _, rfl, ?_⟩
      refine ite2 (fun c => ?_) (fun c => ?_)
      · refine iteT ?_
        refine ⟨_, rfl, small_list rfl, fun l hl => ⟨t, l, _, rfl, tk1.same (same_upd hl), upd_same, ne_tape tk1 hl, by simp, by simp, fun H2 x hx tk2 oth2 => ?_⟩⟩
        obtain ⟨zw, rfl, wok⟩ := six_of hx
        have off2 : Off t H1 H2 := (off_new hl).trans (off_of oth2)
        refine ⟨_, rfl, _, rfl, t, 12, rfl, by decide, by decide, tk2, fun H3 d12 tk3 oth3 e0 e1 => ?_⟩
        obtain ⟨m12, rfl⟩ : ∃ m : Nat, d12 = (m : Int) := ⟨d12.toNat, by omega⟩
        refine ⟨_, rfl, small_list rfl, fun l2 hl2 => ⟨t, l2, _, rfl, tk3.same (same_upd hl2), upd_same, ne_tape tk3 hl2, by simp, by simp, fun H4 x2 hx2 tk4 oth4 => ?_⟩⟩
        obtain ⟨zq, rfl, qok⟩ := two_of hx2
        refine ⟨_, rfl, two_size _ _, fun tt htt => ⟨small_list rfl, fun L hL => ?_⟩⟩
        have nLt : L ≠ tt := fun z => by
          rw [z, upd_same] at hL
          cases hL
        have hL4 : H4 L = none := by
          rw [upd_ne nLt] at hL
          exact hL
        have off4 : Off t H2 (upd (upd H4 tt (.tup [.str (st zq), .str (st zw)])) L (.lst [.str (st zw), .int (m12 : Int), .int 1000000006, .ref tt])) :=
          (((off_of oth3).trans (off_new hl2)).trans (off_of oth4)).trans ((off_new htt).trans (off_new hL))
        have tk5 : TapeOk (upd (upd H4 tt (.tup [.str (st zq), .str (st zw)])) L (.lst [.str (st zw), .int (m12 : Int), .int 1000000006, .ref tt])) t := (tk4.same (same_upd htt)).same (same_upd hL)
        refine ⟨_, rfl, t, 4, rfl, by decide, by decide, tk5, fun H6 d4 tk6 oth6 g0 g1 => ?_⟩
        have hL6 : H6 L = some (.lst [.str (st zw), .int (m12 : Int), .int 1000000006, .ref tt]) := by
          rw [oth6 L (ne_tape tk4 hL4)]
          exact upd_same
        have htt6 : H6 tt = some (.tup [.str (st zq), .str (st zw)]) := by
          rw [oth6 tt (ne_tape tk4 htt), upd_ne nLt.symm]
          exact upd_same
        have offAll : Off t H H6 := ((off1.trans off2).trans off4).trans (off_of oth6)
        obtain ⟨m4, rfl⟩ : ∃ m : Nat, d4 = (m : Int) := ⟨d4.toNat, by omega⟩
        have hm4 : m4 = 0 ∨ m4 = 1 ∨ m4 = 2 ∨ m4 = 3 := by omega
        rcases hm4 with rfl | rfl | rfl | rfl
        · exact ⟨L, _, _, _, rfl, rfl, SqL.of hL6, atI_nat (j := 0) rfl, k _ _ (.word zw) offAll tk6 .word wok h1⟩
        · exact ⟨L, _, _, _, rfl, rfl, SqL.of hL6, atI_nat (j := 1) rfl, k _ _ (.num m12) offAll tk6 .num (num_small _ (by omega)) h1⟩
        · exact ⟨L, _, _, _, rfl, rfl, SqL.of hL6, atI_nat (j := 2) rfl, k _ _ (.num 1000000006) offAll tk6 (.num (n := 1000000006)) num_big h1⟩
        · exact ⟨L, _, _, _, rfl, rfl, SqL.of hL6, atI_nat (j := 3) rfl, k _ _ (.ask zq zw) offAll tk6 (.ask htt6) ⟨qok, wok⟩ h1⟩
      · have hdeep : 2 ≤ deep := by
          have : ¬ (V.int (deep : Int) = V.int 1) := fun z => c (decide_eq_true z)
          have : ¬ deep = 1 := fun z => this (by rw [z]; rfl)
          omega
        refine ⟨_, rfl, _, _, rfl, rfl, _, rfl, ?_⟩
        refine ite2 (fun c2 => ?_) (fun c2 => ?_)
        · refine id ?_
          refine ⟨_, rfl, small_list rfl, fun l hl => ⟨t, l, _, rfl, tk1.same (same_upd hl), upd_same, ne_tape tk1 hl, by simp, by simp, fun H2 x hx tk2 oth2 => ?_⟩⟩
          obtain ⟨zw, rfl, wok⟩ := six_of hx
          have off2 : Off t H1 H2 := (off_new hl).trans (off_of oth2)
          refine ⟨_, rfl, _, rfl, t, 12, rfl, by decide, by decide, tk2, fun H3 d12 tk3 oth3 e0 e1 => ?_⟩
          obtain ⟨m12, rfl⟩ : ∃ m : Nat, d12 = (m : Int) := ⟨d12.toNat, by omega⟩
          refine ⟨_, rfl, small_list rfl, fun l2 hl2 => ⟨t, l2, _, rfl, tk3.same (same_upd hl2), upd_same, ne_tape tk3 hl2, by simp, by simp, fun H4 x2 hx2 tk4 oth4 => ?_⟩⟩
          obtain ⟨zq, rfl, qok⟩ := two_of hx2
          refine ⟨_, rfl, two_size _ _, fun tt htt => ⟨small_list rfl, fun L hL => ?_⟩⟩
          have nLt : L ≠ tt := fun z => by
            rw [z, upd_same] at hL
            cases hL
          have hL4 : H4 L = none := by
            rw [upd_ne nLt] at hL
            exact hL
          have off4 : Off t H2 (upd (upd H4 tt (.tup [.str (st zq), .str (st zw)])) L (.lst [.str (st zw), .int (m12 : Int), .int 1000000006, .ref tt])) :=
            (((off_of oth3).trans (off_new hl2)).trans (off_of oth4)).trans ((off_new htt).trans (off_new hL))
          have tk5 : TapeOk (upd (upd H4 tt (.tup [.str (st zq), .str (st zw)])) L (.lst [.str (st zw), .int (m12 : Int), .int 1000000006, .ref tt])) t := (tk4.same (same_upd htt)).same (same_upd hL)
          refine ⟨_, rfl, t, 4, rfl, by decide, by decide, tk5, fun H6 d4 tk6 oth6 g0 g1 => ?_⟩
          have hL6 : H6 L = some (.lst [.str (st zw), .int (m12 : Int), .int 1000000006, .ref tt]) := by
            rw [oth6 L (ne_tape tk4 hL4)]
            exact upd_same
          have htt6 : H6 tt = some (.tup [.str (st zq), .str (st zw)]) := by
            rw [oth6 tt (ne_tape tk4 htt), upd_ne nLt.symm]
            exact upd_same
          have offAll : Off t H H6 := ((off1.trans off2).trans off4).trans (off_of oth6)
          obtain ⟨m4, rfl⟩ : ∃ m : Nat, d4 = (m : Int) := ⟨d4.toNat, by omega⟩
          have hm4 : m4 = 0 ∨ m4 = 1 ∨ m4 = 2 ∨ m4 = 3 := by omega
          rcases hm4 with rfl | rfl | rfl | rfl
          · exact ⟨L, _, _, _, rfl, rfl, SqL.of hL6, atI_nat (j := 0) rfl, k _ _ (.word zw) offAll tk6 .word wok h1⟩
          · exact ⟨L, _, _, _, rfl, rfl, SqL.of hL6, atI_nat (j := 1) rfl, k _ _ (.num m12) offAll tk6 .num (num_small _ (by omega)) h1⟩
          · exact ⟨L, _, _, _, rfl, rfl, SqL.of hL6, atI_nat (j := 2) rfl, k _ _ (.num 1000000006) offAll tk6 (.num (n := 1000000006)) num_big h1⟩
          · exact ⟨L, _, _, _, rfl, rfl, SqL.of hL6, atI_nat (j := 3) rfl, k _ _ (.ask zq zw) offAll tk6 (.ask htt6) ⟨qok, wok⟩ h1⟩
        · refine ⟨_, rfl, small_list rfl, fun l hl => ⟨t, l, _, rfl, tk1.same (same_upd hl), upd_same, ne_tape tk1 hl, by simp, by simp, fun H2 x hx tk2 oth2 => ?_⟩⟩
          obtain ⟨o, rfl⟩ := five_of hx
          have off2 : Off t H1 H2 := (off_new hl).trans (off_of oth2)
          refine ⟨_, rfl, _, rfl, _, rfl, _, _, rfl, rfl, t, deep - 1, congrArg (fun z => [V.ref t, V.int z]) (by omega : (deep : Int) - 1 = ((deep - 1 : Nat) : Int)), tk2, by omega, by omega, by omega, fun H3 va a off3 tk3 ra oka da => ?_⟩
          refine ⟨_, rfl, _, rfl, _, rfl, _, _, rfl, rfl, t, ((deep : Int) - 1), rfl, by omega, by omega, tk3, fun H4 dd tk4 oth4 e0 e1 => ?_⟩
          refine ⟨_, _, rfl, rfl, t, 1 + dd.toNat, congrArg (fun z => [V.ref t, V.int z]) (by omega : (1 : Int) + dd = ((1 + dd.toNat : Nat) : Int)), tk4, by omega, by omega, by omega, fun H5 vb b off5 tk5 rb okb db => ?_⟩
          refine ⟨three_size _ _ _, fun tt htt => ?_⟩
          have off35 : Off t H3 H5 := (off_of oth4).trans off5
          refine k _ _ (.op o a b) (((off1.trans off2).trans (off3.trans off35)).trans (off_new htt)) (tk5.same (same_upd htt)) (.op upd_same ((ra.offT tk3 off35).same (same_upd htt)) (rb.same (same_upd htt))) ⟨oka, okb⟩ ?_
          show max a.dep b.dep + 1 ≤ deep
          omega
end
end Lg

namespace Lg
open PySem PySem.Spec PyProof.Rows L2
theorem scStrength : FnScope ["_law_one_here"] ["_law_one_here"] (defScope sStrength) := ⟨rfl, rfl, rfl, by decide +kernel, rfl, by decide +kernel, by decide +kernel⟩
theorem scShown : FnScope ["_law_one_here", "_law_more", "_law_mark", "_law_own", "_law_parts", "_law_at", "_law_spare", "_law_text", "_law_needs"] ["_law_one_here", "_law_more"] (defScope sShown) := ⟨rfl, rfl, rfl, by decide +kernel, rfl, by decide +kernel, by decide +kernel⟩
def spStrength : Sp := fun vs H Q _ => ∃ (v : V) (e : E), vs = [v] ∧ Rep H v e ∧ ∀ H', Same H H' → Q (.int e.str) H'
def spShown (n : Nat) : Sp := fun vs H Q _ => ∃ (v : V) (e : E) (m : Addr) (ms : List Int), vs = [v, .ref m] ∧ Rep H v e ∧ e.Ok ∧ e.dep ≤ n ∧ n ≤ 6 ∧ H m = some (.lst (ms.map V.int)) ∧ ms.length ≤ 16 ∧
  ∀ H' s ms', Off m H H' → H' m = some (.lst (ms'.map V.int)) → ms'.length ≤ 16 → Shw e s → (ms = [] → s = fmt e ∧ ms' = []) → Q (.str (st s)) H'
def kvsS : List (Key × V) := [(Sum.inr "less", .int 1), (Sum.inr "same", .int 1), (Sum.inr "plus", .int 2), (Sum.inr "minus", .int 2), (Sum.inr "times", .int 3)]
def kvsM : List (Key × V) := [(Sum.inr "plus", .str "+"), (Sum.inr "minus", .str "-"), (Sum.inr "times", .str "*"), (Sum.inr "less", .str "<"), (Sum.inr "same", .str "==")]
theorem valS (o : Op) : valV (mergeK [] kvsS) (Sum.inr o.name) = some (.int o.str) := by cases o <;> rfl
theorem valM (o : Op) : valV (mergeK [] kvsM) (Sum.inr o.name) = some (.str o.mark) := by cases o <;> rfl
theorem getS {H : Hp} {p : Addr} (o : Op) : DGet (upd H p (.dK (mergeK [] kvsS))) p (.str o.name) (some (.int o.str)) := by
  have h := DGet.k (k := Sum.inr o.name) (upd_same (H := H) (a := p) (o := .dK (mergeK [] kvsS)))
  rw [valS] at h
  exact h
theorem getM {H : Hp} {p : Addr} (o : Op) : DGet (upd H p (.dK (mergeK [] kvsM))) p (.str o.name) (some (.str o.mark)) := by
  have h := DGet.k (k := Sum.inr o.name) (upd_same (H := H) (a := p) (o := .dK (mergeK [] kvsM)))
  rw [valM] at h
  exact h
theorem canLay_ints : ∀ ns : List Int, PyData.canLayAll0 (ns.map PyData.int) = true
  | [] => rfl
  | n :: ns => by
    show (PyData.canLay0 (.int n) && PyData.canLayAll0 (ns.map PyData.int)) = true
    rw [canLay_ints ns]
    rfl
theorem depth_ints : ∀ ns : List Int, PyData.depthAll (ns.map PyData.int) = 0
  | [] => rfl
  | n :: ns => by
    show max (PyData.depth (.int n)) (PyData.depthAll (ns.map PyData.int)) = 0
    rw [depth_ints ns]
    rfl
theorem shaped_ints (ns : List Int) : SeqAt.shaped (.list (ns.map PyData.int)) = true := by
  unfold SeqAt.shaped
  have h1 : PyData.canLay0 (.list (ns.map PyData.int)) = true := canLay_ints ns
  have h2 : PyData.depth (.list (ns.map PyData.int)) ≤ 64 := by
    show PyData.depthAll (ns.map PyData.int) + 1 ≤ 64
    rw [depth_ints]
    decide
  rw [h1, decide_eq_true h2]
  rfl
theorem eqv_nil (ds : List PyData) : (PyData.list ds).eqv (.list []) = ds.isEmpty := by
  cases ds <;> rfl
theorem dp_ints {K : PySem.W.Frag} {H : Hp} : ∀ ns : List Int, DpAll K H (ns.map V.int) (ns.map PyData.int)
  | [] => .nil
  | n :: ns => .cons (.int n) (dp_ints ns)
theorem same_two {H : Hp} {p : Addr} {o o2 : HO} (hp : H p = none) : Same H (upd (upd H p o) p o2) := fun b q e => by
  rw [upd_ne (ne_of_none e hp), upd_ne (ne_of_none e hp)]
  exact e
def PartL (o : Op) (a : E) (b : Bool) (x : List Nat) : Prop := ∃ s, Shw a s ∧ (x = paren s ∨ (x = s ∧ o.str ≤ a.str)) ∧ (b = true → x = wr a o.str)
def PartR (o : Op) (a : E) (b : Bool) (x : List Nat) : Prop := ∃ s, Shw a s ∧ (x = paren s ∨ (x = s ∧ o.str < a.str)) ∧ (b = true → x = wr a (o.str + 1))
theorem shw_op {o : Op} {a b : E} {xa xb : List Nat} {f : Bool} (h1 : PartL o a f xa) (h2 : PartR o b f xb) : Shw (.op o a b) (xa ++ o.sign ++ xb) ∧ (f = true → xa ++ o.sign ++ xb = fmt (.op o a b)) := by
  obtain ⟨sa, s1, c1, e1⟩ := h1
  obtain ⟨sb, s2, c2, e2⟩ := h2
  refine ⟨.op s1 s2 c1 c2, fun z => ?_⟩
  rw [e1 z, e2 z]
  rfl
theorem parts_add {A B : List Nat → Prop} {parts : List (List Nat)} {i : Nat} {x : List Nat} (qn : parts.length = i) (hi : i < 2) (qa : ∀ xa, parts[0]? = some xa → A xa) (qb : ∀ xb, parts[1]? = some xb → B xb) (n : (i = 0 → A x) ∧ (i = 1 → B x)) :
    (∀ xa, (parts ++ [x])[0]? = some xa → A xa) ∧ ∀ xb, (parts ++ [x])[1]? = some xb → B xb := by
  match parts, qn with
  | [], qn =>
    have e : i = 0 := qn.symm
    subst e
    refine ⟨fun xa h => ?_, fun xb h => by simp at h⟩
    simp at h
    subst h
    exact n.1 rfl
  | [y], qn =>
    have e : i = 1 := qn.symm
    subst e
    refine ⟨fun xa h => ?_, fun xb h => ?_⟩
    · exact qa xa (by simpa using h)
    · simp at h
      subst h
      exact n.2 rfl
  | y :: y2 :: r, qn =>
    simp at qn
    omega
theorem new_part {o : Op} {a b c : E} {i : Nat} {s x : List Nat} {ms : List Int} (cc : (i = 0 ∧ c = a) ∨ (i = 1 ∧ c = b)) (S : Shw c s) (hf : ms = [] → s = fmt c)
    (hx : (x = paren s ∧ (ms = [] → c.str < o.str ∨ (i = 1 ∧ c.str = o.str))) ∨ (x = s ∧ ¬ (c.str < o.str ∨ (i = 1 ∧ c.str = o.str)))) :
    (i = 0 → PartL o a (decide (ms = [])) x) ∧ (i = 1 → PartR o b (decide (ms = [])) x) := by
  rcases cc with ⟨rfl, rfl⟩ | ⟨rfl, rfl⟩
  · refine ⟨fun _ => ⟨s, S, ?_, fun z => ?_⟩, fun z => by omega⟩
    · rcases hx with ⟨h, _⟩ | ⟨h, q⟩
      · exact .inl h
      · exact .inr ⟨h, by omega⟩
    · have z' := of_decide_eq_true z
      rcases hx with ⟨h, q⟩ | ⟨h, q⟩
      · rw [h, hf z']
        exact (if_pos (by have := q z'; omega)).symm
      · rw [h, hf z']
        exact (if_neg (by omega)).symm
  · refine ⟨fun z => by omega, fun _ => ⟨s, S, ?_, fun z => ?_⟩⟩
    · rcases hx with ⟨h, _⟩ | ⟨h, q⟩
      · exact .inl h
      · exact .inr ⟨h, by omega⟩
    · have z' := of_decide_eq_true z
      rcases hx with ⟨h, q⟩ | ⟨h, q⟩
      · rw [h, hf z']
        exact (if_pos (by have := q z'; omega)).symm
      · rw [h, hf z']
        exact (if_neg (by omega)).symm
section
variable {P : Program} {w : World} {K : PySem.W.Frag} {mg : Str → Option Value} {base : Heap} {f : Nat → Addr} {fd : Nat → FuncData}
theorem ok_strength (T : Gx K w mg) (D : Lx K mg f fd) : FnOk P w K mg base CX0 1 (f 24) (fd 24) ["_law_one_here"] spStrength := by
  refine D.strength.F.ok scStrength (fun vs H Q E h => ?_) (fun cdv A outer s H vs Q E hr h => ?_)
  · obtain ⟨v, e, rfl, _⟩ := h
    rfl
  · obtain ⟨v, e, rfl, rep, k⟩ := h
    refine ⟨_, pss_cons (ps_if (PW.pt (pw_or (pt_not (pt_val (pe_callB call_isi (by rfl) T.isi (by decide +kernel) (pa_cons (pv 0) (pa_cons (pe_bltn (v := .ty "tuple") (by rfl) T.tuple (by decide +kernel) rfl) pa_nil)))))
          (pw_or1 (pt_cmpR op_eq (pe_callB call_len_seq (by rfl) T.len (by decide +kernel) (pa_cons (pv 0) pa_nil)) pe_int (nomark _))))) (pss_one (ps_ret pe_int)) pss_nil)
      (pss_one (ps_ret (pe_dget (hu_of hr) (pe_disp (pps_cons pe_str pe_int (pps_cons pe_str pe_int (pps_cons pe_str pe_int (pps_cons pe_str pe_int (pps_cons pe_str pe_int pps_nil))))) (by rfl) (by rfl) (fun z => by cases z) (by decide)) (pe_ix ix_tup (pv 0) pe_int (fun _ _ => rfl)) (fun _ _ => rfl)))), ?_⟩
    cases rep with
    | @word z =>
      refine ⟨_, rfl, _, _, _, _, false, rfl, .ty "tuple", .base (.str _), kit_ty (by decide +kernel), ?_⟩
      exact ⟨false, rfl, iteT (k H fun _ _ e => e)⟩
    | @num m =>
      refine ⟨_, rfl, _, _, _, _, false, rfl, .ty "tuple", .base (.int _), kit_ty (by decide +kernel), ?_⟩
      exact ⟨false, rfl, iteT (k H fun _ _ e => e)⟩
    | @ask a q z ha =>
      refine ⟨_, rfl, _, _, _, _, true, rfl, .ty "tuple", .base (.tup ha), kit_ty (by decide +kernel), ?_⟩
      refine ⟨true, rfl, iteF ?_⟩
      refine ⟨_, rfl, a, _, rfl, .inr (.inl (.inl ha)), rfl, _, rfl, ?_⟩
      exact iteY rfl (k H fun _ _ e => e)
    | @op t o va vb a b ha ra rb =>
      refine ⟨_, rfl, _, _, _, _, true, rfl, .ty "tuple", .base (.tup ha), kit_ty (by decide +kernel), ?_⟩
      refine ⟨true, rfl, iteF ?_⟩
      refine ⟨_, rfl, t, _, rfl, .inr (.inl (.inl ha)), rfl, _, rfl, ?_⟩
      refine iteN (fun z => by injection z with z; simp at z) ?_
      refine fun p hp => ⟨upd_same, kvsS, rfl, by decide, ?_⟩
      have sd : Same H (upd (upd H p (.dK [])) p (.dK (mergeK [] kvsS))) := same_two hp
      exact ⟨_, rfl, t, _, 0, .str o.name, rfl, rfl, .inl (.inl (sd _ _ ha)), atI_nat (j := 0) rfl, p, _, rfl, getS o, k _ sd⟩
theorem ok_shown (T : Gx K w mg) (D : Lx K mg f fd) : ∀ n : Nat, FnOk P w K mg base CX0 (n + 2) (f 25) (fd 25) ["_law_one_here", "_law_more"] (spShown n) := by
  have GS : FnOk P w K mg base CX0 1 _ _ ["_law_one_here"] spStrength := ok_strength T D
  intro n
  induction n with
  | zero =>
    refine fnNever fun vs H Q E h => ?_
    obtain ⟨v, e, m, ms, _, _, _, h, _⟩ := h
    have := e.dep_pos
    omega
  | succ n ih =>
    refine D.shown.F.ok scShown (fun vs H Q E h => ?_) (fun cdv A outer s H vs Q E hr h => ?_)
    · obtain ⟨v, e, m, ms, rfl, _⟩ := h
      rfl
    · obtain ⟨v, e, m, ms, rfl, rep, ok, hd, hn, hm, hml, k⟩ := h
      have hr1 : Room 1 _ := hr.mono (by omega)
      refine ⟨_, pss_cons (ps_if (pt_not (pt_val (pe_callB call_isi (by rfl) T.isi (by decide +kernel) (pa_cons (pv 0) (pa_cons (pe_bltn (v := .ty "tuple") (by rfl) T.tuple (by decide +kernel) rfl) pa_nil)))))
          (pss_one (ps_ret (pe_callTy call_str_ev (by rfl) T.str (by decide +kernel) (pa_cons (pv 0) pa_nil)))) pss_nil)
        (pss_cons (ps_if (pt_cmpR op_eq (pe_callB call_len_seq (by rfl) T.len (by decide +kernel) (pa_cons (pv 0) pa_nil)) pe_int (nomark _)) (pss_one (ps_ret (pe_op op_add_str (pe_op op_add_str (pe_ix ix_tup (pv 0) pe_int (fun _ _ => rfl)) pe_str) (pe_ix ix_tup (pv 0) pe_int (fun _ _ => rfl))))) pss_nil)
        (pss_cons (ps_par (i := 2) (j := 3) rfl scShown.nd rfl rfl (by decide) rfl rfl
            (pa_cons (pe_dget (hu_of hr) (pe_disp (pps_cons pe_str pe_str (pps_cons pe_str pe_str (pps_cons pe_str pe_str (pps_cons pe_str pe_str (pps_cons pe_str pe_str pps_nil))))) (by rfl) (by rfl) (fun z => by cases z) (by decide)) (pe_ix ix_tup (pv 0) pe_int (fun _ _ => rfl)) (fun _ _ => rfl))
              (pa_cons (pe_call GS hr1 (by rfl) D.strength.mg D.strength.F.kp D.strength.b .nil pass0 (pa_cons (pv 0) pa_nil)) pa_nil)) (by rfl))
        (pss_cons (ps_set (i := 4) scShown.nd rfl (Or.inl rfl) (pe_lst pa_nil))
        (pss_cons (ps_for PassesOwn.never rfl (pi_list (pe_lst (pa_cons pe_int (pa_cons pe_int pa_nil)))) (pg_name (i := 5) scShown.nd rfl (Or.inl rfl))
          (pss_cons (ps_set (i := 6) scShown.nd rfl (Or.inl rfl) (pe_ifExp (pt_cmpR (op_neD hr.units) (pv 1) (pe_lst pa_nil) (nomark _)) (pe_bm0 PySem.F.plainAttrs_list PySem.F.slot_list_pop PySem.F.type_list_pop mt_pop (pv 1)) pe_int))
          (pss_cons (ps_set (i := 7) scShown.nd rfl (Or.inl rfl) (pe_call ih hr (by rfl) D.shown.mg D.shown.F.kp D.shown.b .nil pass0 (pa_cons (pe_ix ix_tup (pv 0) (pv 5) (fun _ _ => rfl)) (pa_cons (pv 1) pa_nil))))
          (pss_cons (ps_set (i := 8) scShown.nd rfl (Or.inl rfl) (pe_or (pe_cmpR op_lt (pe_call GS hr1 (by rfl) D.strength.mg D.strength.F.kp D.strength.b .nil pass0 (pa_cons (pe_ix ix_tup (pv 0) (pv 5) (fun _ _ => rfl)) pa_nil)) (pv 3) (nomark _))
              (pe_one (pe_and (pe_cmpR op_eq (pv 5) pe_int (nomark _)) (pe_one (pe_cmpR op_eq (pe_call GS hr1 (by rfl) D.strength.mg D.strength.F.kp D.strength.b .nil pass0 (pa_cons (pe_ix ix_tup (pv 0) (pv 5) (fun _ _ => rfl)) pa_nil)) (pv 3) (nomark _)))))))
          (pss_one (ps_expr (pe_bm PySem.F.plainAttrs_list PySem.F.slot_list_append PySem.F.type_list_append mt_append (pv 4) (pa_cons (pe_ifExp (PW.pt (pw_or (pt_val (pv 8)) (pw_or1 (pt_cmpR op_eq (pv 6) pe_int (nomark _))))) (pe_op op_add_str (pe_op op_add_str pe_str (pv 7)) pe_str) (pv 7)) pa_nil))))))))
        (pss_one (ps_ret (pe_op op_add_str (pe_op op_add_str (pe_op op_add_str (pe_op op_add_str (pe_ix ix_list (pv 4) pe_int (fun _ _ => rfl)) pe_str) (pv 2)) pe_str) (pe_ix ix_list (pv 4) pe_int (fun _ _ => rfl))))))))), ?_⟩
      cases rep with
      | @word z =>
        refine ⟨_, rfl, _, _, _, _, false, rfl, .ty "tuple", .base (.str _), kit_ty (by decide +kernel), ?_⟩
        refine ⟨false, rfl, iteT ?_⟩
        exact ⟨_, rfl, .inl ⟨_, rfl, k H _ ms (Off.refl _ _) hm hml .word fun z => ⟨rfl, z⟩⟩⟩
      | @num nn =>
        refine ⟨_, rfl, _, _, _, _, false, rfl, .ty "tuple", .base (.int _), kit_ty (by decide +kernel), ?_⟩
        refine ⟨false, rfl, iteT ?_⟩
        refine ⟨_, rfl, .inr ⟨_, rfl, log_small (NumOk.lt ok), ?_⟩⟩
        rw [ntx_str]
        exact k H _ ms (Off.refl _ _) hm hml .num fun z => ⟨rfl, z⟩
      | @ask a q z ha =>
        refine ⟨_, rfl, _, _, _, _, true, rfl, .ty "tuple", .base (.tup ha), kit_ty (by decide +kernel), ?_⟩
        refine ⟨true, rfl, iteF ?_⟩
        refine ⟨_, rfl, a, _, rfl, .inr (.inl (.inl ha)), rfl, _, rfl, ?_⟩
        refine iteY rfl ?_
        have h1 := ok.1.word.len
        have h2 := ok.2.len
        have e1 : (Str.ofString " ").length = 1 := by decide +kernel
        refine ⟨_, rfl, a, _, 0, _, rfl, rfl, .inl (.inl ha), atI_nat (j := 0) rfl, _, _, rfl, rfl, ?_, _, rfl, a, _, 1, _, rfl, rfl, .inl (.inl ha), atI_nat (j := 1) rfl, _, _, rfl, rfl, ?_, ?_⟩
        · rw [e1, st_len, sizeLine_eq]; omega
        · rw [strLen_append, e1, st_len, st_len, sizeLine_eq]; omega
        · have e : st q ++ Str.ofString " " ++ st z = st (q ++ 32 :: z) := strExt (by simp only [app_list, blank_list, st_list]; simp)
          rw [e]
          exact k H _ ms (Off.refl _ _) hm hml .ask fun z => ⟨rfl, z⟩
      | @op t o va vb a b ha ra rb =>
        refine ⟨_, rfl, _, _, _, _, true, rfl, .ty "tuple", .base (.tup ha), kit_ty (by decide +kernel), ?_⟩
        refine ⟨true, rfl, iteF ?_⟩
        refine ⟨_, rfl, t, _, rfl, .inr (.inl (.inl ha)), rfl, _, rfl, ?_⟩
        refine iteN (fun z => by injection z with z; simp at z) ?_
        refine fun p hp => ⟨upd_same, kvsM, rfl, by decide, ?_⟩
        have sd : Same H (upd (upd H p (.dK [])) p (.dK (mergeK [] kvsM))) := same_two hp
        refine ⟨_, rfl, t, _, 0, .str o.name, rfl, rfl, .inl (.inl (sd _ _ ha)), atI_nat (j := 0) rfl, p, _, rfl, getM o, ?_⟩
        refine ⟨_, rfl, .ref t, .op o a b, rfl, (Rep.op ha ra rb).same sd, fun H1 s1 => ⟨_, _, rfl, ?_⟩⟩
        refine ⟨small_list rfl, fun Pp hP => ⟨small_list rfl, fun L hL => ?_⟩⟩
        have hS1 : Same H H1 := sd.trans s1
        have hm1 := hS1 _ _ hm
        have nLP : L ≠ Pp := fun z => by
          rw [z, upd_same] at hL
          cases hL
        have hL1 : H1 L = none := by
          rw [upd_ne nLP] at hL
          exact hL
        have nPm : Pp ≠ m := fun z => by
          rw [z, hm1] at hP
          cases hP
        have nLm : L ≠ m := fun z => by
          rw [z, hm1] at hL1
          cases hL1
        have hPH : H Pp = none := by
          cases q : H Pp with
          | none => rfl
          | some o => rw [hS1 _ _ q] at hP; cases hP
        have d1 : a.dep ≤ max a.dep b.dep := Nat.le_max_left _ _
        have d2 : b.dep ≤ max a.dep b.dep := Nat.le_max_right _ _
        have dm : (Lg.E.op o a b).dep = max a.dep b.dep + 1 := rfl
        have keepT : ∀ {H' : Hp}, Off m H H' → ∀ b xs, H b = some (.tup xs) → H' b = some (.tup xs) := fun off b xs q => off b _ (fun z => by rw [z, hm] at q; cases q) q
        refine ⟨L, rfl, ⟨_, SqL.of upd_same⟩, for_list (xs := [.int 1, .int 2]) (fun i σ H' => ∃ (x5 x6 x7 x8 : Option V) (parts : List (List Nat)) (ms' : List Int),
          σ = [some (.ref t), some (.ref m), some (.str o.mark), some (.int o.str), some (.ref Pp), x5, x6, x7, x8] ∧ Off m H H' ∧ H' L = some (.lst [.int 1, .int 2]) ∧
          H' Pp = some (.lst (parts.map fun x => V.str (st x))) ∧ H' m = some (.lst (ms'.map V.int)) ∧ ms'.length ≤ 16 ∧ (ms = [] → ms' = []) ∧ parts.length = i ∧
          (∀ xa, parts[0]? = some xa → PartL o a (decide (ms = [])) xa) ∧ ∀ xb, parts[1]? = some xb → PartR o b (decide (ms = [])) xb) ?_ ?_ ?_ ?_⟩
        · refine ⟨_, _, _, _, [], ms, rfl, ?_, upd_same, ?_, ?_, hml, fun z => z, rfl, fun xa (z : ([] : List (List Nat))[0]? = some xa) => (by cases z), fun xb (z : ([] : List (List Nat))[1]? = some xb) => (by cases z)⟩
          · exact (Same.off hS1).trans ((off_new hP).trans (off_new hL))
          · rw [upd_ne nLP.symm, upd_same]
            rfl
          · rw [upd_ne nLm.symm, upd_ne nPm.symm]
            exact hm1
        · rintro i σ H' _ ⟨_, _, _, _, _, _, _, _, q, _⟩
          exact SqL.of q
        · rintro i x σ H' hx ⟨x5, x6, x7, x8, parts, ms', rfl, off, qL, qP, qm, ql, qe, qn, qa, qb⟩
          obtain ⟨c, vc, xi, ci, rc, okc, dc, cc⟩ : ∃ (c : Lg.E) (vc : V), x = .int ((i + 1 : Nat) : Int) ∧ ([V.str o.name, va, vb] : List V)[i + 1]? = some vc ∧ Rep H vc c ∧ c.Ok ∧ c.dep ≤ n ∧ ((i = 0 ∧ c = a) ∨ (i = 1 ∧ c = b)) := by
            match i, hx with
            | 0, hx => exact ⟨a, va, (Option.some.inj hx).symm, rfl, ra, ok.1, by omega, .inl ⟨rfl, rfl⟩⟩
            | 1, hx => exact ⟨b, vb, (Option.some.inj hx).symm, rfl, rb, ok.2, by omega, .inr ⟨rfl, rfl⟩⟩
            | i + 2, hx => exact absurd hx (by simp)
          subst xi
          have hat : ∀ {H2 : Hp}, Off m H H2 → atI [V.str o.name, va, vb] ((i + 1 : Nat) : Int) = some vc := fun _ => atI_nat ci
          -- the spare part
          refine ⟨_, rfl, small_list rfl, fun Em hE => ?_⟩
          have hmE : upd H' Em (.lst []) m = some (.lst (ms'.map V.int)) := by
            rw [upd_ne (ne_of_none qm hE)]
            exact qm
          refine ⟨.list (ms'.map PyData.int), .list [], .lst (SqL.of hmE) (dp_ints ms'), .lst (SqL.of upd_same) .nil, shaped_ints ms', shaped_ints [], _, rfl, ?_⟩
          rw [eqv_nil]
          have offE : Off m H (upd H' Em (.lst [])) := off.trans (off_new hE)
          have hPE : upd H' Em (.lst []) Pp = some (.lst (parts.map fun x => V.str (st x))) := by
            rw [upd_ne (ne_of_none qP hE)]
            exact qP
          have hLE : upd H' Em (.lst []) L = some (.lst [.int 1, .int 2]) := by
            rw [upd_ne (ne_of_none qL hE)]
            exact qL
          refine ite2 (fun cm => ?_) (fun cm => ?_)
          · have hne : ms' ≠ [] := fun z => by rw [z] at cm; simp at cm
            have hmsne : ms ≠ [] := fun z => hne (qe z)
            obtain ⟨y, hy⟩ : ∃ y, ms'[ms'.length - 1]? = some y := ⟨_, List.getElem?_eq_getElem (by have := List.length_pos_iff.mpr hne; omega)⟩
            refine ⟨_, rfl, .inl ⟨rfl, _, SqL.of hmE⟩, m, _, .int y, rfl, rfl, hmE, ?_, ?_⟩
            · rw [List.length_map, List.getElem?_map, hy]
              rfl
            rw [← List.map_dropLast]
            have hS : ∃ Hs : Hp, Hs = upd (upd H' Em (.lst [])) m (.lst (ms'.dropLast.map V.int)) := ⟨_, rfl⟩
            obtain ⟨Hs, eHs⟩ := hS
            rw [← eHs]
            have hms : Hs m = some (.lst (ms'.dropLast.map V.int)) := by rw [eHs, upd_same]
            have offS : Off m H Hs := by rw [eHs]; exact offE.trans off_at
            have hPs : Hs Pp = some (.lst (parts.map fun x => V.str (st x))) := by rw [eHs, upd_ne nPm]; exact hPE
            have hLs : Hs L = some (.lst [.int 1, .int 2]) := by rw [eHs, upd_ne nLm]; exact hLE
            have hl1 : ms'.dropLast.length ≤ 16 := by rw [List.length_dropLast]; omega
            have hz : ms = [] → ms'.dropLast = [] ∧ y = 0 := fun z => absurd z hmsne
            generalize ms'.dropLast = ms1 at *
            generalize y = sp at *
            refine ⟨_, rfl, _, rfl, t, _, _, vc, rfl, rfl, .inl (.inl (keepT offS _ _ ha)), hat offS, _, rfl, vc, c, m, _, rfl, rc.by (keepT offS), okc, dc, by omega, hms, hl1, fun H3 s9 ms9 off3 hm3 ml9 shw9 hf3 => ?_⟩
            have hf9 : ms = [] → s9 = fmt c ∧ ms9 = [] := fun z => hf3 (hz z).1
            have offH3 : Off m H H3 := offS.trans off3
            refine ⟨_, rfl, _, rfl, t, _, _, vc, rfl, rfl, .inl (.inl (keepT offH3 _ _ ha)), hat offH3, vc, c, rfl, rc.by (keepT offH3), fun H4 s4 => ?_⟩
            have offH4 : Off m H H4 := offH3.trans (Same.off s4)
            have hP4 : H4 Pp = some (.lst (parts.map fun x => V.str (st x))) := s4 _ _ (off3 _ _ nPm hPs)
            have hL4 : H4 L = some (.lst [.int 1, .int 2]) := s4 _ _ (off3 _ _ nLm hLs)
            have hm4 := s4 _ _ hm3
            refine ⟨_, rfl, _, _, rfl, rfl, _, rfl, ?_⟩
            refine ite2 (fun q => ?_) (fun q => ?_)
            · have off9 := offH4
              have hP9 := hP4
              have hL9 := hL4
              have hm9 := hm4
              have qs : c.str < o.str := by have := of_decide_eq_true q; omega
              have NB : true = true → c.str < o.str ∨ (i = 1 ∧ c.str = o.str) := fun _ => .inl qs
              have NN : ¬ true = true → ¬ (c.str < o.str ∨ (i = 1 ∧ c.str = o.str)) := fun z => absurd rfl z
              generalize H4 = H9 at *
              refine ⟨_, rfl, .inl ⟨rfl, _, SqL.of hP9⟩, _, rfl, _, rfl, ?_⟩
              have hlenP : (parts.map fun x => V.str (st x)).length < sizeLine := by rw [List.length_map, sizeLine_eq]; omega
              have fin : ∀ (y5 y6 y7 y8 : Option V) (x : List Nat) (str : V), str = .str (st x) → ((x = paren s9 ∧ (ms = [] → c.str < o.str ∨ (i = 1 ∧ c.str = o.str))) ∨ (x = s9 ∧ ¬ (c.str < o.str ∨ (i = 1 ∧ c.str = o.str)))) →
                  ∃ (x5' x6' x7' x8' : Option V) (parts' : List (List Nat)) (ms'' : List Int),
                      [some (.ref t), some (.ref m), some (.str o.mark), some (.int o.str), some (.ref Pp), y5, y6, y7, y8] = [some (.ref t), some (.ref m), some (.str o.mark), some (.int o.str), some (.ref Pp), x5', x6', x7', x8'] ∧ Off m H (upd H9 Pp (.lst ((parts.map fun x => V.str (st x)) ++ [str]))) ∧ (upd H9 Pp (.lst ((parts.map fun x => V.str (st x)) ++ [str]))) L = some (.lst [.int 1, .int 2]) ∧
                      (upd H9 Pp (.lst ((parts.map fun x => V.str (st x)) ++ [str]))) Pp = some (.lst (parts'.map fun x => V.str (st x))) ∧ (upd H9 Pp (.lst ((parts.map fun x => V.str (st x)) ++ [str]))) m = some (.lst (ms''.map V.int)) ∧ ms''.length ≤ 16 ∧ (ms = [] → ms'' = []) ∧ parts'.length = i + 1 ∧
                      (∀ xa, parts'[0]? = some xa → PartL o a (decide (ms = [])) xa) ∧ ∀ xb, parts'[1]? = some xb → PartR o b (decide (ms = [])) xb := fun y5 y6 y7 y8 x str es hx => by
                subst es
                have np := new_part (a := a) (b := b) cc shw9 (fun z => (hf9 z).1) hx
                have pa := parts_add qn (by omega) qa qb np
                refine ⟨y5, y6, y7, y8, parts ++ [x], ms9, rfl, ?_, ?_, ?_, ?_, ml9, fun z => (hf9 z).2, by rw [List.length_append, qn]; rfl, pa.1, pa.2⟩
                · intro b' o' n' e'
                  rw [upd_ne (fun z => by rw [z, hPH] at e'; cases e')]
                  exact off9 b' o' n' e'
                · rw [upd_ne nLP]; exact hL9
                · rw [upd_same, List.map_append]; rfl
                · rw [upd_ne nPm.symm]; exact hm9
              have hs9 := shw_small shw9 okc (by omega)
              have hpar : Str.ofString "(" ++ st s9 ++ Str.ofString ")" = st (paren s9) := strExt (by simp only [app_list, open1, shut1, st_list]; simp [paren])
              refine ite2 (fun q8 => ?_) (fun q8 => ?_)
              · refine ⟨_, rfl, _, _, rfl, rfl, by rw [← strLen_append]; (apply sl; (try simp only [app_list, empty_list, blank_list, open1, shut1, List.length_append, List.length_nil, List.length_cons, st_list]); omega), _, _, rfl, rfl, by rw [← strLen_append]; (apply sl; (try simp only [app_list, empty_list, blank_list, open1, shut1, List.length_append, List.length_nil, List.length_cons, st_list]); omega), Pp, _, _, rfl, rfl, hP9, hlenP, ?_⟩
                exact fin _ _ _ _ (paren s9) _ (congrArg V.str hpar) (.inl ⟨rfl, fun _ => NB q8⟩)
              · refine ⟨_, rfl, rfl, _, rfl, ?_⟩
                refine ite2 (fun q6 => ?_) (fun q6 => ?_)
                · refine ⟨_, rfl, _, _, rfl, rfl, by rw [← strLen_append]; (apply sl; (try simp only [app_list, empty_list, blank_list, open1, shut1, List.length_append, List.length_nil, List.length_cons, st_list]); omega), _, _, rfl, rfl, by rw [← strLen_append]; (apply sl; (try simp only [app_list, empty_list, blank_list, open1, shut1, List.length_append, List.length_nil, List.length_cons, st_list]); omega), Pp, _, _, rfl, rfl, hP9, hlenP, ?_⟩
                  refine fin _ _ _ _ (paren s9) _ (congrArg V.str hpar) (.inl ⟨rfl, fun z => ?_⟩)
                  have h6 := of_decide_eq_true q6
                  injection h6 with h6
                  have h7 := (hz z).2
                  omega
                · refine ⟨_, rfl, Pp, _, _, rfl, rfl, hP9, hlenP, ?_⟩
                  exact fin _ _ _ _ s9 _ rfl (.inr ⟨rfl, NN q8⟩)
            · have qs : ¬ c.str < o.str := by simp only [decide_eq_true_eq] at q; omega
              refine ⟨_, rfl, rfl, _, rfl, ?_⟩
              refine ite2 (fun q5 => ?_) (fun q5 => ?_)
              · have hi1 : i = 1 := by
                  have h5 := of_decide_eq_true q5
                  injection h5 with h5
                  omega
                refine ⟨_, rfl, _, rfl, t, _, _, vc, rfl, rfl, .inl (.inl (keepT offH4 _ _ ha)), hat offH4, vc, c, rfl, rc.by (keepT offH4), fun H5 s5 => ?_⟩
                refine ⟨_, rfl, rfl, ?_⟩
                have off9 : Off m H H5 := offH4.trans (Same.off s5)
                have hP9 := s5 _ _ hP4
                have hL9 := s5 _ _ hL4
                have hm9 := s5 _ _ hm4
                have NB : decide (V.int (c.str : Int) = V.int (o.str : Int)) = true → c.str < o.str ∨ (i = 1 ∧ c.str = o.str) := fun z => .inr ⟨hi1, by have h5 := of_decide_eq_true z; injection h5 with h5; omega⟩
                have NN : ¬ decide (V.int (c.str : Int) = V.int (o.str : Int)) = true → ¬ (c.str < o.str ∨ (i = 1 ∧ c.str = o.str)) := fun z w => z (decide_eq_true (by rw [show c.str = o.str by omega]))
                generalize H5 = H9 at *
                refine ⟨_, rfl, .inl ⟨rfl, _, SqL.of hP9⟩, _, rfl, _, rfl, ?_⟩
                have hlenP : (parts.map fun x => V.str (st x)).length < sizeLine := by rw [List.length_map, sizeLine_eq]; omega
                have fin : ∀ (y5 y6 y7 y8 : Option V) (x : List Nat) (str : V), str = .str (st x) → ((x = paren s9 ∧ (ms = [] → c.str < o.str ∨ (i = 1 ∧ c.str = o.str))) ∨ (x = s9 ∧ ¬ (c.str < o.str ∨ (i = 1 ∧ c.str = o.str)))) →
                    ∃ (x5' x6' x7' x8' : Option V) (parts' : List (List Nat)) (ms'' : List Int),
                        [some (.ref t), some (.ref m), some (.str o.mark), some (.int o.str), some (.ref Pp), y5, y6, y7, y8] = [some (.ref t), some (.ref m), some (.str o.mark), some (.int o.str), some (.ref Pp), x5', x6', x7', x8'] ∧ Off m H (upd H9 Pp (.lst ((parts.map fun x => V.str (st x)) ++ [str]))) ∧ (upd H9 Pp (.lst ((parts.map fun x => V.str (st x)) ++ [str]))) L = some (.lst [.int 1, .int 2]) ∧
                        (upd H9 Pp (.lst ((parts.map fun x => V.str (st x)) ++ [str]))) Pp = some (.lst (parts'.map fun x => V.str (st x))) ∧ (upd H9 Pp (.lst ((parts.map fun x => V.str (st x)) ++ [str]))) m = some (.lst (ms''.map V.int)) ∧ ms''.length ≤ 16 ∧ (ms = [] → ms'' = []) ∧ parts'.length = i + 1 ∧
                        (∀ xa, parts'[0]? = some xa → PartL o a (decide (ms = [])) xa) ∧ ∀ xb, parts'[1]? = some xb → PartR o b (decide (ms = [])) xb := fun y5 y6 y7 y8 x str es hx => by
                  subst es
                  have np := new_part (a := a) (b := b) cc shw9 (fun z => (hf9 z).1) hx
                  have pa := parts_add qn (by omega) qa qb np
                  refine ⟨y5, y6, y7, y8, parts ++ [x], ms9, rfl, ?_, ?_, ?_, ?_, ml9, fun z => (hf9 z).2, by rw [List.length_append, qn]; rfl, pa.1, pa.2⟩
                  · intro b' o' n' e'
                    rw [upd_ne (fun z => by rw [z, hPH] at e'; cases e')]
                    exact off9 b' o' n' e'
                  · rw [upd_ne nLP]; exact hL9
                  · rw [upd_same, List.map_append]; rfl
                  · rw [upd_ne nPm.symm]; exact hm9
                have hs9 := shw_small shw9 okc (by omega)
                have hpar : Str.ofString "(" ++ st s9 ++ Str.ofString ")" = st (paren s9) := strExt (by simp only [app_list, open1, shut1, st_list]; simp [paren])
                refine ite2 (fun q8 => ?_) (fun q8 => ?_)
                · refine ⟨_, rfl, _, _, rfl, rfl, by rw [← strLen_append]; (apply sl; (try simp only [app_list, empty_list, blank_list, open1, shut1, List.length_append, List.length_nil, List.length_cons, st_list]); omega), _, _, rfl, rfl, by rw [← strLen_append]; (apply sl; (try simp only [app_list, empty_list, blank_list, open1, shut1, List.length_append, List.length_nil, List.length_cons, st_list]); omega), Pp, _, _, rfl, rfl, hP9, hlenP, ?_⟩
                  exact fin _ _ _ _ (paren s9) _ (congrArg V.str hpar) (.inl ⟨rfl, fun _ => NB q8⟩)
                · refine ⟨_, rfl, rfl, _, rfl, ?_⟩
                  refine ite2 (fun q6 => ?_) (fun q6 => ?_)
                  · refine ⟨_, rfl, _, _, rfl, rfl, by rw [← strLen_append]; (apply sl; (try simp only [app_list, empty_list, blank_list, open1, shut1, List.length_append, List.length_nil, List.length_cons, st_list]); omega), _, _, rfl, rfl, by rw [← strLen_append]; (apply sl; (try simp only [app_list, empty_list, blank_list, open1, shut1, List.length_append, List.length_nil, List.length_cons, st_list]); omega), Pp, _, _, rfl, rfl, hP9, hlenP, ?_⟩
                    refine fin _ _ _ _ (paren s9) _ (congrArg V.str hpar) (.inl ⟨rfl, fun z => ?_⟩)
                    have h6 := of_decide_eq_true q6
                    injection h6 with h6
                    have h7 := (hz z).2
                    omega
                  · refine ⟨_, rfl, Pp, _, _, rfl, rfl, hP9, hlenP, ?_⟩
                    exact fin _ _ _ _ s9 _ rfl (.inr ⟨rfl, NN q8⟩)
              · have hi1 : ¬ i = 1 := fun z => q5 (decide_eq_true (by rw [z]; rfl))
                have off9 := offH4
                have hP9 := hP4
                have hL9 := hL4
                have hm9 := hm4
                have NB : false = true → c.str < o.str ∨ (i = 1 ∧ c.str = o.str) := fun z => by cases z
                have NN : ¬ false = true → ¬ (c.str < o.str ∨ (i = 1 ∧ c.str = o.str)) := fun _ => by omega
                have e5 : decide (V.int ((i + 1 : Nat) : Int) = V.int 2) = false := by simpa using q5
                generalize H4 = H9 at *
                refine ⟨_, rfl, .inl ⟨rfl, _, SqL.of hP9⟩, _, rfl, _, rfl, ?_⟩
                have hlenP : (parts.map fun x => V.str (st x)).length < sizeLine := by rw [List.length_map, sizeLine_eq]; omega
                have fin : ∀ (y5 y6 y7 y8 : Option V) (x : List Nat) (str : V), str = .str (st x) → ((x = paren s9 ∧ (ms = [] → c.str < o.str ∨ (i = 1 ∧ c.str = o.str))) ∨ (x = s9 ∧ ¬ (c.str < o.str ∨ (i = 1 ∧ c.str = o.str)))) →
                    ∃ (x5' x6' x7' x8' : Option V) (parts' : List (List Nat)) (ms'' : List Int),
                        [some (.ref t), some (.ref m), some (.str o.mark), some (.int o.str), some (.ref Pp), y5, y6, y7, y8] = [some (.ref t), some (.ref m), some (.str o.mark), some (.int o.str), some (.ref Pp), x5', x6', x7', x8'] ∧ Off m H (upd H9 Pp (.lst ((parts.map fun x => V.str (st x)) ++ [str]))) ∧ (upd H9 Pp (.lst ((parts.map fun x => V.str (st x)) ++ [str]))) L = some (.lst [.int 1, .int 2]) ∧
                        (upd H9 Pp (.lst ((parts.map fun x => V.str (st x)) ++ [str]))) Pp = some (.lst (parts'.map fun x => V.str (st x))) ∧ (upd H9 Pp (.lst ((parts.map fun x => V.str (st x)) ++ [str]))) m = some (.lst (ms''.map V.int)) ∧ ms''.length ≤ 16 ∧ (ms = [] → ms'' = []) ∧ parts'.length = i + 1 ∧
                        (∀ xa, parts'[0]? = some xa → PartL o a (decide (ms = [])) xa) ∧ ∀ xb, parts'[1]? = some xb → PartR o b (decide (ms = [])) xb := fun y5 y6 y7 y8 x str es hx => by
                  subst es
                  have np := new_part (a := a) (b := b) cc shw9 (fun z => (hf9 z).1) hx
                  have pa := parts_add qn (by omega) qa qb np
                  refine ⟨y5, y6, y7, y8, parts ++ [x], ms9, rfl, ?_, ?_, ?_, ?_, ml9, fun z => (hf9 z).2, by rw [List.length_append, qn]; rfl, pa.1, pa.2⟩
                  · intro b' o' n' e'
                    rw [upd_ne (fun z => by rw [z, hPH] at e'; cases e')]
                    exact off9 b' o' n' e'
                  · rw [upd_ne nLP]; exact hL9
                  · rw [upd_same, List.map_append]; rfl
                  · rw [upd_ne nPm.symm]; exact hm9
                have hs9 := shw_small shw9 okc (by omega)
                have hpar : Str.ofString "(" ++ st s9 ++ Str.ofString ")" = st (paren s9) := strExt (by simp only [app_list, open1, shut1, st_list]; simp [paren])
                refine ite2 (fun q8 => ?_) (fun q8 => ?_)
                · refine ⟨_, rfl, _, _, rfl, rfl, by rw [← strLen_append]; (apply sl; (try simp only [app_list, empty_list, blank_list, open1, shut1, List.length_append, List.length_nil, List.length_cons, st_list]); omega), _, _, rfl, rfl, by rw [← strLen_append]; (apply sl; (try simp only [app_list, empty_list, blank_list, open1, shut1, List.length_append, List.length_nil, List.length_cons, st_list]); omega), Pp, _, _, rfl, rfl, hP9, hlenP, ?_⟩
                  exact fin _ _ _ _ (paren s9) _ (congrArg V.str hpar) (.inl ⟨rfl, fun _ => NB q8⟩)
                · refine ⟨_, rfl, rfl, _, rfl, ?_⟩
                  refine ite2 (fun q6 => ?_) (fun q6 => ?_)
                  · refine ⟨_, rfl, _, _, rfl, rfl, by rw [← strLen_append]; (apply sl; (try simp only [app_list, empty_list, blank_list, open1, shut1, List.length_append, List.length_nil, List.length_cons, st_list]); omega), _, _, rfl, rfl, by rw [← strLen_append]; (apply sl; (try simp only [app_list, empty_list, blank_list, open1, shut1, List.length_append, List.length_nil, List.length_cons, st_list]); omega), Pp, _, _, rfl, rfl, hP9, hlenP, ?_⟩
                    refine fin _ _ _ _ (paren s9) _ (congrArg V.str hpar) (.inl ⟨rfl, fun z => ?_⟩)
                    have h6 := of_decide_eq_true q6
                    injection h6 with h6
                    have h7 := (hz z).2
                    omega
                  · refine ⟨_, rfl, Pp, _, _, rfl, rfl, hP9, hlenP, ?_⟩
                    exact fin _ _ _ _ s9 _ rfl (.inr ⟨rfl, NN q8⟩)
          · have hnil : ms' = [] := by simpa using cm
            have hz : ms = [] → ms' = [] ∧ (0 : Int) = 0 := fun z => ⟨hnil, rfl⟩
            have hms := hmE
            have offS := offE
            have hPs := hPE
            have hLs := hLE
            have hl1 := ql
            generalize upd H' Em (.lst []) = Hs at *
            refine ⟨_, rfl, _, rfl, t, _, _, vc, rfl, rfl, .inl (.inl (keepT offS _ _ ha)), hat offS, _, rfl, vc, c, m, _, rfl, rc.by (keepT offS), okc, dc, by omega, hms, hl1, fun H3 s9 ms9 off3 hm3 ml9 shw9 hf3 => ?_⟩
            have hf9 : ms = [] → s9 = fmt c ∧ ms9 = [] := fun z => hf3 (hz z).1
            have offH3 : Off m H H3 := offS.trans off3
            refine ⟨_, rfl, _, rfl, t, _, _, vc, rfl, rfl, .inl (.inl (keepT offH3 _ _ ha)), hat offH3, vc, c, rfl, rc.by (keepT offH3), fun H4 s4 => ?_⟩
            have offH4 : Off m H H4 := offH3.trans (Same.off s4)
            have hP4 : H4 Pp = some (.lst (parts.map fun x => V.str (st x))) := s4 _ _ (off3 _ _ nPm hPs)
            have hL4 : H4 L = some (.lst [.int 1, .int 2]) := s4 _ _ (off3 _ _ nLm hLs)
            have hm4 := s4 _ _ hm3
            refine ⟨_, rfl, _, _, rfl, rfl, _, rfl, ?_⟩
            refine ite2 (fun q => ?_) (fun q => ?_)
            · have off9 := offH4
              have hP9 := hP4
              have hL9 := hL4
              have hm9 := hm4
              have qs : c.str < o.str := by have := of_decide_eq_true q; omega
              have NB : true = true → c.str < o.str ∨ (i = 1 ∧ c.str = o.str) := fun _ => .inl qs
              have NN : ¬ true = true → ¬ (c.str < o.str ∨ (i = 1 ∧ c.str = o.str)) := fun z => absurd rfl z
              generalize H4 = H9 at *
              refine ⟨_, rfl, .inl ⟨rfl, _, SqL.of hP9⟩, _, rfl, _, rfl, ?_⟩
              have hlenP : (parts.map fun x => V.str (st x)).length < sizeLine := by rw [List.length_map, sizeLine_eq]; omega
              have fin : ∀ (y5 y6 y7 y8 : Option V) (x : List Nat) (str : V), str = .str (st x) → ((x = paren s9 ∧ (ms = [] → c.str < o.str ∨ (i = 1 ∧ c.str = o.str))) ∨ (x = s9 ∧ ¬ (c.str < o.str ∨ (i = 1 ∧ c.str = o.str)))) →
                  ∃ (x5' x6' x7' x8' : Option V) (parts' : List (List Nat)) (ms'' : List Int),
                      [some (.ref t), some (.ref m), some (.str o.mark), some (.int o.str), some (.ref Pp), y5, y6, y7, y8] = [some (.ref t), some (.ref m), some (.str o.mark), some (.int o.str), some (.ref Pp), x5', x6', x7', x8'] ∧ Off m H (upd H9 Pp (.lst ((parts.map fun x => V.str (st x)) ++ [str]))) ∧ (upd H9 Pp (.lst ((parts.map fun x => V.str (st x)) ++ [str]))) L = some (.lst [.int 1, .int 2]) ∧
                      (upd H9 Pp (.lst ((parts.map fun x => V.str (st x)) ++ [str]))) Pp = some (.lst (parts'.map fun x => V.str (st x))) ∧ (upd H9 Pp (.lst ((parts.map fun x => V.str (st x)) ++ [str]))) m = some (.lst (ms''.map V.int)) ∧ ms''.length ≤ 16 ∧ (ms = [] → ms'' = []) ∧ parts'.length = i + 1 ∧
                      (∀ xa, parts'[0]? = some xa → PartL o a (decide (ms = [])) xa) ∧ ∀ xb, parts'[1]? = some xb → PartR o b (decide (ms = [])) xb := fun y5 y6 y7 y8 x str es hx => by
                subst es
                have np := new_part (a := a) (b := b) cc shw9 (fun z => (hf9 z).1) hx
                have pa := parts_add qn (by omega) qa qb np
                refine ⟨y5, y6, y7, y8, parts ++ [x], ms9, rfl, ?_, ?_, ?_, ?_, ml9, fun z => (hf9 z).2, by rw [List.length_append, qn]; rfl, pa.1, pa.2⟩
                · intro b' o' n' e'
                  rw [upd_ne (fun z => by rw [z, hPH] at e'; cases e')]
                  exact off9 b' o' n' e'
                · rw [upd_ne nLP]; exact hL9
                · rw [upd_same, List.map_append]; rfl
                · rw [upd_ne nPm.symm]; exact hm9
              have hs9 := shw_small shw9 okc (by omega)
              have hpar : Str.ofString "(" ++ st s9 ++ Str.ofString ")" = st (paren s9) := strExt (by simp only [app_list, open1, shut1, st_list]; simp [paren])
              refine ite2 (fun q8 => ?_) (fun q8 => ?_)
              · refine ⟨_, rfl, _, _, rfl, rfl, by rw [← strLen_append]; (apply sl; (try simp only [app_list, empty_list, blank_list, open1, shut1, List.length_append, List.length_nil, List.length_cons, st_list]); omega), _, _, rfl, rfl, by rw [← strLen_append]; (apply sl; (try simp only [app_list, empty_list, blank_list, open1, shut1, List.length_append, List.length_nil, List.length_cons, st_list]); omega), Pp, _, _, rfl, rfl, hP9, hlenP, ?_⟩
                exact fin _ _ _ _ (paren s9) _ (congrArg V.str hpar) (.inl ⟨rfl, fun _ => NB q8⟩)
              · refine ⟨_, rfl, rfl, _, rfl, ?_⟩
                refine ite2 (fun q6 => ?_) (fun q6 => ?_)
                · refine ⟨_, rfl, _, _, rfl, rfl, by rw [← strLen_append]; (apply sl; (try simp only [app_list, empty_list, blank_list, open1, shut1, List.length_append, List.length_nil, List.length_cons, st_list]); omega), _, _, rfl, rfl, by rw [← strLen_append]; (apply sl; (try simp only [app_list, empty_list, blank_list, open1, shut1, List.length_append, List.length_nil, List.length_cons, st_list]); omega), Pp, _, _, rfl, rfl, hP9, hlenP, ?_⟩
                  refine fin _ _ _ _ (paren s9) _ (congrArg V.str hpar) (.inl ⟨rfl, fun z => ?_⟩)
                  have h6 := of_decide_eq_true q6
                  injection h6 with h6
                  have h7 := (hz z).2
                  omega
                · refine ⟨_, rfl, Pp, _, _, rfl, rfl, hP9, hlenP, ?_⟩
                  exact fin _ _ _ _ s9 _ rfl (.inr ⟨rfl, NN q8⟩)
            · have qs : ¬ c.str < o.str := by simp only [decide_eq_true_eq] at q; omega
              refine ⟨_, rfl, rfl, _, rfl, ?_⟩
              refine ite2 (fun q5 => ?_) (fun q5 => ?_)
              · have hi1 : i = 1 := by
                  have h5 := of_decide_eq_true q5
                  injection h5 with h5
                  omega
                refine ⟨_, rfl, _, rfl, t, _, _, vc, rfl, rfl, .inl (.inl (keepT offH4 _ _ ha)), hat offH4, vc, c, rfl, rc.by (keepT offH4), fun H5 s5 => ?_⟩
                refine ⟨_, rfl, rfl, ?_⟩
                have off9 : Off m H H5 := offH4.trans (Same.off s5)
                have hP9 := s5 _ _ hP4
                have hL9 := s5 _ _ hL4
                have hm9 := s5 _ _ hm4
                have NB : decide (V.int (c.str : Int) = V.int (o.str : Int)) = true → c.str < o.str ∨ (i = 1 ∧ c.str = o.str) := fun z => .inr ⟨hi1, by have h5 := of_decide_eq_true z; injection h5 with h5; omega⟩
                have NN : ¬ decide (V.int (c.str : Int) = V.int (o.str : Int)) = true → ¬ (c.str < o.str ∨ (i = 1 ∧ c.str = o.str)) := fun z w => z (decide_eq_true (by rw [show c.str = o.str by omega]))
                generalize H5 = H9 at *
                refine ⟨_, rfl, .inl ⟨rfl, _, SqL.of hP9⟩, _, rfl, _, rfl, ?_⟩
                have hlenP : (parts.map fun x => V.str (st x)).length < sizeLine := by rw [List.length_map, sizeLine_eq]; omega
                have fin : ∀ (y5 y6 y7 y8 : Option V) (x : List Nat) (str : V), str = .str (st x) → ((x = paren s9 ∧ (ms = [] → c.str < o.str ∨ (i = 1 ∧ c.str = o.str))) ∨ (x = s9 ∧ ¬ (c.str < o.str ∨ (i = 1 ∧ c.str = o.str)))) →
                    ∃ (x5' x6' x7' x8' : Option V) (parts' : List (List Nat)) (ms'' : List Int),
                        [some (.ref t), some (.ref m), some (.str o.mark), some (.int o.str), some (.ref Pp), y5, y6, y7, y8] = [some (.ref t), some (.ref m), some (.str o.mark), some (.int o.str), some (.ref Pp), x5', x6', x7', x8'] ∧ Off m H (upd H9 Pp (.lst ((parts.map fun x => V.str (st x)) ++ [str]))) ∧ (upd H9 Pp (.lst ((parts.map fun x => V.str (st x)) ++ [str]))) L = some (.lst [.int 1, .int 2]) ∧
                        (upd H9 Pp (.lst ((parts.map fun x => V.str (st x)) ++ [str]))) Pp = some (.lst (parts'.map fun x => V.str (st x))) ∧ (upd H9 Pp (.lst ((parts.map fun x => V.str (st x)) ++ [str]))) m = some (.lst (ms''.map V.int)) ∧ ms''.length ≤ 16 ∧ (ms = [] → ms'' = []) ∧ parts'.length = i + 1 ∧
                        (∀ xa, parts'[0]? = some xa → PartL o a (decide (ms = [])) xa) ∧ ∀ xb, parts'[1]? = some xb → PartR o b (decide (ms = [])) xb := fun y5 y6 y7 y8 x str es hx => by
                  subst es
                  have np := new_part (a := a) (b := b) cc shw9 (fun z => (hf9 z).1) hx
                  have pa := parts_add qn (by omega) qa qb np
                  refine ⟨y5, y6, y7, y8, parts ++ [x], ms9, rfl, ?_, ?_, ?_, ?_, ml9, fun z => (hf9 z).2, by rw [List.length_append, qn]; rfl, pa.1, pa.2⟩
                  · intro b' o' n' e'
                    rw [upd_ne (fun z => by rw [z, hPH] at e'; cases e')]
                    exact off9 b' o' n' e'
                  · rw [upd_ne nLP]; exact hL9
                  · rw [upd_same, List.map_append]; rfl
                  · rw [upd_ne nPm.symm]; exact hm9
                have hs9 := shw_small shw9 okc (by omega)
                have hpar : Str.ofString "(" ++ st s9 ++ Str.ofString ")" = st (paren s9) := strExt (by simp only [app_list, open1, shut1, st_list]; simp [paren])
                refine ite2 (fun q8 => ?_) (fun q8 => ?_)
                · refine ⟨_, rfl, _, _, rfl, rfl, by rw [← strLen_append]; (apply sl; (try simp only [app_list, empty_list, blank_list, open1, shut1, List.length_append, List.length_nil, List.length_cons, st_list]); omega), _, _, rfl, rfl, by rw [← strLen_append]; (apply sl; (try simp only [app_list, empty_list, blank_list, open1, shut1, List.length_append, List.length_nil, List.length_cons, st_list]); omega), Pp, _, _, rfl, rfl, hP9, hlenP, ?_⟩
                  exact fin _ _ _ _ (paren s9) _ (congrArg V.str hpar) (.inl ⟨rfl, fun _ => NB q8⟩)
                · refine ⟨_, rfl, rfl, _, rfl, ?_⟩
                  refine ite2 (fun q6 => ?_) (fun q6 => ?_)
                  · refine ⟨_, rfl, _, _, rfl, rfl, by rw [← strLen_append]; (apply sl; (try simp only [app_list, empty_list, blank_list, open1, shut1, List.length_append, List.length_nil, List.length_cons, st_list]); omega), _, _, rfl, rfl, by rw [← strLen_append]; (apply sl; (try simp only [app_list, empty_list, blank_list, open1, shut1, List.length_append, List.length_nil, List.length_cons, st_list]); omega), Pp, _, _, rfl, rfl, hP9, hlenP, ?_⟩
                    refine fin _ _ _ _ (paren s9) _ (congrArg V.str hpar) (.inl ⟨rfl, fun z => ?_⟩)
                    have h6 := of_decide_eq_true q6
                    injection h6 with h6
                    have h7 := (hz z).2
                    omega
                  · refine ⟨_, rfl, Pp, _, _, rfl, rfl, hP9, hlenP, ?_⟩
                    exact fin _ _ _ _ s9 _ rfl (.inr ⟨rfl, NN q8⟩)
              · have hi1 : ¬ i = 1 := fun z => q5 (decide_eq_true (by rw [z]; rfl))
                have off9 := offH4
                have hP9 := hP4
                have hL9 := hL4
                have hm9 := hm4
                have NB : false = true → c.str < o.str ∨ (i = 1 ∧ c.str = o.str) := fun z => by cases z
                have NN : ¬ false = true → ¬ (c.str < o.str ∨ (i = 1 ∧ c.str = o.str)) := fun _ => by omega
                have e5 : decide (V.int ((i + 1 : Nat) : Int) = V.int 2) = false := by simpa using q5
                generalize H4 = H9 at *
                refine ⟨_, rfl, .inl ⟨rfl, _, SqL.of hP9⟩, _, rfl, _, rfl, ?_⟩
                have hlenP : (parts.map fun x => V.str (st x)).length < sizeLine := by rw [List.length_map, sizeLine_eq]; omega
                have fin : ∀ (y5 y6 y7 y8 : Option V) (x : List Nat) (str : V), str = .str (st x) → ((x = paren s9 ∧ (ms = [] → c.str < o.str ∨ (i = 1 ∧ c.str = o.str))) ∨ (x = s9 ∧ ¬ (c.str < o.str ∨ (i = 1 ∧ c.str = o.str)))) →
                    ∃ (x5' x6' x7' x8' : Option V) (parts' : List (List Nat)) (ms'' : List Int),
                        [some (.ref t), some (.ref m), some (.str o.mark), some (.int o.str), some (.ref Pp), y5, y6, y7, y8] = [some (.ref t), some (.ref m), some (.str o.mark), some (.int o.str), some (.ref Pp), x5', x6', x7', x8'] ∧ Off m H (upd H9 Pp (.lst ((parts.map fun x => V.str (st x)) ++ [str]))) ∧ (upd H9 Pp (.lst ((parts.map fun x => V.str (st x)) ++ [str]))) L = some (.lst [.int 1, .int 2]) ∧
                        (upd H9 Pp (.lst ((parts.map fun x => V.str (st x)) ++ [str]))) Pp = some (.lst (parts'.map fun x => V.str (st x))) ∧ (upd H9 Pp (.lst ((parts.map fun x => V.str (st x)) ++ [str]))) m = some (.lst (ms''.map V.int)) ∧ ms''.length ≤ 16 ∧ (ms = [] → ms'' = []) ∧ parts'.length = i + 1 ∧
                        (∀ xa, parts'[0]? = some xa → PartL o a (decide (ms = [])) xa) ∧ ∀ xb, parts'[1]? = some xb → PartR o b (decide (ms = [])) xb := fun y5 y6 y7 y8 x str es hx => by
                  subst es
                  have np := new_part (a := a) (b := b) cc shw9 (fun z => (hf9 z).1) hx
                  have pa := parts_add qn (by omega) qa qb np
                  refine ⟨y5, y6, y7, y8, parts ++ [x], ms9, rfl, ?_, ?_, ?_, ?_, ml9, fun z => (hf9 z).2, by rw [List.length_append, qn]; rfl, pa.1, pa.2⟩
                  · intro b' o' n' e'
                    rw [upd_ne (fun z => by rw [z, hPH] at e'; cases e')]
                    exact off9 b' o' n' e'
                  · rw [upd_ne nLP]; exact hL9
                  · rw [upd_same, List.map_append]; rfl
                  · rw [upd_ne nPm.symm]; exact hm9
                have hs9 := shw_small shw9 okc (by omega)
                have hpar : Str.ofString "(" ++ st s9 ++ Str.ofString ")" = st (paren s9) := strExt (by simp only [app_list, open1, shut1, st_list]; simp [paren])
                refine ite2 (fun q8 => ?_) (fun q8 => ?_)
                · refine ⟨_, rfl, _, _, rfl, rfl, by rw [← strLen_append]; (apply sl; (try simp only [app_list, empty_list, blank_list, open1, shut1, List.length_append, List.length_nil, List.length_cons, st_list]); omega), _, _, rfl, rfl, by rw [← strLen_append]; (apply sl; (try simp only [app_list, empty_list, blank_list, open1, shut1, List.length_append, List.length_nil, List.length_cons, st_list]); omega), Pp, _, _, rfl, rfl, hP9, hlenP, ?_⟩
                  exact fin _ _ _ _ (paren s9) _ (congrArg V.str hpar) (.inl ⟨rfl, fun _ => NB q8⟩)
                · refine ⟨_, rfl, rfl, _, rfl, ?_⟩
                  refine ite2 (fun q6 => ?_) (fun q6 => ?_)
                  · refine ⟨_, rfl, _, _, rfl, rfl, by rw [← strLen_append]; (apply sl; (try simp only [app_list, empty_list, blank_list, open1, shut1, List.length_append, List.length_nil, List.length_cons, st_list]); omega), _, _, rfl, rfl, by rw [← strLen_append]; (apply sl; (try simp only [app_list, empty_list, blank_list, open1, shut1, List.length_append, List.length_nil, List.length_cons, st_list]); omega), Pp, _, _, rfl, rfl, hP9, hlenP, ?_⟩
                    refine fin _ _ _ _ (paren s9) _ (congrArg V.str hpar) (.inl ⟨rfl, fun z => ?_⟩)
                    have h6 := of_decide_eq_true q6
                    injection h6 with h6
                    have h7 := (hz z).2
                    omega
                  · refine ⟨_, rfl, Pp, _, _, rfl, rfl, hP9, hlenP, ?_⟩
                    exact fin _ _ _ _ s9 _ rfl (.inr ⟨rfl, NN q8⟩)
        · rintro σ H' ⟨x5, x6, x7, x8, parts, ms', rfl, off, qL, qP, qm, ql, qe, qn, qa, qb⟩
          match parts, qn, qP, qa, qb with
          | [xa, xb], _, qP, qa, qb =>
            have hA := qa xa rfl
            have hB := qb xb rfl
            obtain ⟨sw, se⟩ := shw_op hA hB
            have hw := shw_small sw ok (by omega)
            rw [List.length_append, List.length_append] at hw
            have hmk := mark_len o
            refine ⟨_, rfl, Pp, _, 0, _, rfl, rfl, SqL.of qP, atI_nat (j := 0) rfl, _, _, rfl, rfl, ?_, _, rfl, _, _, rfl, rfl, ?_, _, _, rfl, rfl, ?_, _, rfl, Pp, _, 1, _, rfl, rfl, SqL.of qP, atI_nat (j := 1) rfl, _, _, rfl, rfl, ?_, ?_⟩
            · rw [← strLen_append]; (apply sl; (try simp only [app_list, empty_list, blank_list, open1, shut1, List.length_append, List.length_nil, List.length_cons, st_list]); omega)
            · rw [← strLen_append]; (apply sl; (try simp only [app_list, empty_list, blank_list, open1, shut1, List.length_append, List.length_nil, List.length_cons, st_list]); omega)
            · rw [← strLen_append]; (apply sl; (try simp only [app_list, empty_list, blank_list, open1, shut1, List.length_append, List.length_nil, List.length_cons, st_list]); omega)
            · rw [← strLen_append]; (apply sl; (try simp only [app_list, empty_list, blank_list, open1, shut1, List.length_append, List.length_nil, List.length_cons, st_list]); omega)
            · have e : st xa ++ Str.ofString " " ++ o.mark ++ Str.ofString " " ++ st xb = st (xa ++ o.sign ++ xb) := by
                apply strExt
                rw [← mark_list]
                simp only [app_list, blank_list, st_list]
                simp
              rw [e]
              exact k H' _ ms' off qm ql sw fun z => ⟨se (decide_eq_true z), qe z⟩
end
end Lg

namespace Lg
open PySem PySem.Spec PyProof.Rows L2
abbrev names : List Str := ["_law_script", "_law_tape_here", "_law_turn", "_law_one_here", "_law_text", "_law_more", "_law_other", "_law_part"]
theorem scLaw : FnScope names ["_law_script"] (defScope sLaw) := ⟨rfl, rfl, rfl, by decide +kernel, rfl, by decide +kernel, by decide +kernel⟩
/-! ### the data of an expression -/
theorem str_ok {z : List Nat} (h : ∀ c ∈ z, Let c) (hl : z.length ≤ 8) : PyData.strOk (st z) = true := by
  unfold PyData.strOk
  rw [List.all_toArray, List.all_eq_true]
  intro c hc
  obtain ⟨h1, h2⟩ := h c hc
  exact decide_eq_true (by omega)
theorem name_let (o : Op) : ∀ c ∈ nm o, Let c := nm_let o
theorem dat_lay : ∀ e : E, e.Ok → (dat e).canLay0 = true
  | .word z, ok => str_ok ok.all ok.len
  | .num n, ok => rfl
  | .ask q z, ok => by
    show (PyData.canLay0 (.str (st q)) && (PyData.canLay0 (.str (st z)) && true)) = true
    rw [show PyData.canLay0 (.str (st q)) = true from str_ok ok.1.word.all ok.1.word.len, show PyData.canLay0 (.str (st z)) = true from str_ok ok.2.all ok.2.len]
    rfl
  | .op o a b, ok => by
    show (PyData.canLay0 (.str o.name) && (PyData.canLay0 (dat a) && (PyData.canLay0 (dat b) && true))) = true
    rw [dat_lay a ok.1, dat_lay b ok.2, ← name_list, show PyData.canLay0 (.str (st (nm o))) = true from str_ok (nm_let o) (by cases o <;> decide +kernel)]
    rfl
theorem dat_depth : ∀ e : E, (dat e).depth ≤ e.dep
  | .word z => by show 0 ≤ 1; decide
  | .num n => by show 0 ≤ 1; decide
  | .ask q z => by show max 0 (max 0 0) + 1 ≤ 1; decide
  | .op o a b => by
    show max 0 (max (dat a).depth (max (dat b).depth 0)) + 1 ≤ max a.dep b.dep + 1
    have h1 := dat_depth a
    have h2 := dat_depth b
    omega
theorem dat_shaped {e : E} (ok : e.Ok) (d : e.dep ≤ 6) : SeqAt.shaped (dat e) = true := by
  unfold SeqAt.shaped
  rw [dat_lay e ok, decide_eq_true (by have := dat_depth e; omega)]
  rfl
theorem dat_showable : ∀ e : E, e.Ok → (dat e).showable = true
  | .word z, ok => rfl
  | .num n, ok => by
    show decide (((n : Int)).natAbs.log2 < 1920) = true
    exact decide_eq_true (log_small ok.lt)
  | .ask q z, ok => rfl
  | .op o a b, ok => by
    show (true && ((dat a).showable && ((dat b).showable && true))) = true
    rw [dat_showable a ok.1, dat_showable b ok.2]
    rfl
theorem dat_nodict : ∀ e : E, (dat e).hasDict = false
  | .word z => rfl
  | .num n => rfl
  | .ask q z => rfl
  | .op o a b => by
    show (false || ((dat a).hasDict || ((dat b).hasDict || false))) = false
    rw [dat_nodict a, dat_nodict b]
    rfl
theorem rp_len : ∀ e : E, e.Ok → (rp e).length + 14 ≤ 20 * 2 ^ e.dep
  | .word z, ok => by
    have := ok.len
    show (39 :: (z ++ [39])).length + 14 ≤ 20 * 2 ^ 1
    simp
    omega
  | .num n, ok => by
    have := ok.len
    show (ntx n).length + 14 ≤ 20 * 2 ^ 1
    omega
  | .ask q z, ok => by
    have h1 := ok.1.word.len
    have h2 := ok.2.len
    show (40 :: 39 :: (q ++ 39 :: 44 :: 32 :: 39 :: (z ++ [39, 41]))).length + 14 ≤ 20 * 2 ^ 1
    simp
    omega
  | .op o a b, ok => by
    have h1 := rp_len a ok.1
    have h2 := rp_len b ok.2
    have h3 : (nm o).length ≤ 5 := by cases o <;> decide +kernel
    have e1 : 2 ^ a.dep ≤ 2 ^ (max a.dep b.dep) := Nat.pow_le_pow_right (by decide) (Nat.le_max_left _ _)
    have e2 : 2 ^ b.dep ≤ 2 ^ (max a.dep b.dep) := Nat.pow_le_pow_right (by decide) (Nat.le_max_right _ _)
    show (40 :: 39 :: (nm o ++ 39 :: 44 :: 32 :: (rp a ++ 44 :: 32 :: (rp b ++ [41])))).length + 14 ≤ 20 * 2 ^ (max a.dep b.dep + 1)
    rw [Nat.pow_succ]
    simp only [List.length_cons, List.length_append, List.length_nil]
    omega
theorem shown_fits {e : E} (ok : e.Ok) (d : e.dep ≤ 6) : (dat e).shown.length ≤ sizeLine := by
  apply sl
  rw [shown_dat e ok]
  have h := rp_len e ok
  have e1 : 2 ^ e.dep ≤ 2 ^ 6 := Nat.pow_le_pow_right (by decide) d
  have e2 : (2 : Nat) ^ 6 = 64 := by decide
  omega
def rReprE : List V → Hp → VK → Prop := fun xs H Q => ∃ (v : V) (e : E), xs = [v] ∧ Rep H v e ∧ e.Ok ∧ e.dep ≤ 6 ∧ Q (.str (dat e).shown) H
theorem call_reprE {X : Cx} {k : Nat} (hr : Room k X.A) (hgd : X.A.guards = some []) : CallR X (.builtin "repr") rReprE := by
  intro pins s σ H xs us Q I r h
  obtain ⟨v, e, rfl, rep, ok, d, q⟩ := h
  have hun := hr.units
  have hlen := shown_fits ok d
  cases rep with
  | @word z =>
    obtain ⟨u, rfl, t, rfl⟩ := vals1 r
    exact PySem.P.repr_of_str ⟨.str (reprText (st z)), H, I.tok _, ⟨_, rfl⟩, q⟩ hlen
  | @num n => exact SkE.call_repr_int pins s σ H _ us Q I r ⟨n, rfl, log_small (NumOk.lt ok), q⟩
  | @ask a q2 z ha =>
    obtain ⟨u, rfl, ru⟩ := vals1 r
    obtain ⟨as, rd⟩ := Dp.reads I (dat (.ask q2 z)) _ _ (Rep.dp (.ask ha)) ru
    obtain rfl : u = Value.ref a := ru
    exact repr_of_reads' rd (dat_showable _ ok) (fun z => by rw [dat_nodict] at z; cases z) hgd (by have := dat_depth (.ask q2 z); omega) (fun _ _ z => z) (fun h' u tk hk => ⟨.str _, H, I.kept hk, ⟨u, rfl⟩, q⟩) hlen
  | @op t o va vb a b ha ra rb =>
    obtain ⟨u, rfl, ru⟩ := vals1 r
    obtain ⟨as, rd⟩ := Dp.reads I (dat (.op o a b)) _ _ (Rep.dp (.op ha ra rb)) ru
    obtain rfl : u = Value.ref t := ru
    exact repr_of_reads' rd (dat_showable _ ok) (fun z => by rw [dat_nodict] at z; cases z) hgd (by have := dat_depth (.op o a b); omega) (fun _ _ z => z) (fun h' u tk hk => ⟨.str _, H, I.kept hk, ⟨u, rfl⟩, q⟩) hlen
end Lg

namespace Lg
open PySem PySem.Spec PyProof.Rows L2
def spLaw (K : PySem.W.Frag) : Sp := fun vs H Q _ => ∃ (a : Addr) (ns : List Int), vs = [.ref a] ∧ SqL K H a (ns.map V.int) ∧ ns.length ≤ 63 ∧ ∀ H', Q (.bl true) H'
theorem tape_off {H H' : Hp} {t D : Addr} {ns : List Int} (h : TapeOk H t) (n : t ≠ D) (off : Off D H H') (hD : H' D = some (.lst (ns.map V.int))) (hl : ns.length ≤ 1000) : TapeOk H' t := by
  obtain ⟨b, ms, i, r, s, h1, h2, h3, h4⟩ := h
  by_cases e : b = D
  · rw [e] at h1
    exact ⟨D, ns, i, r, s, off _ _ n h1, hD, hl, h4⟩
  · exact ⟨b, ms, i, r, s, off _ _ n h1, off _ _ e h2, h3, h4⟩
theorem same_off {H H0 H' : Hp} {D : Addr} (hD : H D = none) (s : Same H H0) (off : Off D H0 H') : Same H H' := fun b o e => off b o (ne_of_none e hD) (s b o e)
theorem bl_iff {p q : Prop} [Decidable p] [Decidable q] (h : p ↔ q) : V.bl (decide p) = V.bl (decide q) := congrArg V.bl (decide_eq_decide.mpr h)
/-- the texts at the law's end -/
def eMinus : E := .op .minus (.op .minus (.word (wd "a")) (.word (wd "b"))) (.word (wd "c"))
def eKnown : E := .word (wd "known")
def ePlus : E := .op .plus (.ask (wd "known") (wd "known")) (.num 1)
theorem word_a : WordOk (wd "a") := ⟨by decide +kernel, by decide +kernel, by decide +kernel⟩
theorem word_b : WordOk (wd "b") := ⟨by decide +kernel, by decide +kernel, by decide +kernel⟩
theorem word_c : WordOk (wd "c") := ⟨by decide +kernel, by decide +kernel, by decide +kernel⟩
theorem word_k : WordOk (wd "known") := ⟨by decide +kernel, by decide +kernel, by decide +kernel⟩
theorem okMinus : eMinus.Ok := ⟨⟨word_a, word_b⟩, word_c⟩
theorem okKnown : eKnown.Ok := word_k
theorem okPlus : ePlus.Ok := ⟨⟨.inl rfl, word_k⟩, num_small 1 (by decide)⟩
theorem txMinus : (Str.ofString "a - b - c").cps.toList = fmt eMinus := by decide +kernel
theorem txKnown : (Str.ofString "known").cps.toList = fmt eKnown := by decide +kernel
theorem txPlus : (Str.ofString "known known + 1").cps.toList = fmt ePlus := by decide +kernel
theorem rd_fmt {z : Str} {e : E} (h : z.cps.toList = fmt e) (ok : e.Ok) (d : e.dep ≤ 6) : Rd 24 0 (.ops 1) z.cps.toList e e.dep [] := by
  rw [h]
  have r := reads_all (ar := 0) (shw_fmt e) ok d (by omega) (r := []) (.inl rfl)
  rw [List.append_nil] at r
  exact r.mono (by omega)
theorem rd_shw {s : List Nat} {e : E} (S : Shw e s) (ok : e.Ok) (d : e.dep ≤ 6) : Rd 24 0 (.ops 1) (st s).cps.toList e e.dep [] := by
  rw [st_list]
  have r := reads_all (ar := 0) S ok d (by omega) (r := []) (.inl rfl)
  rw [List.append_nil] at r
  exact r.mono (by omega)
theorem rd_par {s : List Nat} {e : E} (S : Shw e s) (ok : e.Ok) (d : e.dep ≤ 6) : Rd 24 0 (.ops 1) (Str.ofString "((" ++ st s ++ Str.ofString "))").cps.toList e e.dep [] := by
  have h : (Str.ofString "((" ++ st s ++ Str.ofString "))").cps.toList = 40 :: 40 :: (s ++ [41, 41]) := by
    have h1 : (Str.ofString "((").cps.toList = [40, 40] := by decide +kernel
    have h2 : (Str.ofString "))").cps.toList = [41, 41] := by decide +kernel
    rw [app_list, app_list, h1, h2, st_list]
    simp
  rw [h]
  exact reads_par S ok d
theorem same_text (e e2 : E) {s : List Nat} (hs : s = fmt e) (ok : e.Ok) (ok2 : e2.Ok) (d : e.dep ≤ 6) (d2 : e2.dep ≤ 6) : V.str (st (fmt e2)) = V.str (st s) ↔ V.str (dat e2).shown = V.str (dat e).shown := by
  constructor
  · intro h
    injection h with h
    have h1 : fmt e2 = fmt e := (st_inj h).trans hs
    have h2 : e2 = e := shw_inj (shw_fmt e2) (h1 ▸ shw_fmt e) ok2 ok d2 d
    rw [h2]
  · intro h
    injection h with h
    rw [shown_inj ok2 ok h, hs]
structure Qx (K : PySem.W.Frag) (mg : Str → Option Value) (f : Addr) (fd : FuncData) : Prop where
  law : DefX K mg "law" sLaw ["_law_script"] f fd
section
variable {P : Program} {w : World} {K : PySem.W.Frag} {mg : Str → Option Value} {base : Heap} {C fl f1 f2 : Addr} {fdl fd1 fd2 : FuncData} {f : Nat → Addr} {fd : Nat → FuncData}
theorem ok_law (F : Fun K "law" "law" sLaw fl fdl) (T : Gx K w mg) (R : Rdr K mg C f fd) (W : Wx K w mg f1 f2 fd1 fd2) (D : Lx K mg f fd) : FnG P w K mg base 55 fl fdl ["_law_script"] (spLaw K) := by
  have GT : FnOk P w K mg base CX0 1 _ _ ["_law_script"] (spTape K) := ok_tape D.tape.F (TxtD.of T)
  have GD : FnOk P w K mg base CX0 1 _ _ ["_law_tape_here", "_law_many"] spDraw := ok_draw D.draw.F (TxtD.of T)
  have GE : FnOk P w K mg base CX0 9 _ _ ["_law_tape_here", "_law_deep"] (spTree 6) := ok_tree T D 6
  have GS : FnOk P w K mg base CX0 8 _ _ ["_law_one_here", "_law_more"] (spShown 6) := ok_shown T D 6
  have GF : FnOk P w K mg base CX0 8 f2 fd2 ["expression"] spFormat := ok_format T W
  have GP : FnOk P w K mg base CX0 54 _ _ ["text"] (spRead 24) := ok_parse T R 24
  refine F.okG scLaw (fun vs H Q h => ?_) (fun cdv A outer s H vs Q hr hgd h => ?_)
  · obtain ⟨a, ns, rfl, _⟩ := h
    rfl
  · obtain ⟨a, ns, rfl, hSq, hlen, k⟩ := h
    have hr1 : Room 1 _ := hr.mono (by decide)
    have hr8 : Room 8 _ := hr.mono (by decide)
    have hr9 : Room 9 _ := hr.mono (by decide)
    refine ⟨_, pss_cons (ps_set (i := 1) scLaw.nd rfl (Or.inr rfl) (pe_call GT hr1 (by rfl) D.tape.mg D.tape.F.kp D.tape.b .nil pass0 (pa_cons (pv 0) pa_nil)))
      (pss_cons (ps_for PassesOwn.never rfl (pi_range1 rfl T.range (pa_cons pe_int pa_nil)) (pg_name (i := 2) scLaw.nd rfl (Or.inl rfl))
        (pss_cons (ps_set (i := 3) scLaw.nd rfl (Or.inl rfl) (pe_call GE hr9 (by rfl) D.tree.mg D.tree.F.kp D.tree.b .nil pass0 (pa_cons (pv 1) (pa_cons (pe_op op_add pe_int (pe_call GD hr1 (by rfl) D.draw.mg D.draw.F.kp D.draw.b .nil pass0 (pa_cons (pv 1) (pa_cons pe_int pa_nil)))) pa_nil))))
        (pss_cons (ps_set (i := 4) scLaw.nd rfl (Or.inl rfl) (pe_call GS hr8 (by rfl) D.shown.mg D.shown.F.kp D.shown.b .nil pass0 (pa_cons (pv 3) (pa_cons (pe_lst pa_nil) pa_nil))))
        (pss_cons (ps_if (PW.pt (pw_or (pt_cmpR op_ne (pe_call GF hr8 (by rfl) W.format.mg W.format.F.kp W.format.b .nil pass0 (pa_cons (pv 3) pa_nil)) (pv 4) (nomark _))
            (pw_or1 (pt_cmpR op_ne (pe_callB (call_reprE hr hgd) (by rfl) T.repr (by decide +kernel) (pa_cons (pe_call GP hr (by rfl) R.parse.mg R.parse.F.kp R.parse.b .nil pass0 (pa_cons (pv 4) pa_nil)) pa_nil))
              (pe_callB (call_reprE hr hgd) (by rfl) T.repr (by decide +kernel) (pa_cons (pv 3) pa_nil)) (nomark _))))) (pss_one (ps_ret pe_bl)) pss_nil)
        (pss_cons (ps_set (i := 5) scLaw.nd rfl (Or.inl rfl) (pe_call GS hr8 (by rfl) D.shown.mg D.shown.F.kp D.shown.b .nil pass0 (pa_cons (pv 3) (pa_cons
            (pe_lc (own := [("_law_part", 7)]) (g := gName 7) (tt := tYes) (by rfl) scLaw.nd (pi_range1 rfl T.range (pa_cons pe_int pa_nil)) (blkOk_by (own := [("_law_part", 7)]) (N := names) (sc := defScope sLaw) (by decide +kernel))
              (fun _ _ _ _ _ => pg_name (i := 7) scLaw.nd rfl (Or.inl rfl)) (fun _ _ _ _ _ => pts_nil) (fun _ _ _ _ _ => pe_call GD hr1 (by rfl) D.draw.mg D.draw.F.kp D.draw.b .nil pass0 (pa_cons (pv 1) (pa_cons pe_int pa_nil)))) pa_nil))))
        (pss_cons (ps_if (PW.pt (pw_or (pt_cmpR op_ne (pe_callB (call_reprE hr hgd) (by rfl) T.repr (by decide +kernel) (pa_cons (pe_call GP hr (by rfl) R.parse.mg R.parse.F.kp R.parse.b .nil pass0 (pa_cons (pv 5) pa_nil)) pa_nil))
              (pe_callB (call_reprE hr hgd) (by rfl) T.repr (by decide +kernel) (pa_cons (pv 3) pa_nil)) (nomark _))
            (pw_or1 (pt_cmpR (op_neD hr.units) (pe_call GP hr (by rfl) R.parse.mg R.parse.F.kp R.parse.b .nil pass0 (pa_cons (pe_op op_add_str (pe_op op_add_str pe_str (pv 4)) pe_str) pa_nil)) (pv 3) (nomark _))))) (pss_one (ps_ret pe_bl)) pss_nil)
        (pss_cons (ps_set (i := 6) scLaw.nd rfl (Or.inl rfl) (pe_call GE hr9 (by rfl) D.tree.mg D.tree.F.kp D.tree.b .nil pass0 (pa_cons (pv 1) (pa_cons pe_int pa_nil))))
        (pss_one (ps_if (pt_cmpR op_ne (pe_cmpR op_eq (pe_call GF hr8 (by rfl) W.format.mg W.format.F.kp W.format.b .nil pass0 (pa_cons (pv 6) pa_nil)) (pv 4) (nomark _))
            (pe_cmpR op_eq (pe_callB (call_reprE hr hgd) (by rfl) T.repr (by decide +kernel) (pa_cons (pv 6) pa_nil)) (pe_callB (call_reprE hr hgd) (by rfl) T.repr (by decide +kernel) (pa_cons (pv 3) pa_nil)) (nomark _)) (nomark _)) (pss_one (ps_ret pe_bl)) pss_nil)))))))))
      (pss_cons (ps_if (PW.pt (pw_or (pt_cmpR (op_neD hr.units) (pe_call GP hr (by rfl) R.parse.mg R.parse.F.kp R.parse.b .nil pass0 (pa_cons pe_str pa_nil)) (pe_tup (pa_cons pe_str (pa_cons (pe_tup (pa_cons pe_str (pa_cons pe_str (pa_cons pe_str pa_nil)))) (pa_cons pe_str pa_nil)))) (nomark _))
          (pw_or1 (pt_cmpR (op_neD hr.units) (pe_call GP hr (by rfl) R.parse.mg R.parse.F.kp R.parse.b .nil pass0 (pa_cons pe_str pa_nil)) pe_str (nomark _))))) (pss_one (ps_ret pe_bl)) pss_nil)
      (pss_one (ps_ret (pe_cmpR (op_eqD hr.units) (pe_call GP hr (by rfl) R.parse.mg R.parse.F.kp R.parse.b .nil pass0 (pa_cons pe_str pa_nil)) (pe_tup (pa_cons pe_str (pa_cons (pe_tup (pa_cons pe_str (pa_cons pe_str pa_nil))) (pa_cons pe_int pa_nil)))) (nomark _)))))), ?_⟩
    refine ⟨_, rfl, a, ns, rfl, hSq, hlen, fun H0 t s0 tk0 nt => ?_⟩
    refine ⟨10, rfl, by decide, by decide, for_range (n := 10) (fun i σ H' => ∃ v2 v3 v4 v5 v6 v7 : Option V, σ = [some (.ref a), some (.ref t), v2, v3, v4, v5, v6, v7] ∧ TapeOk H' t) ⟨_, _, _, _, _, _, rfl, tk0⟩ ?_ ?_⟩
    · rintro i σ H1 hi ⟨v2, v3, v4, v5, v6, v7, rfl, tk1⟩
      refine ⟨_, rfl, _, rfl, t, 6, rfl, by decide, by decide, tk1, fun H2 dd tk2 oth2 d0 d1 => ?_⟩
      refine ⟨_, _, rfl, rfl, t, 1 + dd.toNat, congrArg (fun z => [V.ref t, V.int z]) (by omega : (1 : Int) + dd = ((1 + dd.toNat : Nat) : Int)), tk2, by omega, by omega, by omega, fun H3 v e off3 tk3 rep ok dep0 => ?_⟩
      have dep : e.dep ≤ 6 := by omega
      -- its text
      refine ⟨_, rfl, small_list rfl, fun E1 hE1 => ⟨v, e, E1, [], rfl, rep.same (same_upd hE1), ok, dep, by omega, upd_same, by decide, fun H4 s ms' off4 hE4 hl4 shw hf => ?_⟩⟩
      have hs : s = fmt e := (hf rfl).1
      have s34 : Same H3 H4 := same_off hE1 (same_upd hE1) off4
      have tk4 : TapeOk H4 t := tk3.same s34
      have rep4 := rep.same s34
      have hsl := shw_small shw ok dep
      have hst : (st s).length ≤ 40000 := by rw [st_len]; omega
      refine ⟨_, rfl, v, e, rfl, rep4, ok, dep, _, rfl, rfl, _, rfl, ?_⟩
      refine iteNS (by rw [hs]) ?_
      refine ⟨_, rfl, st s, e, e.dep, rfl, hst, rd_shw shw ok dep, fun H5 w5 s45 rep5 => ?_⟩
      refine ⟨w5, e, rfl, rep5, ok, dep, _, rfl, v, e, rfl, rep4.same s45, ok, dep, rfl, _, rfl, ?_⟩
      refine iteNS rfl ?_
      -- more parentheses
      have tk5 := tk4.same s45
      have repv5 := rep4.same s45
      refine ⟨_, rfl, 16, rfl, by decide, by decide, fun D hD => lc_range (lo := 0) (n := 16) (fun m H' => Off t H5 H' ∧ TapeOk H' t ∧ ∃ bits : List Int, bits.length = m ∧ H' D = some (.lst (bits.map V.int)))
        ⟨off_new hD, tk5.same (same_upd hD), [], rfl, upd_same⟩ ?_ ?_⟩
      · rintro m H' hm ⟨q1, q2, bits, q3, q4⟩
        refine ⟨rfl, ?_⟩
        unfold tYes
        refine iteT ?_
        have nDt : D ≠ t := ne_tape tk5 hD
        refine ⟨_, rfl, t, 2, rfl, by decide, by decide, q2, fun H6 d6 tk6 oth6 e0 e1 => ?_⟩
        have hD6 : H6 D = some (.lst (bits.map V.int)) := by rw [oth6 D nDt]; exact q4
        refine ⟨_, hD6, by rw [List.length_map, sizeLine_eq]; omega, ?_, ?_, bits ++ [d6], by rw [List.length_append, q3]; rfl, by rw [upd_same, List.map_append]; rfl⟩
        · intro b o n q
          rw [upd_ne (ne_of_none q hD)]
          exact off_of oth6 b o n (q1 b o n q)
        · exact tape_off tk6 (Ne.symm nDt) off_at (ns := bits ++ [d6]) (by rw [upd_same, List.map_append]; rfl) (by rw [List.length_append, q3]; simp; omega)
      · rintro H6 ⟨q1, q2, bits, q3, q4⟩
        have nDt : D ≠ t := ne_tape tk5 hD
        have rep6 : Rep H6 v e := repv5.offT tk5 q1
        refine ⟨v, e, D, bits, rfl, rep6, ok, dep, by omega, q4, by omega, fun H7 s2 ms2 off7 hD7 hl7 shw2 _ => ?_⟩
        have tk7 : TapeOk H7 t := tape_off q2 (Ne.symm nDt) off7 hD7 (by omega)
        have rep7 : Rep H7 v e := rep6.by fun b xs q => off7 b _ (fun z => by rw [z, q4] at q; cases q) q
        have hsl2 := shw_small shw2 ok dep
        have hst2 : (st s2).length ≤ 40000 := by rw [st_len]; omega
        refine ⟨_, rfl, st s2, e, e.dep, rfl, hst2, rd_shw shw2 ok dep, fun H8 w8 s78 rep8 => ?_⟩
        have rep78 := rep7.same s78
        refine ⟨w8, e, rfl, rep8, ok, dep, _, rfl, v, e, rfl, rep78, ok, dep, rfl, _, rfl, ?_⟩
        refine iteNS rfl ?_
        have hp1 : (Str.ofString "((").cps.toList.length = 2 := by decide +kernel
        have hp2 : (Str.ofString "))").cps.toList.length = 2 := by decide +kernel
        refine ⟨_, rfl, _, _, rfl, rfl, by rw [← strLen_append]; apply sl; simp only [app_list, List.length_append, hp1, st_list]; omega, _, _, rfl, rfl, by rw [← strLen_append]; apply sl; simp only [app_list, List.length_append, hp1, hp2, st_list]; omega,
          _, e, e.dep, rfl, ?_, rd_par shw ok dep, fun H9 w9 s89 rep9 => ?_⟩
        · rw [← len_list]
          simp only [app_list, List.length_append, hp1, hp2, st_list]
          omega
        have rep79 := rep78.same s89
        refine ⟨_, rfl, dat e, dat e, rep9.dp, rep79.dp, dat_shaped ok dep, dat_shaped ok dep, _, rfl, ?_⟩
        rw [SeqAt.eqv_refl _ (SeqAt.canLay_of_shaped (dat_shaped ok dep))]
        refine iteF ?_
        have tk9 : TapeOk H9 t := (tk7.same s78).same s89
        refine ⟨_, rfl, t, 3, rfl, tk9, by omega, by omega, by omega, fun H10 vo eo off10 tk10 rep10 ok2 dep2 => ?_⟩
        have repl : Rep H10 v e := rep79.offT tk9 off10
        refine ⟨_, rfl, vo, eo, rfl, rep10, ok2, by omega, _, rfl, rfl, _, rfl, vo, eo, rfl, rep10, ok2, by omega, _, rfl, v, e, rfl, repl, ok, dep, rfl, rfl, _, rfl, ?_⟩
        refine iteNS (bl_iff (same_text e eo hs ok ok2 dep (by omega))) ?_
        exact ⟨_, _, _, _, _, _, rfl, tk10⟩
    · rintro σ H1 ⟨v2, v3, v4, v5, v6, v7, rfl, tk1⟩
      have lenOk : ∀ {z : Str}, z.cps.toList.length ≤ 40000 → z.length ≤ 40000 := fun h => by rw [len_list] at h; exact h
      refine ⟨_, eMinus, _, rfl, lenOk (by decide +kernel), rd_fmt txMinus okMinus (by decide), fun H2 w2 s12 rep2 => ?_⟩
      refine ⟨three_size _ _ _, fun t1 ht1 => ⟨three_size _ _ _, fun t2 ht2 => ?_⟩⟩
      have n12 : t1 ≠ t2 := fun z => by
        rw [← z, upd_same] at ht2
        cases ht2
      have e1 : dat eMinus = .tuple [.str (Str.ofString "minus"), .tuple [.str (Str.ofString "minus"), .str (Str.ofString "a"), .str (Str.ofString "b")], .str (Str.ofString "c")] := by
        rw [st_wd "a", st_wd "b", st_wd "c"]
        rfl
      refine ⟨dat eMinus, dat eMinus, ((rep2.same (same_upd ht1)).same (same_upd ht2)).dp, ?_, dat_shaped okMinus (by decide), dat_shaped okMinus (by decide), _, rfl, ?_⟩
      · rw [e1]
        exact .tup (.inl (.inl upd_same)) (.cons (.str _) (.cons (.tup (.inl (.inl (by rw [upd_ne n12]; exact upd_same))) (.cons (.str _) (.cons (.str _) (.cons (.str _) .nil)))) (.cons (.str _) .nil)))
      rw [SeqAt.eqv_refl _ (SeqAt.canLay_of_shaped (dat_shaped okMinus (by decide)))]
      refine iteF ?_
      refine ⟨_, eKnown, _, rfl, lenOk (by decide +kernel), rd_fmt txKnown okKnown (by decide), fun H3 w3 s23 rep3 => ?_⟩
      have e2 : dat eKnown = .str (Str.ofString "known") := by
        rw [st_wd "known"]
        rfl
      refine ⟨dat eKnown, dat eKnown, rep3.dp, by rw [e2]; exact .str _, dat_shaped okKnown (by decide), dat_shaped okKnown (by decide), _, rfl, ?_⟩
      rw [SeqAt.eqv_refl _ (SeqAt.canLay_of_shaped (dat_shaped okKnown (by decide)))]
      refine iteF ?_
      refine ⟨_, ePlus, _, rfl, lenOk (by decide +kernel), rd_fmt txPlus okPlus (by decide), fun H4 w4 s34 rep4 => ?_⟩
      refine ⟨two_size _ _, fun t3 ht3 => ⟨three_size _ _ _, fun t4 ht4 => ?_⟩⟩
      have n34 : t3 ≠ t4 := fun z => by
        rw [← z, upd_same] at ht4
        cases ht4
      have e3 : dat ePlus = .tuple [.str (Str.ofString "plus"), .tuple [.str (Str.ofString "known"), .str (Str.ofString "known")], .int 1] := by
        rw [st_wd "known"]
        rfl
      refine ⟨dat ePlus, dat ePlus, ((rep4.same (same_upd ht3)).same (same_upd ht4)).dp, ?_, dat_shaped okPlus (by decide), dat_shaped okPlus (by decide), ?_⟩
      · rw [e3]
        exact .tup (.inl (.inl upd_same)) (.cons (.str _) (.cons (.tup (.inl (.inl (by rw [upd_ne n34]; exact upd_same))) (.cons (.str _) (.cons (.str _) .nil))) (.cons (.int _) .nil)))
      rw [SeqAt.eqv_refl _ (SeqAt.canLay_of_shaped (dat_shaped okPlus (by decide)))]
      exact k _
end
end Lg

namespace L2
open PySem PySem.Spec PyProof.Rows
/-- the law's call, from its promise where no repr is under way and sys.modules stands -/
theorem law_callG {P : Program} {w : World} {K : PySem.W.Frag} {mg mb : Str → Option Value} {k : Nat} {fa a : Addr} {fd : FuncData} {x : Str} {sp : Sp} {s₁ : Shared} {vs : List Value} {ns : List Int}
    (KX : K.In s₁.heap) (hns : s₁.heap.Ns mainGlobals mg) (hb : s₁.heap.Ns builtinsNs mb) (hbb : ∀ x : Str, x ≠ "__name__" → mb x = bootBuiltins x) (hlim : s₁.heap.NoLimit) (hsy : ∃ mm, s₁.heap.Ns sysModules mm) (hg : s₁.gens = #[])
    (ha : s₁.heap.get? a = some { cls := .type "list", data := .seq vs.toArray }) (hi : IntsAre vs ns) (hl : ns.length ≤ sizeLine) (hr : Room k callerA)
    (F : ∀ base : Heap, K.In base → base.Ns mainGlobals mg → (∃ o, base.get? sysModules = some o) → FnG P w K mg base k fa fd [x] sp) (hbind : ∀ (s : Shared) (u : Value), BindsTo s fd ⟨[u], []⟩ [(x, u)])
    (hsp : ∀ H : Hp, SqL K H a (ns.map V.int) → sp [.ref a] H (fun v _ => v = .bl true) E0) :
    codeAny (model P w) callerA (.call (.ref fa) ⟨[.ref a], []⟩) (fun r s' => r = .ok (.ret (.bool true)) ∧ OldK s₁.heap s'.heap ∧ s'.os = s₁.os ∧ AllBare s'.gens) s₁ := by
  have rv := vals_ints hi
  have lenV := hi.length
  have go : ∀ H : Hp, SqL K H a (ns.map V.int) → HOk P w H s₁.heap → (∀ b u, H b = some u → b = a ∧ u = .frz { cls := .type "list", data := .seq vs.toArray } (.lst (ns.map V.int))) → (H a ≠ none → K.lookup a = none) →
      codeAny (model P w) callerA (.call (.ref fa) ⟨[.ref a], []⟩) (fun r s' => r = .ok (.ret (.bool true)) ∧ OldK s₁.heap s'.heap ∧ s'.os = s₁.os ∧ AllBare s'.gens) s₁ := by
    intro H hS hok hA hK
    have free : ∀ {b : Addr} {o : Obj}, s₁.heap.get? b = some o → o.data ≠ .seq vs.toArray 0 → H b = none := fun {b o} e d => by
      cases q : H b with
      | none => rfl
      | some u =>
        have z := (hA b u q).1
        subst z
        rw [ha] at e
        cases e
        exact absurd rfl d
    have ns2 : ∀ {b : Addr} {m : Str → Option Value}, s₁.heap.Ns b m → (hidT s₁.heap H).Ns b m := fun {b m} ⟨o, es, ep, e, d, r⟩ =>
      ⟨o, es, ep, hidT_get e (free e (by rw [d]; intro z; cases z)), d, r⟩
    have K2 : K.In (hidT s₁.heap H) := fun b o e => hidT_get (KX b o e) (by
      cases q : H b with
      | none => rfl
      | some u =>
        have z := (hA b u q).1
        subst z
        rw [hK (by rw [q]; intro y; cases y)] at e
        cases e)
    obtain ⟨mc, l1, l2⟩ := hlim
    obtain ⟨mm, y1⟩ := hsy
    obtain ⟨os, _, _, y2, _⟩ := ns2 y1
    have M : Mod K mg (hidT s₁.heap H) := ⟨K2, ns2 hns, ⟨mb, ns2 hb, hbb⟩, ⟨mc, ns2 l1, l2⟩⟩
    have e0 : Env0 P w K mg (hidT s₁.heap H) callerA [] s₁ H :=
      ⟨rfl, M, fun b o e => of_hidT e, Nat.le_of_eq (hidT_size _ _), trivial, fun b z => absurd (show b ∈ ([] : List Addr) from z) (by simp), hok, .of_eq hg⟩
    refine codeAny_mono ((F _ K2 (ns2 hns) ⟨_, y2⟩).run callerA [] s₁ H ⟨[.ref a], []⟩ [.ref a] [.ref a] _ hr rfl e0 (hbind s₁ (.ref a)) (.cons rfl .nil) (hsp H hS)) fun r s' h => ?_
    cases r with
    | error e => exact False.elim h
    | ok fl =>
      cases fl with
      | next => exact False.elim h
      | brk => exact False.elim h
      | cont => exact False.elim h
      | ret u =>
        obtain ⟨v, H', os', bare, un, hok', r', q⟩ := h
        have q' : v = .bl true := q
        subst q'
        obtain rfl : u = Value.bool true := r'
        refine ⟨rfl, OldK.of_keep fun b o e => ?_, os', bare⟩
        cases q : H b with
        | none => exact un.keep b o e q (by intro z; exact absurd (show b ∈ ([] : List Addr) from z) (by simp)) (by simp)
        | some u =>
          obtain ⟨z1, z2⟩ := hA b u q
          subst z2
          obtain ⟨e1, _⟩ := hok b _ q
          obtain ⟨e2, _⟩ := hok' b _ (un.frzs b _ _ q)
          exact e2.trans (e1.symm.trans e)
  cases hk : K.lookup a with
  | some o =>
    have e := KX a o hk
    rw [ha] at e
    cases e
    exact go (fun _ => none) (.inr ⟨_, vs.toArray, _, hk, rfl, rfl, rfl, by rw [List.size_toArray, lenV]; exact hl, by simpa using rv⟩) (fun _ _ z => nomatch z) (fun _ _ z => nomatch z) fun z => absurd rfl z
  | none =>
    have at_ : ∀ {b : Addr} {u : HO}, (if b = a then some (HO.frz { cls := .type "list", data := .seq vs.toArray } (.lst (ns.map V.int))) else none) = some u → b = a ∧ u = .frz { cls := .type "list", data := .seq vs.toArray } (.lst (ns.map V.int)) := fun {b u} z => by
      by_cases h : b = a
      · rw [if_pos h] at z
        exact ⟨h, (Option.some.inj z).symm⟩
      · rw [if_neg h] at z
        cases z
    refine go (fun b => if b = a then some (.frz { cls := .type "list", data := .seq vs.toArray } (.lst (ns.map V.int))) else none) (.inl (.inr ⟨_, if_pos rfl⟩)) (fun b u z => ?_) (fun b u z => at_ z) fun _ => hk
    obtain ⟨z1, z2⟩ := at_ z
    subst z1 z2
    exact ⟨ha, by rw [List.length_map]; exact hl, vs, _, rv, ha⟩
theorem walk_ofG {l : PySem.W.OpenLaw} {n k : Nat} {q : Program} {loose : List Str} {XP : (Str → Option Value) → Heap → Prop} {YP : World → Heap → Prop} {d : DefRec} {K : Params → PySem.W.Frag} {sp : PySem.W.Frag → Sp} {x : Str}
    (hn : l.most = some n) (hn2 : n ≤ sizeLine) (hdf : d.params.defaults = []) (hr : Room k callerA) (hq : importsNone q = true) (hY : ∀ (w : World) (h : Heap), YP w h → (K w.params).In h)
    (F : ∀ (w : World) (mg : Str → Option Value) (fa : Addr) (h : Heap), (K w.params).In h → h.Ns mainGlobals mg → mg d.name = some (.ref fa) →
      ∃ fd : FuncData, (∀ (s : Shared) (u : Value), BindsTo s fd ⟨[u], []⟩ [(x, u)]) ∧
        ∀ base : Heap, (K w.params).In base → base.Ns mainGlobals mg → (∃ o, base.get? sysModules = some o) → FnG l.prog w (K w.params) mg base k fa fd [x] (sp (K w.params)))
    (hsp : ∀ (K : PySem.W.Frag) (H : Hp) (a : Addr) (ns : List Int), ns.length ≤ n → SqL K H a (ns.map V.int) → sp K [.ref a] H (fun v _ => v = .bl true) E0) :
    PySem.W.WalkO q loose XP YP l.row.toRowW d [] (fun f vs => PySem.call f vs) := by
  refine Att.attach_call hn hdf fun w s₀ s₁ mg mb fa o pm cd doc a vs ns G Y ho hd hcd hmg hobj hints hlen hg => ?_
  have KX := hY w _ Y
  obtain ⟨fd, hb, hF⟩ := F w mg fa _ KX G.T.g hmg
  obtain ⟨mm, hm, _⟩ := (G.T.seer hq).mods
  exact law_callG KX G.T.g G.T.b G.T.builtins G.T.nolimit ⟨mm, hm⟩ hg hobj hints (Nat.le_trans hlen hn2) hr hF hb fun H hS => hsp (K w.params) H a ns hlen hS
end L2

namespace Lg
open PySem PySem.Spec PyProof.Rows L2
theorem key_str : ∀ o : Op, o.key = (match o with | .plus => " + " | .minus => " - " | .times => " * " | .less => " < " | .same => " == " : Str)
  | .plus => strExt (by decide +kernel)
  | .minus => strExt (by decide +kernel)
  | .times => strExt (by decide +kernel)
  | .less => strExt (by decide +kernel)
  | .same => strExt (by decide +kernel)
theorem all_mk {l : PySem.W.OpenLaw} {w : World} {K : PySem.W.Frag} {h : Heap} {mg : Str → Option Value} {fa : Addr} (X : K.In h) (G : h.Ns mainGlobals mg) (hfa : mg "law" = some (.ref fa))
    {f7 f8 f9 f10 f11 f12 f13 f14 f20 f21 f22 f23 f24 f25 f26 f0 f1 f2 f3 f4 f5 f6 C dO dS dG qa : Addr} {od7 an7 od8 an8 od9 an9 od10 an10 od11 an11 od12 an12 od13 an13 od14 an14 od20 an20 od21 an21 od22 an22 od23 an23 od24 an24 od25 an25 od26 an26 od0 an0 od1 an1 od2 an2 od3 an3 od4 an4 od5 an5 od6 an6 odq : Option Addr} {sl7 sl8 sl9 sl10 sl11 sl12 sl13 sl14 sl20 sl21 sl22 sl23 sl24 sl25 sl26 sl0 sl1 sl2 sl3 sl4 sl5 sl6 slq : Array (Option Value)} {oc7 kV7 dc7 pm7 cd7 ct7 oc8 kV8 dc8 pm8 cd8 ct8 oc9 kV9 dc9 pm9 cd9 ct9 oc10 kV10 dc10 pm10 cd10 ct10 oc11 kV11 dc11 pm11 cd11 ct11 oc12 kV12 dc12 pm12 cd12 ct12 oc13 kV13 dc13 pm13 cd13 ct13 oc14 kV14 dc14 pm14 cd14 ct14 oc20 kV20 dc20 pm20 cd20 ct20 oc21 kV21 dc21 pm21 cd21 ct21 oc22 kV22 dc22 pm22 cd22 ct22 oc23 kV23 dc23 pm23 cd23 ct23 oc24 kV24 dc24 pm24 cd24 ct24 oc25 kV25 dc25 pm25 cd25 ct25 oc26 kV26 dc26 pm26 cd26 ct26 oc0 kV0 dc0 pm0 cd0 ct0 oc1 kV1 dc1 pm1 cd1 ct1 oc2 kV2 dc2 pm2 cd2 ct2 oc3 kV3 dc3 pm3 cd3 ct3 oc4 kV4 dc4 pm4 cd4 ct4 oc5 kV5 dc5 pm5 cd5 ct5 oc6 kV6 dc6 pm6 cd6 ct6 : Value} {tkL tkD tkM tkE tkP tkB tkO_plus tkO_minus tkO_times tkO_less tkO_same tkS_plus tkS_minus tkS_times tkS_less tkS_same tkG_plus tkG_minus tkG_times tkG_less tkG_same tkq1 tkq2 : Tok} {esO esS esG : Array DictEntry} {epO epS epG nq : Nat} {itsq : Array Value}
    (a7 : PySem.W.nsIn K mainGlobals "is_made_of" = some (some (.ref f7)))
    (l7 : K.lookup f7 = some ⟨oc7, od7, .func (PySem.W.fnOf "is_made_of" "is_made_of" (defArgs sMade) (defBody sMade) (defScope sMade) .none kV7 dc7 pm7 an7 cd7 ct7), sl7⟩)
    (g7 : PySem.W.codeIn K cd7 "is_made_of" = true)
    (k7 : PySem.W.keepIn K (.ref f7) = true)
    (a8 : PySem.W.nsIn K mainGlobals "is_word" = some (some (.ref f8)))
    (l8 : K.lookup f8 = some ⟨oc8, od8, .func (PySem.W.fnOf "is_word" "is_word" (defArgs sIsWord) (defBody sIsWord) (defScope sIsWord) .none kV8 dc8 pm8 an8 cd8 ct8), sl8⟩)
    (g8 : PySem.W.codeIn K cd8 "is_word" = true)
    (k8 : PySem.W.keepIn K (.ref f8) = true)
    (a9 : PySem.W.nsIn K mainGlobals "read_number" = some (some (.ref f9)))
    (l9 : K.lookup f9 = some ⟨oc9, od9, .func (PySem.W.fnOf "read_number" "read_number" (defArgs sNumber) (defBody sNumber) (defScope sNumber) .none kV9 dc9 pm9 an9 cd9 ct9), sl9⟩)
    (g9 : PySem.W.codeIn K cd9 "read_number" = true)
    (k9 : PySem.W.keepIn K (.ref f9) = true)
    (a10 : PySem.W.nsIn K mainGlobals "read_word" = some (some (.ref f10)))
    (l10 : K.lookup f10 = some ⟨oc10, od10, .func (PySem.W.fnOf "read_word" "read_word" (defArgs sWord) (defBody sWord) (defScope sWord) .none kV10 dc10 pm10 an10 cd10 ct10), sl10⟩)
    (g10 : PySem.W.codeIn K cd10 "read_word" = true)
    (k10 : PySem.W.keepIn K (.ref f10) = true)
    (a11 : PySem.W.nsIn K mainGlobals "read_expression" = some (some (.ref f11)))
    (l11 : K.lookup f11 = some ⟨oc11, od11, .func (PySem.W.fnOf "read_expression" "read_expression" (defArgs sExpr) (defBody sExpr) (defScope sExpr) .none kV11 dc11 pm11 an11 cd11 ct11), sl11⟩)
    (g11 : PySem.W.codeIn K cd11 "read_expression" = true)
    (k11 : PySem.W.keepIn K (.ref f11) = true)
    (a12 : PySem.W.nsIn K mainGlobals "parse_expression" = some (some (.ref f12)))
    (l12 : K.lookup f12 = some ⟨oc12, od12, .func (PySem.W.fnOf "parse_expression" "parse_expression" (defArgs sParse) (defBody sParse) (defScope sParse) .none kV12 dc12 pm12 an12 cd12 ct12), sl12⟩)
    (g12 : PySem.W.codeIn K cd12 "parse_expression" = true)
    (k12 : PySem.W.keepIn K (.ref f12) = true)
    (a13 : PySem.W.nsIn K mainGlobals "_written" = some (some (.ref f13)))
    (l13 : K.lookup f13 = some ⟨oc13, od13, .func (PySem.W.fnOf "_written" "_written" (defArgs sWritten) (defBody sWritten) (defScope sWritten) .none kV13 dc13 pm13 an13 cd13 ct13), sl13⟩)
    (g13 : PySem.W.codeIn K cd13 "_written" = true)
    (k13 : PySem.W.keepIn K (.ref f13) = true)
    (a14 : PySem.W.nsIn K mainGlobals "format_expression" = some (some (.ref f14)))
    (l14 : K.lookup f14 = some ⟨oc14, od14, .func (PySem.W.fnOf "format_expression" "format_expression" (defArgs sFormat) (defBody sFormat) (defScope sFormat) .none kV14 dc14 pm14 an14 cd14 ct14), sl14⟩)
    (g14 : PySem.W.codeIn K cd14 "format_expression" = true)
    (k14 : PySem.W.keepIn K (.ref f14) = true)
    (a20 : PySem.W.nsIn K mainGlobals "_law_tape" = some (some (.ref f20)))
    (l20 : K.lookup f20 = some ⟨oc20, od20, .func (PySem.W.fnOf "_law_tape" "_law_tape" (defArgs sTape) (defBody sTape) (defScope sTape) .none kV20 dc20 pm20 an20 cd20 ct20), sl20⟩)
    (g20 : PySem.W.codeIn K cd20 "_law_tape" = true)
    (k20 : PySem.W.keepIn K (.ref f20) = true)
    (a21 : PySem.W.nsIn K mainGlobals "_law_draw" = some (some (.ref f21)))
    (l21 : K.lookup f21 = some ⟨oc21, od21, .func (PySem.W.fnOf "_law_draw" "_law_draw" (defArgs sDraw) (defBody sDraw) (defScope sDraw) .none kV21 dc21 pm21 an21 cd21 ct21), sl21⟩)
    (g21 : PySem.W.codeIn K cd21 "_law_draw" = true)
    (k21 : PySem.W.keepIn K (.ref f21) = true)
    (a22 : PySem.W.nsIn K mainGlobals "_law_one" = some (some (.ref f22)))
    (l22 : K.lookup f22 = some ⟨oc22, od22, .func (PySem.W.fnOf "_law_one" "_law_one" (defArgs sOne) (defBody sOne) (defScope sOne) .none kV22 dc22 pm22 an22 cd22 ct22), sl22⟩)
    (g22 : PySem.W.codeIn K cd22 "_law_one" = true)
    (k22 : PySem.W.keepIn K (.ref f22) = true)
    (a23 : PySem.W.nsIn K mainGlobals "_law_tree" = some (some (.ref f23)))
    (l23 : K.lookup f23 = some ⟨oc23, od23, .func (PySem.W.fnOf "_law_tree" "_law_tree" (defArgs sTree) (defBody sTree) (defScope sTree) .none kV23 dc23 pm23 an23 cd23 ct23), sl23⟩)
    (g23 : PySem.W.codeIn K cd23 "_law_tree" = true)
    (k23 : PySem.W.keepIn K (.ref f23) = true)
    (a24 : PySem.W.nsIn K mainGlobals "_law_strength" = some (some (.ref f24)))
    (l24 : K.lookup f24 = some ⟨oc24, od24, .func (PySem.W.fnOf "_law_strength" "_law_strength" (defArgs sStrength) (defBody sStrength) (defScope sStrength) .none kV24 dc24 pm24 an24 cd24 ct24), sl24⟩)
    (g24 : PySem.W.codeIn K cd24 "_law_strength" = true)
    (k24 : PySem.W.keepIn K (.ref f24) = true)
    (a25 : PySem.W.nsIn K mainGlobals "_law_shown_as" = some (some (.ref f25)))
    (l25 : K.lookup f25 = some ⟨oc25, od25, .func (PySem.W.fnOf "_law_shown_as" "_law_shown_as" (defArgs sShown) (defBody sShown) (defScope sShown) .none kV25 dc25 pm25 an25 cd25 ct25), sl25⟩)
    (g25 : PySem.W.codeIn K cd25 "_law_shown_as" = true)
    (k25 : PySem.W.keepIn K (.ref f25) = true)
    (a26 : PySem.W.nsIn K mainGlobals "law" = some (some (.ref f26)))
    (l26 : K.lookup f26 = some ⟨oc26, od26, .func (PySem.W.fnOf "law" "law" (defArgs sLaw) (defBody sLaw) (defScope sLaw) .none kV26 dc26 pm26 an26 cd26 ct26), sl26⟩)
    (g26 : PySem.W.codeIn K cd26 "law" = true)
    (k26 : PySem.W.keepIn K (.ref f26) = true)
    (aC : PySem.W.nsIn K mainGlobals "Reader" = some (some (.ref C)))
    (am0 : PySem.W.findIn K (.ref C) "__init__" = some (some (.ref f0)))
    (lm0 : K.lookup f0 = some ⟨oc0, od0, .func (PySem.W.fnOf "__init__" "Reader.__init__" (defArgs sInit) (defBody sInit) (defScope sInit) .none kV0 dc0 pm0 an0 cd0 ct0), sl0⟩)
    (gm0 : PySem.W.codeIn K cd0 "Reader.__init__" = true)
    (km0 : PySem.W.keepIn K (.ref f0) = true)
    (nm0 : PySem.W.isFn K (.ref f0) = true)
    (am1 : PySem.W.findIn K (.ref C) "operations" = some (some (.ref f1)))
    (lm1 : K.lookup f1 = some ⟨oc1, od1, .func (PySem.W.fnOf "operations" "Reader.operations" (defArgs sOps) (defBody sOps) (defScope sOps) .none kV1 dc1 pm1 an1 cd1 ct1), sl1⟩)
    (gm1 : PySem.W.codeIn K cd1 "Reader.operations" = true)
    (km1 : PySem.W.keepIn K (.ref f1) = true)
    (nm1 : PySem.W.isFn K (.ref f1) = true)
    (am2 : PySem.W.findIn K (.ref C) "sign_here" = some (some (.ref f2)))
    (lm2 : K.lookup f2 = some ⟨oc2, od2, .func (PySem.W.fnOf "sign_here" "Reader.sign_here" (defArgs sSign) (defBody sSign) (defScope sSign) .none kV2 dc2 pm2 an2 cd2 ct2), sl2⟩)
    (gm2 : PySem.W.codeIn K cd2 "Reader.sign_here" = true)
    (km2 : PySem.W.keepIn K (.ref f2) = true)
    (nm2 : PySem.W.isFn K (.ref f2) = true)
    (am3 : PySem.W.findIn K (.ref C) "operand" = some (some (.ref f3)))
    (lm3 : K.lookup f3 = some ⟨oc3, od3, .func (PySem.W.fnOf "operand" "Reader.operand" (defArgs sOpd) (defBody sOpd) (defScope sOpd) .none kV3 dc3 pm3 an3 cd3 ct3), sl3⟩)
    (gm3 : PySem.W.codeIn K cd3 "Reader.operand" = true)
    (km3 : PySem.W.keepIn K (.ref f3) = true)
    (nm3 : PySem.W.isFn K (.ref f3) = true)
    (am4 : PySem.W.findIn K (.ref C) "parentheses" = some (some (.ref f4)))
    (lm4 : K.lookup f4 = some ⟨oc4, od4, .func (PySem.W.fnOf "parentheses" "Reader.parentheses" (defArgs sPar) (defBody sPar) (defScope sPar) .none kV4 dc4 pm4 an4 cd4 ct4), sl4⟩)
    (gm4 : PySem.W.codeIn K cd4 "Reader.parentheses" = true)
    (km4 : PySem.W.keepIn K (.ref f4) = true)
    (nm4 : PySem.W.isFn K (.ref f4) = true)
    (am5 : PySem.W.findIn K (.ref C) "taken" = some (some (.ref f5)))
    (lm5 : K.lookup f5 = some ⟨oc5, od5, .func (PySem.W.fnOf "taken" "Reader.taken" (defArgs sTaken) (defBody sTaken) (defScope sTaken) .none kV5 dc5 pm5 an5 cd5 ct5), sl5⟩)
    (gm5 : PySem.W.codeIn K cd5 "Reader.taken" = true)
    (km5 : PySem.W.keepIn K (.ref f5) = true)
    (nm5 : PySem.W.isFn K (.ref f5) = true)
    (am6 : PySem.W.findIn K (.ref C) "is_before_word" = some (some (.ref f6)))
    (lm6 : K.lookup f6 = some ⟨oc6, od6, .func (PySem.W.fnOf "is_before_word" "Reader.is_before_word" (defArgs sBefore) (defBody sBefore) (defScope sBefore) .none kV6 dc6 pm6 an6 cd6 ct6), sl6⟩)
    (gm6 : PySem.W.codeIn K cd6 "Reader.is_before_word" = true)
    (km6 : PySem.W.keepIn K (.ref f6) = true)
    (nm6 : PySem.W.isFn K (.ref f6) = true)
    (pg : PySem.W.plainGet K C Str.empty = true)
    (hd : PySem.W.hasDictIn K C = true)
    (po : PySem.W.plainOver K C = true)
    (sa : PySem.W.findIn K (.ref C) "__setattr__" = some (some (.builtin "object.__setattr__")))
    (kc : PySem.W.keepIn K (.ref C) = true)
    (mkc : PySem.W.makesIn K C = true)
    (nT : PySem.W.findIn K (.ref C) "text" = some none)
    (nA : PySem.W.findIn K (.ref C) "at" = some none)
    (nR : PySem.W.findIn K (.ref C) "around" = some none)
    (z_all : PySem.W.nsIn K mainGlobals "all" = some none)
    (z_len : PySem.W.nsIn K mainGlobals "len" = some none)
    (z_int : PySem.W.nsIn K mainGlobals "int" = some none)
    (z_isinstance : PySem.W.nsIn K mainGlobals "isinstance" = some none)
    (z_str : PySem.W.nsIn K mainGlobals "str" = some none)
    (z_max : PySem.W.nsIn K mainGlobals "max" = some none)
    (z_tuple : PySem.W.nsIn K mainGlobals "tuple" = some none)
    (z_list : PySem.W.nsIn K mainGlobals "list" = some none)
    (z_range : PySem.W.nsIn K mainGlobals "range" = some none)
    (z_repr : PySem.W.nsIn K mainGlobals "repr" = some none)
    (cL : PySem.W.nsIn K mainGlobals "LETTERS" = some (some (.str sLetters tkL)))
    (cD : PySem.W.nsIn K mainGlobals "DIGITS" = some (some (.str sDigits tkD)))
    (cM : PySem.W.nsIn K mainGlobals "MODULUS" = some (some (.int 1000000007 tkM)))
    (cE : PySem.W.nsIn K mainGlobals "DEEPEST" = some (some (.int 6 tkE)))
    (cP : PySem.W.nsIn K mainGlobals "MOST_PARENTHESES" = some (some (.int 20 tkP)))
    (cB : PySem.W.nsIn K mainGlobals "MOST_DIGITS" = some (some (.int 10 tkB)))
    (dOa : PySem.W.nsIn K mainGlobals "OPERATIONS_OF_SIGNS" = some (some (.ref dO)))
    (dOl : K.lookup dO = some ⟨.type "dict", none, .dict esO epO, #[]⟩)
    (dOk : PySem.W.KeysLit w.params esO.toList)
    (dO_plus : PySem.W.nsIn K dO " + " = some (some (.str "plus" tkO_plus)))
    (dO_minus : PySem.W.nsIn K dO " - " = some (some (.str "minus" tkO_minus)))
    (dO_times : PySem.W.nsIn K dO " * " = some (some (.str "times" tkO_times)))
    (dO_less : PySem.W.nsIn K dO " < " = some (some (.str "less" tkO_less)))
    (dO_same : PySem.W.nsIn K dO " == " = some (some (.str "same" tkO_same)))
    (dSa : PySem.W.nsIn K mainGlobals "STRENGTHS" = some (some (.ref dS)))
    (dSl : K.lookup dS = some ⟨.type "dict", none, .dict esS epS, #[]⟩)
    (dSk : PySem.W.KeysLit w.params esS.toList)
    (dS_plus : PySem.W.nsIn K dS "plus" = some (some (.int 2 tkS_plus)))
    (dS_minus : PySem.W.nsIn K dS "minus" = some (some (.int 2 tkS_minus)))
    (dS_times : PySem.W.nsIn K dS "times" = some (some (.int 3 tkS_times)))
    (dS_less : PySem.W.nsIn K dS "less" = some (some (.int 1 tkS_less)))
    (dS_same : PySem.W.nsIn K dS "same" = some (some (.int 1 tkS_same)))
    (dGa : PySem.W.nsIn K mainGlobals "SIGNS" = some (some (.ref dG)))
    (dGl : K.lookup dG = some ⟨.type "dict", none, .dict esG epG, #[]⟩)
    (dGk : PySem.W.KeysLit w.params esG.toList)
    (dG_plus : PySem.W.nsIn K dG "plus" = some (some (.str "+" tkG_plus)))
    (dG_minus : PySem.W.nsIn K dG "minus" = some (some (.str "-" tkG_minus)))
    (dG_times : PySem.W.nsIn K dG "times" = some (some (.str "*" tkG_times)))
    (dG_less : PySem.W.nsIn K dG "less" = some (some (.str "<" tkG_less)))
    (dG_same : PySem.W.nsIn K dG "same" = some (some (.str "==" tkG_same)))
    (dOm : esO.toList.map (fun en => match en.key with | .str x _ => some x | _ => none) = [some (" + " : Str), some (" - " : Str), some (" * " : Str), some (" < " : Str), some (" == " : Str)])
    (dOn : (dO == sysModules) = false)
    (qa1 : PySem.W.nsIn K mainGlobals "QUESTIONS" = some (some (.ref qa)))
    (ql : K.lookup qa = some ⟨.type "tuple", odq, .seq itsq nq, slq⟩)
    (qi : itsq.toList = [.str "known" tkq1, .str "reason" tkq2])
    : ∃ fd : FuncData, (∀ (s : Shared) (v : Value), BindsTo s fd ⟨[v], []⟩ [("_law_script", v)]) ∧ ∀ base : Heap, K.In base → base.Ns mainGlobals mg → (∃ o, base.get? sysModules = some o) → FnG l.prog w K mg base 55 fa fd ["_law_script"] (spLaw K) := by
  have e := hfa.symm.trans (PySem.W.mg_of X G a26)
  cases e
  have F7 := fun_mk (st := sMade) l7 g7 k7
  have D7 : DefX K mg "is_made_of" sMade ["text", "allowed"] f7 (PySem.W.fnOf "is_made_of" "is_made_of" (defArgs sMade) (defBody sMade) (defScope sMade) .none kV7 dc7 pm7 an7 cd7 ct7) :=
    ⟨PySem.W.mg_of X G a7, F7, F7.binds fun _ _ _ _ _ _ us hl => match us, hl with | [_, _], _ => rfl⟩
  have F8 := fun_mk (st := sIsWord) l8 g8 k8
  have D8 : DefX K mg "is_word" sIsWord ["value"] f8 (PySem.W.fnOf "is_word" "is_word" (defArgs sIsWord) (defBody sIsWord) (defScope sIsWord) .none kV8 dc8 pm8 an8 cd8 ct8) :=
    ⟨PySem.W.mg_of X G a8, F8, F8.binds fun _ _ _ _ _ _ us hl => match us, hl with | [_], _ => rfl⟩
  have F9 := fun_mk (st := sNumber) l9 g9 k9
  have D9 : DefX K mg "read_number" sNumber ["text"] f9 (PySem.W.fnOf "read_number" "read_number" (defArgs sNumber) (defBody sNumber) (defScope sNumber) .none kV9 dc9 pm9 an9 cd9 ct9) :=
    ⟨PySem.W.mg_of X G a9, F9, F9.binds fun _ _ _ _ _ _ us hl => match us, hl with | [_], _ => rfl⟩
  have F10 := fun_mk (st := sWord) l10 g10 k10
  have D10 : DefX K mg "read_word" sWord ["text"] f10 (PySem.W.fnOf "read_word" "read_word" (defArgs sWord) (defBody sWord) (defScope sWord) .none kV10 dc10 pm10 an10 cd10 ct10) :=
    ⟨PySem.W.mg_of X G a10, F10, F10.binds fun _ _ _ _ _ _ us hl => match us, hl with | [_], _ => rfl⟩
  have F11 := fun_mk (st := sExpr) l11 g11 k11
  have D11 : DefX K mg "read_expression" sExpr ["text"] f11 (PySem.W.fnOf "read_expression" "read_expression" (defArgs sExpr) (defBody sExpr) (defScope sExpr) .none kV11 dc11 pm11 an11 cd11 ct11) :=
    ⟨PySem.W.mg_of X G a11, F11, F11.binds fun _ _ _ _ _ _ us hl => match us, hl with | [_], _ => rfl⟩
  have F12 := fun_mk (st := sParse) l12 g12 k12
  have D12 : DefX K mg "parse_expression" sParse ["text"] f12 (PySem.W.fnOf "parse_expression" "parse_expression" (defArgs sParse) (defBody sParse) (defScope sParse) .none kV12 dc12 pm12 an12 cd12 ct12) :=
    ⟨PySem.W.mg_of X G a12, F12, F12.binds fun _ _ _ _ _ _ us hl => match us, hl with | [_], _ => rfl⟩
  have F13 := fun_mk (st := sWritten) l13 g13 k13
  have D13 : DefX K mg "_written" sWritten ["expression", "least"] f13 (PySem.W.fnOf "_written" "_written" (defArgs sWritten) (defBody sWritten) (defScope sWritten) .none kV13 dc13 pm13 an13 cd13 ct13) :=
    ⟨PySem.W.mg_of X G a13, F13, F13.binds fun _ _ _ _ _ _ us hl => match us, hl with | [_, _], _ => rfl⟩
  have F14 := fun_mk (st := sFormat) l14 g14 k14
  have D14 : DefX K mg "format_expression" sFormat ["expression"] f14 (PySem.W.fnOf "format_expression" "format_expression" (defArgs sFormat) (defBody sFormat) (defScope sFormat) .none kV14 dc14 pm14 an14 cd14 ct14) :=
    ⟨PySem.W.mg_of X G a14, F14, F14.binds fun _ _ _ _ _ _ us hl => match us, hl with | [_], _ => rfl⟩
  have F20 := fun_mk (st := sTape) l20 g20 k20
  have D20 : DefX K mg "_law_tape" sTape ["_law_script"] f20 (PySem.W.fnOf "_law_tape" "_law_tape" (defArgs sTape) (defBody sTape) (defScope sTape) .none kV20 dc20 pm20 an20 cd20 ct20) :=
    ⟨PySem.W.mg_of X G a20, F20, F20.binds fun _ _ _ _ _ _ us hl => match us, hl with | [_], _ => rfl⟩
  have F21 := fun_mk (st := sDraw) l21 g21 k21
  have D21 : DefX K mg "_law_draw" sDraw ["_law_tape_here", "_law_many"] f21 (PySem.W.fnOf "_law_draw" "_law_draw" (defArgs sDraw) (defBody sDraw) (defScope sDraw) .none kV21 dc21 pm21 an21 cd21 ct21) :=
    ⟨PySem.W.mg_of X G a21, F21, F21.binds fun _ _ _ _ _ _ us hl => match us, hl with | [_, _], _ => rfl⟩
  have F22 := fun_mk (st := sOne) l22 g22 k22
  have D22 : DefX K mg "_law_one" sOne ["_law_tape_here", "_law_some"] f22 (PySem.W.fnOf "_law_one" "_law_one" (defArgs sOne) (defBody sOne) (defScope sOne) .none kV22 dc22 pm22 an22 cd22 ct22) :=
    ⟨PySem.W.mg_of X G a22, F22, F22.binds fun _ _ _ _ _ _ us hl => match us, hl with | [_, _], _ => rfl⟩
  have F23 := fun_mk (st := sTree) l23 g23 k23
  have D23 : DefX K mg "_law_tree" sTree ["_law_tape_here", "_law_deep"] f23 (PySem.W.fnOf "_law_tree" "_law_tree" (defArgs sTree) (defBody sTree) (defScope sTree) .none kV23 dc23 pm23 an23 cd23 ct23) :=
    ⟨PySem.W.mg_of X G a23, F23, F23.binds fun _ _ _ _ _ _ us hl => match us, hl with | [_, _], _ => rfl⟩
  have F24 := fun_mk (st := sStrength) l24 g24 k24
  have D24 : DefX K mg "_law_strength" sStrength ["_law_one_here"] f24 (PySem.W.fnOf "_law_strength" "_law_strength" (defArgs sStrength) (defBody sStrength) (defScope sStrength) .none kV24 dc24 pm24 an24 cd24 ct24) :=
    ⟨PySem.W.mg_of X G a24, F24, F24.binds fun _ _ _ _ _ _ us hl => match us, hl with | [_], _ => rfl⟩
  have F25 := fun_mk (st := sShown) l25 g25 k25
  have D25 : DefX K mg "_law_shown_as" sShown ["_law_one_here", "_law_more"] f25 (PySem.W.fnOf "_law_shown_as" "_law_shown_as" (defArgs sShown) (defBody sShown) (defScope sShown) .none kV25 dc25 pm25 an25 cd25 ct25) :=
    ⟨PySem.W.mg_of X G a25, F25, F25.binds fun _ _ _ _ _ _ us hl => match us, hl with | [_, _], _ => rfl⟩
  have F26 := fun_mk (st := sLaw) l26 g26 k26
  have F0 := fun_mk (st := sInit) lm0 gm0 km0
  have M0 : MethX K C "__init__" "Reader.__init__" sInit ["self", "text"] f0 (PySem.W.fnOf "__init__" "Reader.__init__" (defArgs sInit) (defBody sInit) (defScope sInit) .none kV0 dc0 pm0 an0 cd0 ct0) :=
    ⟨⟨am0, nm0, km0⟩, F0, F0.binds fun _ _ _ _ _ _ us hl => match us, hl with | [_, _], _ => rfl⟩
  have F1 := fun_mk (st := sOps) lm1 gm1 km1
  have M1 : MethX K C "operations" "Reader.operations" sOps ["self", "least"] f1 (PySem.W.fnOf "operations" "Reader.operations" (defArgs sOps) (defBody sOps) (defScope sOps) .none kV1 dc1 pm1 an1 cd1 ct1) :=
    ⟨⟨am1, nm1, km1⟩, F1, F1.binds fun _ _ _ _ _ _ us hl => match us, hl with | [_, _], _ => rfl⟩
  have F2 := fun_mk (st := sSign) lm2 gm2 km2
  have M2 : MethX K C "sign_here" "Reader.sign_here" sSign ["self"] f2 (PySem.W.fnOf "sign_here" "Reader.sign_here" (defArgs sSign) (defBody sSign) (defScope sSign) .none kV2 dc2 pm2 an2 cd2 ct2) :=
    ⟨⟨am2, nm2, km2⟩, F2, F2.binds fun _ _ _ _ _ _ us hl => match us, hl with | [_], _ => rfl⟩
  have F3 := fun_mk (st := sOpd) lm3 gm3 km3
  have M3 : MethX K C "operand" "Reader.operand" sOpd ["self"] f3 (PySem.W.fnOf "operand" "Reader.operand" (defArgs sOpd) (defBody sOpd) (defScope sOpd) .none kV3 dc3 pm3 an3 cd3 ct3) :=
    ⟨⟨am3, nm3, km3⟩, F3, F3.binds fun _ _ _ _ _ _ us hl => match us, hl with | [_], _ => rfl⟩
  have F4 := fun_mk (st := sPar) lm4 gm4 km4
  have M4 : MethX K C "parentheses" "Reader.parentheses" sPar ["self"] f4 (PySem.W.fnOf "parentheses" "Reader.parentheses" (defArgs sPar) (defBody sPar) (defScope sPar) .none kV4 dc4 pm4 an4 cd4 ct4) :=
    ⟨⟨am4, nm4, km4⟩, F4, F4.binds fun _ _ _ _ _ _ us hl => match us, hl with | [_], _ => rfl⟩
  have F5 := fun_mk (st := sTaken) lm5 gm5 km5
  have M5 : MethX K C "taken" "Reader.taken" sTaken ["self", "allowed"] f5 (PySem.W.fnOf "taken" "Reader.taken" (defArgs sTaken) (defBody sTaken) (defScope sTaken) .none kV5 dc5 pm5 an5 cd5 ct5) :=
    ⟨⟨am5, nm5, km5⟩, F5, F5.binds fun _ _ _ _ _ _ us hl => match us, hl with | [_, _], _ => rfl⟩
  have F6 := fun_mk (st := sBefore) lm6 gm6 km6
  have M6 : MethX K C "is_before_word" "Reader.is_before_word" sBefore ["self"] f6 (PySem.W.fnOf "is_before_word" "Reader.is_before_word" (defArgs sBefore) (defBody sBefore) (defScope sBefore) .none kV6 dc6 pm6 an6 cd6 ct6) :=
    ⟨⟨am6, nm6, km6⟩, F6, F6.binds fun _ _ _ _ _ _ us hl => match us, hl with | [_], _ => rfl⟩
  have cl : Rx K C := ⟨⟨pg, hd, po, sa⟩, nT, nA, nR⟩
  have kO : ∀ o : Op, KDct K w dO o.key (.str o.name)
    | .plus => by rw [key_str]; exact ⟨_, _, _, dOl, dOk, dO_plus, ⟨_, rfl⟩⟩
    | .minus => by rw [key_str]; exact ⟨_, _, _, dOl, dOk, dO_minus, ⟨_, rfl⟩⟩
    | .times => by rw [key_str]; exact ⟨_, _, _, dOl, dOk, dO_times, ⟨_, rfl⟩⟩
    | .less => by rw [key_str]; exact ⟨_, _, _, dOl, dOk, dO_less, ⟨_, rfl⟩⟩
    | .same => by rw [key_str]; exact ⟨_, _, _, dOl, dOk, dO_same, ⟨_, rfl⟩⟩
  have kS : ∀ o : Op, KDct K w dS o.name (.int o.str)
    | .plus => ⟨_, _, _, dSl, dSk, dS_plus, ⟨_, rfl⟩⟩
    | .minus => ⟨_, _, _, dSl, dSk, dS_minus, ⟨_, rfl⟩⟩
    | .times => ⟨_, _, _, dSl, dSk, dS_times, ⟨_, rfl⟩⟩
    | .less => ⟨_, _, _, dSl, dSk, dS_less, ⟨_, rfl⟩⟩
    | .same => ⟨_, _, _, dSl, dSk, dS_same, ⟨_, rfl⟩⟩
  have kG : ∀ o : Op, KDct K w dG o.name (.str o.mark)
    | .plus => ⟨_, _, _, dGl, dGk, dG_plus, ⟨_, rfl⟩⟩
    | .minus => ⟨_, _, _, dGl, dGk, dG_minus, ⟨_, rfl⟩⟩
    | .times => ⟨_, _, _, dGl, dGk, dG_times, ⟨_, rfl⟩⟩
    | .less => ⟨_, _, _, dGl, dGk, dG_less, ⟨_, rfl⟩⟩
    | .same => ⟨_, _, _, dGl, dGk, dG_same, ⟨_, rfl⟩⟩
  have kk : KKeys K dO (opAll.map Op.key) := ⟨⟨_, _, dOl, by
    refine Eq.trans dOm ?_
    show _ = [some (Op.key .plus), some (Op.key .minus), some (Op.key .times), some (Op.key .less), some (Op.key .same)]
    rw [key_str, key_str, key_str, key_str, key_str]⟩, dOn⟩
  have kq : ∀ H, SqT K H qa [.str (st (wd "known")), .str (st (wd "reason"))] := fun H => .inr ⟨_, itsq, nq, ql, rfl, rfl, by
      rw [← Array.length_toList, qi, sizeLine_eq]
      exact (by decide : 2 ≤ 16777216), by
      rw [qi, ← st_wd, ← st_wd]
      exact .cons ⟨_, rfl⟩ (.cons ⟨_, rfl⟩ .nil)⟩
  have T : Gx K w mg := ⟨PySem.W.mg_none_of X G z_all, PySem.W.mg_none_of X G z_len, PySem.W.mg_none_of X G z_int, PySem.W.mg_none_of X G z_isinstance, PySem.W.mg_none_of X G z_str, PySem.W.mg_none_of X G z_max, PySem.W.mg_none_of X G z_tuple, PySem.W.mg_none_of X G z_list, PySem.W.mg_none_of X G z_range, PySem.W.mg_none_of X G z_repr, ⟨_, PySem.W.mg_of X G cL⟩, ⟨_, PySem.W.mg_of X G cD⟩, ⟨_, PySem.W.mg_of X G cM⟩, ⟨_, PySem.W.mg_of X G cE⟩, ⟨_, PySem.W.mg_of X G cP⟩, ⟨_, PySem.W.mg_of X G cB⟩,
    ⟨dO, PySem.W.mg_of X G dOa, kk, kO⟩, ⟨dS, PySem.W.mg_of X G dSa, kS⟩, ⟨qa, PySem.W.mg_of X G qa1, kq⟩⟩
  let ff : Nat → Addr := fun n => match n with | 0 => f0 | 1 => f1 | 2 => f2 | 3 => f3 | 4 => f4 | 5 => f5 | 6 => f6 | 7 => f7 | 8 => f8 | 9 => f9 | 10 => f10 | 11 => f11 | 12 => f12 | 20 => f20 | 21 => f21 | 22 => f22 | 23 => f23 | 24 => f24 | 25 => f25 | _ => 0
  let gg : Nat → FuncData := fun n => match n with | 0 => (PySem.W.fnOf "__init__" "Reader.__init__" (defArgs sInit) (defBody sInit) (defScope sInit) .none kV0 dc0 pm0 an0 cd0 ct0) | 1 => (PySem.W.fnOf "operations" "Reader.operations" (defArgs sOps) (defBody sOps) (defScope sOps) .none kV1 dc1 pm1 an1 cd1 ct1) | 2 => (PySem.W.fnOf "sign_here" "Reader.sign_here" (defArgs sSign) (defBody sSign) (defScope sSign) .none kV2 dc2 pm2 an2 cd2 ct2) | 3 => (PySem.W.fnOf "operand" "Reader.operand" (defArgs sOpd) (defBody sOpd) (defScope sOpd) .none kV3 dc3 pm3 an3 cd3 ct3) | 4 => (PySem.W.fnOf "parentheses" "Reader.parentheses" (defArgs sPar) (defBody sPar) (defScope sPar) .none kV4 dc4 pm4 an4 cd4 ct4) | 5 => (PySem.W.fnOf "taken" "Reader.taken" (defArgs sTaken) (defBody sTaken) (defScope sTaken) .none kV5 dc5 pm5 an5 cd5 ct5) | 6 => (PySem.W.fnOf "is_before_word" "Reader.is_before_word" (defArgs sBefore) (defBody sBefore) (defScope sBefore) .none kV6 dc6 pm6 an6 cd6 ct6) | 7 => (PySem.W.fnOf "is_made_of" "is_made_of" (defArgs sMade) (defBody sMade) (defScope sMade) .none kV7 dc7 pm7 an7 cd7 ct7) | 8 => (PySem.W.fnOf "is_word" "is_word" (defArgs sIsWord) (defBody sIsWord) (defScope sIsWord) .none kV8 dc8 pm8 an8 cd8 ct8) | 9 => (PySem.W.fnOf "read_number" "read_number" (defArgs sNumber) (defBody sNumber) (defScope sNumber) .none kV9 dc9 pm9 an9 cd9 ct9) | 10 => (PySem.W.fnOf "read_word" "read_word" (defArgs sWord) (defBody sWord) (defScope sWord) .none kV10 dc10 pm10 an10 cd10 ct10) | 11 => (PySem.W.fnOf "read_expression" "read_expression" (defArgs sExpr) (defBody sExpr) (defScope sExpr) .none kV11 dc11 pm11 an11 cd11 ct11) | 12 => (PySem.W.fnOf "parse_expression" "parse_expression" (defArgs sParse) (defBody sParse) (defScope sParse) .none kV12 dc12 pm12 an12 cd12 ct12) | 20 => (PySem.W.fnOf "_law_tape" "_law_tape" (defArgs sTape) (defBody sTape) (defScope sTape) .none kV20 dc20 pm20 an20 cd20 ct20) | 21 => (PySem.W.fnOf "_law_draw" "_law_draw" (defArgs sDraw) (defBody sDraw) (defScope sDraw) .none kV21 dc21 pm21 an21 cd21 ct21) | 22 => (PySem.W.fnOf "_law_one" "_law_one" (defArgs sOne) (defBody sOne) (defScope sOne) .none kV22 dc22 pm22 an22 cd22 ct22) | 23 => (PySem.W.fnOf "_law_tree" "_law_tree" (defArgs sTree) (defBody sTree) (defScope sTree) .none kV23 dc23 pm23 an23 cd23 ct23) | 24 => (PySem.W.fnOf "_law_strength" "_law_strength" (defArgs sStrength) (defBody sStrength) (defScope sStrength) .none kV24 dc24 pm24 an24 cd24 ct24) | 25 => (PySem.W.fnOf "_law_shown_as" "_law_shown_as" (defArgs sShown) (defBody sShown) (defScope sShown) .none kV25 dc25 pm25 an25 cd25 ct25) | _ => (PySem.W.fnOf "__init__" "Reader.__init__" (defArgs sInit) (defBody sInit) (defScope sInit) .none kV0 dc0 pm0 an0 cd0 ct0)
  have R : Rdr K mg C ff gg := ⟨cl, PySem.W.mg_of X G aC, ⟨mkc, am0, nm0, kc⟩, F0, M0.b, M1, M2, M3, M4, M5, M6, D7, D8, D9, D10, D11, D12⟩
  have W : Wx K w mg f13 f14 _ _ := ⟨D13, D14, ⟨dG, PySem.W.mg_of X G dGa, kG⟩⟩
  have L : Lx K mg ff gg := ⟨D20, D21, D22, D23, D24, D25⟩
  exact ⟨_, fun s v => .of_eq rfl, fun base _ _ _ => ok_law F26 T R W L⟩
theorem walk {l : PySem.W.OpenLaw} {q : Program} {loose : List Str} {XP : (Str → Option Value) → Heap → Prop} {YP : World → Heap → Prop} {d : DefRec} {K : Params → PySem.W.Frag} (hn : l.most = some 63) (hdf : d.params.defaults = []) (hq : importsNone q = true)
    (hY : ∀ (w : World) (h : Heap), YP w h → (K w.params).In h)
    (F : ∀ (w : World) (mg : Str → Option Value) (fa : Addr) (h : Heap), (K w.params).In h → h.Ns mainGlobals mg → mg d.name = some (.ref fa) →
      ∃ fd : FuncData, (∀ (s : Shared) (u : Value), BindsTo s fd ⟨[u], []⟩ [("_law_script", u)]) ∧
        ∀ base : Heap, (K w.params).In base → base.Ns mainGlobals mg → (∃ o, base.get? sysModules = some o) → FnG l.prog w (K w.params) mg base 55 fa fd ["_law_script"] (spLaw (K w.params))) :
    PySem.W.WalkO q loose XP YP l.row.toRowW d [] (fun f vs => PySem.call f vs) :=
  walk_ofG (n := 63) (k := 55) (x := "_law_script") (sp := spLaw) hn (by decide) hdf ⟨rfl, by decide, by decide⟩ hq hY F (fun _ _ a ns hl hS => ⟨a, ns, rfl, hS, hl, fun _ => rfl⟩)
end Lg

open PySem PySem.W PyProof.Rows in
set_option maxRecDepth 100000 in
set_option maxHeartbeats 0 in
theorem PySem.Challenge.cw_wantedwork_k10_expressions_as_texts_holds : PySem.Challenge.rw_wantedwork_k10_expressions_as_texts.Holds := by
  w_on; o_law; k_head; (case hw => w_witness2)
  k_fill
  refine Lg.walk (l := PySem.Challenge.rw_wantedwork_k10_expressions_as_texts) rfl rfl (by decide +kernel) (fun w h Y => PySem.W.kIn_of Y) ?F
  case F =>
    intro w mg fa h KX G hmg
    refine' Lg.all_mk KX G hmg ?a7 ?l7 ?g7 ?k7 ?a8 ?l8 ?g8 ?k8 ?a9 ?l9 ?g9 ?k9 ?a10 ?l10 ?g10 ?k10 ?a11 ?l11 ?g11 ?k11 ?a12 ?l12 ?g12 ?k12 ?a13 ?l13 ?g13 ?k13 ?a14 ?l14 ?g14 ?k14 ?a20 ?l20 ?g20 ?k20 ?a21 ?l21 ?g21 ?k21 ?a22 ?l22 ?g22 ?k22 ?a23 ?l23 ?g23 ?k23 ?a24 ?l24 ?g24 ?k24 ?a25 ?l25 ?g25 ?k25 ?a26 ?l26 ?g26 ?k26 ?aC ?am0 ?lm0 ?gm0 ?km0 ?nm0 ?am1 ?lm1 ?gm1 ?km1 ?nm1 ?am2 ?lm2 ?gm2 ?km2 ?nm2 ?am3 ?lm3 ?gm3 ?km3 ?nm3 ?am4 ?lm4 ?gm4 ?km4 ?nm4 ?am5 ?lm5 ?gm5 ?km5 ?nm5 ?am6 ?lm6 ?gm6 ?km6 ?nm6 ?pg ?hd ?po ?sa ?kc ?mkc ?nT ?nA ?nR ?z_all ?z_len ?z_int ?z_isinstance ?z_str ?z_max ?z_tuple ?z_list ?z_range ?z_repr ?cL ?cD ?cM ?cE ?cP ?cB ?dOa ?dOl ?dOk ?dO_plus ?dO_minus ?dO_times ?dO_less ?dO_same ?dSa ?dSl ?dSk ?dS_plus ?dS_minus ?dS_times ?dS_less ?dS_same ?dGa ?dGl ?dGk ?dG_plus ?dG_minus ?dG_times ?dG_less ?dG_same ?dOm ?dOn ?qa1 ?ql ?qi
    (case a7 => k_is)
    (case l7 => k_is)
    (case g7 => k_is)
    (case k7 => k_is)
    (case a8 => k_is)
    (case l8 => k_is)
    (case g8 => k_is)
    (case k8 => k_is)
    (case a9 => k_is)
    (case l9 => k_is)
    (case g9 => k_is)
    (case k9 => k_is)
    (case a10 => k_is)
    (case l10 => k_is)
    (case g10 => k_is)
    (case k10 => k_is)
    (case a11 => k_is)
    (case l11 => k_is)
    (case g11 => k_is)
    (case k11 => k_is)
    (case a12 => k_is)
    (case l12 => k_is)
    (case g12 => k_is)
    (case k12 => k_is)
    (case a13 => k_is)
    (case l13 => k_is)
    (case g13 => k_is)
    (case k13 => k_is)
    (case a14 => k_is)
    (case l14 => k_is)
    (case g14 => k_is)
    (case k14 => k_is)
    (case a20 => k_is)
    (case l20 => k_is)
    (case g20 => k_is)
    (case k20 => k_is)
    (case a21 => k_is)
    (case l21 => k_is)
    (case g21 => k_is)
    (case k21 => k_is)
    (case a22 => k_is)
    (case l22 => k_is)
    (case g22 => k_is)
    (case k22 => k_is)
    (case a23 => k_is)
    (case l23 => k_is)
    (case g23 => k_is)
    (case k23 => k_is)
    (case a24 => k_is)
    (case l24 => k_is)
    (case g24 => k_is)
    (case k24 => k_is)
    (case a25 => k_is)
    (case l25 => k_is)
    (case g25 => k_is)
    (case k25 => k_is)
    (case a26 => k_is)
    (case l26 => k_is)
    (case g26 => k_is)
    (case k26 => k_is)
    (case aC => k_is)
    (case am0 => k_is)
    (case lm0 => k_is)
    (case gm0 => k_is)
    (case km0 => k_is)
    (case nm0 => k_is)
    (case am1 => k_is)
    (case lm1 => k_is)
    (case gm1 => k_is)
    (case km1 => k_is)
    (case nm1 => k_is)
    (case am2 => k_is)
    (case lm2 => k_is)
    (case gm2 => k_is)
    (case km2 => k_is)
    (case nm2 => k_is)
    (case am3 => k_is)
    (case lm3 => k_is)
    (case gm3 => k_is)
    (case km3 => k_is)
    (case nm3 => k_is)
    (case am4 => k_is)
    (case lm4 => k_is)
    (case gm4 => k_is)
    (case km4 => k_is)
    (case nm4 => k_is)
    (case am5 => k_is)
    (case lm5 => k_is)
    (case gm5 => k_is)
    (case km5 => k_is)
    (case nm5 => k_is)
    (case am6 => k_is)
    (case lm6 => k_is)
    (case gm6 => k_is)
    (case km6 => k_is)
    (case nm6 => k_is)
    (case pg => k_is)
    (case hd => k_is)
    (case po => k_is)
    (case sa => k_is)
    (case kc => k_is)
    (case mkc => k_is)
    (case nT => k_is)
    (case nA => k_is)
    (case nR => k_is)
    (case z_all => k_is)
    (case z_len => k_is)
    (case z_int => k_is)
    (case z_isinstance => k_is)
    (case z_str => k_is)
    (case z_max => k_is)
    (case z_tuple => k_is)
    (case z_list => k_is)
    (case z_range => k_is)
    (case z_repr => k_is)
    (case cL => k_is)
    (case cD => k_is)
    (case cM => k_is)
    (case cE => k_is)
    (case cP => k_is)
    (case cB => k_is)
    (case dOa => k_is)
    (case dOl => k_is)
    (case dOk => (show PySem.W.KeysLit _ [_, _, _, _, _]; exact ⟨⟨_, _, rfl, rfl⟩, ⟨_, _, rfl, rfl⟩, ⟨_, _, rfl, rfl⟩, ⟨_, _, rfl, rfl⟩, ⟨_, _, rfl, rfl⟩, trivial⟩))
    (case dO_plus => k_is)
    (case dO_minus => k_is)
    (case dO_times => k_is)
    (case dO_less => k_is)
    (case dO_same => k_is)
    (case dSa => k_is)
    (case dSl => k_is)
    (case dSk => (show PySem.W.KeysLit _ [_, _, _, _, _]; exact ⟨⟨_, _, rfl, rfl⟩, ⟨_, _, rfl, rfl⟩, ⟨_, _, rfl, rfl⟩, ⟨_, _, rfl, rfl⟩, ⟨_, _, rfl, rfl⟩, trivial⟩))
    (case dS_plus => k_is)
    (case dS_minus => k_is)
    (case dS_times => k_is)
    (case dS_less => k_is)
    (case dS_same => k_is)
    (case dGa => k_is)
    (case dGl => k_is)
    (case dGk => (show PySem.W.KeysLit _ [_, _, _, _, _]; exact ⟨⟨_, _, rfl, rfl⟩, ⟨_, _, rfl, rfl⟩, ⟨_, _, rfl, rfl⟩, ⟨_, _, rfl, rfl⟩, ⟨_, _, rfl, rfl⟩, trivial⟩))
    (case dG_plus => k_is)
    (case dG_minus => k_is)
    (case dG_times => k_is)
    (case dG_less => k_is)
    (case dG_same => k_is)
    (case dOm => rfl)
    (case dOn => rfl)
    (case qa1 => k_is)
    (case ql => k_is)
    (case qi => rfl)
#print axioms PySem.Challenge.cw_wantedwork_k10_expressions_as_texts_holds
