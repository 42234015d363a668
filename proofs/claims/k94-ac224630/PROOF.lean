import PyProof.Rows.All
import Wide.All
import OpenK.AllK
import Wide.FinOn
import HandS.ForMost
import HandS.ExcInit
import HandS.IsInst
import HandS.FStr
import KE.KExcInit
import KE.KExcMake
import KE.KExcIs
import HandS.Words
import PyProof.ReprRoads
import PyProof.FString4
import HandS.Ends
import PySem.Challenge.RW_wantedwork_k94_kinds_of_errors
set_option Elab.async false
set_option linter.all false
set_option maxRecDepth 100000
set_option maxHeartbeats 4000000
/-! Own error classes over ValueError, KeyError, LookupError, RuntimeError, OverflowError, as values. -/
namespace PySem
namespace Er
open PySem.W PySem.Calls PyProof.Rows
open Builtin Builtin.ObjectAttr
section
variable {prog : Program} {w : World} {M : Model} {A : Around} {E : Value → Shared → Prop} {R : Result → Shared → Prop}
variable {hh : Heap} {gg : Array GenState} {dr : Drawn} {tk : Nat} {oo : OsState}
variable {nm qn : Str} {C N : Addr} {bs bm bo : List Value} {hd : Bool} {sn : List Str} {sub : List Value} {ab : Bool} {cl : Option Bool} {dd : Option Addr} {k0 k1 k2 k3 k5 : Option Value} {B nw ini : String}

/-- what the making of such an object asks of the classes above it -/
structure Above (B : String) (bm : List Value) : Prop where
  has : bm.contains (.type B) = true
  noA : bm.contains (.type "AttributeError") = false
  noN : bm.contains (.type "NameError") = false
theorem Above.has1 (u : Above B bm) : (Value.ref C :: bm).contains (.type B) = true := by
  rw [List.contains_cons, u.has, Bool.or_true]
theorem Above.noA1 (u : Above B bm) : (Value.ref C :: bm).contains (.type "AttributeError") = false := by
  rw [List.contains_cons, u.noA]
  rfl
theorem Above.noN1 (u : Above B bm) : (Value.ref C :: bm).contains (.type "NameError") = false := by
  rw [List.contains_cons, u.noN]
  rfl
theorem new_check (F : ExcBaseFacts B nw ini bo) (u : Above B bm) {args : List Value} {Q : Unit → Shared → Prop}
    (hC : hh.get? C = some (excClassObj nm qn C N bs bm hd sn sub ab cl dd k0 k1 k2 k3 k5 nw)) (q : Q () ⟨hh, gg, dr, tk, oo⟩) :
    wpAny M A (checkBuiltinCall nw ⟨.ref C :: args, []⟩) Q E ⟨hh, gg, dr, tk, oo⟩ := by
  have c1 := u.has1 (C := C)
  have c2 := F.noStar
  simp only [checkBuiltinCall, F.newKind, F.newSplit, F.newRow]
  repeat (first
    | refine wpAny_loadPart_at hC ?_
    | (refine wpAny_isSubtype_exc hC ?_
       rw [c1])
    | refine wpAny_staticBase_exc hC ?_
    | refine wpAny_madeBy_exc hC ?_
    | simp only [bne_self_eq_false, Bool.false_eq_true, if_false]
    | wp_step)
  exact q
theorem new_run (F : ExcBaseFacts B nw ini bo) (u : Above B bm) {args : List Value}
    (hC : hh.get? C = some (excClassObj nm qn C N bs bm hd sn sub ab cl dd k0 k1 k2 k3 k5 nw))
    (q : R (.ok (.ret (.ref (hh.objs.size + 1)))) ⟨(hh.push (kdv_tup args)).push (HandSPX.excO C hh.objs.size), gg, dr, tk, oo⟩)
    (hz : args.length ≤ sizeLine) : codeAny (model prog w) A (.builtin nw ⟨.ref C :: args, []⟩) R ⟨hh, gg, dr, tk, oo⟩ := by
  have e1 := F.ends
  have c1 := u.has1 (C := C)
  have c2 := u.noA1 (C := C)
  have c3 := u.noN1 (C := C)
  refine codeAny_builtinAt F.entry ?_
  unfold Builtin.«BaseException.__new__»
  refine wpAt_bind ?_
  show wpAt _ _ _ (stack >>= _) _ _ _
  refine wpAt_bind (wpAt_stack fun _ _ => wpAt_of_wpAny ?_)
  wp_walk
  refine wpAt_of_wpAny ?_
  rw [F.owner]
  repeat (first
    | with_reducible refine wpAny_madeHere_exc F.canon hC ?_
    | with_reducible refine wpAny_loadPart_at hC ?_
    | (with_reducible refine wpAny_isSubtype_exc hC ?_
       first | rw [c1] | rw [c2] | rw [c3])
    | wp_step)
  show R _ _
  rw [Heap.size_push]
  exact q
theorem kept2 {o1 o2 : Obj} : ∀ b o, hh.get? b = some o → ((hh.push o1).push o2).get? b = some o := fun b o e =>
  Heap.get?_push_of_some _ (Heap.get?_push_of_some _ e)
theorem type_call (F : ExcBaseFacts B nw ini bo) (u : Above B bm) {args : List Value} {kw : List (Str × Value)} {fI : Addr} {Q : Fin → Shared → Prop}
    (hC : hh.get? C = some (excClassObj nm qn C N bs bm hd sn sub ab cl dd k0 k1 k2 k3 k5 nw)) (ek : kw = [])
    (hi : Looks (model prog w) hh (typeLookup (.ref C) "__init__") (some (.ref fI)))
    (hb : ∀ self, Looks (model prog w) hh (bindSpecial (.ref fI) self) (.ref fI, [self])) (hz : args.length ≤ sizeLine)
    (q : codeAny (model prog w) A (.call (.ref fI) ⟨.ref (hh.objs.size + 1) :: args, kw⟩)
      (fun r s' => match r with | .ok (.ret v) => v = .none ∧ Q (.done (.ret (.ref (hh.objs.size + 1)))) s' | .ok _ => False | .error e => E e s')
      ⟨(hh.push (kdv_tup args)).push (HandSPX.excO C hh.objs.size), gg, dr, tk, oo⟩) :
    wpAny (model prog w) A (Builtin.«type.__call__» ⟨.ref C :: args, kw⟩) Q E ⟨hh, gg, dr, tk, oo⟩ := by
  subst ek
  repeat (first
    | with_reducible refine wpAny_loadPart_at hC ?_
    | with_reducible refine wpAny_madeBy_exc hC ?_
    | wp_step)
  refine codeAny_call_builtin_code (Code.quiet_builtin _ F.quiet) (new_check F u hC ?_)
  refine new_run F u hC ?_ hz
  show wpAny _ _ _ _ _ _
  have hC2 := kept2 (o1 := kdv_tup args) (o2 := HandSPX.excO C hh.objs.size) _ _ hC
  have hnew : ((hh.push (kdv_tup args)).push (HandSPX.excO C hh.objs.size)).get? (hh.objs.size + 1) = some (HandSPX.excO C hh.objs.size) := by heap_get
  have hself : (Value.ref C :: bm).contains (.ref C) = true := by simp
  have i2 := hi.keeps (kept2 (o1 := kdv_tup args) (o2 := HandSPX.excO C hh.objs.size))
  have b2 := (hb (.ref (hh.objs.size + 1))).keeps (kept2 (o1 := kdv_tup args) (o2 := HandSPX.excO C hh.objs.size))
  unfold isInstance
  repeat (first
    | with_reducible refine wpAny_loadPart_at hnew ?_
    | (with_reducible refine wpAny_isSubtype_exc hC2 ?_
       rw [hself])
    | wp_step)
  show wpAny _ _ (typeLookup (.ref C) _) _ _ _
  refine i2.at ?_
  refine wpAny_holding (wpAny_bind (b2.at ?_))
  refine wpAny_bind (wpAny_call (codeAny_mono q fun r s' z => ?_))
  rcases r with e | (v | _ | _ | _) <;> first
    | exact z
    | exact z.elim
    | (obtain ⟨rfl, z⟩ := z
       first
         | exact wpAny_pure (wpAny_pure z)
         | (wp_walk
            exact z))
theorem make_call (F : ExcBaseFacts B nw ini bo) (u : Above B bm) {args : List Value} {fI : Addr}
    (hC : hh.get? C = some (excClassObj nm qn C N bs bm hd sn sub ab cl dd k0 k1 k2 k3 k5 nw))
    (hi : Looks (model prog w) hh (typeLookup (.ref C) "__init__") (some (.ref fI)))
    (hb : ∀ self, Looks (model prog w) hh (bindSpecial (.ref fI) self) (.ref fI, [self])) (hz : args.length ≤ sizeLine)
    (q : codeAny (model prog w) (A.under (.builtin "type.__call__" ⟨.ref C :: args, []⟩)) (.call (.ref fI) ⟨.ref (hh.objs.size + 1) :: args, []⟩)
      (InitBack (hh.objs.size + 1) R) ⟨(hh.push (kdv_tup args)).push (HandSPX.excO C hh.objs.size), gg, dr, tk, oo⟩) :
    codeAny (model prog w) A (.call (.ref C) ⟨args, []⟩) R ⟨hh, gg, dr, tk, oo⟩ := by
  have g1 := tc_lookup
  have g2 := tc_bind (.ref C)
  have gT : (⟨hh, gg, dr, tk, oo⟩ : Shared).TypeIs (.ref C) "type" := ⟨_, hC, rfl⟩
  refine codeAny_of_tree ?_
  show wpAny _ _ (callAny (.ref C) _) _ _ _
  repeat (any_goals (first
    | assumption
    | with_reducible refine wpAny_loadPart_at hC ?_
    | wp_step))
  refine ⟨rfl, ?_⟩
  refine codeAny_call_builtin_at (Code.quiet_builtin _ (by decide +kernel)) entry_typeCall ?_
  refine wpAny_check_type_call_sub hC (type_call F u hC rfl hi hb hz (codeAny_mono q fun r s' z => ?_))
  rcases r with e | (v | _ | _ | _) <;> exact z
/-! the same with one keyword -/
variable {f : Str} {v : Value}
theorem new_checkK (F : ExcBaseFacts B nw ini bo) (u : Above B bm) {Q : Unit → Shared → Prop}
    (hC : hh.get? C = some (excClassObj nm qn C N bs bm hd sn sub ab cl dd k0 k1 k2 k3 k5 nw)) (q : Q () ⟨hh, gg, dr, tk, oo⟩) :
    wpAny M A (checkBuiltinCall nw ⟨[.ref C], [(f, v)]⟩) Q E ⟨hh, gg, dr, tk, oo⟩ := by
  have c1 := u.has1 (C := C)
  have c2 := F.noStar
  simp only [checkBuiltinCall, F.newKind, F.newSplit, F.newRow]
  repeat (first
    | refine wpAny_loadPart_at hC ?_
    | (refine wpAny_isSubtype_exc hC ?_
       rw [c1])
    | refine wpAny_staticBase_exc hC ?_
    | refine wpAny_madeBy_exc hC ?_
    | simp only [bne_self_eq_false, Bool.false_eq_true, if_false]
    | wp_step)
  exact q
theorem new_runK (F : ExcBaseFacts B nw ini bo) (u : Above B bm)
    (hC : hh.get? C = some (excClassObj nm qn C N bs bm hd sn sub ab cl dd k0 k1 k2 k3 k5 nw))
    (q : R (.ok (.ret (.ref (hh.objs.size + 1)))) ⟨(hh.push (kdv_tup [])).push (HandSPX.excO C hh.objs.size), gg, dr, tk, oo⟩) :
    codeAny (model prog w) A (.builtin nw ⟨[.ref C], [(f, v)]⟩) R ⟨hh, gg, dr, tk, oo⟩ := by
  have e1 := F.ends
  have c1 := u.has1 (C := C)
  have c2 := u.noA1 (C := C)
  have c3 := u.noN1 (C := C)
  refine codeAny_builtinAt F.entry ?_
  unfold Builtin.«BaseException.__new__»
  refine wpAt_bind ?_
  show wpAt _ _ _ (stack >>= _) _ _ _
  refine wpAt_bind (wpAt_stack fun _ _ => wpAt_of_wpAny ?_)
  wp_walk
  refine wpAt_of_wpAny ?_
  rw [F.owner]
  repeat (first
    | with_reducible refine wpAny_madeHere_exc F.canon hC ?_
    | with_reducible refine wpAny_loadPart_at hC ?_
    | (with_reducible refine wpAny_isSubtype_exc hC ?_
       first | rw [c1] | rw [c2] | rw [c3])
    | wp_step)
  show R _ _
  rw [Heap.size_push]
  exact q
theorem type_callK (F : ExcBaseFacts B nw ini bo) (u : Above B bm) {fI : Addr} {Q : Fin → Shared → Prop}
    (hC : hh.get? C = some (excClassObj nm qn C N bs bm hd sn sub ab cl dd k0 k1 k2 k3 k5 nw))
    (hi : Looks (model prog w) hh (typeLookup (.ref C) "__init__") (some (.ref fI)))
    (hb : ∀ self, Looks (model prog w) hh (bindSpecial (.ref fI) self) (.ref fI, [self]))
    (q : codeAny (model prog w) A (.call (.ref fI) ⟨[.ref (hh.objs.size + 1)], [(f, v)]⟩)
      (fun r s' => match r with | .ok (.ret v) => v = .none ∧ Q (.done (.ret (.ref (hh.objs.size + 1)))) s' | .ok _ => False | .error e => E e s')
      ⟨(hh.push (kdv_tup [])).push (HandSPX.excO C hh.objs.size), gg, dr, tk, oo⟩) :
    wpAny (model prog w) A (Builtin.«type.__call__» ⟨[.ref C], [(f, v)]⟩) Q E ⟨hh, gg, dr, tk, oo⟩ := by
  repeat (first
    | with_reducible refine wpAny_loadPart_at hC ?_
    | with_reducible refine wpAny_madeBy_exc hC ?_
    | wp_step)
  refine codeAny_call_builtin_code (Code.quiet_builtin _ F.quiet) (new_checkK F u hC ?_)
  refine new_runK F u hC ?_
  show wpAny _ _ _ _ _ _
  have hC2 := kept2 (o1 := kdv_tup []) (o2 := HandSPX.excO C hh.objs.size) _ _ hC
  have hnew : ((hh.push (kdv_tup [])).push (HandSPX.excO C hh.objs.size)).get? (hh.objs.size + 1) = some (HandSPX.excO C hh.objs.size) := by heap_get
  have hself : (Value.ref C :: bm).contains (.ref C) = true := by simp
  have i2 := hi.keeps (kept2 (o1 := kdv_tup []) (o2 := HandSPX.excO C hh.objs.size))
  have b2 := (hb (.ref (hh.objs.size + 1))).keeps (kept2 (o1 := kdv_tup []) (o2 := HandSPX.excO C hh.objs.size))
  unfold isInstance
  repeat (first
    | with_reducible refine wpAny_loadPart_at hnew ?_
    | (with_reducible refine wpAny_isSubtype_exc hC2 ?_
       rw [hself])
    | wp_step)
  show wpAny _ _ (typeLookup (.ref C) _) _ _ _
  refine i2.at ?_
  refine wpAny_holding (wpAny_bind (b2.at ?_))
  refine wpAny_bind (wpAny_call (codeAny_mono q fun r s' z => ?_))
  rcases r with e | (v | _ | _ | _) <;> first
    | exact z
    | exact z.elim
    | (obtain ⟨rfl, z⟩ := z
       first
         | exact wpAny_pure (wpAny_pure z)
         | (wp_walk
            exact z))
theorem type_checkK {Q : Unit → Shared → Prop} (hC : hh.get? C = some (excClassObj nm qn C N bs bm hd sn sub ab cl dd k0 k1 k2 k3 k5 nw))
    (q : Q () ⟨hh, gg, dr, tk, oo⟩) : wpAny M A (checkBuiltinCall "type.__call__" ⟨[.ref C], [(f, v)]⟩) Q E ⟨hh, gg, dr, tk, oo⟩ := by
  have g3 := tc_sub
  have gT : (⟨hh, gg, dr, tk, oo⟩ : Shared).TypeIs (.ref C) "type" := ⟨_, hC, rfl⟩
  simp only [checkBuiltinCall, tc_kind, tc_split]
  repeat (any_goals (first
    | assumption
    | with_reducible refine wpAny_loadPart_at hC ?_
    | with_reducible refine wpAny_onRaise ?_
    | with_reducible refine wpAny_map ?_
    | wp_step))
theorem make_callK (F : ExcBaseFacts B nw ini bo) (u : Above B bm) {fI : Addr}
    (hC : hh.get? C = some (excClassObj nm qn C N bs bm hd sn sub ab cl dd k0 k1 k2 k3 k5 nw))
    (hi : Looks (model prog w) hh (typeLookup (.ref C) "__init__") (some (.ref fI)))
    (hb : ∀ self, Looks (model prog w) hh (bindSpecial (.ref fI) self) (.ref fI, [self]))
    (q : codeAny (model prog w) (A.under (.builtin "type.__call__" ⟨[.ref C], [(f, v)]⟩)) (.call (.ref fI) ⟨[.ref (hh.objs.size + 1)], [(f, v)]⟩)
      (InitBack (hh.objs.size + 1) R) ⟨(hh.push (kdv_tup [])).push (HandSPX.excO C hh.objs.size), gg, dr, tk, oo⟩) :
    codeAny (model prog w) A (.call (.ref C) ⟨[], [(f, v)]⟩) R ⟨hh, gg, dr, tk, oo⟩ := by
  have g1 := tc_lookup
  have g2 := tc_bind (.ref C)
  have gT : (⟨hh, gg, dr, tk, oo⟩ : Shared).TypeIs (.ref C) "type" := ⟨_, hC, rfl⟩
  refine codeAny_of_tree ?_
  show wpAny _ _ (callAny (.ref C) _) _ _ _
  repeat (any_goals (first
    | assumption
    | with_reducible refine wpAny_loadPart_at hC ?_
    | wp_step))
  refine ⟨rfl, ?_⟩
  refine codeAny_call_builtin_at (Code.quiet_builtin _ (by decide +kernel)) entry_typeCall ?_
  refine type_checkK hC (type_callK F u hC hi hb (codeAny_mono q fun r s' z => ?_))
  rcases r with e | (v | _ | _ | _) <;> exact z
end
end Er
end PySem

namespace PySem
namespace Er
open PySem.W PySem.Calls PyProof.Rows
open Builtin Builtin.ObjectAttr
/-- B's own __init__, by the name ini, lays the args anew -/
structure IniB (B ini : String) : Prop where
  slot : Slot B "__init__" ini
  entry : entryFor table ini = some Builtin.«BaseException.__init__»
  split : splitId ini = some (B, "__init__")
  kind : builtinKind ini = some .slot
  row : Manifest.signature? ini = some ⟨.positional, "*", B, .self, [⟨"args", .varPos, false⟩]⟩
  noStar : (B != "*") = true
theorem IniB.of {B nw ini : String} (F : ExcCallFacts B nw ini) : IniB B ini := ⟨F.init, F.initEntry, F.initSplit, F.initKind, F.initRow, F.noStar⟩
theorem ini_KeyError : IniB "KeyError" "KeyError.__init__" where
  slot := .of (owner := "KeyError") (n := "__init__") (by rw [typeLookup_type, builtinLookup_eq_fast]; kernel_rfl) (by decide +kernel) (by decide +kernel)
    (by decide +kernel) (by first | exact .inl (by decide +kernel) | exact .inr (by decide +kernel)) (by rw [isSubtype_type]; kernel_rfl)
  entry := entryFor_alias (id' := "BaseException.__init__") (by rw [fastTable_eq_tree]; kernel_rfl)
    (by first | rfl | decide +kernel) (by decide +kernel) (by rw [fastTable_eq_tree]; kernel_rfl)
  split := by kernel_rfl
  kind := by kernel_rfl
  row := by kernel_rfl
  noStar := by decide +kernel
abbrev keyTail : List Value := [.type "KeyError", .type "LookupError", .type "Exception", .type "BaseException", .type "object"]
theorem store_KeyError : StoreFacts "KeyError" keyTail "object.__setattr__" "object" where
  mro := by kernel_rfl
  slot := .of (owner := "object") (n := "__setattr__") (by rw [typeLookup_type, builtinLookup_eq_fast]; kernel_rfl)
    (by decide +kernel) (by decide +kernel) (by decide +kernel)
    (by first | exact .inl (by decide +kernel) | exact .inr (by decide +kernel)) (by rw [isSubtype_type]; kernel_rfl)
  entry := F.entry_object_sa
  kind := by decide +kernel
  split := by decide +kernel
  hasOwner := by decide +kernel
  args := fun _ _ _ => by unfold argsOk; kernel_rfl
  passes := fun _ => by kernel_rfl
section
variable {prog : Program} {w : World} {M : Model} {A : Around} {E : Value → Shared → Prop} {R : Result → Shared → Prop}
variable {hh : Heap} {gg : Array GenState} {dr : Drawn} {tk : Nat} {oo : OsState}
variable {nm qn : Str} {C N : Addr} {bs bm bo : List Value} {hd : Bool} {sn : List Str} {sub : List Value} {ab : Bool} {cl : Option Bool} {dd : Option Addr} {k0 k1 k2 k3 k5 : Option Value} {B nw ini : String}
theorem ini_check (F : IniB B ini) (hB : bm.contains (.type B) = true) {e : Addr} {oe : Obj} {args : List Value} {Q : Unit → Shared → Prop}
    (hC : hh.get? C = some (excClassObj nm qn C N bs bm hd sn sub ab cl dd k0 k1 k2 k3 k5 nw)) (he : hh.get? e = some oe) (hc : oe.cls = .ref C)
    (q : Q () ⟨hh, gg, dr, tk, oo⟩) : wpAny M A (checkBuiltinCall ini ⟨.ref e :: args, []⟩) Q E ⟨hh, gg, dr, tk, oo⟩ := by
  have c1 : (Value.ref C :: bm).contains (.type B) = true := by
    rw [List.contains_cons, hB, Bool.or_true]
  have c2 := F.noStar
  simp only [checkBuiltinCall, F.kind, F.split, F.row]
  repeat (first
    | (with_reducible refine wpAny_loadPart_at he ?_
       rw [hc])
    | with_reducible refine wpAny_loadPart_at hC ?_
    | (with_reducible refine wpAny_isSubtype_exc hC ?_
       rw [c1])
    | wp_step)
  refine wpAny_onRaise ?_
  have z : ∀ (a b : String) (n : Nat), Bind.check ⟨.positional, "*", B, .self, [⟨"args", .varPos, false⟩]⟩ a b n (List.map (fun x => x.fst) ({ pos := Value.ref e :: args } : Args).kw) = pure () :=
    fun _ _ _ => check_star_args _ _ _ _ _ _
  rw [z]
  exact wpAny_pure q
theorem ini_run (F : IniB B ini) (hB : bm.contains (.type B) = true) {e t0 : Addr} {args : List Value}
    (hC : hh.get? C = some (excClassObj nm qn C N bs bm hd sn sub ab cl dd k0 k1 k2 k3 k5 nw)) (he : hh.get? e = some (HandSPX.excO C t0)) (hz : args.length ≤ sizeLine)
    (q : ∀ h' t1, (∀ b o, b ≠ e → hh.get? b = some o → h'.get? b = some o) → h'.get? e = some (HandSPX.excO C t1) → R (.ok (.ret .none)) ⟨h', gg, dr, tk, oo⟩) :
    codeAny (model prog w) A (.call (.builtin ini) ⟨.ref e :: args, []⟩) R ⟨hh, gg, dr, tk, oo⟩ := by
  refine codeAny_call_builtin F.slot.plain F.entry (ini_check F hB hC he rfl ?_)
  exact exc_init_tree (cls := .ref C) (t0 := t0) (dv := none) (c2 := .none) (c3 := .none) (b4 := .bool false) he hz fun h' k1 k2 _ => q h' _ k1 k2
end
end Er
end PySem

namespace L2
open PySem PySem.Spec PyProof.Rows
/-- an own error class at C, over the built-in class B (whose tail is bo), made by nw -/
structure ErC (K : PySem.W.Frag) (C : Addr) (B nw : String) (bo : List Value) : Prop where
  isn : PySem.W.excInitIn K C bo nw = true
  ovr : PySem.W.excOver K C bo = true
  sa : PySem.W.findIn K (.ref C) "__setattr__" = some (some (.builtin "object.__setattr__"))
  hd : PySem.W.hasDictIn K C = true
  kC : PySem.W.keepIn K (.ref C) = true
  ga : PySem.W.findIn K (.ref C) "__getattribute__" = some (some (.builtin "BaseException.__getattribute__"))
  gg : PySem.W.findIn K (.ref C) "__getattr__" = some none
  exC : PySem.W.subIn K (.ref C) (.type "BaseException") = some true
  ca : PySem.W.findIn K (.ref C) "__class__" = some (some (.builtin "object.__class__"))
  cn : PySem.W.specialIn K (.builtin "object.__class__") "__get__" = some (some (.builtin "getset_descriptor.__get__"))
  ct : PySem.W.takesIn K (.builtin "object.__class__") = some true
  mo : PySem.W.mroIn K C (.type "object") = some true
  hB : bo.contains (.type B) = true
section
variable {X : Cx} {pins : List (Addr × Obj)} {σ : St} {H : Hp} {s : Shared} {a C dx : Addr} {f : Str} {y : V} {u : Value} {fs : List (Str × V)} {E : Value → Shared → Prop} {A : Around} {B nw ini : String} {bo : List Value}
/-- B.__init__(self, ..) -/
theorem er_ini {us : List Value} {Q : Value → Shared → Prop} (T : ErC X.K C B nw bo) (F : PySem.Er.IniB B ini) (I : Inv X pins σ H s) (e : H a = some (exo a C none)) (hl : us.length ≤ sizeLine)
    (h : ∀ s', Inv X pins σ H s' → Q .none s') : wpAny (model X.prog X.w) A (call (.builtin ini) (.ref a :: us)) Q E s := by
  obtain ⟨nm, N, qn, bs, bm, hd, sn, sub, ab, cl, dd, k0, k1, k2, k3, k5, hC, hT⟩ := PySem.W.excInit_of I.kIn T.isn
  obtain ⟨t1, ho⟩ := exo_at I.hok e
  obtain ⟨hp, g, d, t, os⟩ := s
  refine wpAny_call (PySem.Er.ini_run F ((hT B).trans T.hB) hC ho hl fun h' t2 k hx => ?_)
  have J := I.write (t' := t) (x := a) (e := a) (o := exo a C none) (by rw [e]; exact True.intro) (.inl rfl) k ⟨_, hx⟩ (exo_ok hx)
  have eu : upd H a (exo a C none) = H := by
    funext b
    by_cases hb : b = a
    · rw [hb, upd_same, e]
    · rw [upd_ne hb]
  rw [eu] at J
  exact h _ J
end
end L2

namespace PySem
namespace Er
open PySem.W PySem.Calls PyProof.Rows
open Builtin Builtin.ObjectAttr
section
variable {prog : Program} {w : World} {A : Around} {R : Result → Shared → Prop} {hp : Heap} {gg : Array GenState} {dr : Drawn} {tk : Nat} {oo : OsState}
theorem first_store {K : W.Frag} {B : String} {bo : List Value} {name : Str} {tt : Tok} {v : Value} {x C t0 : Addr} (SF : StoreFacts B bo "object.__setattr__" "object")
    (X : K.In hp) (hx : hp.get? x = some (HandSPX.excO C t0)) (ho : W.excOver K C bo = true) (ht : W.takerIn K C name = some none) (hd : W.hasDictIn K C = true)
    (q : ∀ h' t' dx, (∀ b o, b ≠ x → hp.get? b = some o → h'.get? b = some o) → hp.objs.size ≤ dx → dx ≠ x →
      h'.get? x = some { cls := .ref C, dict := some dx, data := .fields #[.ref t0, .none, .none, .none, .bool false, .none] } →
      h'.Ns1 dx (fun y => if y = name then some v else none) → R (.ok (.ret .none)) ⟨h', gg, dr, t', oo⟩) :
    codeAny (model prog w) A (.call (.builtin "object.__setattr__") ⟨[.ref x, .str name tt, v], []⟩) R ⟨hp, gg, dr, tk, oo⟩ := by
  refine osa_openX (s := ⟨hp, gg, dr, tk, oo⟩) (od := none) SF X ⟨hx, rfl, rfl, trivial⟩ ho ht fun b => ?_
  obtain ⟨cd, hc, hd'⟩ := any_some hd
  have hxs : x ≠ hp.objs.size := Nat.ne_of_lt (Heap.lt_size hx)
  refine wpAny_bind (wpAny_pure (wpAny_bind (instanceDict_exc (s := ⟨hp, gg, dr, tk, oo⟩) (t := t0) (c2 := .none) hx (looks_clsIn X hc) hd' ?_)))
  show wpAny _ _ (storeInDict hp.objs.size (.str name tt) name v) _ _ _
  have hx1 : (hp.push (dictOf [] 0)).get? x = some (HandSPX.excO C t0) := Heap.get?_push_of_some _ hx
  have hnew : (hp.push (dictOf [] 0)).get? hp.objs.size = some (dictOf [] 0) := Heap.get?_push_size _ rfl
  refine HandSPX.store_in_new ⟨dictOf [] 0, #[], 0, (Heap.get?_update_ne _ _ _ _ hxs.symm).trans hnew, rfl, fun e he => absurd he (by simp), fun _ => rfl⟩ fun h' t' hn hs => ?_
  refine q h' t' hp.objs.size (fun b o hb hbo => ?_) (Nat.le_refl _) hxs.symm ?_ hn
  · exact (hs.2 b (Nat.ne_of_lt (Heap.lt_size hbo))).trans ((Heap.get?_update_ne _ _ _ _ hb).trans (Heap.get?_push_of_some _ hbo))
  · exact (hs.2 x hxs).trans (Heap.get?_update_self _ hx1 rfl)
end
end Er
end PySem
namespace L2
open PySem PySem.Spec PyProof.Rows
section
variable {X : Cx} {pins : List (Addr × Obj)} {σ : St} {H : Hp} {s : Shared} {a C dx : Addr} {f : Str} {y : V} {u : Value} {fs : List (Str × V)} {E : Value → Shared → Prop} {A : Around} {B nw ini : String} {bo : List Value}
/-- self.f = y on an error that has no dict yet -/
theorem er_set {Q : Unit → Shared → Prop} (T : ErC X.K C B nw bo) (SF : StoreFacts B bo "object.__setattr__" "object") (I : Inv X pins σ H s) (e : H a = some (exo a C none)) (ht : PySem.W.takerIn X.K C f = some none) (ry : RelV y u)
    (h : ∀ dx s', H dx = none → dx ≠ a → Inv X pins σ (upd (upd H dx (exd dx [(f, y)])) a (exo a C (some dx))) s' → Q () s') :
    wpAny (model X.prog X.w) A (setAttr (.ref a) f u) Q E s := by
  obtain ⟨t1, ho⟩ := exo_at I.hok e
  obtain ⟨hp, g, d, t, os⟩ := s
  refine PySem.W.set_plain I.kIn (ox := HandSPX.excO C t1) (od := none) ⟨ho, rfl, rfl, trivial⟩ T.sa ?_
  refine PySem.Er.first_store SF I.kIn ho T.ovr ht T.hd (fun h' tk' dx k dn dne hx hn => ?_)
  have hnd : H dx = none := I.hok.fresh dn
  have nd : ∀ {b : Addr} {o : Obj}, hp.get? b = some o → b ≠ dx := fun {b o} q => Nat.ne_of_lt (Nat.lt_of_lt_of_le (Heap.lt_size q) dn)
  have na : ∀ {b : Addr}, H b = none → b ≠ a := fun {b} n z => by
    rw [z, e] at n
    cases n
  have two : ∀ {b : Addr} {o : HO}, H b = some o → exo a C none ≠ o → upd (upd H dx (exd dx [(f, y)])) a (exo a C (some dx)) b = some o := fun {b o} q ne => by
    rw [upd_ne (at_ne e q ne), upd_ne (ne_of_none q hnd)]
    exact q
  have U : Un X.fs [] H (upd (upd H dx (exd dx [(f, y)])) a (exo a C (some dx))) hp h' := {
    keep := fun b o q n _ _ => k b o (na n) q
    slot := fun b o q n _ _ => ⟨o.slots, k b o (na n) q⟩
    free := fun b o q n _ => by rw [upd_ne (na n), upd_ne (nd q)]; exact n
    there := fun b o q _ => by
      by_cases hb : b = a
      · exact ⟨_, by rw [hb]; exact hx⟩
      · exact ⟨o, k b o hb q⟩
    tups := fun b xs q => two q exo_tup
    frzs := fun b o v q => two q exo_frz
    tbls := fun b ps q => ⟨#[], by rw [two q exo_tbl]; simp⟩ }
  refine h dx _ hnd dne (I.un (t' := tk') U fun b o q => ?_)
  by_cases hb : b = a
  · subst hb
    rw [upd_same] at q
    cases q
    exact exo_ok hx
  · rw [upd_ne hb] at q
    by_cases hd : b = dx
    · subst hd
      rw [upd_same] at q
      cases q
      exact exd_ok hn (relO_put (fs := []) ry fun g => True.intro)
    · rw [upd_ne hd] at q
      refine (I.hok b o q).stay (fun c v hc z => k c v ?_ z) (fun c hc => two hc exo_own) fun c xs hc => two hc exo_tup
      rcases hc with hc | hc
      · rw [hc]
        exact hb
      · exact at_ne e hc exo_own
end
/-! ### the readings -/
/-- Z.__init__(self, ..): Z above the error's class; nothing is told of it -/
def tErI (ta : TA) (B : String) : TE := fun σ H Q => ta σ H fun vs H1 => ∃ (a C : Addr) (ws : List V), vs = .ref a :: ws ∧ ws.length ≤ 1000 ∧ H1 a = some (exo a C none) ∧ Q .non H1
/-- self.f = e, the first -/
def tErS (f : Str) (to te : TE) : TS := fun D σ H => te σ H fun y H1 => to σ H1 fun x H2 => ∃ a C : Addr, x = .ref a ∧ H2 a = some (exo a C none) ∧
  ∀ dx, H2 dx = none → dx ≠ a → D.nx σ (upd (upd H2 dx (exd dx [(f, y)])) a (exo a C (some dx)))
section
variable {X : Cx} {o e : Expr} {es : List Expr} {to te : TE} {ta : TA} {f x : Str} {p p' p1 p2 pos : Pos} {B nw ini : String} {bo : List Value} {W0 : Addr}
/-- self.f = e; all tracked errors without a dict here are of the class at C -/
theorem ps_ers {C : Addr} (T : ErC X.K C B nw bo) (SF : StoreFacts B bo "object.__setattr__" "object") (ht : PySem.W.takerIn X.K C f = some none) (ho : PE X o to) (he : PE X e te)
    (hs : swapsWith e (some (.Attribute o f p')) pos.line X.env = pure false := by rfl) : PS X (.Assign [.Attribute o f p'] e pos)
      (fun D σ H => te σ H fun y H1 => to σ H1 fun x H2 => ∃ a : Addr, x = .ref a ∧ H2 a = some (exo a C none) ∧
        ∀ dx, H2 dx = none → dx ≠ a → D.nx σ (upd (upd H2 dx (exd dx [(f, y)])) a (exo a C (some dx)))) := by
  refine ⟨fun pins s σ H D I h => ?_⟩
  refine plainObj_wpAny_Assign_Attribute (thn (he.run pins s σ H _ I h) fun v s1 ⟨y, H1, I1, r1, q1⟩ => thn (ho.run pins s1 σ H1 _ I1 q1) fun u s2 ⟨x, H2, I2, r2, a, ex, ea, q⟩ => ?_) hs
  subst ex
  obtain rfl : u = Value.ref a := r2
  exact er_set T SF I2 ea ht r1 fun dx s' n ne J => ⟨σ, _, J, q dx n ne⟩
/-- W.__init__(self, ..), W an own class that has its __init__ from B -/
theorem pe_eri {C : Addr} {pl : Sem Bool} (T : ErC X.K C B nw bo) (F : PySem.Er.IniB B ini) (hg : Gl X x) (hm : X.mg x = some (.ref W0))
    (hsp : PySem.W.specialIn X.K (.ref W0) "__getattribute__" = some (some (.builtin "type.__getattribute__"))) (hrd : PySem.W.readsIn X.K W0 (.type "type") = true)
    (hf : PySem.W.findCls X.K (.ref W0) (.type "type") "__init__" = some (.val (.builtin ini))) (hin : PySem.W.handedIn (.builtin ini) = true) (ha : PA X (e :: es) ta) (hdb : (x == ("__debug__" : Str)) = false := by decide)
    (hc : eval (.Call (.Attribute (.Name x p1) "__init__" p2) (e :: es) [] pos) X.env = (do
      let ov ← eval (.Name x p1) X.env
      standAt p2.atName
      let (f, first) ← holding [ov] (getMethod ov "__init__" pl)
      callWith pos f first (backTo pos (starEach (e :: es) X.env)) (backToKw pos (keywordEach [] X.env))) := by rfl)
    (he : starEach (e :: es) X.env = (false, eval e X.env) :: starEach es X.env := by rfl) (hpl : (backTo pos (starEach es X.env)).any (·.1) = false := by rfl) :
    PE X (.Call (.Attribute (.Name x p1) "__init__" p2) (e :: es) [] pos)
      (fun σ H Q => ta σ H fun vs H1 => ∃ (a : Addr) (ws : List V), vs = .ref a :: ws ∧ ws.length ≤ 1000 ∧ H1 a = some (exo a C none) ∧ Q .non H1) := by
  refine ⟨fun pins s σ H Q I h => ?_⟩
  refine PySem.W.methodCall_KW (ld_glob I hg hm ?_ hdb) hc
  refine PySem.W.method_cls I.kIn hsp (PySem.W.cls_value I.kIn hrd hf hin ?_)
  show wpAny _ _ (callWith pos (Value.builtin ini) [] (backTo pos (starEach (e :: es) X.env)) []) _ _ _
  refine PyProof.Rows.callWith_method1 (thn (ha.run pos pins _ σ H _ (I.tok _) h) fun us s1 ⟨vs, H1, I1, r1, a, ws, ev, hl, ea, q⟩ => ?_) he hpl
  subst ev
  cases r1 with
  | @cons _ u0 _ ur ra rw' =>
    obtain rfl : u0 = Value.ref a := ra
    have hlen : ur.length ≤ sizeLine := by
      rw [← Paired.length rw', sizeLine_eq]
      omega
    exact er_ini T F I1 ea hlen fun s' J => ⟨.non, H1, J, rfl, q⟩
/-- the same of a built-in class -/
theorem pe_erb {C : Addr} {pl : Sem Bool} (T : ErC X.K C B nw bo) (F : PySem.Er.IniB B ini) (hg : Gl X x) (hm : X.mg x = none) (hv : bootBuiltins x = some (.type B)) (hty : typeOf (.type B) = pure (.type "type")) (hst : Manifest.isStub B = false)
    (hf : PySem.W.findCls X.K (.type B) (.type "type") "__init__" = some (.val (.builtin ini))) (hin : PySem.W.handedIn (.builtin ini) = true) (ha : PA X (e :: es) ta) (hn : x ≠ "__name__" := by decide) (hdb : (x == ("__debug__" : Str)) = false := by decide)
    (hc : eval (.Call (.Attribute (.Name x p1) "__init__" p2) (e :: es) [] pos) X.env = (do
      let ov ← eval (.Name x p1) X.env
      standAt p2.atName
      let (f, first) ← holding [ov] (getMethod ov "__init__" pl)
      callWith pos f first (backTo pos (starEach (e :: es) X.env)) (backToKw pos (keywordEach [] X.env))) := by rfl)
    (he : starEach (e :: es) X.env = (false, eval e X.env) :: starEach es X.env := by rfl) (hpl : (backTo pos (starEach es X.env)).any (·.1) = false := by rfl) :
    PE X (.Call (.Attribute (.Name x p1) "__init__" p2) (e :: es) [] pos)
      (fun σ H Q => ta σ H fun vs H1 => ∃ (a : Addr) (ws : List V), vs = .ref a :: ws ∧ ws.length ≤ 1000 ∧ H1 a = some (exo a C none) ∧ Q .non H1) := by
  refine ⟨fun pins s σ H Q I h => ?_⟩
  refine PySem.W.methodCall_KW (ld_blt I hg hm hv ?_ hn hdb) hc
  obtain ⟨m, fr⟩ := I.fr
  refine PySem.W.method_type fr I.ok.mod.kin hty hst hf hin ?_
  show wpAny _ _ (callWith pos (Value.builtin ini) [] (backTo pos (starEach (e :: es) X.env)) []) _ _ _
  refine PyProof.Rows.callWith_method1 (thn (ha.run pos pins _ σ H _ (I.tok _) h) fun us s1 ⟨vs, H1, I1, r1, a, ws, ev, hl, ea, q⟩ => ?_) he hpl
  subst ev
  cases r1 with
  | @cons _ u0 _ ur ra rw' =>
    obtain rfl : u0 = Value.ref a := ra
    have hlen : ur.length ≤ sizeLine := by
      rw [← Paired.length rw', sizeLine_eq]
      omega
    exact er_ini T F I1 ea hlen fun s' J => ⟨.non, H1, J, rfl, q⟩
end
end L2

namespace L2
open PySem PySem.Spec PyProof.Rows
/-- a def's promise where no repr is under way -/
structure FnG (P : Program) (w : World) (K : PySem.W.Frag) (mg : Str → Option Value) (base : Heap) (k : Nat) (f : Addr) (fd : FuncData) (ps : List Str) (sp : Sp) : Prop where
  len : ∀ vs H Q, sp vs H Q E0 → vs.length = ps.length
  run : ∀ (A : Around) (outer : List Env) (s : Shared) (H : Hp) (args : Args) (us : List Value) (vs : List V) (Q : VK), Room k A → A.guards = some [] →
    Env0 P w K mg base A outer s H → BindsTo s fd args (ps.zip us) → Vals vs us → sp vs H Q E0 →
    codeAny (model P w) A (.call (.ref f) args) (CR CX0 outer P w H s Q E0) s
theorem FnG.of {P : Program} {w : World} {K : PySem.W.Frag} {mg : Str → Option Value} {base : Heap} {k : Nat} {f : Addr} {fd : FuncData} {ps : List Str} {sp : Sp}
    (F : FnOk P w K mg base CX0 k f fd ps sp) : FnG P w K mg base k f fd ps sp :=
  ⟨fun vs H Q => F.len vs H Q E0, fun A outer s H args us vs Q hr _ e b r q => F.run A outer s H args us vs Q E0 hr e b r q⟩
theorem FnG.mono {P : Program} {w : World} {K : PySem.W.Frag} {mg : Str → Option Value} {base : Heap} {j k : Nat} {f : Addr} {fd : FuncData} {ps : List Str} {sp : Sp}
    (F : FnG P w K mg base j f fd ps sp) (h : j ≤ k) : FnG P w K mg base k f fd ps sp :=
  ⟨F.len, fun A outer s H args us vs Q hr => F.run A outer s H args us vs Q (hr.mono h)⟩
section
variable {P : Program} {w : World} {K : PySem.W.Frag} {mg : Str → Option Value} {base : Heap}
theorem Fun.okG {x qual : Str} {st : Stmt} {f : Addr} {fd : FuncData} {N ps : List Str} {k : Nat} {sp : Sp} (F : Fun K x qual st f fd) (S : FnScope N ps (defScope st))
    (len : ∀ vs H Q, sp vs H Q E0 → vs.length = ps.length)
    (body : ∀ (cdv : Value) (A : Around) (outer : List Env) (s : Shared) (H : Hp) (vs : List V) (Q : VK),
      Room k (A.deeper (envOfC qual (defScope st) s.heap.objs.size f cdv)) → (A.deeper (envOfC qual (defScope st) s.heap.objs.size f cdv)).guards = some [] → sp vs H Q E0 →
      ∃ t, PSs (cxOf CX0 P w K mg base N qual (defScope st) f cdv A outer s H E0).nox (defBody st) t ∧ t { nx := fun _ H' => Q .non H', rt := Q } (start N vs) H) :
    FnG P w K mg base (k + 1) f fd ps sp := by
  obtain ⟨oc, od, kV, doc, pm, an, cdv, ct, osl, rfl, lk, hcd⟩ := F.ex
  refine ⟨len, fun A outer s H args us vs Q hr hg e0 hb r hsp => ?_⟩
  have hl := len _ _ _ hsp
  have KX : K.In s.heap := e0.mod.kin.keeps fun b o e => (e0.bs b o e).1
  have lim : s.heap.NoLimit := e0.mod.nolimit.keeps fun b o e => (e0.bs b o e).1
  refine codeAny_call_function hr.depth (KX _ _ lk) rfl S.co S.gen rfl (PySem.W.codeRec_of KX hcd) (hb _ _ _ _ ?_)
  refine wpAny_newFunctionEnv_cells S.kind (fun ⟨n, v⟩ hy => ?_) fun env he s1 x => ?_
  · rcases S.par n (List.of_mem_zip hy).1 with q | q
    · exact .inl q
    · exact .inr ⟨q, PySem.W.cellsFrom_some _ _ _ (.inl q)⟩
  subst he
  refine ⟨lim.keeps x.toInCall.keep, codeAny_func ?_⟩
  obtain ⟨t, ht, hq⟩ := body cdv A outer s H vs Q (hr.deeper _) hg hsp
  have I := inv_start (CX := CX0) (P := P) (w := w) (E := E0) S hr.hd e0 hl r x
  refine wpAny_mono (ht.run [] s1 (start N vs) H _ (I.wish _) hq) (fun fl s' hs => ?_) fun e s' hs => hs.elim
  cases fl with
  | ret u =>
    obtain ⟨v, σ', H', J, rv, q⟩ := hs
    exact ⟨v, H', J.os, J.bare, J.base, J.hok, rv, q⟩
  | next =>
    obtain ⟨σ', H', J, q⟩ := hs
    exact ⟨V.non, H', J.os, J.bare, J.base, J.hok, rfl, q⟩
  | brk =>
    obtain ⟨_, _, _, z⟩ := hs
    exact False.elim z
  | cont =>
    obtain ⟨_, _, _, z⟩ := hs
    exact False.elim z
end
section
variable {X : Cx} {k : Nat} {f : Addr} {fd : FuncData} {ps : List Str} {sp : Sp} {x : Str} {p pos : Pos} {e : Expr} {es : List Expr} {t : TA}
theorem run_fnG {pins : List (Addr × Obj)} {σ : St} {H : Hp} {s : Shared} {Q : VK} {us : List Value} {vs : List V} (F : FnG X.prog X.w X.K X.mg X.base k f fd ps sp) (hr : Room k X.A)
    (hgd : X.A.guards = some []) (hb : Binds X.K fd ps []) (I : Inv X pins σ H s) (r : Vals vs us) (h : sp vs H Q E0) :
    wpAny (model X.prog X.w) X.A (call (.ref f) us) (EP X pins σ Q) X.xe s := by
  have hl : (us ++ []).length = ps.length := by
    rw [List.append_nil, ← r.length]
    exact F.len _ _ _ h
  have hb' := hb s us I.kIn hl
  rw [List.append_nil] at hb'
  refine wpAny_call (codeAny_mono (F.run X.A X.stack s H ⟨us, []⟩ us vs Q hr hgd I.env0 hb' r h) fun r s' hq => ?_)
  rcases r with er | (u | _ | _ | _)
  all_goals first | exact hq.elim | exact I.after hq
/-- f(e, ..) -/
theorem pe_callG (F : FnG X.prog X.w X.K X.mg X.base k f fd ps sp) (hr : Room k X.A) (hgd : X.A.guards = some []) (hg : Gl X x) (hm : X.mg x = some (.ref f)) (hk : PySem.W.keepIn X.K (.ref f) = true)
    (hb : Binds X.K fd ps []) (ha : PA X (e :: es) t) (hdb : (x == ("__debug__" : Str)) = false := by decide) (he : starEach (e :: es) X.env = (false, eval e X.env) :: starEach es X.env := by rfl)
    (hpl : (backTo pos (starEach es X.env)).any (·.1) = false := by rfl) : PE X (.Call (.Name x p) (e :: es) [] pos) (fun σ H Q => t σ H fun vs H1 => sp vs H1 Q E0) := by
  refine ⟨fun pins s σ H Q I h => ?_⟩
  refine wpAny_Call_Name_kw (ld_glob I hg hm ?_ hdb)
  refine PySem.W.callWith_K (h₀ := X.base) I.ok.mod.kin hk (thn (ha.run pos pins s σ H _ I h) fun us s1 ⟨vs, H1, I1, r, q⟩ => ⟨I1.kIn, ?_⟩) he hpl
  exact run_fnG F hr hgd hb I1 r q
end
/-! ### an error as a value -/
/-- at a: an error of the class at C whose field f is y -/
def ErrAt (H : Hp) (a C : Addr) (f : Str) (y : V) : Prop := ∃ d, H a = some (exo a C (some d)) ∧ H d = some (exd d [(f, y)])
theorem ErrAt.same {H H' : Hp} {a C : Addr} {f : Str} {y : V} (x : ErrAt H a C f y) (e : Same H H') : ErrAt H' a C f y :=
  let ⟨d, h1, h2⟩ := x
  ⟨d, e _ _ h1, e _ _ h2⟩
/-- the promise of an __init__ that keeps its argument in f -/
def spErr (C : Addr) (f : Str) (Ok : V → Hp → Prop) : Sp := fun vs H Q _ => ∃ (a : Addr) (y : V), vs = [.ref a, y] ∧ H a = some (exo a C none) ∧ Ok y H ∧
  ∀ d, H d = none → d ≠ a → Q .non (upd (upd H d (exd d [(f, y)])) a (exo a C (some d)))
section
variable {X : Cx} {k : Nat} {fI C : Addr} {fd : FuncData} {ps : List Str} {f x kn : Str} {p pos kpos : Pos} {e : Expr} {te : TE} {B nw ini nwi : String} {bo bn : List Value} {Ok : V → Hp → Prop}
/-- behind the making -/
theorem er_made {pins : List (Addr × Obj)} {σ : St} {H1 : Hp} {y : V} {s1 : Shared} {args : Args} {R : Result → Shared → Prop} {A1 : Around}
    {tup : Obj} {us : List Value} (F1 : FnG X.prog X.w X.K X.mg X.base k fI fd ps (spErr C f Ok)) (hA : Room k A1) (hA2 : A1.guards = some []) (hA3 : A1.frames = X.A.frames)
    (I1 : Inv X pins σ H1 s1) (hb : BindsTo { s1 with heap := (s1.heap.push tup).push (HandSPX.excO C s1.heap.objs.size) } fd args (ps.zip us))
    (rv : Vals [V.ref (s1.heap.objs.size + 1), y] us) (hOk : ∀ a, H1 a = none → Ok y (upd H1 a (exo a C none)))
    (hR : ∀ s' H2, Inv X pins σ H2 s' → Same H1 H2 → H1 (s1.heap.objs.size + 1) = none → ErrAt H2 (s1.heap.objs.size + 1) C f y → R (.ok (.ret .none)) s') :
    codeAny (model X.prog X.w) A1 (.call (.ref fI) args) R { s1 with heap := (s1.heap.push tup).push (HandSPX.excO C s1.heap.objs.size) } := by
  have hsz : s1.heap.objs.size ≤ s1.heap.objs.size + 1 := Nat.le_succ _
  have hn : H1 (s1.heap.objs.size + 1) = none := I1.hok.fresh hsz
  have hget : ((s1.heap.push tup).push (HandSPX.excO C s1.heap.objs.size)).get? (s1.heap.objs.size + 1) = some (HandSPX.excO C s1.heap.objs.size) := by
    have z := Heap.get?_push_size (s1.heap.push tup) (o := HandSPX.excO C s1.heap.objs.size) rfl
    rw [Heap.size_push] at z
    exact z
  have I2 : Inv X pins σ (upd H1 (s1.heap.objs.size + 1) (exo (s1.heap.objs.size + 1) C none)) { s1 with heap := (s1.heap.push tup).push (HandSPX.excO C s1.heap.objs.size) } :=
    I1.laid (t' := s1.toks) (fun b o q => Heap.get?_push_of_some _ (Heap.get?_push_of_some _ q)) hsz (exo_ok hget)
  have e0 := I2.env0
  refine codeAny_mono (F1.run A1 X.stack _ _ args us _ (fun v H2 => v = .non ∧ Same H1 H2 ∧ ErrAt H2 (s1.heap.objs.size + 1) C f y) hA hA2
    ⟨hA3.trans e0.frames, e0.mod, e0.bs, e0.bsz, e0.funs, e0.frf, e0.hok, e0.bare⟩ hb rv
    ⟨s1.heap.objs.size + 1, y, rfl, upd_same, hOk _ hn, fun d hd nd => ⟨rfl, fun b o q => ?_, d, upd_same, ?_⟩⟩) fun r s' hq => ?_
  · rw [upd_ne (ne_of_none q hn)]
    have nb : b ≠ d := fun z => by
      rw [z] at q
      rw [upd_ne nd, q] at hd
      cases hd
    rw [upd_ne nb, upd_ne (ne_of_none q hn)]
    exact q
  · rw [upd_ne nd, upd_same]
  · cases r with
    | error er => exact False.elim hq
    | ok fl =>
      cases fl with
      | ret u =>
        obtain ⟨v, H2, J, rv2, ev, hs, he⟩ := I2.after hq
        subst ev
        cases (show u = Value.none from rv2)
        exact hR s' H2 J hs hn he
      | next => exact False.elim hq
      | brk => exact False.elim hq
      | cont => exact False.elim hq
end
end L2

namespace L2
open PySem PySem.Spec PyProof.Rows
theorem typeCall_guards {A : Around} {us : List Value} {kw : List (Str × Value)} (h : A.guards = some []) : (A.under (.builtin "type.__call__" ⟨us, kw⟩)).guards = some [] := by
  first
    | exact h
    | (show pushGuards (Code.guards _) A.guards = some []
       rw [show Code.guards (.builtin "type.__call__" ⟨us, kw⟩) = [] from by first | rfl | simp [Code.guards, Code.isGuard, guardIds]]
       exact h)
theorem typeCall_frames {A : Around} {us : List Value} {kw : List (Str × Value)} : (A.under (.builtin "type.__call__" ⟨us, kw⟩)).frames = A.frames := by
  first
    | rfl
    | simp [Around.under, Code.envs, Code.isFrame, pushEnvs]
/-- the reading of C(y) and C(f=y), as a value -/
def tErV (C : Addr) (f : Str) (Ok : V → Hp → Prop) (ta : TA) : TE := fun σ H Q => ta σ H fun vs H1 => ∃ y, vs = [y] ∧ (∀ a, H1 a = none → Ok y (upd H1 a (exo a C none))) ∧
  ∀ H2 a, Same H1 H2 → H1 a = none → ErrAt H2 a C f y → Q (.ref a) H2
section
variable {X : Cx} {k : Nat} {fI C : Addr} {fd : FuncData} {ps : List Str} {f x kn : Str} {p pos kpos : Pos} {e : Expr} {ta : TA} {B nw Bn nwi : String} {bo bn : List Value} {Ok : V → Hp → Prop}
theorem above_of {bm : List Value} (u : PySem.Er.Above Bn bo) (hT : ∀ X : String, bm.contains (.type X) = bo.contains (.type X)) : PySem.Er.Above Bn bm :=
  ⟨(hT _).trans u.has, (hT _).trans u.noA, (hT _).trans u.noN⟩
/-- C(y) -/
theorem pe_errV (T : ErC X.K C B nw bo) (FB : ExcBaseFacts Bn nw nwi bn) (u : PySem.Er.Above Bn bo) (iC : PySem.W.findIn X.K (.ref C) "__init__" = some (some (.ref fI)))
    (tI : PySem.W.typeIn X.K (.ref fI) = some (.type "function")) (F1 : FnG X.prog X.w X.K X.mg X.base k fI fd ["self", f] (spErr C f Ok)) (hr : Room (k + 1) X.A) (hgd : X.A.guards = some [])
    (hb : Binds X.K fd ["self", f] []) (hg : Gl X x) (hm : X.mg x = some (.ref C)) (ha : PA X [e] ta) (hdb : (x == ("__debug__" : Str)) = false := by decide)
    (hs : starEach (e :: []) X.env = (false, eval e X.env) :: starEach [] X.env := by rfl) (hpl : (backTo pos (starEach [] X.env)).any (·.1) = false := by rfl) :
    PE X (.Call (.Name x p) [e] [] pos) (tErV C f Ok ta) := by
  refine ⟨fun pins s σ H Q I h => ?_⟩
  refine wpAny_Call_Name_kw (ld_glob I hg hm ?_ hdb)
  refine PySem.W.callWith_K (h₀ := X.base) I.ok.mod.kin T.kC (thn (ha.run pos pins s σ H _ I h) fun us s1 ⟨vs, H1, I1, r1, y, ev, hOk, hq⟩ => ⟨I1.kIn, ?_⟩) hs hpl
  subst ev
  show wpAny _ _ (call (.ref C) us) _ _ _
  obtain ⟨nm, N, qn, bs, bm, hd, sn, sub, ab, cl, dd, k0, k1, k2, k3, k5, hC, hT⟩ := PySem.W.excInit_of I1.kIn T.isn
  have hus : us.length ≤ sizeLine := by
    rw [← Paired.length r1, sizeLine_eq]
    exact (by decide : 1 ≤ 16777216)
  obtain ⟨hp, gg, dr, tk, oo⟩ := s1
  have hsz : hp.objs.size ≤ hp.objs.size + 1 := Nat.le_succ _
  refine wpAny_call (PySem.Er.make_call FB (above_of u hT) hC (PySem.W.looks_findIn I1.kIn iC) (fun self => PySem.W.bind_fn I1.kIn self tI) hus
    (er_made (s1 := ⟨hp, gg, dr, tk, oo⟩) (A1 := X.A.under (.builtin "type.__call__" ⟨.ref C :: us, []⟩)) (us := Value.ref (hp.objs.size + 1) :: us) F1 (hr.make C us []) (typeCall_guards hgd) typeCall_frames I1 ?_ (.cons rfl r1) hOk fun s' H2 J hsame hn he => ⟨rfl, .ref (hp.objs.size + 1), H2, J, rfl, hq H2 _ hsame hn he⟩))
  · have KX : X.K.In ((hp.push (PySem.W.kdv_tup us)).push (HandSPX.excO C hp.objs.size)) := I1.kIn.keeps PySem.Er.kept2
    have z := hb ⟨(hp.push (PySem.W.kdv_tup us)).push (HandSPX.excO C hp.objs.size), gg, dr, tk, oo⟩ (Value.ref (hp.objs.size + 1) :: us) KX (by
      rw [List.append_nil, List.length_cons, ← Paired.length r1]
      rfl)
    rw [List.append_nil] at z
    exact z
/-- C(f=y) -/
theorem pe_errK {tk : TA} {kws : List Keyword} (T : ErC X.K C B nw bo) (FB : ExcBaseFacts Bn nw nwi bn) (u : PySem.Er.Above Bn bo) (iC : PySem.W.findIn X.K (.ref C) "__init__" = some (some (.ref fI)))
    (tI : PySem.W.typeIn X.K (.ref fI) = some (.type "function")) (F1 : FnG X.prog X.w X.K X.mg X.base k fI fd ["self", f] (spErr C f Ok)) (hr : Room (k + 1) X.A) (hgd : X.A.guards = some [])
    (hb : ∀ (s : Shared) (u v : Value), BindsTo s fd ⟨[u], [(f, v)]⟩ [("self", u), (f, v)]) (hg : Gl X x) (hm : X.mg x = some (.ref C)) (ha : PK X kws tk) (hdb : (x == ("__debug__" : Str)) = false := by decide)
    (hall : (backToKw pos (keywordEach kws X.env)).all (·.1.isSome) = true := by rfl) (hks : (backToKw pos (keywordEach kws X.env)).filterMap (·.1) = [f] := by rfl)
    (hpl : ((backTo pos (starEach [] X.env)).any (·.1) || (backToKw pos (keywordEach kws X.env)).any (·.1.isNone)) = false := by rfl) :
    PE X (.Call (.Name x p) [] kws pos) (tErV C f Ok tk) := by
  refine ⟨fun pins s σ H Q I h => ?_⟩
  refine wpAny_Call_Name_kw (ld_glob I hg hm ?_ hdb)
  refine PySem.W.callWith_KW0 (h₀ := X.base) I.ok.mod.kin T.kC hall (thn (ha.run pos pins s σ H _ I h) fun us s1 ⟨vs, H1, I1, r1, y, ev, hOk, hq⟩ => ⟨I1.kIn, ?_⟩) hpl
  subst ev
  rw [hks]
  cases r1 with
  | @cons _ u1 _ ur ry rn =>
  cases rn
  show wpAny _ _ (call (.ref C) [] [(f, u1)]) _ _ _
  obtain ⟨nm, N, qn, bs, bm, hd, sn, sub, ab, cl, dd, k0, k1, k2, k3, k5, hC, hT⟩ := PySem.W.excInit_of I1.kIn T.isn
  obtain ⟨hp, gg, dr, tk, oo⟩ := s1
  exact wpAny_call (PySem.Er.make_callK FB (above_of u hT) hC (PySem.W.looks_findIn I1.kIn iC) (fun self => PySem.W.bind_fn I1.kIn self tI)
    (er_made (s1 := ⟨hp, gg, dr, tk, oo⟩) (A1 := X.A.under (.builtin "type.__call__" ⟨[.ref C], [(f, u1)]⟩)) (us := [Value.ref (hp.objs.size + 1), u1]) F1 (hr.make C [] [(f, u1)]) (typeCall_guards hgd) typeCall_frames I1
      (hb _ _ _) (.cons rfl (.cons ry .nil)) hOk fun s' H2 J hsame hn he => ⟨rfl, .ref (hp.objs.size + 1), H2, J, rfl, hq H2 _ hsame hn he⟩))
/-! ### what is asked of an error -/
theorem err_inst {pins : List (Addr × Obj)} {σ : St} {H : Hp} {s : Shared} {a : Addr} {y : V} (I : Inv X pins σ H s) (h : ErrAt H a C f y) :
    ∃ ox od mA d, PySem.W.InstAt s.heap a ox C (some od) ∧ s.heap.Ns1 d mA ∧ s.heap.get? d = some od ∧ ∀ g, RelO ([(f, y)].lookup g) (mA g) := by
  obtain ⟨d, h1, h2⟩ := h
  obtain ⟨t1, ho⟩ := exo_at I.hok h1
  obtain ⟨mA, hns, rel⟩ := exd_at I.hok h2
  obtain ⟨od, es, ep, hod, hr⟩ := id hns
  exact ⟨_, od, mA, d, ⟨ho, rfl, rfl, hod⟩, hns, hod, rel⟩
/-- e.f -/
theorem pe_errF {o : Expr} {to : TE} {n : Str} (ho : PE X o to) (hb : attributeBase o n X.env (eval o X.env) = eval o X.env := by rfl) :
    PE X (.Attribute o n pos) (fun σ H Q => to σ H fun x H1 => ∃ (a C : Addr) (y : V) (B nw : String) (bo : List Value), x = .ref a ∧ ErrAt H1 a C n y ∧ ErC X.K C B nw bo ∧ PySem.W.findIn X.K (.ref C) n = some none ∧ Q y H1) := by
  refine ⟨fun pins s σ H Q I h => ?_⟩
  refine attr_of hb (thn (ho.run pins s σ H _ I h) fun u s1 ⟨x, H1, I1, rx, a, C, y, B, nw, bo, ex, he, T, hno, q⟩ => ?_)
  subst ex
  obtain rfl : u = Value.ref a := rx
  obtain ⟨d, h1, h2⟩ := he
  obtain ⟨t1, hoe⟩ := exo_at I1.hok h1
  obtain ⟨mA, hns, rel⟩ := exd_at I1.hok h2
  obtain ⟨od, hod, hl⟩ := lookIn_ns hns
  have r1 := rel n
  have lk : [(n, y)].lookup n = some y := by simp [List.lookup]
  rw [lk] at r1
  obtain ⟨u, hu, ru⟩ := RelO.some_of r1
  have J : PySem.W.InstAt s1.heap a { cls := .ref C, dict := some d, data := .fields #[.ref t1, .none, .none, .none, .bool false, .none] } C (some od) := ⟨hoe, rfl, rfl, hod⟩
  exact HandSPX.exc_get I1.kIn J T.ga T.gg T.exC (PySem.W.findObj_own T.hd hno rfl (by rw [hl, hu])) (handed_of ru) ⟨y, H1, I1.tok _, ru, q⟩
/-- isinstance(e, c) -/
def rIsErr (K : PySem.W.Frag) : List V → Hp → VK → Prop := fun xs H Q => ∃ (a C : Addr) (f : Str) (y c : V) (u : Value) (b : Bool) (B nw : String) (bo : List Value), xs = [.ref a, c] ∧ ErrAt H a C f y ∧ ErC K C B nw bo ∧
  ClsV c u ∧ PySem.W.kitOne K (.ref C) u = some b ∧ Q (.bl b) H
theorem call_isErr : CallR X (.builtin "isinstance") (rIsErr X.K) := by
  intro pins s σ H xs us Q I r h
  obtain ⟨a, C, f, y, c, u, b, B, nw, bo, rfl, he, T, k, e, q⟩ := h
  obtain ⟨u1, u2, rfl, r1, r2⟩ := vals2 r
  have e2 := k.eq r2
  subst e2
  obtain rfl : u1 = Value.ref a := r1
  obtain ⟨ox, od, mA, d, J, _⟩ := err_inst I he
  obtain ⟨cd, hcd, _⟩ := PySem.W.any_some T.hd
  exact PySem.W.kia_one (PySem.W.kitx_exc (gt := none) (ox := ox) (od := some od) (by rw [hcd]; rfl) T.ga T.gg T.exC T.ca T.cn T.ct T.mo) I.kIn J e (fun z => nomatch z) fun tk => ⟨.bl b, H, I.tok tk, rfl, q⟩
end
end L2

namespace L2
open PySem PySem.Spec PyProof.Rows
/-- {'a': 1}, the one dict that is shown here -/
abbrev oneKv : List (Key × V) := [(Sum.inr ("a" : Str), V.int 1)]
abbrev oneDict : PyData := .dict [(.str "a", .int 1)]
/-- v is the data d -/
inductive Dy (K : PySem.W.Frag) (H : Hp) : V → PyData → Prop where
  | plain {v : V} {d : PyData} (h : Dp K H v d) (n : d.hasDict = false) : Dy K H v d
  | dict {a : Addr} (e : H a = some (.dK oneKv)) : Dy K H (.ref a) oneDict
section
variable {X : Cx} {pins : List (Addr × Obj)} {σ : St} {H : Hp} {s : Shared}
theorem Dy.reads (I : Inv X pins σ H s) {v : V} {d : PyData} {u : Value} (h : Dy X.K H v d) (r : RelV v u) : ∃ as, Reads s.heap u d as ∧ (d.hasDict = true → sysModules ∉ as) := by
  cases h with
  | plain h n =>
    obtain ⟨as, q⟩ := Dp.reads I _ _ _ h r
    exact ⟨as, q, fun z => by rw [n] at z; cases z⟩
  | @dict a e =>
    obtain rfl : u = Value.ref a := r
    obtain ⟨_, hm, vs, kv, o, es, ep, ho, ex, hd, _, pr, _⟩ := (show ObjOk X.prog X.w H s.heap a (.dK oneKv) from I.hok a _ e)
    cases kv with
    | @cons _ q _ _ h1 h2 =>
      cases h2
      obtain ⟨k, w⟩ := q
      obtain ⟨e1, t, e2⟩ := h1
      dsimp only at e1 e2
      subst e1 e2
      obtain ⟨es⟩ := es
      dsimp only at pr
      cases pr with
      | @cons en _ _ _ p1 p2 p3 =>
        cases p3
        dsimp only at p1 p2
        obtain ⟨x, tk, e3, e4⟩ : ∃ (x : Str) (tk : Tok), en.key = .str x tk ∧ x = "a" := by
          have p1' : keyIs (Sum.inr ("a" : Str)) en.key = true := p1
          rcases keyIs_shape p1' with ⟨i, t', q1, q2⟩ | ⟨x, t', q1, q2⟩
          · cases q1
          · exact ⟨x, t', q2, (Sum.inr.inj q1).symm⟩
        subst e4
        refine ⟨_, Reads.dict (kvs := [(.str "a", .int 1)]) ho ex.1 hd (as := []) (bs := []) ?_ ?_, fun _ => ?_⟩
        · show ReadsAll _ [en.key] [.str "a"] []
          rw [e3]
          exact .cons (.str _ _) .nil
        · show ReadsAll _ [en.val] [.int 1] []
          rw [p2]
          exact .cons (.int _ _) .nil
        · have na : a ≠ sysModules := by simpa using hm
          simp [Ne.symm na]
theorem Dy.readsAll (I : Inv X pins σ H s) {v : V} {d : PyData} (h : Dy X.K H v d) : ∀ (n : Nat) (us : List Value), Vals (List.replicate n v) us → ∃ as, ReadsAll s.heap us (List.replicate n d) as ∧ (d.hasDict = true → sysModules ∉ as)
  | 0, _, r => by
    cases r
    exact ⟨[], .nil, fun _ => by simp⟩
  | n + 1, _, r => by
    cases r with
    | cons r1 r2 =>
      obtain ⟨as, q1, q2⟩ := Dy.reads I h r1
      obtain ⟨bs, q3, q4⟩ := Dy.readsAll I h n _ r2
      exact ⟨as ++ bs, .cons q1 q3, fun z w => (List.mem_append.mp w).elim (q2 z) (q4 z)⟩
end
/-- what can be shown, shortly -/
structure Short (d : PyData) : Prop where
  sh : d.showable = true
  ln : d.shown.length ≤ 100
  dp : d.depth ≤ 10
  st : ∀ x, d = .str x → x.length ≤ 100
section
variable {X : Cx} {e : Expr} {te : TE} {pos : Pos} {k : Nat}
/-- {x}: some short text -/
theorem pe_fmtD (hr : Room k X.A) (hgd : X.A.guards = some []) (he : PE X e te) : PE X (.FormattedValue e (-1) none pos)
    (fun σ H Q => te σ H fun x H1 => ∃ d, Dy X.K H1 x d ∧ Short d ∧ ∀ m : Str, m.length ≤ 100 → Q (.str m) H1) := by
  refine ⟨fun pins s σ H Q I h => ?_⟩
  refine wpAny_FormattedValue_plain (thn (he.run pins s σ H _ I h) fun v s1 ⟨x, H1, I1, r1, d, hd, sh, q⟩ => ?_)
  have hun := hr.units
  obtain ⟨as, rd, hsm⟩ := Dy.reads I1 hd r1
  have hz : d.shown.length ≤ sizeLine := Nat.le_trans sh.ln (by rw [sizeLine_eq]; decide)
  have fin : ∀ {a : Addr}, v = .ref a → wpAny (model X.prog X.w) X.A (formatField v Str.empty) (EP X pins σ Q) X.xe s1 := fun {a} ev => by
    subst ev
    exact formatField_of_reads rd sh.sh hsm hgd (by have := sh.dp; omega) (fun _ _ z => z) (fun h' u tk hk => ⟨.str d.shown, H1, I1.kept hk, ⟨u, rfl⟩, q _ sh.ln⟩) hz
  cases rd with
  | none => exact wpAny_formatField_none ⟨.str "None", H1, I1.tok _, ⟨_, rfl⟩, q _ sh.ln⟩
  | bool b => exact wpAny_formatField_bool ⟨.str (if b then "True" else "False"), H1, I1.tok _, ⟨_, rfl⟩, q _ sh.ln⟩
  | int i t =>
    have hi : i.natAbs.log2 < 1920 := by
      have z := sh.sh
      simpa [PyData.showable] using z
    exact wpAny_formatField_int hi ⟨.str (toString i), H1, I1.tok _, ⟨_, rfl⟩, q _ sh.ln⟩
  | str x t =>
    have hx := sh.st x rfl
    exact wpAny_formatField_str ⟨.str x, H1, I1, ⟨_, rfl⟩, q _ hx⟩ ⟨.str x, H1, I1.tok _, ⟨_, rfl⟩, q _ hx⟩ (Nat.le_trans hx (by rw [sizeLine_eq]; decide))
  | list => exact fin rfl
  | tuple => exact fin rfl
  | dict => exact fin rfl
theorem dictAll_rep {d : PyData} : ∀ n : Nat, PyData.hasDictAll (List.replicate n d) = true → d.hasDict = true
  | 0, z => by cases z
  | n + 1, z => by
    have z3 : (d.hasDict || PyData.hasDictAll (List.replicate n d)) = true := z
    cases hh : d.hasDict with
    | true => rfl
    | false =>
      rw [hh, Bool.false_or] at z3
      exact hh.symm.trans (dictAll_rep n z3)
/-- repr([v] * n) -/
def rRepr (K : PySem.W.Frag) : List V → Hp → VK → Prop := fun xs H Q => ∃ (l : Addr) (n : Nat) (v : V) (d : PyData), xs = [.ref l] ∧ H l = some (.lst (List.replicate n v)) ∧ Dy K H v d ∧
  (PyData.list (List.replicate n d)).showable = true ∧ (PyData.list (List.replicate n d)).shown.length ≤ 10000 ∧ (PyData.list (List.replicate n d)).depth ≤ 20 ∧
  Q (.str (PyData.list (List.replicate n d)).shown) H
theorem call_reprL (hr : Room k X.A) (hgd : X.A.guards = some []) (hS : ∃ o, X.base.get? sysModules = some o) : CallR X (.builtin "repr") (rRepr X.K) := by
  intro pins s σ H xs us Q I r h
  obtain ⟨l, n, v, d, rfl, hl, hd, h1, h2, h3, q⟩ := h
  cases r with
  | @cons _ u _ ur ru rn =>
  cases rn
  obtain rfl : u = Value.ref l := ru
  obtain ⟨_, its, m, rv, hget⟩ := (show ObjOk X.prog X.w H s.heap l (.lst (List.replicate n v)) from I.hok l _ hl)
  obtain ⟨as, ra, hsm⟩ := Dy.readsAll I hd n its rv
  have hun := hr.units
  have nl : l ≠ sysModules := fun z => by
    obtain ⟨o, ho⟩ := hS
    have w := (I.bs _ _ ho).2
    rw [← z, hl] at w
    cases w
  have rd : Reads s.heap (.ref l) (.list (List.replicate n d)) (l :: as) := Reads.list hget rfl rfl ra
  refine repr_of_reads' rd h1 (fun z w => ?_) hgd (by omega) (fun _ _ z => z) (fun h' u tk hk => ⟨.str _, H, I.kept hk, ⟨u, rfl⟩, q⟩) (Nat.le_trans h2 (by rw [sizeLine_eq]; decide))
  rcases List.mem_cons.mp w with w | w
  · exact nl w.symm
  · exact hsm (dictAll_rep n z) w
end
end L2

namespace K94
open PySem PySem.Spec PyProof.Rows L2
def top (i : Nat) : Stmt := PySem.Challenge.pw_wantedwork_k94_kinds_of_errors.main.body.getD i (.Pass ⟨0, 0, 0, 0⟩)
abbrev veT : List Value := [.type "ValueError", .type "Exception", .type "BaseException", .type "object"]
abbrev leT : List Value := [.type "LookupError", .type "Exception", .type "BaseException", .type "object"]
abbrev reT : List Value := [.type "RuntimeError", .type "Exception", .type "BaseException", .type "object"]
abbrev oeT : List Value := [.type "OverflowError", .type "ArithmeticError", .type "Exception", .type "BaseException", .type "object"]
def Shows (K : PySem.W.Frag) (y : V) (H : Hp) : Prop := ∃ d, Dy K H y d ∧ Short d
/-- WorkError's __init__ is ValueError's -/
structure WorkC (K : PySem.W.Frag) (mg : Str → Option Value) (W0 : Addr) : Prop where
  mg : mg "WorkError" = some (.ref W0)
  sp : PySem.W.specialIn K (.ref W0) "__getattribute__" = some (some (.builtin "type.__getattribute__"))
  rd : PySem.W.readsIn K W0 (.type "type") = true
  fc : PySem.W.findCls K (.ref W0) (.type "type") "__init__" = some (.val (.builtin "ValueError.__init__"))
theorem iniVE : PySem.Er.IniB "ValueError" "ValueError.__init__" := .of PySem.F.excCall_ValueError
theorem iniLE : PySem.Er.IniB "LookupError" "LookupError.__init__" := .of PySem.F.excCall_LookupError
theorem iniRE : PySem.Er.IniB "RuntimeError" "RuntimeError.__init__" := .of PySem.F.excCall_RuntimeError
theorem iniOE : PySem.Er.IniB "OverflowError" "OverflowError.__init__" := .of PySem.F.excCall_OverflowError
theorem two_texts {x m : Str} (hx : (Str.empty ++ x).length ≤ 100) (hm : m.length ≤ 100) : (Str.empty ++ x ++ m).length ≤ sizeLine := by
  rw [strLen_append, sizeLine_eq]
  omega
section
variable {P : Program} {w : World} {K : PySem.W.Frag} {mg : Str → Option Value} {base : Heap} {f C W0 : Addr} {fd : FuncData}
abbrev s2 : Stmt := inClass (top 2) 0
theorem sc2 : FnScope ["self", "part"] ["self", "part"] (defScope s2) := ⟨rfl, rfl, rfl, by decide +kernel, rfl, by decide +kernel, by decide +kernel⟩
theorem ok2 (F : Fun K "__init__" "InvalidPlan.__init__" s2 f fd) (T : ErC K C "ValueError" "ValueError.__new__" veT) (Wc : WorkC K mg W0) (ht : PySem.W.takerIn K C "part" = some none) :
    FnG P w K mg base 1 f fd ["self", "part"] (spErr C "part" (Shows K)) := by
  refine F.okG sc2 (fun vs H Q h => ?_) (fun cdv A outer s H vs Q hr hgd h => ?_)
  · obtain ⟨a, y, rfl, _⟩ := h
    rfl
  · obtain ⟨a, y, rfl, ea, ⟨d, hd, sh⟩, q⟩ := h
    refine ⟨_, pss_cons (ps_expr (pe_eri T iniVE (by rfl) Wc.mg Wc.sp Wc.rd Wc.fc (by decide +kernel) (pa_cons (pv 0) (pa_cons (pe_joined (PJ.cons pe_str (PJ.cons (pe_fmtD hr hgd (pv 1)) PJ.nil))) pa_nil)))) (pss_one (ps_ers T PySem.F.store_ValueError ht (pv 0) (pv 1))), ?_⟩
    refine ⟨_, rfl, _, rfl, by size_fits, y, rfl, d, hd, sh, fun m hm => ⟨_, rfl, two_texts (by decide +kernel) hm, a, [_], rfl, Nat.le_of_ble_eq_true rfl, ea, ?_⟩⟩
    exact ⟨_, rfl, _, rfl, a, rfl, ea, fun dx h1 h2 => q dx h1 h2⟩
abbrev s3 : Stmt := inClass (top 3) 0
theorem sc3 : FnScope ["self", "name"] ["self", "name"] (defScope s3) := ⟨rfl, rfl, rfl, by decide +kernel, rfl, by decide +kernel, by decide +kernel⟩
theorem ok3 (F : Fun K "__init__" "InvalidProgram.__init__" s3 f fd) (T : ErC K C "ValueError" "ValueError.__new__" veT) (Wc : WorkC K mg W0) (ht : PySem.W.takerIn K C "name" = some none) :
    FnG P w K mg base 1 f fd ["self", "name"] (spErr C "name" (Shows K)) := by
  refine F.okG sc3 (fun vs H Q h => ?_) (fun cdv A outer s H vs Q hr hgd h => ?_)
  · obtain ⟨a, y, rfl, _⟩ := h
    rfl
  · obtain ⟨a, y, rfl, ea, ⟨d, hd, sh⟩, q⟩ := h
    refine ⟨_, pss_cons (ps_expr (pe_eri T iniVE (by rfl) Wc.mg Wc.sp Wc.rd Wc.fc (by decide +kernel) (pa_cons (pv 0) (pa_cons (pe_joined (PJ.cons pe_str (PJ.cons (pe_fmtD hr hgd (pv 1)) PJ.nil))) pa_nil)))) (pss_one (ps_ers T PySem.F.store_ValueError ht (pv 0) (pv 1))), ?_⟩
    refine ⟨_, rfl, _, rfl, by size_fits, y, rfl, d, hd, sh, fun m hm => ⟨_, rfl, two_texts (by decide +kernel) hm, a, [_], rfl, Nat.le_of_ble_eq_true rfl, ea, ?_⟩⟩
    exact ⟨_, rfl, _, rfl, a, rfl, ea, fun dx h1 h2 => q dx h1 h2⟩
abbrev s4 : Stmt := inClass (top 4) 0
theorem sc4 : FnScope ["self", "value"] ["self", "value"] (defScope s4) := ⟨rfl, rfl, rfl, by decide +kernel, rfl, by decide +kernel, by decide +kernel⟩
theorem ok4 (F : Fun K "__init__" "InvalidName.__init__" s4 f fd) (T : ErC K C "ValueError" "ValueError.__new__" veT) (Wc : WorkC K mg W0) (ht : PySem.W.takerIn K C "value" = some none) :
    FnG P w K mg base 1 f fd ["self", "value"] (spErr C "value" (Shows K)) := by
  refine F.okG sc4 (fun vs H Q h => ?_) (fun cdv A outer s H vs Q hr hgd h => ?_)
  · obtain ⟨a, y, rfl, _⟩ := h
    rfl
  · obtain ⟨a, y, rfl, ea, ⟨d, hd, sh⟩, q⟩ := h
    refine ⟨_, pss_cons (ps_expr (pe_eri T iniVE (by rfl) Wc.mg Wc.sp Wc.rd Wc.fc (by decide +kernel) (pa_cons (pv 0) (pa_cons pe_str pa_nil)))) (pss_one (ps_ers T PySem.F.store_ValueError ht (pv 0) (pv 1))), ?_⟩
    exact ⟨_, rfl, a, [_], rfl, Nat.le_of_ble_eq_true rfl, ea, _, rfl, _, rfl, a, rfl, ea, fun dx h1 h2 => q dx h1 h2⟩
abbrev s5 : Stmt := inClass (top 5) 0
theorem sc5 : FnScope ["self", "value"] ["self", "value"] (defScope s5) := ⟨rfl, rfl, rfl, by decide +kernel, rfl, by decide +kernel, by decide +kernel⟩
theorem ok5 (F : Fun K "__init__" "InvalidKey.__init__" s5 f fd) (T : ErC K C "ValueError" "ValueError.__new__" veT) (Wc : WorkC K mg W0) (ht : PySem.W.takerIn K C "value" = some none) :
    FnG P w K mg base 1 f fd ["self", "value"] (spErr C "value" (Shows K)) := by
  refine F.okG sc5 (fun vs H Q h => ?_) (fun cdv A outer s H vs Q hr hgd h => ?_)
  · obtain ⟨a, y, rfl, _⟩ := h
    rfl
  · obtain ⟨a, y, rfl, ea, ⟨d, hd, sh⟩, q⟩ := h
    refine ⟨_, pss_cons (ps_expr (pe_eri T iniVE (by rfl) Wc.mg Wc.sp Wc.rd Wc.fc (by decide +kernel) (pa_cons (pv 0) (pa_cons pe_str pa_nil)))) (pss_one (ps_ers T PySem.F.store_ValueError ht (pv 0) (pv 1))), ?_⟩
    exact ⟨_, rfl, a, [_], rfl, Nat.le_of_ble_eq_true rfl, ea, _, rfl, _, rfl, a, rfl, ea, fun dx h1 h2 => q dx h1 h2⟩
abbrev s6 : Stmt := inClass (top 6) 0
theorem sc6 : FnScope ["self", "value"] ["self", "value"] (defScope s6) := ⟨rfl, rfl, rfl, by decide +kernel, rfl, by decide +kernel, by decide +kernel⟩
theorem ok6 (F : Fun K "__init__" "InvalidNumber.__init__" s6 f fd) (T : ErC K C "ValueError" "ValueError.__new__" veT) (Wc : WorkC K mg W0) (ht : PySem.W.takerIn K C "value" = some none) :
    FnG P w K mg base 1 f fd ["self", "value"] (spErr C "value" (Shows K)) := by
  refine F.okG sc6 (fun vs H Q h => ?_) (fun cdv A outer s H vs Q hr hgd h => ?_)
  · obtain ⟨a, y, rfl, _⟩ := h
    rfl
  · obtain ⟨a, y, rfl, ea, ⟨d, hd, sh⟩, q⟩ := h
    refine ⟨_, pss_cons (ps_expr (pe_eri T iniVE (by rfl) Wc.mg Wc.sp Wc.rd Wc.fc (by decide +kernel) (pa_cons (pv 0) (pa_cons pe_str pa_nil)))) (pss_one (ps_ers T PySem.F.store_ValueError ht (pv 0) (pv 1))), ?_⟩
    exact ⟨_, rfl, a, [_], rfl, Nat.le_of_ble_eq_true rfl, ea, _, rfl, _, rfl, a, rfl, ea, fun dx h1 h2 => q dx h1 h2⟩
abbrev s7 : Stmt := inClass (top 7) 0
theorem sc7 : FnScope ["self", "value"] ["self", "value"] (defScope s7) := ⟨rfl, rfl, rfl, by decide +kernel, rfl, by decide +kernel, by decide +kernel⟩
theorem ok7 (F : Fun K "__init__" "InvalidPolicy.__init__" s7 f fd) (T : ErC K C "ValueError" "ValueError.__new__" veT) (Wc : WorkC K mg W0) (ht : PySem.W.takerIn K C "value" = some none) :
    FnG P w K mg base 1 f fd ["self", "value"] (spErr C "value" (Shows K)) := by
  refine F.okG sc7 (fun vs H Q h => ?_) (fun cdv A outer s H vs Q hr hgd h => ?_)
  · obtain ⟨a, y, rfl, _⟩ := h
    rfl
  · obtain ⟨a, y, rfl, ea, ⟨d, hd, sh⟩, q⟩ := h
    refine ⟨_, pss_cons (ps_expr (pe_eri T iniVE (by rfl) Wc.mg Wc.sp Wc.rd Wc.fc (by decide +kernel) (pa_cons (pv 0) (pa_cons pe_str pa_nil)))) (pss_one (ps_ers T PySem.F.store_ValueError ht (pv 0) (pv 1))), ?_⟩
    exact ⟨_, rfl, a, [_], rfl, Nat.le_of_ble_eq_true rfl, ea, _, rfl, _, rfl, a, rfl, ea, fun dx h1 h2 => q dx h1 h2⟩
abbrev s8 : Stmt := inClass (top 8) 0
theorem sc8 : FnScope ["self", "index"] ["self", "index"] (defScope s8) := ⟨rfl, rfl, rfl, by decide +kernel, rfl, by decide +kernel, by decide +kernel⟩
theorem ok8 (F : Fun K "__init__" "InvalidLog.__init__" s8 f fd) (T : ErC K C "ValueError" "ValueError.__new__" veT) (Wc : WorkC K mg W0) (ht : PySem.W.takerIn K C "index" = some none) :
    FnG P w K mg base 1 f fd ["self", "index"] (spErr C "index" (Shows K)) := by
  refine F.okG sc8 (fun vs H Q h => ?_) (fun cdv A outer s H vs Q hr hgd h => ?_)
  · obtain ⟨a, y, rfl, _⟩ := h
    rfl
  · obtain ⟨a, y, rfl, ea, ⟨d, hd, sh⟩, q⟩ := h
    refine ⟨_, pss_cons (ps_expr (pe_eri T iniVE (by rfl) Wc.mg Wc.sp Wc.rd Wc.fc (by decide +kernel) (pa_cons (pv 0) (pa_cons (pe_joined (PJ.cons pe_str (PJ.cons (pe_fmtD hr hgd (pv 1)) PJ.nil))) pa_nil)))) (pss_one (ps_ers T PySem.F.store_ValueError ht (pv 0) (pv 1))), ?_⟩
    refine ⟨_, rfl, _, rfl, by size_fits, y, rfl, d, hd, sh, fun m hm => ⟨_, rfl, two_texts (by decide +kernel) hm, a, [_], rfl, Nat.le_of_ble_eq_true rfl, ea, ?_⟩⟩
    exact ⟨_, rfl, _, rfl, a, rfl, ea, fun dx h1 h2 => q dx h1 h2⟩
abbrev s9 : Stmt := inClass (top 9) 0
theorem sc9 : FnScope ["self", "line"] ["self", "line"] (defScope s9) := ⟨rfl, rfl, rfl, by decide +kernel, rfl, by decide +kernel, by decide +kernel⟩
theorem ok9 (F : Fun K "__init__" "InvalidText.__init__" s9 f fd) (T : ErC K C "ValueError" "ValueError.__new__" veT) (Wc : WorkC K mg W0) (ht : PySem.W.takerIn K C "line" = some none) :
    FnG P w K mg base 1 f fd ["self", "line"] (spErr C "line" (Shows K)) := by
  refine F.okG sc9 (fun vs H Q h => ?_) (fun cdv A outer s H vs Q hr hgd h => ?_)
  · obtain ⟨a, y, rfl, _⟩ := h
    rfl
  · obtain ⟨a, y, rfl, ea, ⟨d, hd, sh⟩, q⟩ := h
    refine ⟨_, pss_cons (ps_expr (pe_eri T iniVE (by rfl) Wc.mg Wc.sp Wc.rd Wc.fc (by decide +kernel) (pa_cons (pv 0) (pa_cons (pe_joined (PJ.cons pe_str (PJ.cons (pe_fmtD hr hgd (pv 1)) PJ.nil))) pa_nil)))) (pss_one (ps_ers T PySem.F.store_ValueError ht (pv 0) (pv 1))), ?_⟩
    refine ⟨_, rfl, _, rfl, by size_fits, y, rfl, d, hd, sh, fun m hm => ⟨_, rfl, two_texts (by decide +kernel) hm, a, [_], rfl, Nat.le_of_ble_eq_true rfl, ea, ?_⟩⟩
    exact ⟨_, rfl, _, rfl, a, rfl, ea, fun dx h1 h2 => q dx h1 h2⟩
abbrev s10 : Stmt := inClass (top 10) 0
theorem sc10 : FnScope ["self", "value"] ["self", "value"] (defScope s10) := ⟨rfl, rfl, rfl, by decide +kernel, rfl, by decide +kernel, by decide +kernel⟩
theorem ok10 (F : Fun K "__init__" "InvalidCommand.__init__" s10 f fd) (T : ErC K C "ValueError" "ValueError.__new__" veT) (Wc : WorkC K mg W0) (ht : PySem.W.takerIn K C "value" = some none) :
    FnG P w K mg base 1 f fd ["self", "value"] (spErr C "value" (Shows K)) := by
  refine F.okG sc10 (fun vs H Q h => ?_) (fun cdv A outer s H vs Q hr hgd h => ?_)
  · obtain ⟨a, y, rfl, _⟩ := h
    rfl
  · obtain ⟨a, y, rfl, ea, ⟨d, hd, sh⟩, q⟩ := h
    refine ⟨_, pss_cons (ps_expr (pe_eri T iniVE (by rfl) Wc.mg Wc.sp Wc.rd Wc.fc (by decide +kernel) (pa_cons (pv 0) (pa_cons pe_str pa_nil)))) (pss_one (ps_ers T PySem.F.store_ValueError ht (pv 0) (pv 1))), ?_⟩
    exact ⟨_, rfl, a, [_], rfl, Nat.le_of_ble_eq_true rfl, ea, _, rfl, _, rfl, a, rfl, ea, fun dx h1 h2 => q dx h1 h2⟩
abbrev s11 : Stmt := inClass (top 11) 0
theorem sc11 : FnScope ["self", "key"] ["self", "key"] (defScope s11) := ⟨rfl, rfl, rfl, by decide +kernel, rfl, by decide +kernel, by decide +kernel⟩
theorem ok11 (F : Fun K "__init__" "UnknownTask.__init__" s11 f fd) (T : ErC K C "KeyError" "LookupError.__new__" PySem.Er.keyTail) (hb : mg "KeyError" = none) (hfc : PySem.W.findCls K (.type "KeyError") (.type "type") "__init__" = some (.val (.builtin "KeyError.__init__"))) (ht : PySem.W.takerIn K C "key" = some none) :
    FnG P w K mg base 1 f fd ["self", "key"] (spErr C "key" (Shows K)) := by
  refine F.okG sc11 (fun vs H Q h => ?_) (fun cdv A outer s H vs Q hr hgd h => ?_)
  · obtain ⟨a, y, rfl, _⟩ := h
    rfl
  · obtain ⟨a, y, rfl, ea, ⟨d, hd, sh⟩, q⟩ := h
    refine ⟨_, pss_cons (ps_expr (pe_erb T PySem.Er.ini_KeyError (by rfl) hb (by decide +kernel) (by kernel_rfl) (by decide +kernel) hfc (by decide +kernel) (pa_cons (pv 0) (pa_cons pe_str pa_nil)))) (pss_one (ps_ers T PySem.Er.store_KeyError ht (pv 0) (pv 1))), ?_⟩
    exact ⟨_, rfl, a, [_], rfl, Nat.le_of_ble_eq_true rfl, ea, _, rfl, _, rfl, a, rfl, ea, fun dx h1 h2 => q dx h1 h2⟩
abbrev s12 : Stmt := inClass (top 12) 0
theorem sc12 : FnScope ["self", "key"] ["self", "key"] (defScope s12) := ⟨rfl, rfl, rfl, by decide +kernel, rfl, by decide +kernel, by decide +kernel⟩
theorem ok12 (F : Fun K "__init__" "NotHeld.__init__" s12 f fd) (T : ErC K C "LookupError" "LookupError.__new__" leT) (hb : mg "LookupError" = none) (hfc : PySem.W.findCls K (.type "LookupError") (.type "type") "__init__" = some (.val (.builtin "LookupError.__init__"))) (ht : PySem.W.takerIn K C "key" = some none) :
    FnG P w K mg base 1 f fd ["self", "key"] (spErr C "key" (Shows K)) := by
  refine F.okG sc12 (fun vs H Q h => ?_) (fun cdv A outer s H vs Q hr hgd h => ?_)
  · obtain ⟨a, y, rfl, _⟩ := h
    rfl
  · obtain ⟨a, y, rfl, ea, ⟨d, hd, sh⟩, q⟩ := h
    refine ⟨_, pss_cons (ps_expr (pe_erb T iniLE (by rfl) hb (by decide +kernel) (by kernel_rfl) (by decide +kernel) hfc (by decide +kernel) (pa_cons (pv 0) (pa_cons pe_str pa_nil)))) (pss_one (ps_ers T PySem.F.store_LookupError ht (pv 0) (pv 1))), ?_⟩
    exact ⟨_, rfl, a, [_], rfl, Nat.le_of_ble_eq_true rfl, ea, _, rfl, _, rfl, a, rfl, ea, fun dx h1 h2 => q dx h1 h2⟩
abbrev s13 : Stmt := inClass (top 13) 0
theorem sc13 : FnScope ["self", "worker"] ["self", "worker"] (defScope s13) := ⟨rfl, rfl, rfl, by decide +kernel, rfl, by decide +kernel, by decide +kernel⟩
theorem ok13 (F : Fun K "__init__" "LeaseLost.__init__" s13 f fd) (T : ErC K C "RuntimeError" "RuntimeError.__new__" reT) (hb : mg "RuntimeError" = none) (hfc : PySem.W.findCls K (.type "RuntimeError") (.type "type") "__init__" = some (.val (.builtin "RuntimeError.__init__"))) (ht : PySem.W.takerIn K C "worker" = some none) :
    FnG P w K mg base 1 f fd ["self", "worker"] (spErr C "worker" (Shows K)) := by
  refine F.okG sc13 (fun vs H Q h => ?_) (fun cdv A outer s H vs Q hr hgd h => ?_)
  · obtain ⟨a, y, rfl, _⟩ := h
    rfl
  · obtain ⟨a, y, rfl, ea, ⟨d, hd, sh⟩, q⟩ := h
    refine ⟨_, pss_cons (ps_expr (pe_erb T iniRE (by rfl) hb (by decide +kernel) (by kernel_rfl) (by decide +kernel) hfc (by decide +kernel) (pa_cons (pv 0) (pa_cons pe_str pa_nil)))) (pss_one (ps_ers T PySem.F.store_RuntimeError ht (pv 0) (pv 1))), ?_⟩
    exact ⟨_, rfl, a, [_], rfl, Nat.le_of_ble_eq_true rfl, ea, _, rfl, _, rfl, a, rfl, ea, fun dx h1 h2 => q dx h1 h2⟩
abbrev s14 : Stmt := inClass (top 14) 0
theorem sc14 : FnScope ["self", "limit"] ["self", "limit"] (defScope s14) := ⟨rfl, rfl, rfl, by decide +kernel, rfl, by decide +kernel, by decide +kernel⟩
theorem ok14 (F : Fun K "__init__" "LimitExceeded.__init__" s14 f fd) (T : ErC K C "OverflowError" "OverflowError.__new__" oeT) (hb : mg "OverflowError" = none) (hfc : PySem.W.findCls K (.type "OverflowError") (.type "type") "__init__" = some (.val (.builtin "OverflowError.__init__"))) (ht : PySem.W.takerIn K C "limit" = some none) :
    FnG P w K mg base 1 f fd ["self", "limit"] (spErr C "limit" (Shows K)) := by
  refine F.okG sc14 (fun vs H Q h => ?_) (fun cdv A outer s H vs Q hr hgd h => ?_)
  · obtain ⟨a, y, rfl, _⟩ := h
    rfl
  · obtain ⟨a, y, rfl, ea, ⟨d, hd, sh⟩, q⟩ := h
    refine ⟨_, pss_cons (ps_expr (pe_erb T iniOE (by rfl) hb (by decide +kernel) (by kernel_rfl) (by decide +kernel) hfc (by decide +kernel) (pa_cons (pv 0) (pa_cons (pe_joined (PJ.cons pe_str (PJ.cons (pe_fmtD hr hgd (pv 1)) PJ.nil))) pa_nil)))) (pss_one (ps_ers T PySem.F.store_OverflowError ht (pv 0) (pv 1))), ?_⟩
    refine ⟨_, rfl, _, rfl, by size_fits, y, rfl, d, hd, sh, fun m hm => ⟨_, rfl, two_texts (by decide +kernel) hm, a, [_], rfl, Nat.le_of_ble_eq_true rfl, ea, ?_⟩⟩
    exact ⟨_, rfl, _, rfl, a, rfl, ea, fun dx h1 h2 => q dx h1 h2⟩
end
end K94

namespace K94
open PySem PySem.Spec PyProof.Rows L2
abbrev sTape : Stmt := top 16
abbrev sDraw : Stmt := top 17
/-- the tape: its cells, its place, what is left of a great cell, its seed -/
def tp (b : Addr) (i r s : Int) : List V := [.ref b, .int i, .int r, .int s]
def TapeOk (H : Hp) (t : Addr) : Prop := ∃ (b : Addr) (ns : List Int) (i r s : Int), H t = some (.lst (tp b i r s)) ∧ H b = some (.lst (ns.map V.int)) ∧ ns.length ≤ 1000 ∧ 0 ≤ i ∧ 0 ≤ r ∧ 0 ≤ s ∧ s < 2147483647
def spTape (K : PySem.W.Frag) : Sp := fun vs H Q _ => ∃ (a : Addr) (ns : List Int), vs = [.ref a] ∧ SqL K H a (ns.map V.int) ∧ ns.length ≤ 63 ∧
  ∀ H' t, Same H H' → TapeOk H' t → H t = none → Q (.ref t) H'
def spDraw : Sp := fun vs H Q _ => ∃ (t : Addr) (m : Int), vs = [.ref t, .int m] ∧ 1 ≤ m ∧ m < 1073741824 ∧ TapeOk H t ∧
  ∀ H' d, TapeOk H' t → (∀ b, b ≠ t → H' b = H b) → 0 ≤ d → d < m → Q (.int d) H'
theorem scT : FnScope ["_law_script"] ["_law_script"] (defScope sTape) := ⟨rfl, rfl, rfl, by decide +kernel, rfl, by decide +kernel, by decide +kernel⟩
theorem scD : FnScope ["_law_tape_here", "_law_many", "_law_digit", "_law_cell", "_law_near"] ["_law_tape_here", "_law_many"] (defScope sDraw) := ⟨rfl, rfl, rfl, by decide +kernel, rfl, by decide +kernel, by decide +kernel⟩
structure TxtD (mg : Str → Option Value) : Prop where
  list : mg "list" = none
  len : mg "len" = none
  int : mg "int" = none
theorem four_size (a b c d : V) : [a, b, c, d].length ≤ sizeLine := by
  rw [sizeLine_eq]
  exact (by decide : 4 ≤ 16777216)
theorem tp_ne {b : Addr} {i r s : Int} {ns : List Int} (h : tp b i r s = ns.map V.int) : False := by
  cases ns with
  | nil => cases h
  | cons n ns =>
    injection h with h1 _
    cases h1
theorem mod_bounds {x m : Int} (h : 1 ≤ m) : 0 ≤ x.fmod m ∧ x.fmod m < m := by
  rw [Int.fmod_eq_emod_of_nonneg _ (by omega)]
  exact ⟨Int.emod_nonneg _ (by omega), Int.emod_lt_of_pos _ (by omega)⟩
theorem seed_small (x : Int) : (x.fmod 2147483647).natAbs < 2 ^ 64 := by
  have z := mod_bounds (x := x) (m := 2147483647) (by decide)
  have e : (2 : Nat) ^ 64 = 18446744073709551616 := by decide
  rw [e]
  omega
theorem big_ne : (2147483647 : Int) ≠ 0 := by decide
theorem div_nonneg {x m : Int} (hx : 0 ≤ x) (h : 1 ≤ m) : 0 ≤ x.fdiv m := by
  rw [Int.fdiv_eq_ediv_of_nonneg _ (by omega)]
  exact Int.ediv_nonneg hx (by omega)
theorem cut_ints (ns : List Int) (lo hi : Option Int) : ∃ ms : List Int, cutV (ns.map V.int) lo hi = ms.map V.int ∧ ms.length ≤ ns.length := by
  unfold cutV
  refine ⟨(ns.drop _).take _, by rw [List.map_take, List.map_drop], ?_⟩
  rw [List.length_take, List.length_drop]
  omega
section
variable {P : Program} {w : World} {K : PySem.W.Frag} {mg : Str → Option Value} {base : Heap} {f : Addr} {fd : FuncData}
theorem ok_tape (F : Fun K "_law_tape" "_law_tape" sTape f fd) (T : TxtD mg) : FnOk P w K mg base CX0 1 f fd ["_law_script"] (spTape K) := by
  refine F.ok scT (fun vs H Q E h => ?_) (fun cdv A outer s H vs Q E hr h => ?_)
  · obtain ⟨a, ns, rfl, _⟩ := h
    rfl
  · obtain ⟨a, ns, rfl, hS, hl, k⟩ := h
    refine ⟨_, pss_one (ps_ret (pe_lst (pa_cons (pe_callTy call_list_of (by rfl) T.list (by decide +kernel) (pa_cons (pe_slice sl_list (pv 0) po_none (po_some pe_int)) pa_nil))
      (pa_cons pe_int (pa_cons pe_int (pa_cons pe_int pa_nil)))))), ?_⟩
    refine ⟨_, rfl, 63, rfl, a, _, rfl, hS, fun p hp => ?_⟩
    obtain ⟨ms, e1, e2⟩ := cut_ints ns none (some 63)
    refine ⟨p, _, rfl, .inl (SqL.of upd_same), fun l hl' => ?_⟩
    refine ⟨four_size _ _ _ _, fun t ht => ?_⟩
    have nlt : l ≠ t := fun z => by
      rw [← z, upd_same] at ht
      cases ht
    have hl0 : H l = none := by
      by_cases z : l = p
      · rw [z]; exact hp
      · rw [upd_ne z] at hl'; exact hl'
    have ht0 : upd H p (.lst (cutV (List.map V.int ns) none (some 63))) t = none := by
      rw [upd_ne nlt.symm] at ht
      exact ht
    have ht1 : H t = none := by
      by_cases z : t = p
      · rw [z]; exact hp
      · rw [upd_ne z] at ht0; exact ht0
    refine k _ t (fun b o e => ?_) ⟨l, ms, 0, 0, 17, upd_same, ?_, by omega, by decide, by decide, by decide, by decide⟩ ht1
    · rw [upd_ne (ne_of_none e ht1), upd_ne (ne_of_none e hl0), upd_ne (ne_of_none e hp)]
      exact e
    · rw [upd_ne nlt, upd_same, e1]
theorem ok_draw (F : Fun K "_law_draw" "_law_draw" sDraw f fd) (T : TxtD mg) : FnOk P w K mg base CX0 1 f fd ["_law_tape_here", "_law_many"] spDraw := by
  refine F.ok scD (fun vs H Q E h => ?_) (fun cdv A outer s H vs Q E hr h => ?_)
  · obtain ⟨t, m, rfl, _⟩ := h
    rfl
  · obtain ⟨t, m, rfl, m1, m2, ⟨b, ns, i, r, sd, ht, hb, hn, hi, hr0, hs0, hs1⟩, k⟩ := h
    have nbt : b ≠ t := fun z => by
      subst z
      rw [ht] at hb
      exact tp_ne (HO.lst.inj (Option.some.inj hb))
    refine ⟨_, pss_cons (ps_if (pt_cmpR op_gt (pe_ix ix_list (pv 0) pe_int (fun _ _ => rfl)) pe_int (nomark _))
        (pss_cons (ps_set (i := 2) scD.nd rfl (Or.inl rfl) (pe_op op_modN (pe_callTy call_int1 (by rfl) T.int (by decide +kernel) (pa_cons (pe_ix ix_list (pv 0) pe_int (fun _ _ => rfl)) pa_nil)) (pv 1)))
        (pss_cons (ps_asg (pe_op op_fdivN (pe_ix ix_list (pv 0) pe_int (fun _ _ => rfl)) (pv 1)) (pg_sub (pv 0) pe_int set_list))
        (pss_one (ps_ret (pv 2))))) pss_nil)
      (pss_cons (ps_set (i := 3) scD.nd rfl (Or.inl rfl) pe_int)
      (pss_cons (ps_if (pt_cmpR op_lt (pe_ix ix_list (pv 0) pe_int (fun _ _ => rfl)) (pe_callB call_len_seq (by rfl) T.len PySem.boot_len (pa_cons (pe_ix ix_list (pv 0) pe_int (fun _ _ => rfl)) pa_nil)) (nomark _))
        (pss_one (ps_set (i := 3) scD.nd rfl (Or.inl rfl) (pe_ix ix_list (pe_ix ix_list (pv 0) pe_int (fun _ _ => rfl)) (pe_ix ix_list (pv 0) pe_int (fun _ _ => rfl)) (fun _ _ => rfl)))) pss_nil)
      (pss_cons (ps_asg (pe_op op_add (pe_ix ix_list (pv 0) pe_int (fun _ _ => rfl)) pe_int) (pg_sub (pv 0) pe_int set_list))
      (pss_cons (ps_if (pt_cmpR op_ge (pv 3) (pe_op op_pow pe_int pe_int) (nomark _))
        (pss_cons (ps_asg (pe_op op_fdivN (pv 3) (pv 1)) (pg_sub (pv 0) pe_int set_list))
        (pss_one (ps_ret (pe_op op_modN (pe_callTy call_int1 (by rfl) T.int (by decide +kernel) (pa_cons (pv 3) pa_nil)) (pv 1))))) pss_nil)
      (pss_cons (ps_set (i := 4) scD.nd rfl (Or.inl rfl) (pe_op op_add (pe_op op_add (pe_op op_modN (pe_callTy call_int1 (by rfl) T.int (by decide +kernel) (pa_cons (pv 3) pa_nil)) pe_int)
          (pe_op op_mul pe_int (pe_ix ix_list (pv 0) pe_int (fun _ _ => rfl)))) pe_int))
      (pss_cons (ps_asg (pe_op op_modN (pe_callTy call_int1 (by rfl) T.int (by decide +kernel) (pa_cons (pe_op op_add (pe_op op_mul (pe_ix ix_list (pv 0) pe_int (fun _ _ => rfl)) pe_int) (pv 4)) pa_nil)) pe_int) (pg_sub (pv 0) pe_int set_list))
      (pss_one (ps_ret (pe_op op_modN (pe_op op_modN (pe_callTy call_int1 (by rfl) T.int (by decide +kernel) (pa_cons (pe_op op_pow (pe_ix ix_list (pv 0) pe_int (fun _ _ => rfl)) pe_int) pa_nil)) pe_int) (pv 1)))))))))), ?_⟩
    refine ⟨_, rfl, t, _, _, .int r, rfl, rfl, SqL.of ht, rfl, _, _, rfl, rfl, _, rfl, ?_⟩
    have oth : ∀ {H0 : Hp} {o : HO}, (∀ b, b ≠ t → H0 b = H b) → ∀ b, b ≠ t → upd H0 t o b = H b := fun e b nb => by
      rw [upd_ne nb]
      exact e b nb
    have hm := mod_bounds (x := r) m1
    refine ite2 (fun c => ?_) (fun c => ?_)
    · refine ⟨_, rfl, t, _, _, .int r, rfl, rfl, SqL.of ht, rfl, .inl ⟨_, rfl, ?_⟩⟩
      refine ⟨_, rfl, _, _, rfl, rfl, (by omega), ?_⟩
      refine ⟨_, rfl, t, _, _, .int r, rfl, rfl, SqL.of ht, rfl, _, rfl, _, _, rfl, rfl, ⟨by omega, by omega⟩, ?_⟩
      refine ⟨_, rfl, t, _, _, 2, rfl, rfl, ht, rfl, ?_⟩
      refine ⟨_, rfl, k _ _ ⟨b, ns, i, r.fdiv m, sd, upd_same, by rw [upd_ne nbt]; exact hb, hn, hi, div_nonneg hr0 m1, hs0, hs1⟩ (oth fun _ _ => rfl) hm.1 hm.2⟩
    · refine ⟨_, rfl, t, _, _, .int i, rfl, rfl, SqL.of ht, rfl, _, rfl, t, _, _, .ref b, rfl, rfl, SqL.of ht, rfl, b, _, rfl, .inl (SqL.of hb), _, _, rfl, rfl, _, rfl, ?_⟩
      rw [List.length_map]
      refine ite2 (fun c2 => ?_) (fun c2 => ?_)
      · have c3 : i < ns.length := by simpa using c2
        obtain ⟨j, rfl⟩ : ∃ j : Nat, i = j := ⟨i.toNat, by omega⟩
        have hj : j < ns.length := by omega
        refine ⟨_, rfl, t, _, _, .ref b, rfl, rfl, SqL.of ht, rfl, _, rfl, t, _, _, .int j, rfl, rfl, SqL.of ht, rfl, b, _, _, .int ns[j], rfl, rfl, SqL.of hb, atI_nat ?_, ?_⟩
        · rw [List.getElem?_map, List.getElem?_eq_getElem hj]
          rfl
        refine ⟨_, rfl, t, _, _, .int _, rfl, rfl, SqL.of ht, rfl, _, _, rfl, rfl, _, rfl, t, _, _, 1, rfl, rfl, ht, rfl, ?_⟩
        refine ⟨_, rfl, _, _, rfl, rfl, ⟨by decide, by decide, by decide⟩, _, _, rfl, rfl, _, rfl, ?_⟩
        refine ite2 (fun c5 => ?_) (fun c5 => ?_)
        · have cpos : 0 ≤ ns[j] := by
            have z := of_decide_eq_true c5
            exact Int.le_trans (by decide) z
          have hmc := mod_bounds (x := ns[j]) m1
          refine ⟨_, rfl, _, rfl, _, _, rfl, rfl, ⟨by omega, by omega⟩, _, rfl, t, _, _, 2, rfl, rfl, upd_same, rfl, ?_⟩
          refine ⟨_, rfl, .inl ⟨_, rfl, _, rfl, _, _, rfl, rfl, by omega, ?_⟩⟩
          exact k _ _ ⟨b, ns, _, _, sd, upd_same, by rw [upd_ne nbt, upd_ne nbt]; exact hb, hn, by omega, div_nonneg cpos m1, hs0, hs1⟩ (oth (oth fun _ _ => rfl)) hmc.1 hmc.2
        · refine ⟨_, rfl, .inl ⟨_, rfl, _, _, rfl, rfl, big_ne, _, rfl, t, _, _, .int _, rfl, rfl, SqL.of upd_same, rfl, _, _, rfl, rfl, .inl ⟨by decide, by decide⟩, _, _, rfl, rfl, _, _, rfl, rfl, ?_⟩⟩
          refine ⟨_, rfl, t, _, _, .int sd, rfl, rfl, SqL.of upd_same, rfl, _, _, rfl, rfl, .inl ⟨by omega, by omega⟩, _, rfl, _, _, rfl, rfl, .inl ⟨_, rfl, _, _, rfl, rfl, big_ne, _, rfl, t, _, _, 3, rfl, rfl, upd_same, rfl, ?_⟩⟩
          refine ⟨_, rfl, t, _, _, .int _, rfl, rfl, SqL.of upd_same, rfl, _, _, rfl, rfl, ⟨by decide, by decide, ?_⟩, .inl ⟨_, rfl, _, _, rfl, rfl, big_ne, _, rfl, _, _, rfl, rfl, by omega, ?_⟩⟩
          · exact seed_small _
          · exact k _ _ ⟨b, ns, _, _, _, upd_same, by rw [upd_ne nbt, upd_ne nbt]; exact hb, hn, by omega, hr0, (mod_bounds (by decide)).1, (mod_bounds (by decide)).2⟩ (oth (oth fun _ _ => rfl)) (mod_bounds m1).1 (mod_bounds m1).2
      · refine ⟨_, rfl, t, _, _, .int _, rfl, rfl, SqL.of ht, rfl, _, _, rfl, rfl, _, rfl, t, _, _, 1, rfl, rfl, ht, rfl, ?_⟩
        refine ⟨_, rfl, _, _, rfl, rfl, ⟨by decide, by decide, by decide⟩, _, _, rfl, rfl, _, rfl, ?_⟩
        refine ite2 (fun c5 => ?_) (fun c5 => ?_)
        · have cpos : 0 ≤ (0 : Int) := by
            have z := of_decide_eq_true c5
            exact Int.le_trans (by decide) z
          have hmc := mod_bounds (x := (0 : Int)) m1
          refine ⟨_, rfl, _, rfl, _, _, rfl, rfl, ⟨by omega, by omega⟩, _, rfl, t, _, _, 2, rfl, rfl, upd_same, rfl, ?_⟩
          refine ⟨_, rfl, .inl ⟨_, rfl, _, rfl, _, _, rfl, rfl, by omega, ?_⟩⟩
          exact k _ _ ⟨b, ns, _, _, sd, upd_same, by rw [upd_ne nbt, upd_ne nbt]; exact hb, hn, by omega, div_nonneg cpos m1, hs0, hs1⟩ (oth (oth fun _ _ => rfl)) hmc.1 hmc.2
        · refine ⟨_, rfl, .inl ⟨_, rfl, _, _, rfl, rfl, big_ne, _, rfl, t, _, _, .int _, rfl, rfl, SqL.of upd_same, rfl, _, _, rfl, rfl, .inl ⟨by decide, by decide⟩, _, _, rfl, rfl, _, _, rfl, rfl, ?_⟩⟩
          refine ⟨_, rfl, t, _, _, .int sd, rfl, rfl, SqL.of upd_same, rfl, _, _, rfl, rfl, .inl ⟨by omega, by omega⟩, _, rfl, _, _, rfl, rfl, .inl ⟨_, rfl, _, _, rfl, rfl, big_ne, _, rfl, t, _, _, 3, rfl, rfl, upd_same, rfl, ?_⟩⟩
          refine ⟨_, rfl, t, _, _, .int _, rfl, rfl, SqL.of upd_same, rfl, _, _, rfl, rfl, ⟨by decide, by decide, ?_⟩, .inl ⟨_, rfl, _, _, rfl, rfl, big_ne, _, rfl, _, _, rfl, rfl, by omega, ?_⟩⟩
          · exact seed_small _
          · exact k _ _ ⟨b, ns, _, _, _, upd_same, by rw [upd_ne nbt, upd_ne nbt]; exact hb, hn, by omega, hr0, (mod_bounds (by decide)).1, (mod_bounds (by decide)).2⟩ (oth (oth fun _ _ => rfl)) (mod_bounds m1).1 (mod_bounds m1).2
end
end K94

namespace K94
open PySem PySem.Spec PyProof.Rows L2
abbrev sMade : Stmt := top 18
abbrev sNamed : Stmt := top 19
abbrev sKinds : Stmt := top 20
abbrev sAbove : Stmt := top 21
abbrev sFields : Stmt := top 22
theorem abVE : PySem.Er.Above "ValueError" veT := ⟨by decide +kernel, by decide +kernel, by decide +kernel⟩
theorem abKE : PySem.Er.Above "LookupError" PySem.Er.keyTail := ⟨by decide +kernel, by decide +kernel, by decide +kernel⟩
theorem abLE : PySem.Er.Above "LookupError" leT := ⟨by decide +kernel, by decide +kernel, by decide +kernel⟩
theorem abRE : PySem.Er.Above "RuntimeError" reT := ⟨by decide +kernel, by decide +kernel, by decide +kernel⟩
theorem abOE : PySem.Er.Above "OverflowError" oeT := ⟨by decide +kernel, by decide +kernel, by decide +kernel⟩
/-- what the written part says of one of the classes -/
structure ClsX (K : PySem.W.Frag) (mg : Str → Option Value) (nm qual f : Str) (st : Stmt) (B nw : String) (bo : List Value) (C fI : Addr) (fd : FuncData) : Prop where
  T : ErC K C B nw bo
  iC : PySem.W.findIn K (.ref C) "__init__" = some (some (.ref fI))
  tI : PySem.W.typeIn K (.ref fI) = some (.type "function")
  mg : mg nm = some (.ref C)
  ht : PySem.W.takerIn K C f = some none
  hno : PySem.W.findIn K (.ref C) f = some none
  F : Fun K "__init__" qual st fI fd
  b : Binds K fd ["self", f] []
  bk : ∀ (s : Shared) (u v : Value), BindsTo s fd ⟨[u], [(f, v)]⟩ [("self", u), (f, v)]
/-- the classes' addresses in order -/
def csOf (C : Nat → Addr) : List Addr := [C 2, C 3, C 4, C 5, C 6, C 7, C 8, C 9, C 10, C 11, C 12, C 13, C 14]
def tys : List String := ["ValueError", "KeyError", "LookupError", "RuntimeError", "OverflowError"]
def kitRefs : List (List (Option Bool)) := (List.range 13).map fun i => ((List.range 13).map fun j => some (decide (j = i))) ++ [some (decide (i < 9))]
def kitTys : List (List (Option Bool)) := (List.range 13).map fun i => [some (decide (i < 9)), some (decide (i = 9)), some (decide (i = 9) || decide (i = 10)), some (decide (i = 11)), some (decide (i = 12))]
structure Tx (K : PySem.W.Frag) (mg : Str → Option Value) (W0 : Addr) (C fI : Nat → Addr) (fd : Nat → FuncData) : Prop where
  wk : WorkC K mg W0
  noKey : mg "KeyError" = none
  noLook : mg "LookupError" = none
  noRun : mg "RuntimeError" = none
  noOver : mg "OverflowError" = none
  noVal : mg "ValueError" = none
  isi : mg "isinstance" = none
  fKey : PySem.W.findCls K (.type "KeyError") (.type "type") "__init__" = some (.val (.builtin "KeyError.__init__"))
  fLook : PySem.W.findCls K (.type "LookupError") (.type "type") "__init__" = some (.val (.builtin "LookupError.__init__"))
  fRun : PySem.W.findCls K (.type "RuntimeError") (.type "type") "__init__" = some (.val (.builtin "RuntimeError.__init__"))
  fOver : PySem.W.findCls K (.type "OverflowError") (.type "type") "__init__" = some (.val (.builtin "OverflowError.__init__"))
  kr : ((csOf C).map fun c => ((csOf C) ++ [W0]).map fun d => PySem.W.kitOne K (.ref c) (.ref d)) = kitRefs
  kt : ((csOf C).map fun c => tys.map fun t => PySem.W.kitOne K (.ref c) (.type t)) = kitTys
  c2 : ClsX K mg "InvalidPlan" "InvalidPlan.__init__" "part" s2 "ValueError" "ValueError.__new__" veT (C 2) (fI 2) (fd 2)
  c3 : ClsX K mg "InvalidProgram" "InvalidProgram.__init__" "name" s3 "ValueError" "ValueError.__new__" veT (C 3) (fI 3) (fd 3)
  c4 : ClsX K mg "InvalidName" "InvalidName.__init__" "value" s4 "ValueError" "ValueError.__new__" veT (C 4) (fI 4) (fd 4)
  c5 : ClsX K mg "InvalidKey" "InvalidKey.__init__" "value" s5 "ValueError" "ValueError.__new__" veT (C 5) (fI 5) (fd 5)
  c6 : ClsX K mg "InvalidNumber" "InvalidNumber.__init__" "value" s6 "ValueError" "ValueError.__new__" veT (C 6) (fI 6) (fd 6)
  c7 : ClsX K mg "InvalidPolicy" "InvalidPolicy.__init__" "value" s7 "ValueError" "ValueError.__new__" veT (C 7) (fI 7) (fd 7)
  c8 : ClsX K mg "InvalidLog" "InvalidLog.__init__" "index" s8 "ValueError" "ValueError.__new__" veT (C 8) (fI 8) (fd 8)
  c9 : ClsX K mg "InvalidText" "InvalidText.__init__" "line" s9 "ValueError" "ValueError.__new__" veT (C 9) (fI 9) (fd 9)
  c10 : ClsX K mg "InvalidCommand" "InvalidCommand.__init__" "value" s10 "ValueError" "ValueError.__new__" veT (C 10) (fI 10) (fd 10)
  c11 : ClsX K mg "UnknownTask" "UnknownTask.__init__" "key" s11 "KeyError" "LookupError.__new__" PySem.Er.keyTail (C 11) (fI 11) (fd 11)
  c12 : ClsX K mg "NotHeld" "NotHeld.__init__" "key" s12 "LookupError" "LookupError.__new__" leT (C 12) (fI 12) (fd 12)
  c13 : ClsX K mg "LeaseLost" "LeaseLost.__init__" "worker" s13 "RuntimeError" "RuntimeError.__new__" reT (C 13) (fI 13) (fd 13)
  c14 : ClsX K mg "LimitExceeded" "LimitExceeded.__init__" "limit" s14 "OverflowError" "OverflowError.__new__" oeT (C 14) (fI 14) (fd 14)
/-- the errors of one thing, in order -/
def flds : List Str := ["part", "name", "value", "value", "value", "value", "index", "line", "value", "key", "key", "worker", "limit"]
def Errs (C : Nat → Addr) (H : Hp) (y : V) (as : List Addr) : Prop := Paired (fun (a : Addr) (p : Addr × Str) => ErrAt H a p.1 p.2 y) as ((csOf C).zip flds)
theorem Errs.same {C : Nat → Addr} {H H' : Hp} {y : V} {as : List Addr} (h : Errs C H y as) (e : Same H H') : Errs C H' y as := Paired.mapP h fun _ _ z => z.same e
mutual
theorem dpSame {K : PySem.W.Frag} {H H' : Hp} (e : Same H H') : ∀ {v : V} {d : PyData}, Dp K H v d → Dp K H' v d
  | _, _, .non => .non
  | _, _, .bl b => .bl b
  | _, _, .int i => .int i
  | _, _, .str x => .str x
  | _, _, .lst h r => .lst (e.seq h) (dpSameAll e r)
  | _, _, .tup h r => .tup (by
      rcases h with (h | ⟨o, h⟩) | h
      · exact .inl (.inl (e _ _ h))
      · exact .inl (.inr ⟨o, e _ _ h⟩)
      · exact .inr h) (dpSameAll e r)
theorem dpSameAll {K : PySem.W.Frag} {H H' : Hp} (e : Same H H') : ∀ {v : List V} {d : List PyData}, DpAll K H v d → DpAll K H' v d
  | _, _, .nil => .nil
  | _, _, .cons h r => .cons (dpSame e h) (dpSameAll e r)
end
theorem dySame {K : PySem.W.Frag} {H H' : Hp} (e : Same H H') {v : V} {d : PyData} (h : Dy K H v d) : Dy K H' v d := by
  cases h with
  | plain h n => exact .plain (dpSame e h) n
  | dict h => exact .dict (e _ _ h)
theorem Shows.same {K : PySem.W.Frag} {H H' : Hp} {y : V} (h : Shows K y H) (e : Same H H') : Shows K y H' :=
  let ⟨d, h1, h2⟩ := h
  ⟨d, dySame e h1, h2⟩
theorem same_upd {H : Hp} {a : Addr} {o : HO} (h : H a = none) : Same H (upd H a o) := fun b q e => by
  rw [upd_ne (ne_of_none e h)]
  exact e
theorem Shows.on {K : PySem.W.Frag} {H : Hp} {y : V} (h : Shows K y H) (a : Addr) (o : HO) (n : H a = none) : Shows K y (upd H a o) := h.same (same_upd n)
theorem small_nat {n : Nat} (h : decide (n ≤ 100) = true) : n ≤ sizeLine := Nat.le_trans (of_decide_eq_true h) (by rw [sizeLine_eq]; decide)
theorem small_list {xs : List V} (h : decide (xs.length ≤ 100) = true) : xs.length ≤ sizeLine := Nat.le_trans (of_decide_eq_true h) (by rw [sizeLine_eq]; decide)
def spMade (K : PySem.W.Frag) (C : Nat → Addr) : Sp := fun vs H Q _ => ∃ y, vs = [y] ∧ Shows K y H ∧ ∀ H' l as, Same H H' → H' l = some (.lst (as.map V.ref)) → Errs C H' y as → Q (.ref l) H'
section
variable {P : Program} {w : World} {K : PySem.W.Frag} {mg : Str → Option Value} {base : Heap} {f W0 : Addr} {fdm : FuncData} {C fI : Nat → Addr} {fd : Nat → FuncData}
theorem in2 (T : Tx K mg W0 C fI fd) : FnG P w K mg base 1 (fI 2) (fd 2) ["self", "part"] (spErr (C 2) "part" (Shows K)) := ok2 T.c2.F T.c2.T T.wk T.c2.ht
theorem in3 (T : Tx K mg W0 C fI fd) : FnG P w K mg base 1 (fI 3) (fd 3) ["self", "name"] (spErr (C 3) "name" (Shows K)) := ok3 T.c3.F T.c3.T T.wk T.c3.ht
theorem in4 (T : Tx K mg W0 C fI fd) : FnG P w K mg base 1 (fI 4) (fd 4) ["self", "value"] (spErr (C 4) "value" (Shows K)) := ok4 T.c4.F T.c4.T T.wk T.c4.ht
theorem in5 (T : Tx K mg W0 C fI fd) : FnG P w K mg base 1 (fI 5) (fd 5) ["self", "value"] (spErr (C 5) "value" (Shows K)) := ok5 T.c5.F T.c5.T T.wk T.c5.ht
theorem in6 (T : Tx K mg W0 C fI fd) : FnG P w K mg base 1 (fI 6) (fd 6) ["self", "value"] (spErr (C 6) "value" (Shows K)) := ok6 T.c6.F T.c6.T T.wk T.c6.ht
theorem in7 (T : Tx K mg W0 C fI fd) : FnG P w K mg base 1 (fI 7) (fd 7) ["self", "value"] (spErr (C 7) "value" (Shows K)) := ok7 T.c7.F T.c7.T T.wk T.c7.ht
theorem in8 (T : Tx K mg W0 C fI fd) : FnG P w K mg base 1 (fI 8) (fd 8) ["self", "index"] (spErr (C 8) "index" (Shows K)) := ok8 T.c8.F T.c8.T T.wk T.c8.ht
theorem in9 (T : Tx K mg W0 C fI fd) : FnG P w K mg base 1 (fI 9) (fd 9) ["self", "line"] (spErr (C 9) "line" (Shows K)) := ok9 T.c9.F T.c9.T T.wk T.c9.ht
theorem in10 (T : Tx K mg W0 C fI fd) : FnG P w K mg base 1 (fI 10) (fd 10) ["self", "value"] (spErr (C 10) "value" (Shows K)) := ok10 T.c10.F T.c10.T T.wk T.c10.ht
theorem in11 (T : Tx K mg W0 C fI fd) : FnG P w K mg base 1 (fI 11) (fd 11) ["self", "key"] (spErr (C 11) "key" (Shows K)) := ok11 T.c11.F T.c11.T T.noKey T.fKey T.c11.ht
theorem in12 (T : Tx K mg W0 C fI fd) : FnG P w K mg base 1 (fI 12) (fd 12) ["self", "key"] (spErr (C 12) "key" (Shows K)) := ok12 T.c12.F T.c12.T T.noLook T.fLook T.c12.ht
theorem in13 (T : Tx K mg W0 C fI fd) : FnG P w K mg base 1 (fI 13) (fd 13) ["self", "worker"] (spErr (C 13) "worker" (Shows K)) := ok13 T.c13.F T.c13.T T.noRun T.fRun T.c13.ht
theorem in14 (T : Tx K mg W0 C fI fd) : FnG P w K mg base 1 (fI 14) (fd 14) ["self", "limit"] (spErr (C 14) "limit" (Shows K)) := ok14 T.c14.F T.c14.T T.noOver T.fOver T.c14.ht
theorem scMade : FnScope ["_law_thing", "_law_found"] ["_law_thing"] (defScope sMade) := ⟨rfl, rfl, rfl, by decide +kernel, rfl, by decide +kernel, by decide +kernel⟩
theorem ok_made (F : Fun K "_law_made_errors" "_law_made_errors" sMade f fdm) (T : Tx K mg W0 C fI fd) : FnG P w K mg base 3 f fdm ["_law_thing"] (spMade K C) := by
  refine F.okG scMade (fun vs H Q h => ?_) (fun cdv A outer s H vs Q hr hgd h => ?_)
  · obtain ⟨y, rfl, _⟩ := h
    rfl
  · obtain ⟨y, rfl, sh, k⟩ := h
    refine ⟨_, pss_cons (ps_set (i := 1) scMade.nd rfl (Or.inl rfl) (pe_lst (pa_cons (pe_errV T.c2.T PySem.F.excBase_ValueError abVE T.c2.iC T.c2.tI (in2 T) hr hgd T.c2.b (by rfl) T.c2.mg (pa_cons (pv 0) pa_nil)) (pa_cons (pe_errV T.c3.T PySem.F.excBase_ValueError abVE T.c3.iC T.c3.tI (in3 T) hr hgd T.c3.b (by rfl) T.c3.mg (pa_cons (pv 0) pa_nil)) (pa_cons (pe_errV T.c4.T PySem.F.excBase_ValueError abVE T.c4.iC T.c4.tI (in4 T) hr hgd T.c4.b (by rfl) T.c4.mg (pa_cons (pv 0) pa_nil)) (pa_cons (pe_errV T.c5.T PySem.F.excBase_ValueError abVE T.c5.iC T.c5.tI (in5 T) hr hgd T.c5.b (by rfl) T.c5.mg (pa_cons (pv 0) pa_nil)) (pa_cons (pe_errV T.c6.T PySem.F.excBase_ValueError abVE T.c6.iC T.c6.tI (in6 T) hr hgd T.c6.b (by rfl) T.c6.mg (pa_cons (pv 0) pa_nil)) pa_nil)))))))
      (pss_cons (ps_set (i := 1) scMade.nd rfl (Or.inl rfl) (pe_op op_cat (pv 1) (pe_lst (pa_cons (pe_errV T.c7.T PySem.F.excBase_ValueError abVE T.c7.iC T.c7.tI (in7 T) hr hgd T.c7.b (by rfl) T.c7.mg (pa_cons (pv 0) pa_nil)) (pa_cons (pe_errV T.c8.T PySem.F.excBase_ValueError abVE T.c8.iC T.c8.tI (in8 T) hr hgd T.c8.b (by rfl) T.c8.mg (pa_cons (pv 0) pa_nil)) (pa_cons (pe_errV T.c9.T PySem.F.excBase_ValueError abVE T.c9.iC T.c9.tI (in9 T) hr hgd T.c9.b (by rfl) T.c9.mg (pa_cons (pv 0) pa_nil)) (pa_cons (pe_errV T.c10.T PySem.F.excBase_ValueError abVE T.c10.iC T.c10.tI (in10 T) hr hgd T.c10.b (by rfl) T.c10.mg (pa_cons (pv 0) pa_nil)) pa_nil)))))))
      (pss_one (ps_ret (pe_op op_cat (pv 1) (pe_lst (pa_cons (pe_errV T.c11.T PySem.F.excBase_LookupError abKE T.c11.iC T.c11.tI (in11 T) hr hgd T.c11.b (by rfl) T.c11.mg (pa_cons (pv 0) pa_nil)) (pa_cons (pe_errV T.c12.T PySem.F.excBase_LookupError abLE T.c12.iC T.c12.tI (in12 T) hr hgd T.c12.b (by rfl) T.c12.mg (pa_cons (pv 0) pa_nil)) (pa_cons (pe_errV T.c13.T PySem.F.excBase_RuntimeError abRE T.c13.iC T.c13.tI (in13 T) hr hgd T.c13.b (by rfl) T.c13.mg (pa_cons (pv 0) pa_nil)) (pa_cons (pe_errV T.c14.T PySem.F.excBase_OverflowError abOE T.c14.iC T.c14.tI (in14 T) hr hgd T.c14.b (by rfl) T.c14.mg (pa_cons (pv 0) pa_nil)) pa_nil))))))))), ?_⟩
    have s0 : Same H H := Same.refl H
    refine ⟨_, rfl, y, rfl, fun a n => (sh.same s0).on a _ n, fun H2 a2 t2 n2 e2 => ?_⟩
    have s2 := s0.trans t2
    refine ⟨_, rfl, y, rfl, fun a n => (sh.same s2).on a _ n, fun H3 a3 t3 n3 e3 => ?_⟩
    have s3 := s2.trans t3
    have e2_2 := e2.same t3
    refine ⟨_, rfl, y, rfl, fun a n => (sh.same s3).on a _ n, fun H4 a4 t4 n4 e4 => ?_⟩
    have s4 := s3.trans t4
    have e2_3 := e2_2.same t4
    have e3_3 := e3.same t4
    refine ⟨_, rfl, y, rfl, fun a n => (sh.same s4).on a _ n, fun H5 a5 t5 n5 e5 => ?_⟩
    have s5 := s4.trans t5
    have e2_4 := e2_3.same t5
    have e3_4 := e3_3.same t5
    have e4_4 := e4.same t5
    refine ⟨_, rfl, y, rfl, fun a n => (sh.same s5).on a _ n, fun H6 a6 t6 n6 e6 => ?_⟩
    have s6 := s5.trans t6
    have e2_5 := e2_4.same t6
    have e3_5 := e3_4.same t6
    have e4_5 := e4_4.same t6
    have e5_5 := e5.same t6
    refine ⟨small_list rfl, fun l0 m0 => ?_⟩
    have u0 := same_upd (o := .lst [V.ref a2, V.ref a3, V.ref a4, V.ref a5, V.ref a6]) m0
    have v0 := s6.trans u0
    have e2_6 := e2_5.same u0
    have e3_6 := e3_5.same u0
    have e4_6 := e4_5.same u0
    have e5_6 := e5_5.same u0
    have e6_6 := e6.same u0
    have fo := upd_same (H := H6) (a := l0) (o := .lst [V.ref a2, V.ref a3, V.ref a4, V.ref a5, V.ref a6])
    refine ⟨_, rfl, ?_⟩
    refine ⟨_, rfl, y, rfl, fun a n => (sh.same v0).on a _ n, fun H7 a7 t7 n7 e7 => ?_⟩
    have s7 := v0.trans t7
    have e2_7 := e2_6.same t7
    have e3_7 := e3_6.same t7
    have e4_7 := e4_6.same t7
    have e5_7 := e5_6.same t7
    have e6_7 := e6_6.same t7
    have fo_7 := t7 _ _ fo
    refine ⟨_, rfl, y, rfl, fun a n => (sh.same s7).on a _ n, fun H8 a8 t8 n8 e8 => ?_⟩
    have s8 := s7.trans t8
    have e2_8 := e2_7.same t8
    have e3_8 := e3_7.same t8
    have e4_8 := e4_7.same t8
    have e5_8 := e5_7.same t8
    have e6_8 := e6_7.same t8
    have e7_8 := e7.same t8
    have fo_8 := t8 _ _ fo_7
    refine ⟨_, rfl, y, rfl, fun a n => (sh.same s8).on a _ n, fun H9 a9 t9 n9 e9 => ?_⟩
    have s9 := s8.trans t9
    have e2_9 := e2_8.same t9
    have e3_9 := e3_8.same t9
    have e4_9 := e4_8.same t9
    have e5_9 := e5_8.same t9
    have e6_9 := e6_8.same t9
    have e7_9 := e7_8.same t9
    have e8_9 := e8.same t9
    have fo_9 := t9 _ _ fo_8
    refine ⟨_, rfl, y, rfl, fun a n => (sh.same s9).on a _ n, fun H10 a10 t10 n10 e10 => ?_⟩
    have s10 := s9.trans t10
    have e2_10 := e2_9.same t10
    have e3_10 := e3_9.same t10
    have e4_10 := e4_9.same t10
    have e5_10 := e5_9.same t10
    have e6_10 := e6_9.same t10
    have e7_10 := e7_9.same t10
    have e8_10 := e8_9.same t10
    have e9_10 := e9.same t10
    have fo_10 := t10 _ _ fo_9
    refine ⟨small_list rfl, fun l1 m1 => ?_⟩
    have u1 := same_upd (o := .lst [V.ref a7, V.ref a8, V.ref a9, V.ref a10]) m1
    have v1 := s10.trans u1
    have e2_11 := e2_10.same u1
    have e3_11 := e3_10.same u1
    have e4_11 := e4_10.same u1
    have e5_11 := e5_10.same u1
    have e6_11 := e6_10.same u1
    have e7_11 := e7_10.same u1
    have e8_11 := e8_10.same u1
    have e9_11 := e9_10.same u1
    have e10_11 := e10.same u1
    have fo_11 := u1 _ _ fo_10
    refine ⟨_, _, _, _, rfl, rfl, fo_11, upd_same, small_nat rfl, fun p1 q1 => ?_⟩
    have w1 := same_upd (o := .lst [V.ref a2, V.ref a3, V.ref a4, V.ref a5, V.ref a6, V.ref a7, V.ref a8, V.ref a9, V.ref a10]) q1
    have x1 := v1.trans w1
    have e2_12 := e2_11.same w1
    have e3_12 := e3_11.same w1
    have e4_12 := e4_11.same w1
    have e5_12 := e5_11.same w1
    have e6_12 := e6_11.same w1
    have e7_12 := e7_11.same w1
    have e8_12 := e8_11.same w1
    have e9_12 := e9_11.same w1
    have e10_12 := e10_11.same w1
    have fo1 := upd_same (H := upd H10 l1 (.lst [V.ref a7, V.ref a8, V.ref a9, V.ref a10])) (a := p1) (o := .lst [V.ref a2, V.ref a3, V.ref a4, V.ref a5, V.ref a6, V.ref a7, V.ref a8, V.ref a9, V.ref a10])
    refine ⟨_, rfl, ?_⟩
    refine ⟨_, rfl, y, rfl, fun a n => (sh.same x1).on a _ n, fun H11 a11 t11 n11 e11 => ?_⟩
    have s11 := x1.trans t11
    have e2_13 := e2_12.same t11
    have e3_13 := e3_12.same t11
    have e4_13 := e4_12.same t11
    have e5_13 := e5_12.same t11
    have e6_13 := e6_12.same t11
    have e7_13 := e7_12.same t11
    have e8_13 := e8_12.same t11
    have e9_13 := e9_12.same t11
    have e10_13 := e10_12.same t11
    have fo_13 := t11 _ _ fo1
    refine ⟨_, rfl, y, rfl, fun a n => (sh.same s11).on a _ n, fun H12 a12 t12 n12 e12 => ?_⟩
    have s12 := s11.trans t12
    have e2_14 := e2_13.same t12
    have e3_14 := e3_13.same t12
    have e4_14 := e4_13.same t12
    have e5_14 := e5_13.same t12
    have e6_14 := e6_13.same t12
    have e7_14 := e7_13.same t12
    have e8_14 := e8_13.same t12
    have e9_14 := e9_13.same t12
    have e10_14 := e10_13.same t12
    have e11_14 := e11.same t12
    have fo_14 := t12 _ _ fo_13
    refine ⟨_, rfl, y, rfl, fun a n => (sh.same s12).on a _ n, fun H13 a13 t13 n13 e13 => ?_⟩
    have s13 := s12.trans t13
    have e2_15 := e2_14.same t13
    have e3_15 := e3_14.same t13
    have e4_15 := e4_14.same t13
    have e5_15 := e5_14.same t13
    have e6_15 := e6_14.same t13
    have e7_15 := e7_14.same t13
    have e8_15 := e8_14.same t13
    have e9_15 := e9_14.same t13
    have e10_15 := e10_14.same t13
    have e11_15 := e11_14.same t13
    have e12_15 := e12.same t13
    have fo_15 := t13 _ _ fo_14
    refine ⟨_, rfl, y, rfl, fun a n => (sh.same s13).on a _ n, fun H14 a14 t14 n14 e14 => ?_⟩
    have s14 := s13.trans t14
    have e2_16 := e2_15.same t14
    have e3_16 := e3_15.same t14
    have e4_16 := e4_15.same t14
    have e5_16 := e5_15.same t14
    have e6_16 := e6_15.same t14
    have e7_16 := e7_15.same t14
    have e8_16 := e8_15.same t14
    have e9_16 := e9_15.same t14
    have e10_16 := e10_15.same t14
    have e11_16 := e11_15.same t14
    have e12_16 := e12_15.same t14
    have e13_16 := e13.same t14
    have fo_16 := t14 _ _ fo_15
    refine ⟨small_list rfl, fun l2 m2 => ?_⟩
    have u2 := same_upd (o := .lst [V.ref a11, V.ref a12, V.ref a13, V.ref a14]) m2
    have v2 := s14.trans u2
    have e2_17 := e2_16.same u2
    have e3_17 := e3_16.same u2
    have e4_17 := e4_16.same u2
    have e5_17 := e5_16.same u2
    have e6_17 := e6_16.same u2
    have e7_17 := e7_16.same u2
    have e8_17 := e8_16.same u2
    have e9_17 := e9_16.same u2
    have e10_17 := e10_16.same u2
    have e11_17 := e11_16.same u2
    have e12_17 := e12_16.same u2
    have e13_17 := e13_16.same u2
    have e14_17 := e14.same u2
    have fo_17 := u2 _ _ fo_16
    refine ⟨_, _, _, _, rfl, rfl, fo_17, upd_same, small_nat rfl, fun p2 q2 => ?_⟩
    have w2 := same_upd (o := .lst [V.ref a2, V.ref a3, V.ref a4, V.ref a5, V.ref a6, V.ref a7, V.ref a8, V.ref a9, V.ref a10, V.ref a11, V.ref a12, V.ref a13, V.ref a14]) q2
    have x2 := v2.trans w2
    have e2_18 := e2_17.same w2
    have e3_18 := e3_17.same w2
    have e4_18 := e4_17.same w2
    have e5_18 := e5_17.same w2
    have e6_18 := e6_17.same w2
    have e7_18 := e7_17.same w2
    have e8_18 := e8_17.same w2
    have e9_18 := e9_17.same w2
    have e10_18 := e10_17.same w2
    have e11_18 := e11_17.same w2
    have e12_18 := e12_17.same w2
    have e13_18 := e13_17.same w2
    have e14_18 := e14_17.same w2
    exact k _ _ [a2, a3, a4, a5, a6, a7, a8, a9, a10, a11, a12, a13, a14] x2 upd_same (.cons e2_18 (.cons e3_18 (.cons e4_18 (.cons e5_18 (.cons e6_18 (.cons e7_18 (.cons e8_18 (.cons e9_18 (.cons e10_18 (.cons e11_18 (.cons e12_18 (.cons e13_18 (.cons e14_18 .nil)))))))))))))
theorem scNamed : FnScope ["_law_thing", "_law_found"] ["_law_thing"] (defScope sNamed) := ⟨rfl, rfl, rfl, by decide +kernel, rfl, by decide +kernel, by decide +kernel⟩
theorem ok_named (F : Fun K "_law_named_errors" "_law_named_errors" sNamed f fdm) (T : Tx K mg W0 C fI fd) : FnG P w K mg base 3 f fdm ["_law_thing"] (spMade K C) := by
  refine F.okG scNamed (fun vs H Q h => ?_) (fun cdv A outer s H vs Q hr hgd h => ?_)
  · obtain ⟨y, rfl, _⟩ := h
    rfl
  · obtain ⟨y, rfl, sh, k⟩ := h
    refine ⟨_, pss_cons (ps_set (i := 1) scNamed.nd rfl (Or.inl rfl) (pe_lst (pa_cons (pe_errK T.c2.T PySem.F.excBase_ValueError abVE T.c2.iC T.c2.tI (in2 T) hr hgd T.c2.bk (by rfl) T.c2.mg (pk_cons (pv 0) pk_nil)) (pa_cons (pe_errK T.c3.T PySem.F.excBase_ValueError abVE T.c3.iC T.c3.tI (in3 T) hr hgd T.c3.bk (by rfl) T.c3.mg (pk_cons (pv 0) pk_nil)) (pa_cons (pe_errK T.c4.T PySem.F.excBase_ValueError abVE T.c4.iC T.c4.tI (in4 T) hr hgd T.c4.bk (by rfl) T.c4.mg (pk_cons (pv 0) pk_nil)) (pa_cons (pe_errK T.c5.T PySem.F.excBase_ValueError abVE T.c5.iC T.c5.tI (in5 T) hr hgd T.c5.bk (by rfl) T.c5.mg (pk_cons (pv 0) pk_nil)) pa_nil))))))
      (pss_cons (ps_set (i := 1) scNamed.nd rfl (Or.inl rfl) (pe_op op_cat (pv 1) (pe_lst (pa_cons (pe_errK T.c6.T PySem.F.excBase_ValueError abVE T.c6.iC T.c6.tI (in6 T) hr hgd T.c6.bk (by rfl) T.c6.mg (pk_cons (pv 0) pk_nil)) (pa_cons (pe_errK T.c7.T PySem.F.excBase_ValueError abVE T.c7.iC T.c7.tI (in7 T) hr hgd T.c7.bk (by rfl) T.c7.mg (pk_cons (pv 0) pk_nil)) (pa_cons (pe_errK T.c8.T PySem.F.excBase_ValueError abVE T.c8.iC T.c8.tI (in8 T) hr hgd T.c8.bk (by rfl) T.c8.mg (pk_cons (pv 0) pk_nil)) pa_nil))))))
      (pss_cons (ps_set (i := 1) scNamed.nd rfl (Or.inl rfl) (pe_op op_cat (pv 1) (pe_lst (pa_cons (pe_errK T.c9.T PySem.F.excBase_ValueError abVE T.c9.iC T.c9.tI (in9 T) hr hgd T.c9.bk (by rfl) T.c9.mg (pk_cons (pv 0) pk_nil)) (pa_cons (pe_errK T.c10.T PySem.F.excBase_ValueError abVE T.c10.iC T.c10.tI (in10 T) hr hgd T.c10.bk (by rfl) T.c10.mg (pk_cons (pv 0) pk_nil)) (pa_cons (pe_errK T.c11.T PySem.F.excBase_LookupError abKE T.c11.iC T.c11.tI (in11 T) hr hgd T.c11.bk (by rfl) T.c11.mg (pk_cons (pv 0) pk_nil)) (pa_cons (pe_errK T.c12.T PySem.F.excBase_LookupError abLE T.c12.iC T.c12.tI (in12 T) hr hgd T.c12.bk (by rfl) T.c12.mg (pk_cons (pv 0) pk_nil)) pa_nil)))))))
      (pss_one (ps_ret (pe_op op_cat (pv 1) (pe_lst (pa_cons (pe_errK T.c13.T PySem.F.excBase_RuntimeError abRE T.c13.iC T.c13.tI (in13 T) hr hgd T.c13.bk (by rfl) T.c13.mg (pk_cons (pv 0) pk_nil)) (pa_cons (pe_errK T.c14.T PySem.F.excBase_OverflowError abOE T.c14.iC T.c14.tI (in14 T) hr hgd T.c14.bk (by rfl) T.c14.mg (pk_cons (pv 0) pk_nil)) pa_nil)))))))), ?_⟩
    have s0 : Same H H := Same.refl H
    refine ⟨_, rfl, y, rfl, fun a n => (sh.same s0).on a _ n, fun H2 a2 t2 n2 e2 => ?_⟩
    have s2 := s0.trans t2
    refine ⟨_, rfl, y, rfl, fun a n => (sh.same s2).on a _ n, fun H3 a3 t3 n3 e3 => ?_⟩
    have s3 := s2.trans t3
    have e2_2 := e2.same t3
    refine ⟨_, rfl, y, rfl, fun a n => (sh.same s3).on a _ n, fun H4 a4 t4 n4 e4 => ?_⟩
    have s4 := s3.trans t4
    have e2_3 := e2_2.same t4
    have e3_3 := e3.same t4
    refine ⟨_, rfl, y, rfl, fun a n => (sh.same s4).on a _ n, fun H5 a5 t5 n5 e5 => ?_⟩
    have s5 := s4.trans t5
    have e2_4 := e2_3.same t5
    have e3_4 := e3_3.same t5
    have e4_4 := e4.same t5
    refine ⟨small_list rfl, fun l0 m0 => ?_⟩
    have u0 := same_upd (o := .lst [V.ref a2, V.ref a3, V.ref a4, V.ref a5]) m0
    have v0 := s5.trans u0
    have e2_5 := e2_4.same u0
    have e3_5 := e3_4.same u0
    have e4_5 := e4_4.same u0
    have e5_5 := e5.same u0
    have fo := upd_same (H := H5) (a := l0) (o := .lst [V.ref a2, V.ref a3, V.ref a4, V.ref a5])
    refine ⟨_, rfl, ?_⟩
    refine ⟨_, rfl, y, rfl, fun a n => (sh.same v0).on a _ n, fun H6 a6 t6 n6 e6 => ?_⟩
    have s6 := v0.trans t6
    have e2_6 := e2_5.same t6
    have e3_6 := e3_5.same t6
    have e4_6 := e4_5.same t6
    have e5_6 := e5_5.same t6
    have fo_6 := t6 _ _ fo
    refine ⟨_, rfl, y, rfl, fun a n => (sh.same s6).on a _ n, fun H7 a7 t7 n7 e7 => ?_⟩
    have s7 := s6.trans t7
    have e2_7 := e2_6.same t7
    have e3_7 := e3_6.same t7
    have e4_7 := e4_6.same t7
    have e5_7 := e5_6.same t7
    have e6_7 := e6.same t7
    have fo_7 := t7 _ _ fo_6
    refine ⟨_, rfl, y, rfl, fun a n => (sh.same s7).on a _ n, fun H8 a8 t8 n8 e8 => ?_⟩
    have s8 := s7.trans t8
    have e2_8 := e2_7.same t8
    have e3_8 := e3_7.same t8
    have e4_8 := e4_7.same t8
    have e5_8 := e5_7.same t8
    have e6_8 := e6_7.same t8
    have e7_8 := e7.same t8
    have fo_8 := t8 _ _ fo_7
    refine ⟨small_list rfl, fun l1 m1 => ?_⟩
    have u1 := same_upd (o := .lst [V.ref a6, V.ref a7, V.ref a8]) m1
    have v1 := s8.trans u1
    have e2_9 := e2_8.same u1
    have e3_9 := e3_8.same u1
    have e4_9 := e4_8.same u1
    have e5_9 := e5_8.same u1
    have e6_9 := e6_8.same u1
    have e7_9 := e7_8.same u1
    have e8_9 := e8.same u1
    have fo_9 := u1 _ _ fo_8
    refine ⟨_, _, _, _, rfl, rfl, fo_9, upd_same, small_nat rfl, fun p1 q1 => ?_⟩
    have w1 := same_upd (o := .lst [V.ref a2, V.ref a3, V.ref a4, V.ref a5, V.ref a6, V.ref a7, V.ref a8]) q1
    have x1 := v1.trans w1
    have e2_10 := e2_9.same w1
    have e3_10 := e3_9.same w1
    have e4_10 := e4_9.same w1
    have e5_10 := e5_9.same w1
    have e6_10 := e6_9.same w1
    have e7_10 := e7_9.same w1
    have e8_10 := e8_9.same w1
    have fo1 := upd_same (H := upd H8 l1 (.lst [V.ref a6, V.ref a7, V.ref a8])) (a := p1) (o := .lst [V.ref a2, V.ref a3, V.ref a4, V.ref a5, V.ref a6, V.ref a7, V.ref a8])
    refine ⟨_, rfl, ?_⟩
    refine ⟨_, rfl, y, rfl, fun a n => (sh.same x1).on a _ n, fun H9 a9 t9 n9 e9 => ?_⟩
    have s9 := x1.trans t9
    have e2_11 := e2_10.same t9
    have e3_11 := e3_10.same t9
    have e4_11 := e4_10.same t9
    have e5_11 := e5_10.same t9
    have e6_11 := e6_10.same t9
    have e7_11 := e7_10.same t9
    have e8_11 := e8_10.same t9
    have fo_11 := t9 _ _ fo1
    refine ⟨_, rfl, y, rfl, fun a n => (sh.same s9).on a _ n, fun H10 a10 t10 n10 e10 => ?_⟩
    have s10 := s9.trans t10
    have e2_12 := e2_11.same t10
    have e3_12 := e3_11.same t10
    have e4_12 := e4_11.same t10
    have e5_12 := e5_11.same t10
    have e6_12 := e6_11.same t10
    have e7_12 := e7_11.same t10
    have e8_12 := e8_11.same t10
    have e9_12 := e9.same t10
    have fo_12 := t10 _ _ fo_11
    refine ⟨_, rfl, y, rfl, fun a n => (sh.same s10).on a _ n, fun H11 a11 t11 n11 e11 => ?_⟩
    have s11 := s10.trans t11
    have e2_13 := e2_12.same t11
    have e3_13 := e3_12.same t11
    have e4_13 := e4_12.same t11
    have e5_13 := e5_12.same t11
    have e6_13 := e6_12.same t11
    have e7_13 := e7_12.same t11
    have e8_13 := e8_12.same t11
    have e9_13 := e9_12.same t11
    have e10_13 := e10.same t11
    have fo_13 := t11 _ _ fo_12
    refine ⟨_, rfl, y, rfl, fun a n => (sh.same s11).on a _ n, fun H12 a12 t12 n12 e12 => ?_⟩
    have s12 := s11.trans t12
    have e2_14 := e2_13.same t12
    have e3_14 := e3_13.same t12
    have e4_14 := e4_13.same t12
    have e5_14 := e5_13.same t12
    have e6_14 := e6_13.same t12
    have e7_14 := e7_13.same t12
    have e8_14 := e8_13.same t12
    have e9_14 := e9_13.same t12
    have e10_14 := e10_13.same t12
    have e11_14 := e11.same t12
    have fo_14 := t12 _ _ fo_13
    refine ⟨small_list rfl, fun l2 m2 => ?_⟩
    have u2 := same_upd (o := .lst [V.ref a9, V.ref a10, V.ref a11, V.ref a12]) m2
    have v2 := s12.trans u2
    have e2_15 := e2_14.same u2
    have e3_15 := e3_14.same u2
    have e4_15 := e4_14.same u2
    have e5_15 := e5_14.same u2
    have e6_15 := e6_14.same u2
    have e7_15 := e7_14.same u2
    have e8_15 := e8_14.same u2
    have e9_15 := e9_14.same u2
    have e10_15 := e10_14.same u2
    have e11_15 := e11_14.same u2
    have e12_15 := e12.same u2
    have fo_15 := u2 _ _ fo_14
    refine ⟨_, _, _, _, rfl, rfl, fo_15, upd_same, small_nat rfl, fun p2 q2 => ?_⟩
    have w2 := same_upd (o := .lst [V.ref a2, V.ref a3, V.ref a4, V.ref a5, V.ref a6, V.ref a7, V.ref a8, V.ref a9, V.ref a10, V.ref a11, V.ref a12]) q2
    have x2 := v2.trans w2
    have e2_16 := e2_15.same w2
    have e3_16 := e3_15.same w2
    have e4_16 := e4_15.same w2
    have e5_16 := e5_15.same w2
    have e6_16 := e6_15.same w2
    have e7_16 := e7_15.same w2
    have e8_16 := e8_15.same w2
    have e9_16 := e9_15.same w2
    have e10_16 := e10_15.same w2
    have e11_16 := e11_15.same w2
    have e12_16 := e12_15.same w2
    have fo2 := upd_same (H := upd H12 l2 (.lst [V.ref a9, V.ref a10, V.ref a11, V.ref a12])) (a := p2) (o := .lst [V.ref a2, V.ref a3, V.ref a4, V.ref a5, V.ref a6, V.ref a7, V.ref a8, V.ref a9, V.ref a10, V.ref a11, V.ref a12])
    refine ⟨_, rfl, ?_⟩
    refine ⟨_, rfl, y, rfl, fun a n => (sh.same x2).on a _ n, fun H13 a13 t13 n13 e13 => ?_⟩
    have s13 := x2.trans t13
    have e2_17 := e2_16.same t13
    have e3_17 := e3_16.same t13
    have e4_17 := e4_16.same t13
    have e5_17 := e5_16.same t13
    have e6_17 := e6_16.same t13
    have e7_17 := e7_16.same t13
    have e8_17 := e8_16.same t13
    have e9_17 := e9_16.same t13
    have e10_17 := e10_16.same t13
    have e11_17 := e11_16.same t13
    have e12_17 := e12_16.same t13
    have fo_17 := t13 _ _ fo2
    refine ⟨_, rfl, y, rfl, fun a n => (sh.same s13).on a _ n, fun H14 a14 t14 n14 e14 => ?_⟩
    have s14 := s13.trans t14
    have e2_18 := e2_17.same t14
    have e3_18 := e3_17.same t14
    have e4_18 := e4_17.same t14
    have e5_18 := e5_17.same t14
    have e6_18 := e6_17.same t14
    have e7_18 := e7_17.same t14
    have e8_18 := e8_17.same t14
    have e9_18 := e9_17.same t14
    have e10_18 := e10_17.same t14
    have e11_18 := e11_17.same t14
    have e12_18 := e12_17.same t14
    have e13_18 := e13.same t14
    have fo_18 := t14 _ _ fo_17
    refine ⟨small_list rfl, fun l3 m3 => ?_⟩
    have u3 := same_upd (o := .lst [V.ref a13, V.ref a14]) m3
    have v3 := s14.trans u3
    have e2_19 := e2_18.same u3
    have e3_19 := e3_18.same u3
    have e4_19 := e4_18.same u3
    have e5_19 := e5_18.same u3
    have e6_19 := e6_18.same u3
    have e7_19 := e7_18.same u3
    have e8_19 := e8_18.same u3
    have e9_19 := e9_18.same u3
    have e10_19 := e10_18.same u3
    have e11_19 := e11_18.same u3
    have e12_19 := e12_18.same u3
    have e13_19 := e13_18.same u3
    have e14_19 := e14.same u3
    have fo_19 := u3 _ _ fo_18
    refine ⟨_, _, _, _, rfl, rfl, fo_19, upd_same, small_nat rfl, fun p3 q3 => ?_⟩
    have w3 := same_upd (o := .lst [V.ref a2, V.ref a3, V.ref a4, V.ref a5, V.ref a6, V.ref a7, V.ref a8, V.ref a9, V.ref a10, V.ref a11, V.ref a12, V.ref a13, V.ref a14]) q3
    have x3 := v3.trans w3
    have e2_20 := e2_19.same w3
    have e3_20 := e3_19.same w3
    have e4_20 := e4_19.same w3
    have e5_20 := e5_19.same w3
    have e6_20 := e6_19.same w3
    have e7_20 := e7_19.same w3
    have e8_20 := e8_19.same w3
    have e9_20 := e9_19.same w3
    have e10_20 := e10_19.same w3
    have e11_20 := e11_19.same w3
    have e12_20 := e12_19.same w3
    have e13_20 := e13_19.same w3
    have e14_20 := e14_19.same w3
    exact k _ _ [a2, a3, a4, a5, a6, a7, a8, a9, a10, a11, a12, a13, a14] x3 upd_same (.cons e2_20 (.cons e3_20 (.cons e4_20 (.cons e5_20 (.cons e6_20 (.cons e7_20 (.cons e8_20 (.cons e9_20 (.cons e10_20 (.cons e11_20 (.cons e12_20 (.cons e13_20 (.cons e14_20 .nil)))))))))))))
end
end K94

namespace K94
open PySem PySem.Spec PyProof.Rows L2
def spKinds (C : Nat → Addr) : Sp := fun vs H Q _ => ∃ (a : Addr) (i : Nat) (c : Addr) (g : Str) (y : V), vs = [.ref a] ∧ (csOf C)[i]? = some c ∧ ErrAt H a c g y ∧
  ∀ H' l, Same H H' → H' l = some (.lst ((List.range 13).map fun j => V.bl (decide (j = i)))) → Q (.ref l) H'
def aboves (i : Nat) : List V := [.bl (decide (i < 9)), .bl (decide (i < 9)), .bl (decide (i = 9)), .bl (decide (i = 9) || decide (i = 10)), .bl (decide (i = 11)), .bl (decide (i = 12))]
def spAbove (C : Nat → Addr) : Sp := fun vs H Q _ => ∃ (a : Addr) (i : Nat) (c : Addr) (g : Str) (y : V), vs = [.ref a] ∧ (csOf C)[i]? = some c ∧ ErrAt H a c g y ∧
  ∀ H' l, Same H H' → H' l = some (.lst (aboves i)) → Q (.ref l) H'
def spFields (C : Nat → Addr) : Sp := fun vs H Q _ => ∃ (l : Addr) (as : List Addr) (y : V), vs = [.ref l] ∧ H l = some (.lst (as.map V.ref)) ∧ Errs C H y as ∧
  ∀ H' l', Same H H' → H' l' = some (.lst (List.replicate 13 y)) → Q (.ref l') H'
section
variable {P : Program} {w : World} {K : PySem.W.Frag} {mg : Str → Option Value} {base : Heap} {f W0 : Addr} {fdm : FuncData} {C fI : Nat → Addr} {fd : Nat → FuncData}
theorem paired_cons {α β : Type} {F : α → β → Prop} {as : List α} {b : β} {bs : List β} (h : Paired F as (b :: bs)) : ∃ a as', as = a :: as' ∧ F a b ∧ Paired F as' bs := by
  cases h with
  | cons h1 h2 => exact ⟨_, _, rfl, h1, h2⟩
theorem paired_nil {α β : Type} {F : α → β → Prop} {as : List α} (h : Paired F as []) : as = [] := by
  cases h
  rfl
theorem erc (T : Tx K mg W0 C fI fd) {i : Nat} {c : Addr} (h : (csOf C)[i]? = some c) : ∃ B nw bo, ErC K c B nw bo := by
  have h' : c ∈ csOf C := List.mem_of_getElem? h
  unfold csOf at h'
  simp only [List.mem_cons, List.not_mem_nil, or_false] at h'
  rcases h' with rfl | rfl | rfl | rfl | rfl | rfl | rfl | rfl | rfl | rfl | rfl | rfl | rfl
  · exact ⟨_, _, _, T.c2.T⟩
  · exact ⟨_, _, _, T.c3.T⟩
  · exact ⟨_, _, _, T.c4.T⟩
  · exact ⟨_, _, _, T.c5.T⟩
  · exact ⟨_, _, _, T.c6.T⟩
  · exact ⟨_, _, _, T.c7.T⟩
  · exact ⟨_, _, _, T.c8.T⟩
  · exact ⟨_, _, _, T.c9.T⟩
  · exact ⟨_, _, _, T.c10.T⟩
  · exact ⟨_, _, _, T.c11.T⟩
  · exact ⟨_, _, _, T.c12.T⟩
  · exact ⟨_, _, _, T.c13.T⟩
  · exact ⟨_, _, _, T.c14.T⟩
theorem lt13 {i : Nat} {c : Addr} (h : (csOf C)[i]? = some c) : i < 13 := (List.getElem?_eq_some_iff.mp h).1
theorem ref_row (T : Tx K mg W0 C fI fd) {i : Nat} {c : Addr} (h : (csOf C)[i]? = some c) :
    ((csOf C) ++ [W0]).map (fun d => PySem.W.kitOne K (.ref c) (.ref d)) = ((List.range 13).map fun j => some (decide (j = i))) ++ [some (decide (i < 9))] := by
  have e := congrArg (fun l => l[i]?) T.kr
  have hi := lt13 h
  simp only [kitRefs, List.getElem?_map, h, List.getElem?_range hi, Option.map_some] at e
  exact Option.some.inj e
theorem ty_row (T : Tx K mg W0 C fI fd) {i : Nat} {c : Addr} (h : (csOf C)[i]? = some c) :
    tys.map (fun t => PySem.W.kitOne K (.ref c) (.type t)) = [some (decide (i < 9)), some (decide (i = 9)), some (decide (i = 9) || decide (i = 10)), some (decide (i = 11)), some (decide (i = 12))] := by
  have e := congrArg (fun l => l[i]?) T.kt
  have hi := lt13 h
  simp only [kitTys, List.getElem?_map, h, List.getElem?_range hi, Option.map_some] at e
  exact Option.some.inj e
theorem refs_at (T : Tx K mg W0 C fI fd) {i : Nat} {c : Addr} (h : (csOf C)[i]? = some c) :
    PySem.W.kitOne K (.ref c) (.ref (C 2)) = some (decide (0 = i)) ∧ PySem.W.kitOne K (.ref c) (.ref (C 3)) = some (decide (1 = i)) ∧ PySem.W.kitOne K (.ref c) (.ref (C 4)) = some (decide (2 = i)) ∧ PySem.W.kitOne K (.ref c) (.ref (C 5)) = some (decide (3 = i)) ∧ PySem.W.kitOne K (.ref c) (.ref (C 6)) = some (decide (4 = i)) ∧ PySem.W.kitOne K (.ref c) (.ref (C 7)) = some (decide (5 = i)) ∧ PySem.W.kitOne K (.ref c) (.ref (C 8)) = some (decide (6 = i)) ∧ PySem.W.kitOne K (.ref c) (.ref (C 9)) = some (decide (7 = i)) ∧ PySem.W.kitOne K (.ref c) (.ref (C 10)) = some (decide (8 = i)) ∧ PySem.W.kitOne K (.ref c) (.ref (C 11)) = some (decide (9 = i)) ∧ PySem.W.kitOne K (.ref c) (.ref (C 12)) = some (decide (10 = i)) ∧ PySem.W.kitOne K (.ref c) (.ref (C 13)) = some (decide (11 = i)) ∧ PySem.W.kitOne K (.ref c) (.ref (C 14)) = some (decide (12 = i)) ∧ PySem.W.kitOne K (.ref c) (.ref W0) = some (decide (i < 9)) := by
  have e := ref_row T h
  have e2 : ([PySem.W.kitOne K (.ref c) (.ref (C 2)), PySem.W.kitOne K (.ref c) (.ref (C 3)), PySem.W.kitOne K (.ref c) (.ref (C 4)), PySem.W.kitOne K (.ref c) (.ref (C 5)), PySem.W.kitOne K (.ref c) (.ref (C 6)), PySem.W.kitOne K (.ref c) (.ref (C 7)), PySem.W.kitOne K (.ref c) (.ref (C 8)), PySem.W.kitOne K (.ref c) (.ref (C 9)), PySem.W.kitOne K (.ref c) (.ref (C 10)), PySem.W.kitOne K (.ref c) (.ref (C 11)), PySem.W.kitOne K (.ref c) (.ref (C 12)), PySem.W.kitOne K (.ref c) (.ref (C 13)), PySem.W.kitOne K (.ref c) (.ref (C 14)), PySem.W.kitOne K (.ref c) (.ref W0)] : List (Option Bool)) =
    [some (decide (0 = i)), some (decide (1 = i)), some (decide (2 = i)), some (decide (3 = i)), some (decide (4 = i)), some (decide (5 = i)), some (decide (6 = i)), some (decide (7 = i)), some (decide (8 = i)), some (decide (9 = i)), some (decide (10 = i)), some (decide (11 = i)), some (decide (12 = i)), some (decide (i < 9))] := e
  simp only [List.cons.injEq, and_true] at e2
  exact e2
theorem tys_at (T : Tx K mg W0 C fI fd) {i : Nat} {c : Addr} (h : (csOf C)[i]? = some c) :
    PySem.W.kitOne K (.ref c) (.type "ValueError") = some (decide (i < 9)) ∧ PySem.W.kitOne K (.ref c) (.type "KeyError") = some (decide (i = 9)) ∧ PySem.W.kitOne K (.ref c) (.type "LookupError") = some (decide (i = 9) || decide (i = 10)) ∧
    PySem.W.kitOne K (.ref c) (.type "RuntimeError") = some (decide (i = 11)) ∧ PySem.W.kitOne K (.ref c) (.type "OverflowError") = some (decide (i = 12)) := by
  have e := ty_row T h
  unfold tys at e
  simp only [List.map_cons, List.map_nil, List.cons.injEq, and_true] at e
  exact e
theorem scKinds : FnScope ["_law_error", "_law_found"] ["_law_error"] (defScope sKinds) := ⟨rfl, rfl, rfl, by decide +kernel, rfl, by decide +kernel, by decide +kernel⟩
theorem ok_kinds (F : Fun K "_law_kinds_of" "_law_kinds_of" sKinds f fdm) (T : Tx K mg W0 C fI fd) : FnOk P w K mg base CX0 1 f fdm ["_law_error"] (spKinds C) := by
  refine F.ok scKinds (fun vs H Q E h => ?_) (fun cdv A outer s H vs Q E hr h => ?_)
  · obtain ⟨a, i, c, g, y, rfl, _⟩ := h
    rfl
  · obtain ⟨a, i, c, g, y, rfl, hc, er, k⟩ := h
    obtain ⟨B, nw, bo, hT⟩ := erc T hc
    obtain ⟨k2, k3, k4, k5, k6, k7, k8, k9, k10, k11, k12, k13, k14, kW⟩ := refs_at T hc
    obtain ⟨kV, kK, kL, kR, kO⟩ := tys_at T hc
    refine ⟨_, pss_cons (ps_set (i := 1) scKinds.nd rfl (Or.inl rfl) (pe_lst (pa_cons (pe_callB call_isErr (by rfl) T.isi (by decide +kernel) (pa_cons (pv 0) (pa_cons (pe_glob (v := .ref (C 2)) (by rfl) T.c2.mg rfl) pa_nil))) (pa_cons (pe_callB call_isErr (by rfl) T.isi (by decide +kernel) (pa_cons (pv 0) (pa_cons (pe_glob (v := .ref (C 3)) (by rfl) T.c3.mg rfl) pa_nil))) (pa_cons (pe_callB call_isErr (by rfl) T.isi (by decide +kernel) (pa_cons (pv 0) (pa_cons (pe_glob (v := .ref (C 4)) (by rfl) T.c4.mg rfl) pa_nil))) pa_nil)))))
      (pss_cons (ps_set (i := 1) scKinds.nd rfl (Or.inl rfl) (pe_op op_cat (pv 1) (pe_lst (pa_cons (pe_callB call_isErr (by rfl) T.isi (by decide +kernel) (pa_cons (pv 0) (pa_cons (pe_glob (v := .ref (C 5)) (by rfl) T.c5.mg rfl) pa_nil))) (pa_cons (pe_callB call_isErr (by rfl) T.isi (by decide +kernel) (pa_cons (pv 0) (pa_cons (pe_glob (v := .ref (C 6)) (by rfl) T.c6.mg rfl) pa_nil))) (pa_cons (pe_callB call_isErr (by rfl) T.isi (by decide +kernel) (pa_cons (pv 0) (pa_cons (pe_glob (v := .ref (C 7)) (by rfl) T.c7.mg rfl) pa_nil))) pa_nil))))))
      (pss_cons (ps_set (i := 1) scKinds.nd rfl (Or.inl rfl) (pe_op op_cat (pv 1) (pe_lst (pa_cons (pe_callB call_isErr (by rfl) T.isi (by decide +kernel) (pa_cons (pv 0) (pa_cons (pe_glob (v := .ref (C 8)) (by rfl) T.c8.mg rfl) pa_nil))) (pa_cons (pe_callB call_isErr (by rfl) T.isi (by decide +kernel) (pa_cons (pv 0) (pa_cons (pe_glob (v := .ref (C 9)) (by rfl) T.c9.mg rfl) pa_nil))) (pa_cons (pe_callB call_isErr (by rfl) T.isi (by decide +kernel) (pa_cons (pv 0) (pa_cons (pe_glob (v := .ref (C 10)) (by rfl) T.c10.mg rfl) pa_nil))) pa_nil))))))
      (pss_cons (ps_set (i := 1) scKinds.nd rfl (Or.inl rfl) (pe_op op_cat (pv 1) (pe_lst (pa_cons (pe_callB call_isErr (by rfl) T.isi (by decide +kernel) (pa_cons (pv 0) (pa_cons (pe_glob (v := .ref (C 11)) (by rfl) T.c11.mg rfl) pa_nil))) (pa_cons (pe_callB call_isErr (by rfl) T.isi (by decide +kernel) (pa_cons (pv 0) (pa_cons (pe_glob (v := .ref (C 12)) (by rfl) T.c12.mg rfl) pa_nil))) (pa_cons (pe_callB call_isErr (by rfl) T.isi (by decide +kernel) (pa_cons (pv 0) (pa_cons (pe_glob (v := .ref (C 13)) (by rfl) T.c13.mg rfl) pa_nil))) pa_nil))))))
      (pss_one (ps_ret (pe_op op_cat (pv 1) (pe_lst (pa_cons (pe_callB call_isErr (by rfl) T.isi (by decide +kernel) (pa_cons (pv 0) (pa_cons (pe_glob (v := .ref (C 14)) (by rfl) T.c14.mg rfl) pa_nil))) pa_nil)))))))), ?_⟩
    refine ⟨_, rfl, a, c, g, y, _, _, _, B, nw, bo, rfl, er, hT, .own _, k2, ?_⟩
    refine ⟨_, rfl, a, c, g, y, _, _, _, B, nw, bo, rfl, er, hT, .own _, k3, ?_⟩
    refine ⟨_, rfl, a, c, g, y, _, _, _, B, nw, bo, rfl, er, hT, .own _, k4, ?_⟩
    refine ⟨small_list rfl, fun l0 m0 => ?_⟩
    have u0 := same_upd (o := .lst [V.bl (decide (0 = i)), V.bl (decide (1 = i)), V.bl (decide (2 = i))]) m0
    have er_1 := er.same u0
    have sm_1 := u0
    have fo := upd_same (H := H) (a := l0) (o := .lst [V.bl (decide (0 = i)), V.bl (decide (1 = i)), V.bl (decide (2 = i))])
    refine ⟨_, rfl, ?_⟩
    refine ⟨_, rfl, a, c, g, y, _, _, _, B, nw, bo, rfl, er_1, hT, .own _, k5, ?_⟩
    refine ⟨_, rfl, a, c, g, y, _, _, _, B, nw, bo, rfl, er_1, hT, .own _, k6, ?_⟩
    refine ⟨_, rfl, a, c, g, y, _, _, _, B, nw, bo, rfl, er_1, hT, .own _, k7, ?_⟩
    refine ⟨small_list rfl, fun l1 m1 => ?_⟩
    have u1 := same_upd (o := .lst [V.bl (decide (3 = i)), V.bl (decide (4 = i)), V.bl (decide (5 = i))]) m1
    have er_2 := er_1.same u1
    have fo_2 := u1 _ _ fo
    have sm_2 := sm_1.trans u1
    refine ⟨_, _, _, _, rfl, rfl, fo_2, upd_same, small_nat rfl, fun p1 q1 => ?_⟩
    have w1 := same_upd (o := .lst [V.bl (decide (0 = i)), V.bl (decide (1 = i)), V.bl (decide (2 = i)), V.bl (decide (3 = i)), V.bl (decide (4 = i)), V.bl (decide (5 = i))]) q1
    have er_3 := er_2.same w1
    have sm_3 := sm_2.trans w1
    have fo1 := upd_same (H := (upd (upd H l0 (.lst [V.bl (decide (0 = i)), V.bl (decide (1 = i)), V.bl (decide (2 = i))])) l1 (.lst [V.bl (decide (3 = i)), V.bl (decide (4 = i)), V.bl (decide (5 = i))]))) (a := p1) (o := .lst [V.bl (decide (0 = i)), V.bl (decide (1 = i)), V.bl (decide (2 = i)), V.bl (decide (3 = i)), V.bl (decide (4 = i)), V.bl (decide (5 = i))])
    refine ⟨_, rfl, ?_⟩
    refine ⟨_, rfl, a, c, g, y, _, _, _, B, nw, bo, rfl, er_3, hT, .own _, k8, ?_⟩
    refine ⟨_, rfl, a, c, g, y, _, _, _, B, nw, bo, rfl, er_3, hT, .own _, k9, ?_⟩
    refine ⟨_, rfl, a, c, g, y, _, _, _, B, nw, bo, rfl, er_3, hT, .own _, k10, ?_⟩
    refine ⟨small_list rfl, fun l2 m2 => ?_⟩
    have u2 := same_upd (o := .lst [V.bl (decide (6 = i)), V.bl (decide (7 = i)), V.bl (decide (8 = i))]) m2
    have er_4 := er_3.same u2
    have fo_4 := u2 _ _ fo1
    have sm_4 := sm_3.trans u2
    refine ⟨_, _, _, _, rfl, rfl, fo_4, upd_same, small_nat rfl, fun p2 q2 => ?_⟩
    have w2 := same_upd (o := .lst [V.bl (decide (0 = i)), V.bl (decide (1 = i)), V.bl (decide (2 = i)), V.bl (decide (3 = i)), V.bl (decide (4 = i)), V.bl (decide (5 = i)), V.bl (decide (6 = i)), V.bl (decide (7 = i)), V.bl (decide (8 = i))]) q2
    have er_5 := er_4.same w2
    have sm_5 := sm_4.trans w2
    have fo2 := upd_same (H := (upd (upd (upd (upd H l0 (.lst [V.bl (decide (0 = i)), V.bl (decide (1 = i)), V.bl (decide (2 = i))])) l1 (.lst [V.bl (decide (3 = i)), V.bl (decide (4 = i)), V.bl (decide (5 = i))])) p1 (.lst [V.bl (decide (0 = i)), V.bl (decide (1 = i)), V.bl (decide (2 = i)), V.bl (decide (3 = i)), V.bl (decide (4 = i)), V.bl (decide (5 = i))])) l2 (.lst [V.bl (decide (6 = i)), V.bl (decide (7 = i)), V.bl (decide (8 = i))]))) (a := p2) (o := .lst [V.bl (decide (0 = i)), V.bl (decide (1 = i)), V.bl (decide (2 = i)), V.bl (decide (3 = i)), V.bl (decide (4 = i)), V.bl (decide (5 = i)), V.bl (decide (6 = i)), V.bl (decide (7 = i)), V.bl (decide (8 = i))])
    refine ⟨_, rfl, ?_⟩
    refine ⟨_, rfl, a, c, g, y, _, _, _, B, nw, bo, rfl, er_5, hT, .own _, k11, ?_⟩
    refine ⟨_, rfl, a, c, g, y, _, _, _, B, nw, bo, rfl, er_5, hT, .own _, k12, ?_⟩
    refine ⟨_, rfl, a, c, g, y, _, _, _, B, nw, bo, rfl, er_5, hT, .own _, k13, ?_⟩
    refine ⟨small_list rfl, fun l3 m3 => ?_⟩
    have u3 := same_upd (o := .lst [V.bl (decide (9 = i)), V.bl (decide (10 = i)), V.bl (decide (11 = i))]) m3
    have er_6 := er_5.same u3
    have fo_6 := u3 _ _ fo2
    have sm_6 := sm_5.trans u3
    refine ⟨_, _, _, _, rfl, rfl, fo_6, upd_same, small_nat rfl, fun p3 q3 => ?_⟩
    have w3 := same_upd (o := .lst [V.bl (decide (0 = i)), V.bl (decide (1 = i)), V.bl (decide (2 = i)), V.bl (decide (3 = i)), V.bl (decide (4 = i)), V.bl (decide (5 = i)), V.bl (decide (6 = i)), V.bl (decide (7 = i)), V.bl (decide (8 = i)), V.bl (decide (9 = i)), V.bl (decide (10 = i)), V.bl (decide (11 = i))]) q3
    have er_7 := er_6.same w3
    have sm_7 := sm_6.trans w3
    have fo3 := upd_same (H := (upd (upd (upd (upd (upd (upd H l0 (.lst [V.bl (decide (0 = i)), V.bl (decide (1 = i)), V.bl (decide (2 = i))])) l1 (.lst [V.bl (decide (3 = i)), V.bl (decide (4 = i)), V.bl (decide (5 = i))])) p1 (.lst [V.bl (decide (0 = i)), V.bl (decide (1 = i)), V.bl (decide (2 = i)), V.bl (decide (3 = i)), V.bl (decide (4 = i)), V.bl (decide (5 = i))])) l2 (.lst [V.bl (decide (6 = i)), V.bl (decide (7 = i)), V.bl (decide (8 = i))])) p2 (.lst [V.bl (decide (0 = i)), V.bl (decide (1 = i)), V.bl (decide (2 = i)), V.bl (decide (3 = i)), V.bl (decide (4 = i)), V.bl (decide (5 = i)), V.bl (decide (6 = i)), V.bl (decide (7 = i)), V.bl (decide (8 = i))])) l3 (.lst [V.bl (decide (9 = i)), V.bl (decide (10 = i)), V.bl (decide (11 = i))]))) (a := p3) (o := .lst [V.bl (decide (0 = i)), V.bl (decide (1 = i)), V.bl (decide (2 = i)), V.bl (decide (3 = i)), V.bl (decide (4 = i)), V.bl (decide (5 = i)), V.bl (decide (6 = i)), V.bl (decide (7 = i)), V.bl (decide (8 = i)), V.bl (decide (9 = i)), V.bl (decide (10 = i)), V.bl (decide (11 = i))])
    refine ⟨_, rfl, ?_⟩
    refine ⟨_, rfl, a, c, g, y, _, _, _, B, nw, bo, rfl, er_7, hT, .own _, k14, ?_⟩
    refine ⟨small_list rfl, fun l4 m4 => ?_⟩
    have u4 := same_upd (o := .lst [V.bl (decide (12 = i))]) m4
    have er_8 := er_7.same u4
    have fo_8 := u4 _ _ fo3
    have sm_8 := sm_7.trans u4
    refine ⟨_, _, _, _, rfl, rfl, fo_8, upd_same, small_nat rfl, fun p4 q4 => ?_⟩
    have w4 := same_upd (o := .lst [V.bl (decide (0 = i)), V.bl (decide (1 = i)), V.bl (decide (2 = i)), V.bl (decide (3 = i)), V.bl (decide (4 = i)), V.bl (decide (5 = i)), V.bl (decide (6 = i)), V.bl (decide (7 = i)), V.bl (decide (8 = i)), V.bl (decide (9 = i)), V.bl (decide (10 = i)), V.bl (decide (11 = i)), V.bl (decide (12 = i))]) q4
    have er_9 := er_8.same w4
    have sm_9 := sm_8.trans w4
    exact k _ _ sm_9 upd_same
theorem scAbove : FnScope ["_law_error", "_law_found"] ["_law_error"] (defScope sAbove) := ⟨rfl, rfl, rfl, by decide +kernel, rfl, by decide +kernel, by decide +kernel⟩
theorem ok_above (F : Fun K "_law_above" "_law_above" sAbove f fdm) (T : Tx K mg W0 C fI fd) : FnOk P w K mg base CX0 1 f fdm ["_law_error"] (spAbove C) := by
  refine F.ok scAbove (fun vs H Q E h => ?_) (fun cdv A outer s H vs Q E hr h => ?_)
  · obtain ⟨a, i, c, g, y, rfl, _⟩ := h
    rfl
  · obtain ⟨a, i, c, g, y, rfl, hc, er, k⟩ := h
    obtain ⟨B, nw, bo, hT⟩ := erc T hc
    obtain ⟨k2, k3, k4, k5, k6, k7, k8, k9, k10, k11, k12, k13, k14, kW⟩ := refs_at T hc
    obtain ⟨kV, kK, kL, kR, kO⟩ := tys_at T hc
    refine ⟨_, pss_cons (ps_set (i := 1) scAbove.nd rfl (Or.inl rfl) (pe_lst (pa_cons (pe_callB call_isErr (by rfl) T.isi (by decide +kernel) (pa_cons (pv 0) (pa_cons (pe_glob (v := .ref W0) (by rfl) T.wk.mg rfl) pa_nil))) (pa_cons (pe_callB call_isErr (by rfl) T.isi (by decide +kernel) (pa_cons (pv 0) (pa_cons (pe_bltn (v := .ty "ValueError") (u := .type "ValueError") (by rfl) T.noVal (by decide +kernel) rfl) pa_nil))) (pa_cons (pe_callB call_isErr (by rfl) T.isi (by decide +kernel) (pa_cons (pv 0) (pa_cons (pe_bltn (v := .ty "KeyError") (u := .type "KeyError") (by rfl) T.noKey (by decide +kernel) rfl) pa_nil))) pa_nil)))))
      (pss_one (ps_ret (pe_op op_cat (pv 1) (pe_lst (pa_cons (pe_callB call_isErr (by rfl) T.isi (by decide +kernel) (pa_cons (pv 0) (pa_cons (pe_bltn (v := .ty "LookupError") (u := .type "LookupError") (by rfl) T.noLook (by decide +kernel) rfl) pa_nil))) (pa_cons (pe_callB call_isErr (by rfl) T.isi (by decide +kernel) (pa_cons (pv 0) (pa_cons (pe_bltn (v := .ty "RuntimeError") (u := .type "RuntimeError") (by rfl) T.noRun (by decide +kernel) rfl) pa_nil))) (pa_cons (pe_callB call_isErr (by rfl) T.isi (by decide +kernel) (pa_cons (pv 0) (pa_cons (pe_bltn (v := .ty "OverflowError") (u := .type "OverflowError") (by rfl) T.noOver (by decide +kernel) rfl) pa_nil))) pa_nil))))))), ?_⟩
    refine ⟨_, rfl, a, c, g, y, _, _, _, B, nw, bo, rfl, er, hT, .own _, kW, ?_⟩
    refine ⟨_, rfl, a, c, g, y, _, _, _, B, nw, bo, rfl, er, hT, .ty _, kV, ?_⟩
    refine ⟨_, rfl, a, c, g, y, _, _, _, B, nw, bo, rfl, er, hT, .ty _, kK, ?_⟩
    refine ⟨small_list rfl, fun l0 m0 => ?_⟩
    have u0 := same_upd (o := .lst [V.bl (decide (i < 9)), V.bl (decide (i < 9)), V.bl (decide (i = 9))]) m0
    have er_1 := er.same u0
    have sm_1 := u0
    have fo := upd_same (H := H) (a := l0) (o := .lst [V.bl (decide (i < 9)), V.bl (decide (i < 9)), V.bl (decide (i = 9))])
    refine ⟨_, rfl, ?_⟩
    refine ⟨_, rfl, a, c, g, y, _, _, _, B, nw, bo, rfl, er_1, hT, .ty _, kL, ?_⟩
    refine ⟨_, rfl, a, c, g, y, _, _, _, B, nw, bo, rfl, er_1, hT, .ty _, kR, ?_⟩
    refine ⟨_, rfl, a, c, g, y, _, _, _, B, nw, bo, rfl, er_1, hT, .ty _, kO, ?_⟩
    refine ⟨small_list rfl, fun l1 m1 => ?_⟩
    have u1 := same_upd (o := .lst [V.bl (decide (i = 9) || decide (i = 10)), V.bl (decide (i = 11)), V.bl (decide (i = 12))]) m1
    have er_2 := er_1.same u1
    have fo_2 := u1 _ _ fo
    have sm_2 := sm_1.trans u1
    refine ⟨_, _, _, _, rfl, rfl, fo_2, upd_same, small_nat rfl, fun p1 q1 => ?_⟩
    have w1 := same_upd (o := .lst [V.bl (decide (i < 9)), V.bl (decide (i < 9)), V.bl (decide (i = 9)), V.bl (decide (i = 9) || decide (i = 10)), V.bl (decide (i = 11)), V.bl (decide (i = 12))]) q1
    have er_3 := er_2.same w1
    have sm_3 := sm_2.trans w1
    exact k _ _ sm_3 upd_same
theorem scFields : FnScope ["_law_made", "_law_found"] ["_law_made"] (defScope sFields) := ⟨rfl, rfl, rfl, by decide +kernel, rfl, by decide +kernel, by decide +kernel⟩
theorem ok_fields (F : Fun K "_law_fields" "_law_fields" sFields f fdm) (T : Tx K mg W0 C fI fd) : FnOk P w K mg base CX0 1 f fdm ["_law_made"] (spFields C) := by
  refine F.ok scFields (fun vs H Q E h => ?_) (fun cdv A outer s H vs Q E hr h => ?_)
  · obtain ⟨l, as, y, rfl, _⟩ := h
    rfl
  · obtain ⟨l, as, y, rfl, hl, er, k⟩ := h
    have er' : Paired (fun (a : Addr) (p : Addr × Str) => ErrAt H a p.1 p.2 y) as [(C 2, "part"), (C 3, "name"), (C 4, "value"), (C 5, "value"), (C 6, "value"), (C 7, "value"), (C 8, "index"), (C 9, "line"), (C 10, "value"), (C 11, "key"), (C 12, "key"), (C 13, "worker"), (C 14, "limit")] := er
    obtain ⟨a2, as2, h2, e2, r2⟩ := paired_cons er'
    obtain ⟨a3, as3, h3, e3, r3⟩ := paired_cons r2
    obtain ⟨a4, as4, h4, e4, r4⟩ := paired_cons r3
    obtain ⟨a5, as5, h5, e5, r5⟩ := paired_cons r4
    obtain ⟨a6, as6, h6, e6, r6⟩ := paired_cons r5
    obtain ⟨a7, as7, h7, e7, r7⟩ := paired_cons r6
    obtain ⟨a8, as8, h8, e8, r8⟩ := paired_cons r7
    obtain ⟨a9, as9, h9, e9, r9⟩ := paired_cons r8
    obtain ⟨a10, as10, h10, e10, r10⟩ := paired_cons r9
    obtain ⟨a11, as11, h11, e11, r11⟩ := paired_cons r10
    obtain ⟨a12, as12, h12, e12, r12⟩ := paired_cons r11
    obtain ⟨a13, as13, h13, e13, r13⟩ := paired_cons r12
    obtain ⟨a14, as14, h14, e14, r14⟩ := paired_cons r13
    have en := paired_nil r14
    subst en h14 h13 h12 h11 h10 h9 h8 h7 h6 h5 h4 h3 h2
    refine ⟨_, pss_cons (ps_set (i := 1) scFields.nd rfl (Or.inl rfl) (pe_lst (pa_cons (pe_errF (pe_ix ix_list (pv 0) pe_int (fun _ _ => rfl))) (pa_cons (pe_errF (pe_ix ix_list (pv 0) pe_int (fun _ _ => rfl))) (pa_cons (pe_errF (pe_ix ix_list (pv 0) pe_int (fun _ _ => rfl))) (pa_cons (pe_errF (pe_ix ix_list (pv 0) pe_int (fun _ _ => rfl))) (pa_cons (pe_errF (pe_ix ix_list (pv 0) pe_int (fun _ _ => rfl))) (pa_cons (pe_errF (pe_ix ix_list (pv 0) pe_int (fun _ _ => rfl))) (pa_cons (pe_errF (pe_ix ix_list (pv 0) pe_int (fun _ _ => rfl))) pa_nil))))))))) (pss_one (ps_ret (pe_op op_cat (pv 1) (pe_lst (pa_cons (pe_errF (pe_ix ix_list (pv 0) pe_int (fun _ _ => rfl))) (pa_cons (pe_errF (pe_ix ix_list (pv 0) pe_int (fun _ _ => rfl))) (pa_cons (pe_errF (pe_ix ix_list (pv 0) pe_int (fun _ _ => rfl))) (pa_cons (pe_errF (pe_ix ix_list (pv 0) pe_int (fun _ _ => rfl))) (pa_cons (pe_errF (pe_ix ix_list (pv 0) pe_int (fun _ _ => rfl))) (pa_cons (pe_errF (pe_ix ix_list (pv 0) pe_int (fun _ _ => rfl))) pa_nil)))))))))), ?_⟩
    refine ⟨_, rfl, l, _, _, .ref a2, rfl, rfl, SqL.of hl, rfl, a2, _, y, _, _, _, rfl, e2, T.c2.T, T.c2.hno, ?_⟩
    refine ⟨_, rfl, l, _, _, .ref a3, rfl, rfl, SqL.of hl, rfl, a3, _, y, _, _, _, rfl, e3, T.c3.T, T.c3.hno, ?_⟩
    refine ⟨_, rfl, l, _, _, .ref a4, rfl, rfl, SqL.of hl, rfl, a4, _, y, _, _, _, rfl, e4, T.c4.T, T.c4.hno, ?_⟩
    refine ⟨_, rfl, l, _, _, .ref a5, rfl, rfl, SqL.of hl, rfl, a5, _, y, _, _, _, rfl, e5, T.c5.T, T.c5.hno, ?_⟩
    refine ⟨_, rfl, l, _, _, .ref a6, rfl, rfl, SqL.of hl, rfl, a6, _, y, _, _, _, rfl, e6, T.c6.T, T.c6.hno, ?_⟩
    refine ⟨_, rfl, l, _, _, .ref a7, rfl, rfl, SqL.of hl, rfl, a7, _, y, _, _, _, rfl, e7, T.c7.T, T.c7.hno, ?_⟩
    refine ⟨_, rfl, l, _, _, .ref a8, rfl, rfl, SqL.of hl, rfl, a8, _, y, _, _, _, rfl, e8, T.c8.T, T.c8.hno, ?_⟩
    refine ⟨small_list rfl, fun l0 m0 => ?_⟩
    have u0 := same_upd (o := .lst [y, y, y, y, y, y, y]) m0
    have hl0 := u0 _ _ hl
    have fo := upd_same (H := H) (a := l0) (o := .lst [y, y, y, y, y, y, y])
    refine ⟨_, rfl, ?_⟩
    refine ⟨_, rfl, l, _, _, .ref a9, rfl, rfl, SqL.of hl0, rfl, a9, _, y, _, _, _, rfl, (e9.same u0), T.c9.T, T.c9.hno, ?_⟩
    refine ⟨_, rfl, l, _, _, .ref a10, rfl, rfl, SqL.of hl0, rfl, a10, _, y, _, _, _, rfl, (e10.same u0), T.c10.T, T.c10.hno, ?_⟩
    refine ⟨_, rfl, l, _, _, .ref a11, rfl, rfl, SqL.of hl0, rfl, a11, _, y, _, _, _, rfl, (e11.same u0), T.c11.T, T.c11.hno, ?_⟩
    refine ⟨_, rfl, l, _, _, .ref a12, rfl, rfl, SqL.of hl0, rfl, a12, _, y, _, _, _, rfl, (e12.same u0), T.c12.T, T.c12.hno, ?_⟩
    refine ⟨_, rfl, l, _, _, .ref a13, rfl, rfl, SqL.of hl0, rfl, a13, _, y, _, _, _, rfl, (e13.same u0), T.c13.T, T.c13.hno, ?_⟩
    refine ⟨_, rfl, l, _, _, .ref a14, rfl, rfl, SqL.of hl0, rfl, a14, _, y, _, _, _, rfl, (e14.same u0), T.c14.T, T.c14.hno, ?_⟩
    refine ⟨small_list rfl, fun l1 m1 => ?_⟩
    have u1 := same_upd (o := .lst [y, y, y, y, y, y]) m1
    refine ⟨_, _, _, _, rfl, rfl, u1 _ _ fo, upd_same, small_nat rfl, fun p q => ?_⟩
    have u2 := same_upd (o := .lst [y, y, y, y, y, y, y, y, y, y, y, y, y]) q
    exact k _ _ ((u0.trans u1).trans u2) upd_same
end
end K94

namespace L2
open PySem PySem.Spec PyProof.Rows
/-- for i, x in enumerate(xs), by an invariant -/
theorem for_enum {K : PySem.W.Frag} {a : Addr} {xs : List V} {g : TG} {tb : TS} {D : Ends} {σ : St} {H : Hp} (Pv : Nat → St → Hp → Prop) (h0 : Pv 0 σ H) (hl : ∀ i σ H, i ≤ xs.length → Pv i σ H → SqL K H a xs)
    (hs : ∀ i x T σ H, xs[i]? = some x → H T = none → Pv i σ H → g (.ref T) σ (upd H T (.tup [.int (i : Nat), x])) fun σ2 H2 => tb { D with nx := Pv (i + 1), ct := Pv (i + 1), bk := D.nx } σ2 H2)
    (hd : ∀ σ H, Pv xs.length σ H → D.nx σ H) :
    ∃ W : Nat → Nat → St → Hp → Prop, (∃ m, W 0 m σ H) ∧ ∀ i m σ H, W i m σ H →
      ((Ite K a).stop i H ∧ D.nx σ H) ∨ ((Ite K a).go i H ∧ ∃ N : St → Hp → Prop, (∀ σ' H', N σ' H' → ∃ m', m' < m ∧ W (i + 1) m' σ' H') ∧
        ∀ x H', (Ite K a).yld i H x H' → g x σ H' fun σ2 H2 => tb { D with nx := N, ct := N, bk := D.nx } σ2 H2) := by
  refine ⟨fun i m σ H => m = xs.length - i ∧ i ≤ xs.length ∧ Pv i σ H, ⟨xs.length, by simp, Nat.zero_le _, h0⟩, ?_⟩
  rintro i m σ H ⟨rfl, hi, p⟩
  have q := hl i σ H hi p
  by_cases hlt : i < xs.length
  · refine .inr ⟨⟨xs, xs[i], q, by simp [hlt]⟩, Pv (i + 1), fun σ' H' p' => ⟨xs.length - (i + 1), by omega, rfl, hlt, p'⟩, fun v H' y => ?_⟩
    obtain ⟨T, x, e1, hT, e2, hx⟩ := y
    subst e1 e2
    exact hs i x T σ H (hx xs q) hT p
  · have e : i = xs.length := by omega
    subst e
    exact .inl ⟨⟨xs, q, Nat.le_refl _⟩, hd σ H p⟩
end L2
namespace K94
open PySem PySem.Spec PyProof.Rows L2
abbrev sLaw : Stmt := top 23
structure DefX (K : PySem.W.Frag) (mg : Str → Option Value) (nm : Str) (st : Stmt) (ps : List Str) (f : Addr) (fd : FuncData) : Prop where
  mg : mg nm = some (.ref f)
  F : Fun K nm nm st f fd
  b : Binds K fd ps []
/-- the defs of the law -/
structure Ux (K : PySem.W.Frag) (mg : Str → Option Value) (f : Nat → Addr) (fd : Nat → FuncData) : Prop where
  d : TxtD mg
  range : mg "range" = none
  enum : mg "enumerate" = none
  repr : mg "repr" = none
  tape : DefX K mg "_law_tape" sTape ["_law_script"] (f 16) (fd 16)
  draw : DefX K mg "_law_draw" sDraw ["_law_tape_here", "_law_many"] (f 17) (fd 17)
  made : DefX K mg "_law_made_errors" sMade ["_law_thing"] (f 18) (fd 18)
  named : DefX K mg "_law_named_errors" sNamed ["_law_thing"] (f 19) (fd 19)
  kinds : DefX K mg "_law_kinds_of" sKinds ["_law_error"] (f 20) (fd 20)
  above : DefX K mg "_law_above" sAbove ["_law_error"] (f 21) (fd 21)
  fields : DefX K mg "_law_fields" sFields ["_law_made"] (f 22) (fd 22)
abbrev names : List Str := ["_law_script", "_law_tape_here", "_law_some", "_law_turn", "_law_thing", "_law_made", "_law_at", "_law_error", "_law_number"]
theorem scLaw : FnScope names ["_law_script"] (defScope sLaw) := ⟨rfl, rfl, rfl, by decide +kernel, rfl, by decide +kernel, by decide +kernel⟩
def spLaw (K : PySem.W.Frag) : Sp := fun vs H Q _ => ∃ (a : Addr) (ns : List Int), vs = [.ref a] ∧ SqL K H a (ns.map V.int) ∧ ns.length ≤ 63 ∧ ∀ H', Q (.bl true) H'
/-- a thing of the law, at the heap X0 -/
structure GoodD (d : PyData) : Prop where
  s : Short d
  sh : (PyData.list (List.replicate 13 d)).showable = true
  ln : (PyData.list (List.replicate 13 d)).shown.length ≤ 10000
  dp : (PyData.list (List.replicate 13 d)).depth ≤ 20
def Good (K : PySem.W.Frag) (H : Hp) (y : V) : Prop := ∃ d, Dy K H y d ∧ GoodD d
theorem Good.same {K : PySem.W.Frag} {H H' : Hp} {y : V} (h : Good K H y) (e : Same H H') : Good K H' y :=
  let ⟨d, h1, h2⟩ := h
  ⟨d, dySame e h1, h2⟩
theorem Good.shows {K : PySem.W.Frag} {H : Hp} {y : V} (h : Good K H y) : Shows K y H :=
  let ⟨d, h1, h2⟩ := h
  ⟨d, h1, h2.s⟩
theorem g0 : GoodD .none := ⟨⟨by decide +kernel, by decide +kernel, by decide +kernel, fun x e => by cases e⟩, by decide +kernel, by decide +kernel, by decide +kernel⟩
theorem g1 : GoodD (.int 5) := ⟨⟨by decide +kernel, by decide +kernel, by decide +kernel, fun x e => by cases e⟩, by decide +kernel, by decide +kernel, by decide +kernel⟩
theorem g2 : GoodD (.str "a") := ⟨⟨by decide +kernel, by decide +kernel, by decide +kernel, fun x e => by cases e; decide +kernel⟩, by decide +kernel, by decide +kernel, by decide +kernel⟩
theorem g3 : GoodD (.tuple [.int 1, .int 2]) := ⟨⟨by decide +kernel, by decide +kernel, by decide +kernel, fun x e => by cases e⟩, by decide +kernel, by decide +kernel, by decide +kernel⟩
theorem g4 : GoodD (.list [.int 3]) := ⟨⟨by decide +kernel, by decide +kernel, by decide +kernel, fun x e => by cases e⟩, by decide +kernel, by decide +kernel, by decide +kernel⟩
theorem g5 : GoodD oneDict := ⟨⟨by decide +kernel, by decide +kernel, by decide +kernel, fun x e => by cases e⟩, by decide +kernel, by decide +kernel, by decide +kernel⟩
theorem g6 : GoodD (.bool true) := ⟨⟨by decide +kernel, by decide +kernel, by decide +kernel, fun x e => by cases e⟩, by decide +kernel, by decide +kernel, by decide +kernel⟩
theorem g7 : GoodD (.int (-100000000000000000000)) := ⟨⟨by decide +kernel, by decide +kernel, by decide +kernel, fun x e => by cases e⟩, by decide +kernel, by decide +kernel, by decide +kernel⟩
theorem TapeOk.same {H H' : Hp} {t : Addr} (h : TapeOk H t) (e : Same H H') : TapeOk H' t := by
  obtain ⟨b, ns, i, r, s, h1, h2, h3⟩ := h
  exact ⟨b, ns, i, r, s, e _ _ h1, e _ _ h2, h3⟩
theorem del_sub (H : Hp) (t : Addr) : Same (del H t) H := fun b o e => by
  by_cases h : b = t
  · rw [h, del_same] at e
    cases e
  · rw [del_ne h] at e
    exact e
abbrev things (tp l3 d : Addr) : List V := [.non, .int 5, .str "a", .ref tp, .ref l3, .ref d, .bl true, .int (0 - 10 ^ 20)]
theorem prep (K : PySem.W.Frag) {H0 : Hp} {t tp l3 d L : Addr} (tk : TapeOk H0 t) (h1 : H0 tp = none) (h2 : upd H0 tp (.tup [.int 1, .int 2]) l3 = none)
    (h3 : upd (upd H0 tp (.tup [.int 1, .int 2])) l3 (.lst [.int 3]) d = none)
    (h4 : upd (upd (upd (upd H0 tp (.tup [.int 1, .int 2])) l3 (.lst [.int 3])) d (.dK [])) d (.dK (mergeK [] oneKv)) L = none) :
    ∃ X0 : Hp, Same X0 (upd (upd (upd (upd (upd H0 tp (.tup [.int 1, .int 2])) l3 (.lst [.int 3])) d (.dK [])) d (.dK (mergeK [] oneKv))) L (.lst (things tp l3 d))) ∧
      TapeOk (upd (upd (upd (upd (upd H0 tp (.tup [.int 1, .int 2])) l3 (.lst [.int 3])) d (.dK [])) d (.dK (mergeK [] oneKv))) L (.lst (things tp l3 d))) t ∧
      X0 t = none ∧ X0 L = some (.lst (things tp l3 d)) ∧ ∀ y ∈ things tp l3 d, Good K X0 y := by
  rw [upd_upd] at h4 ⊢
  have e : mergeK [] oneKv = oneKv := rfl
  rw [e] at h4 ⊢
  have u1 := same_upd (o := .tup [.int 1, .int 2]) h1
  have u2 := same_upd (o := .lst [.int 3]) h2
  have u3 := same_upd (o := .dK oneKv) h3
  have u4 := same_upd (o := .lst (things tp l3 d)) h4
  have ft := u4 _ _ (u3 _ _ (u2 _ _ (upd_same (H := H0) (a := tp) (o := .tup [.int 1, .int 2]))))
  have fl := u4 _ _ (u3 _ _ (upd_same (H := upd H0 tp (.tup [.int 1, .int 2])) (a := l3) (o := .lst [.int 3])))
  have fd := u4 _ _ (upd_same (H := upd (upd H0 tp (.tup [.int 1, .int 2])) l3 (.lst [.int 3])) (a := d) (o := .dK oneKv))
  have fL := upd_same (H := upd (upd (upd H0 tp (.tup [.int 1, .int 2])) l3 (.lst [.int 3])) d (.dK oneKv)) (a := L) (o := .lst (things tp l3 d))
  have tk1 := tk.same (u1.trans (u2.trans u3))
  have tk2 := tk1.same u4
  generalize upd (upd (upd (upd H0 tp (.tup [.int 1, .int 2])) l3 (.lst [.int 3])) d (.dK oneKv)) L (.lst (things tp l3 d)) = B at *
  have nt : ∀ {b : Addr} {o : HO}, B b = some o → (∀ xs, o = .lst xs → xs = [V.int 3] ∨ xs = things tp l3 d) → b ≠ t := fun {b o} hb ho z => by
    obtain ⟨bb, ns, i, r, s, h5, _⟩ := tk2
    rw [z, h5] at hb
    have hb' := (Option.some.inj hb).symm
    rcases ho _ hb' with q | q
    · have q' := congrArg List.length q
      cases q'
    · have q' := congrArg List.length q
      cases q'
  have at_ : ∀ {b : Addr} {o : HO}, B b = some o → (∀ xs, o = .lst xs → xs = [V.int 3] ∨ xs = things tp l3 d) → del B t b = some o := fun {b o} hb ho => by
    rw [del_ne (nt hb ho)]
    exact hb
  have at1 := at_ ft (fun xs z => by cases z)
  have at2 := at_ fl (fun xs z => .inl (HO.lst.inj z).symm)
  have at3 := at_ fd (fun xs z => by cases z)
  have at4 := at_ fL (fun xs z => .inr (HO.lst.inj z).symm)
  refine ⟨del B t, del_sub B t, tk2, del_same, at4, fun y hy => ?_⟩
  simp only [List.mem_cons, List.not_mem_nil, or_false] at hy
  rcases hy with rfl | rfl | rfl | rfl | rfl | rfl | rfl | rfl
  · exact ⟨_, .plain .non rfl, g0⟩
  · exact ⟨_, .plain (.int 5) rfl, g1⟩
  · exact ⟨_, .plain (.str _) rfl, g2⟩
  · exact ⟨_, .plain (.tup (SqT.of at1) (.cons (.int 1) (.cons (.int 2) .nil))) rfl, g3⟩
  · exact ⟨_, .plain (.lst (SqL.of at2) (.cons (.int 3) .nil)) rfl, g4⟩
  · exact ⟨_, .dict at3, g5⟩
  · exact ⟨_, .plain (.bl true) rfl, g6⟩
  · exact ⟨_, .plain (.int _) rfl, g7⟩
theorem paired_at {α β : Type} {F : α → β → Prop} : ∀ {as : List α} {bs : List β} {j : Nat} {a : α}, Paired F as bs → as[j]? = some a → ∃ b, bs[j]? = some b ∧ F a b
  | _, _, 0, _, .cons r _, e => by
    simp at e
    subst e
    exact ⟨_, rfl, r⟩
  | _, _, j + 1, _, .cons _ r, e => by
    obtain ⟨b, h1, h2⟩ := paired_at (j := j) r (by simpa using e)
    exact ⟨b, by simpa using h1, h2⟩
  | _, _, _, _, .nil, e => by simp at e
theorem err_at {C : Nat → Addr} {H : Hp} {y : V} {as : List Addr} {j : Nat} {x : V} (h : Errs C H y as) (hx : (as.map V.ref)[j]? = some x) : ∃ a c g, x = .ref a ∧ (csOf C)[j]? = some c ∧ ErrAt H a c g y := by
  rw [List.getElem?_map] at hx
  cases ha : as[j]? with
  | none =>
    rw [ha] at hx
    cases hx
  | some a =>
    rw [ha] at hx
    obtain ⟨p, hp, he⟩ := paired_at h ha
    have hz := List.getElem?_zip_eq_some.mp hp
    exact ⟨a, p.1, p.2, (Option.some.inj hx).symm, hz.1, he⟩
theorem errs_len {C : Nat → Addr} {H : Hp} {y : V} {as : List Addr} (h : Errs C H y as) : as.length = 13 := by
  have e := h.length
  exact e
theorem dpBls {K : PySem.W.Frag} {H : Hp} (g : Nat → Bool) : ∀ l : List Nat, DpAll K H (l.map fun m => V.bl (g m)) (l.map fun m => PyData.bool (g m))
  | [] => .nil
  | m :: l => .cons (.bl _) (dpBls g l)
abbrev dk (j : Nat) : PyData := .list ((List.range 13).map fun m => .bool (decide (m = j)))
theorem shk : ∀ j, j < 13 → SeqAt.shaped (dk j) = true := by decide +kernel
abbrev da (j : Nat) : PyData := .list [.bool (decide (j < 9)), .bool (decide (j < 9)), .bool (decide (j = 9)), .bool (decide (j = 9) || decide (j = 10)), .bool (decide (j = 11)), .bool (decide (j = 12))]
theorem sha : ∀ j, j < 13 → SeqAt.shaped (da j) = true := by decide +kernel
theorem dpAbove {K : PySem.W.Frag} {H : Hp} (j : Nat) : DpAll K H (aboves j) [.bool (decide (j < 9)), .bool (decide (j < 9)), .bool (decide (j = 9)), .bool (decide (j = 9) || decide (j = 10)), .bool (decide (j = 11)), .bool (decide (j = 12))] :=
  .cons (.bl _) (.cons (.bl _) (.cons (.bl _) (.cons (.bl _) (.cons (.bl _) (.cons (.bl _) .nil)))))
theorem in_two : ∀ j : Nat, j < 13 → inV (.int (j : Int)) [.int 9, .int 10] = (decide (j = 9) || decide (j = 10)) := by decide +kernel
theorem lt_nat (j : Nat) : decide ((j : Int) < 9) = decide (j < 9) := decide_eq_decide.mpr (by omega)
theorem eq_nat (j n : Nat) : decide ((j : Int) = (n : Int)) = decide (j = n) := decide_eq_decide.mpr (by omega)
theorem list_above (n : Nat) (hn : n < 13) : [V.bl (decide ((n : Int) < 9)), V.bl (decide ((n : Int) < 9)), V.bl (decide ((n : Int) = 9)), V.bl (inV (.int (n : Int)) [.int 9, .int 10]), V.bl (decide ((n : Int) = 11)), V.bl (decide ((n : Int) = 12))] = aboves n := by
  rw [in_two n hn, lt_nat]
  have e9 : decide ((n : Int) = 9) = decide (n = 9) := eq_nat n 9
  have e11 : decide ((n : Int) = 11) = decide (n = 11) := eq_nat n 11
  have e12 : decide ((n : Int) = 12) = decide (n = 12) := eq_nat n 12
  rw [e9, e11, e12]
  rfl
section
variable {P : Program} {w : World} {K : PySem.W.Frag} {mg : Str → Option Value} {base : Heap} {fa W0 : Addr} {fda : FuncData} {C fI f : Nat → Addr} {fdc fd : Nat → FuncData}
theorem ok_law (F : Fun K "law" "law" sLaw fa fda) (T : Tx K mg W0 C fI fdc) (U : Ux K mg f fd) (hS : ∃ o, base.get? sysModules = some o) : FnG P w K mg base 4 fa fda ["_law_script"] (spLaw K) := by
  have GT : FnOk P w K mg base CX0 1 _ _ ["_law_script"] (spTape K) := ok_tape U.tape.F U.d
  have GD : FnOk P w K mg base CX0 1 _ _ ["_law_tape_here", "_law_many"] spDraw := ok_draw U.draw.F U.d
  have GM : FnG P w K mg base 3 _ _ ["_law_thing"] (spMade K C) := ok_made U.made.F T
  have GN : FnG P w K mg base 3 _ _ ["_law_thing"] (spMade K C) := ok_named U.named.F T
  have GK : FnOk P w K mg base CX0 1 _ _ ["_law_error"] (spKinds C) := ok_kinds U.kinds.F T
  have GA : FnOk P w K mg base CX0 1 _ _ ["_law_error"] (spAbove C) := ok_above U.above.F T
  have GF : FnOk P w K mg base CX0 1 _ _ ["_law_made"] (spFields C) := ok_fields U.fields.F T
  refine F.okG scLaw (fun vs H Q h => ?_) (fun cdv A outer s H vs Q hr hgd h => ?_)
  · obtain ⟨a, ns, rfl, _⟩ := h
    rfl
  · obtain ⟨a, ns, rfl, hSq, hlen, k⟩ := h
    have hr1 : Room 1 _ := hr.mono (by decide)
    refine ⟨_, pss_cons (ps_set (i := 1) scLaw.nd rfl (Or.inl rfl) (pe_call GT hr1 (by rfl) U.tape.mg U.tape.F.kp U.tape.b .nil pass0 (pa_cons (pv 0) pa_nil)))
      (pss_cons (ps_set (i := 2) scLaw.nd rfl (Or.inl rfl) (pe_lst (pa_cons pe_non (pa_cons pe_int (pa_cons pe_str (pa_cons (pe_tup (pa_cons pe_int (pa_cons pe_int pa_nil))) (pa_cons (pe_lst (pa_cons pe_int pa_nil))
          (pa_cons (pe_disp (pps_cons pe_str pe_int pps_nil) (by rfl) (by rfl) (fun z => by cases z) (by decide)) (pa_cons pe_bl (pa_cons (pe_op op_sub pe_int (pe_op op_pow pe_int pe_int)) pa_nil))))))))))
      (pss_cons (ps_for PassesOwn.never rfl (pi_range1 rfl U.range (pa_cons pe_int pa_nil)) (pg_name (i := 3) scLaw.nd rfl (Or.inl rfl))
        (pss_cons (ps_set (i := 4) scLaw.nd rfl (Or.inl rfl) (pe_ix ix_list (pv 2) (pe_call GD hr1 (by rfl) U.draw.mg U.draw.F.kp U.draw.b .nil pass0 (pa_cons (pv 1) (pa_cons pe_int pa_nil))) (fun _ _ => rfl)))
        (pss_cons (ps_set (i := 5) scLaw.nd rfl (Or.inl rfl) (pe_callG GM hr hgd (by rfl) U.made.mg U.made.F.kp U.made.b (pa_cons (pv 4) pa_nil)))
        (pss_cons (ps_for PassesOwn.never rfl (pi_enum (by rfl) U.enum (pa_cons (pv 5) pa_nil)) (pg_tup rfl (pgs_cons (pg_name (i := 6) scLaw.nd rfl (Or.inr rfl)) (pgs_cons (pg_name (i := 7) scLaw.nd rfl (Or.inl rfl)) pgs_nil)))
          (pss_cons (ps_if (pt_cmpR (op_neD hr.units) (pe_call GK hr1 (by rfl) U.kinds.mg U.kinds.F.kp U.kinds.b .nil pass0 (pa_cons (pv 7) pa_nil))
              (pe_lc (own := [("_law_number", 8)]) (g := gName 8) (tt := tYes) (by rfl) scLaw.nd (pi_range1 rfl U.range (pa_cons pe_int pa_nil)) (blkOk_by (own := [("_law_number", 8)]) (N := names) (sc := defScope sLaw) (by decide +kernel))
                (fun _ _ _ _ _ => pg_name (i := 8) scLaw.nd rfl (Or.inl rfl)) (fun _ _ _ _ _ => pts_nil) (fun _ _ _ _ _ => pe_cmp (pc_eqI (pv 8) (pv 6)))) (nomark _))
              (pss_one (ps_ret pe_bl)) pss_nil)
          (pss_one (ps_if (pt_cmpR (op_neD hr.units) (pe_call GA hr1 (by rfl) U.above.mg U.above.F.kp U.above.b .nil pass0 (pa_cons (pv 7) pa_nil))
              (pe_lst (pa_cons (pe_cmp (pc_lt (pv 6) pe_int)) (pa_cons (pe_cmp (pc_lt (pv 6) pe_int)) (pa_cons (pe_cmp (pc_eqI (pv 6) pe_int))
                (pa_cons (pe_cmpR op_in_seq (pv 6) (pe_lst (pa_cons pe_int (pa_cons pe_int pa_nil))) (by rfl)) (pa_cons (pe_cmp (pc_eqI (pv 6) pe_int)) (pa_cons (pe_cmp (pc_eqI (pv 6) pe_int)) pa_nil))))))) (nomark _))
              (pss_one (ps_ret pe_bl)) pss_nil))))
        (pss_cons (ps_if (pt_cmpR op_ne (pe_callB (call_reprL hr hgd hS) (by rfl) U.repr (by decide +kernel) (pa_cons (pe_call GF hr1 (by rfl) U.fields.mg U.fields.F.kp U.fields.b .nil pass0 (pa_cons (pv 5) pa_nil)) pa_nil))
            (pe_callB (call_reprL hr hgd hS) (by rfl) U.repr (by decide +kernel) (pa_cons (pe_op op_rep (pe_lst (pa_cons (pv 4) pa_nil)) pe_int) pa_nil)) (nomark _)) (pss_one (ps_ret pe_bl)) pss_nil)
        (pss_one (ps_if (pt_cmpR op_ne (pe_callB (call_reprL hr hgd hS) (by rfl) U.repr (by decide +kernel) (pa_cons (pe_call GF hr1 (by rfl) U.fields.mg U.fields.F.kp U.fields.b .nil pass0 (pa_cons
              (pe_callG GN hr hgd (by rfl) U.named.mg U.named.F.kp U.named.b (pa_cons (pv 4) pa_nil)) pa_nil)) pa_nil))
            (pe_callB (call_reprL hr hgd hS) (by rfl) U.repr (by decide +kernel) (pa_cons (pe_op op_rep (pe_lst (pa_cons (pv 4) pa_nil)) pe_int) pa_nil)) (nomark _)) (pss_one (ps_ret pe_bl)) pss_nil)))))))
      (pss_one (ps_ret pe_bl)))), ?_⟩
    refine ⟨_, rfl, a, ns, rfl, hSq, hlen, fun H0 t s0 tk nt => ?_⟩
    refine ⟨small_list rfl, fun tp htp => ⟨small_list rfl, fun l3 hl3 => fun d hd => ⟨upd_same, oneKv, rfl, by decide, ?_⟩⟩⟩
    refine ⟨_, _, rfl, rfl, ⟨by decide, by decide, by decide⟩, _, _, rfl, rfl, small_list rfl, fun L hL => ?_⟩
    obtain ⟨X0, sm, tk1, xt, xL, good⟩ := prep K tk htp hl3 hd hL
    refine ⟨8, rfl, by decide, by decide, for_range (n := 8) (fun i σ H' => ∃ v3 v4 v5 v6 v7 v8 : Option V, σ = [some (.ref a), some (.ref t), some (.ref L), v3, v4, v5, v6, v7, v8] ∧ Same X0 H' ∧ TapeOk H' t)
      ⟨_, _, _, _, _, _, rfl, sm, tk1⟩ ?_ ?_⟩
    · rintro i σ H1 hi ⟨v3, v4, v5, v6, v7, v8, rfl, sm1, tk2⟩
      refine ⟨_, rfl, _, rfl, t, 8, rfl, by decide, by decide, tk2, fun H2 dd tk3 oth d0 d8 => ?_⟩
      have sm2 : Same X0 H2 := fun b o e => by
        rw [oth b (ne_of_none e xt)]
        exact sm1 b o e
      obtain ⟨j, rfl⟩ : ∃ j : Nat, dd = (j : Int) := ⟨dd.toNat, by omega⟩
      have hj : j < (things tp l3 d).length := by
        have z : (things tp l3 d).length = 8 := rfl
        omega
      obtain ⟨y, hy⟩ : ∃ y, (things tp l3 d)[j]? = some y := ⟨_, List.getElem?_eq_getElem hj⟩
      have hgood := good y (List.mem_of_getElem? hy)
      refine ⟨L, _, _, y, rfl, rfl, SqL.of (sm2 _ _ xL), atI_nat hy, ?_⟩
      have hg2 := hgood.same sm2
      refine ⟨_, rfl, y, rfl, hg2.shows, fun H3 l as s3 hl errs => ?_⟩
      have hg3 := hg2.same s3
      obtain ⟨dt, dy3, gd⟩ := hg3
      refine ⟨_, rfl, l, _, rfl, SqL.of hl, for_enum (xs := as.map V.ref) (fun _ σ H' => ∃ v6 v7 v8 : Option V, σ = [some (.ref a), some (.ref t), some (.ref L), some (.int (0 + (i : Int))), some y, some (.ref l), v6, v7, v8] ∧ Same H3 H')
        ⟨_, _, _, rfl, Same.refl H3⟩ (fun _ σ H' _ ⟨_, _, _, _, q⟩ => SqL.of (q _ _ hl)) ?_ ?_⟩
      · rintro n x Tp σ H4 hx hT ⟨w6, w7, w8, rfl, sm4⟩
        obtain ⟨e, c, g, rfl, hc, her⟩ := err_at errs hx
        have hn := lt13 hc
        refine ⟨Tp, _, rfl, SqT.of upd_same, rfl, _, _, rfl, _, _, rfl, rfl, ?_⟩
        have smT := sm4.trans (same_upd (o := .tup [.int (n : Nat), .ref e]) hT)
        have er5 := her.same smT
        refine ⟨_, rfl, e, n, c, g, y, rfl, hc, er5, fun H5 lk s5 hk => ?_⟩
        refine ⟨13, rfl, by decide, by decide, fun D hD => lc_range (lo := 0) (n := 13) (fun m H' => Same H5 H' ∧ H' D = some (.lst ((List.range m).map fun q => V.bl (decide (q = n)))))
          ⟨same_upd hD, upd_same⟩ ?_ ?_⟩
        · rintro m H' hm ⟨q1, q2⟩
          refine ⟨rfl, ?_⟩
          unfold tYes
          refine iteT ?_
          refine ⟨_, rfl, _, rfl, _, _, rfl, rfl, _, q2, ?_, ?_, ?_⟩
          · rw [List.length_map, List.length_range]
            exact Nat.lt_of_lt_of_le hm (by rw [sizeLine_eq]; decide)
          · intro b o z
            rw [upd_ne (ne_of_none z hD)]
            exact q1 b o z
          · have ez : decide (0 + (m : Int) = (n : Int)) = decide (m = n) := decide_eq_decide.mpr (by omega)
            rw [upd_same, List.range_succ, List.map_append]
            show some (HO.lst (_ ++ [V.bl (decide (0 + (m : Int) = (n : Int)))])) = _
            rw [ez]
            rfl
        · rintro H6 ⟨q1, q2⟩
          refine ⟨dk n, dk n, .lst (SqL.of (q1 _ _ hk)) (dpBls _ _), .lst (SqL.of q2) (dpBls _ _), shk n hn, shk n hn, _, rfl, ?_⟩
          rw [SeqAt.eqv_refl _ (SeqAt.canLay_of_shaped (shk n hn))]
          refine iteF ?_
          have er6 := (er5.same s5).same q1
          refine ⟨_, rfl, e, n, c, g, y, rfl, hc, er6, fun H7 la s7 ha => ?_⟩
          refine ⟨_, rfl, _, _, rfl, rfl, _, rfl, _, _, rfl, rfl, _, rfl, _, _, rfl, rfl, _, rfl, small_list rfl, fun p hp => ?_⟩
          refine ⟨p, _, rfl, .inl (SqL.of upd_same), rfl, ?_, ?_⟩
          · rfl
          · refine ⟨_, rfl, _, _, rfl, rfl, _, rfl, _, _, rfl, rfl, small_list rfl, fun q hq => ?_⟩
            have hp0 : H7 p = none := hp
            have uq := same_upd (o := .lst [V.bl (decide ((n : Int) < 9)), V.bl (decide ((n : Int) < 9)), V.bl (decide ((n : Int) = 9)), V.bl (inV (.int (n : Int)) [.int 9, .int 10]), V.bl (decide ((n : Int) = 11)), V.bl (decide ((n : Int) = 12))]) hq
            have up := same_upd (o := .lst [.int 9, .int 10]) hp
            refine ⟨da n, da n, .lst (SqL.of (uq _ _ (up _ _ ha))) (dpAbove n), .lst (SqL.of (Eq.trans upd_same (congrArg (fun z => some (HO.lst z)) (list_above n hn)))) (dpAbove n), sha n hn, sha n hn, _, rfl, ?_⟩
            rw [SeqAt.eqv_refl _ (SeqAt.canLay_of_shaped (sha n hn))]
            refine iteF ?_
            exact ⟨_, _, _, rfl, ((((sm4.trans (same_upd hT)).trans s5).trans q1).trans s7).trans (up.trans uq)⟩
      · rintro σ H4 ⟨w6, w7, w8, rfl, sm4⟩
        have er4 := errs.same sm4
        have dy4 := dySame sm4 dy3
        refine ⟨_, rfl, l, as, y, rfl, sm4 _ _ hl, er4, fun H5 lf s5 hf => ?_⟩
        refine ⟨lf, 13, y, dt, rfl, hf, dySame s5 dy4, gd.sh, gd.ln, gd.dp, ?_⟩
        refine ⟨_, rfl, small_list rfl, fun p hp => ⟨p, 13, _, rfl, rfl, upd_same, by decide, by decide, small_nat rfl, fun q hq => ?_⟩⟩
        have up5 := same_upd (o := .lst [y]) hp
        have uq5 := same_upd (o := .lst (List.replicate (Int.toNat 13) [y]).flatten) hq
        have s5q := (sm4.trans s5).trans (up5.trans uq5)
        refine ⟨q, 13, y, dt, rfl, upd_same, dySame s5q dy3, gd.sh, gd.ln, gd.dp, rfl, _, rfl, ?_⟩
        refine iteNS rfl ?_
        have hg5 := (hg2.same s3).same s5q
        refine ⟨_, rfl, y, rfl, hg5.shows, fun H6 l6 as6 s6 hl6 errs6 => ?_⟩
        refine ⟨l6, as6, y, rfl, hl6, errs6, fun H7 lf7 s7 hf7 => ?_⟩
        refine ⟨lf7, 13, y, dt, rfl, hf7, dySame ((s5q.trans s6).trans s7) dy3, gd.sh, gd.ln, gd.dp, ?_⟩
        refine ⟨_, rfl, small_list rfl, fun p2 hp2 => ⟨p2, 13, _, rfl, rfl, upd_same, by decide, by decide, small_nat rfl, fun q2 hq2 => ?_⟩⟩
        have up7 := same_upd (o := .lst [y]) hp2
        have uq7 := same_upd (o := .lst (List.replicate (Int.toNat 13) [y]).flatten) hq2
        have s7q := ((s5q.trans s6).trans s7).trans (up7.trans uq7)
        refine ⟨q2, 13, y, dt, rfl, upd_same, dySame s7q dy3, gd.sh, gd.ln, gd.dp, rfl, _, rfl, ?_⟩
        refine iteNS rfl ?_
        exact ⟨_, _, _, _, _, _, rfl, (sm2.trans s3).trans s7q, (tk3.same s3).same s7q⟩
    · rintro σ H1 ⟨v3, v4, v5, v6, v7, v8, rfl, sm1, tk2⟩
      exact k _
end
end K94

namespace L2
open PySem PySem.Spec PyProof.Rows
/-- the law's call, from its promise where no repr is under way and sys.modules stands -/
theorem law_callG {P : Program} {w : World} {K : PySem.W.Frag} {mg mb : Str → Option Value} {k : Nat} {fa a : Addr} {fd : FuncData} {x : Str} {sp : Sp} {s₁ : Shared} {vs : List Value} {ns : List Int}
    (KX : K.In s₁.heap) (hns : s₁.heap.Ns mainGlobals mg) (hb : s₁.heap.Ns builtinsNs mb) (hbb : ∀ x : Str, x ≠ "__name__" → mb x = bootBuiltins x) (hlim : s₁.heap.NoLimit) (hsy : ∃ mm, s₁.heap.Ns sysModules mm) (hg : s₁.gens = #[])
    (ha : s₁.heap.get? a = some { cls := .type "list", data := .seq vs.toArray }) (hi : IntsAre vs ns) (hl : ns.length ≤ sizeLine) (hr : Room k callerA)
    (F : ∀ base : Heap, K.In base → base.Ns mainGlobals mg → (∃ o, base.get? sysModules = some o) → FnG P w K mg base k fa fd [x] sp) (hbind : ∀ (s : Shared) (u : Value), BindsTo s fd ⟨[u], []⟩ [(x, u)])
    (hsp : ∀ H : Hp, SqL K H a (ns.map V.int) → sp [.ref a] H (fun v _ => v = .bl true) E0) :
    codeAny (model P w) callerA (.call (.ref fa) ⟨[.ref a], []⟩) (fun r s' => r = .ok (.ret (.bool true)) ∧ OldK s₁.heap s'.heap ∧ s'.os = s₁.os ∧ AllBare s'.gens) s₁ := by
  have rv := vals_ints hi
  have lenV := hi.length
  have go : ∀ H : Hp, SqL K H a (ns.map V.int) → HOk P w H s₁.heap → (∀ b u, H b = some u → b = a ∧ u = .frz { cls := .type "list", data := .seq vs.toArray } (.lst (ns.map V.int))) → (H a ≠ none → K.lookup a = none) →
      codeAny (model P w) callerA (.call (.ref fa) ⟨[.ref a], []⟩) (fun r s' => r = .ok (.ret (.bool true)) ∧ OldK s₁.heap s'.heap ∧ s'.os = s₁.os ∧ AllBare s'.gens) s₁ := by
    intro H hS hok hA hK
    have free : ∀ {b : Addr} {o : Obj}, s₁.heap.get? b = some o → o.data ≠ .seq vs.toArray 0 → H b = none := fun {b o} e d => by
      cases q : H b with
      | none => rfl
      | some u =>
        have z := (hA b u q).1
        subst z
        rw [ha] at e
        cases e
        exact absurd rfl d
    have ns2 : ∀ {b : Addr} {m : Str → Option Value}, s₁.heap.Ns b m → (hidT s₁.heap H).Ns b m := fun {b m} ⟨o, es, ep, e, d, r⟩ =>
      ⟨o, es, ep, hidT_get e (free e (by rw [d]; intro z; cases z)), d, r⟩
    have K2 : K.In (hidT s₁.heap H) := fun b o e => hidT_get (KX b o e) (by
      cases q : H b with
      | none => rfl
      | some u =>
        have z := (hA b u q).1
        subst z
        rw [hK (by rw [q]; intro y; cases y)] at e
        cases e)
    obtain ⟨mc, l1, l2⟩ := hlim
    obtain ⟨mm, y1⟩ := hsy
    obtain ⟨os, _, _, y2, _⟩ := ns2 y1
    have M : Mod K mg (hidT s₁.heap H) := ⟨K2, ns2 hns, ⟨mb, ns2 hb, hbb⟩, ⟨mc, ns2 l1, l2⟩⟩
    have e0 : Env0 P w K mg (hidT s₁.heap H) callerA [] s₁ H :=
      ⟨rfl, M, fun b o e => of_hidT e, Nat.le_of_eq (hidT_size _ _), trivial, fun b z => absurd (show b ∈ ([] : List Addr) from z) (by simp), hok, .of_eq hg⟩
    refine codeAny_mono ((F _ K2 (ns2 hns) ⟨_, y2⟩).run callerA [] s₁ H ⟨[.ref a], []⟩ [.ref a] [.ref a] _ hr rfl e0 (hbind s₁ (.ref a)) (.cons rfl .nil) (hsp H hS)) fun r s' h => ?_
    cases r with
    | error e => exact False.elim h
    | ok fl =>
      cases fl with
      | next => exact False.elim h
      | brk => exact False.elim h
      | cont => exact False.elim h
      | ret u =>
        obtain ⟨v, H', os', bare, un, hok', r', q⟩ := h
        have q' : v = .bl true := q
        subst q'
        obtain rfl : u = Value.bool true := r'
        refine ⟨rfl, OldK.of_keep fun b o e => ?_, os', bare⟩
        cases q : H b with
        | none => exact un.keep b o e q (by intro z; exact absurd (show b ∈ ([] : List Addr) from z) (by simp)) (by simp)
        | some u =>
          obtain ⟨z1, z2⟩ := hA b u q
          subst z2
          obtain ⟨e1, _⟩ := hok b _ q
          obtain ⟨e2, _⟩ := hok' b _ (un.frzs b _ _ q)
          exact e2.trans (e1.symm.trans e)
  cases hk : K.lookup a with
  | some o =>
    have e := KX a o hk
    rw [ha] at e
    cases e
    exact go (fun _ => none) (.inr ⟨_, vs.toArray, _, hk, rfl, rfl, rfl, by rw [List.size_toArray, lenV]; exact hl, by simpa using rv⟩) (fun _ _ z => nomatch z) (fun _ _ z => nomatch z) fun z => absurd rfl z
  | none =>
    have at_ : ∀ {b : Addr} {u : HO}, (if b = a then some (HO.frz { cls := .type "list", data := .seq vs.toArray } (.lst (ns.map V.int))) else none) = some u → b = a ∧ u = .frz { cls := .type "list", data := .seq vs.toArray } (.lst (ns.map V.int)) := fun {b u} z => by
      by_cases h : b = a
      · rw [if_pos h] at z
        exact ⟨h, (Option.some.inj z).symm⟩
      · rw [if_neg h] at z
        cases z
    refine go (fun b => if b = a then some (.frz { cls := .type "list", data := .seq vs.toArray } (.lst (ns.map V.int))) else none) (.inl (.inr ⟨_, if_pos rfl⟩)) (fun b u z => ?_) (fun b u z => at_ z) fun _ => hk
    obtain ⟨z1, z2⟩ := at_ z
    subst z1 z2
    exact ⟨ha, by rw [List.length_map]; exact hl, vs, _, rv, ha⟩
theorem walk_ofG {l : PySem.W.OpenLaw} {n k : Nat} {q : Program} {loose : List Str} {XP : (Str → Option Value) → Heap → Prop} {YP : World → Heap → Prop} {d : DefRec} {K : Params → PySem.W.Frag} {sp : PySem.W.Frag → Sp} {x : Str}
    (hn : l.most = some n) (hn2 : n ≤ sizeLine) (hdf : d.params.defaults = []) (hr : Room k callerA) (hq : importsNone q = true) (hY : ∀ (w : World) (h : Heap), YP w h → (K w.params).In h)
    (F : ∀ (w : World) (mg : Str → Option Value) (fa : Addr) (h : Heap), (K w.params).In h → h.Ns mainGlobals mg → mg d.name = some (.ref fa) →
      ∃ fd : FuncData, (∀ (s : Shared) (u : Value), BindsTo s fd ⟨[u], []⟩ [(x, u)]) ∧
        ∀ base : Heap, (K w.params).In base → base.Ns mainGlobals mg → (∃ o, base.get? sysModules = some o) → FnG l.prog w (K w.params) mg base k fa fd [x] (sp (K w.params)))
    (hsp : ∀ (K : PySem.W.Frag) (H : Hp) (a : Addr) (ns : List Int), ns.length ≤ n → SqL K H a (ns.map V.int) → sp K [.ref a] H (fun v _ => v = .bl true) E0) :
    PySem.W.WalkO q loose XP YP l.row.toRowW d [] (fun f vs => PySem.call f vs) := by
  refine Att.attach_call hn hdf fun w s₀ s₁ mg mb fa o pm cd doc a vs ns G Y ho hd hcd hmg hobj hints hlen hg => ?_
  have KX := hY w _ Y
  obtain ⟨fd, hb, hF⟩ := F w mg fa _ KX G.T.g hmg
  obtain ⟨mm, hm, _⟩ := (G.T.seer hq).mods
  exact law_callG KX G.T.g G.T.b G.T.builtins G.T.nolimit ⟨mm, hm⟩ hg hobj hints (Nat.le_trans hlen hn2) hr hF hb fun H hS => hsp (K w.params) H a ns hlen hS
end L2

namespace K94
open PySem PySem.Spec PyProof.Rows L2
theorem all_mk {l : PySem.W.OpenLaw} {w : World} {K : PySem.W.Frag} {h : Heap} {mg : Str → Option Value} {fa : Addr} (X : K.In h) (G : h.Ns mainGlobals mg) (hfa : mg "law" = some (.ref fa))
    {W0 c2 c3 c4 c5 c6 c7 c8 c9 c10 c11 c12 c13 c14 f2 f3 f4 f5 f6 f7 f8 f9 f10 f11 f12 f13 f14 f16 f17 f18 f19 f20 f21 f22 f23 : Addr} {od2 an2 od3 an3 od4 an4 od5 an5 od6 an6 od7 an7 od8 an8 od9 an9 od10 an10 od11 an11 od12 an12 od13 an13 od14 an14 od16 an16 od17 an17 od18 an18 od19 an19 od20 an20 od21 an21 od22 an22 od23 an23 : Option Addr} {sl2 sl3 sl4 sl5 sl6 sl7 sl8 sl9 sl10 sl11 sl12 sl13 sl14 sl16 sl17 sl18 sl19 sl20 sl21 sl22 sl23 : Array (Option Value)} {oc2 kV2 dc2 pm2 cd2 ct2 oc3 kV3 dc3 pm3 cd3 ct3 oc4 kV4 dc4 pm4 cd4 ct4 oc5 kV5 dc5 pm5 cd5 ct5 oc6 kV6 dc6 pm6 cd6 ct6 oc7 kV7 dc7 pm7 cd7 ct7 oc8 kV8 dc8 pm8 cd8 ct8 oc9 kV9 dc9 pm9 cd9 ct9 oc10 kV10 dc10 pm10 cd10 ct10 oc11 kV11 dc11 pm11 cd11 ct11 oc12 kV12 dc12 pm12 cd12 ct12 oc13 kV13 dc13 pm13 cd13 ct13 oc14 kV14 dc14 pm14 cd14 ct14 oc16 kV16 dc16 pm16 cd16 ct16 oc17 kV17 dc17 pm17 cd17 ct17 oc18 kV18 dc18 pm18 cd18 ct18 oc19 kV19 dc19 pm19 cd19 ct19 oc20 kV20 dc20 pm20 cd20 ct20 oc21 kV21 dc21 pm21 cd21 ct21 oc22 kV22 dc22 pm22 cd22 ct22 oc23 kV23 dc23 pm23 cd23 ct23 : Value}
    (aW : PySem.W.nsIn K mainGlobals "WorkError" = some (some (.ref W0)))
    (a2 : PySem.W.nsIn K mainGlobals "InvalidPlan" = some (some (.ref c2)))
    (a3 : PySem.W.nsIn K mainGlobals "InvalidProgram" = some (some (.ref c3)))
    (a4 : PySem.W.nsIn K mainGlobals "InvalidName" = some (some (.ref c4)))
    (a5 : PySem.W.nsIn K mainGlobals "InvalidKey" = some (some (.ref c5)))
    (a6 : PySem.W.nsIn K mainGlobals "InvalidNumber" = some (some (.ref c6)))
    (a7 : PySem.W.nsIn K mainGlobals "InvalidPolicy" = some (some (.ref c7)))
    (a8 : PySem.W.nsIn K mainGlobals "InvalidLog" = some (some (.ref c8)))
    (a9 : PySem.W.nsIn K mainGlobals "InvalidText" = some (some (.ref c9)))
    (a10 : PySem.W.nsIn K mainGlobals "InvalidCommand" = some (some (.ref c10)))
    (a11 : PySem.W.nsIn K mainGlobals "UnknownTask" = some (some (.ref c11)))
    (a12 : PySem.W.nsIn K mainGlobals "NotHeld" = some (some (.ref c12)))
    (a13 : PySem.W.nsIn K mainGlobals "LeaseLost" = some (some (.ref c13)))
    (a14 : PySem.W.nsIn K mainGlobals "LimitExceeded" = some (some (.ref c14)))
    (i2 : PySem.W.findIn K (.ref c2) "__init__" = some (some (.ref f2)))
    (l2 : K.lookup f2 = some ⟨oc2, od2, .func (PySem.W.fnOf "__init__" "InvalidPlan.__init__" (defArgs s2) (defBody s2) (defScope s2) .none kV2 dc2 pm2 an2 cd2 ct2), sl2⟩)
    (g2 : PySem.W.codeIn K cd2 "InvalidPlan.__init__" = true)
    (k2 : PySem.W.keepIn K (.ref f2) = true)
    (t2 : PySem.W.typeIn K (.ref f2) = some (.type "function"))
    (ht2 : PySem.W.takerIn K c2 "part" = some none)
    (hn2 : PySem.W.findIn K (.ref c2) "part" = some none)
    (isn2 : PySem.W.excInitIn K c2 veT "ValueError.__new__" = true)
    (ovr2 : PySem.W.excOver K c2 veT = true)
    (sa2 : PySem.W.findIn K (.ref c2) "__setattr__" = some (some (.builtin "object.__setattr__")))
    (hd2 : PySem.W.hasDictIn K c2 = true)
    (kc2 : PySem.W.keepIn K (.ref c2) = true)
    (ga2 : PySem.W.findIn K (.ref c2) "__getattribute__" = some (some (.builtin "BaseException.__getattribute__")))
    (gg2 : PySem.W.findIn K (.ref c2) "__getattr__" = some none)
    (ex2 : PySem.W.subIn K (.ref c2) (.type "BaseException") = some true)
    (ca2 : PySem.W.findIn K (.ref c2) "__class__" = some (some (.builtin "object.__class__")))
    (mo2 : PySem.W.mroIn K c2 (.type "object") = some true)
    (i3 : PySem.W.findIn K (.ref c3) "__init__" = some (some (.ref f3)))
    (l3 : K.lookup f3 = some ⟨oc3, od3, .func (PySem.W.fnOf "__init__" "InvalidProgram.__init__" (defArgs s3) (defBody s3) (defScope s3) .none kV3 dc3 pm3 an3 cd3 ct3), sl3⟩)
    (g3 : PySem.W.codeIn K cd3 "InvalidProgram.__init__" = true)
    (k3 : PySem.W.keepIn K (.ref f3) = true)
    (t3 : PySem.W.typeIn K (.ref f3) = some (.type "function"))
    (ht3 : PySem.W.takerIn K c3 "name" = some none)
    (hn3 : PySem.W.findIn K (.ref c3) "name" = some none)
    (isn3 : PySem.W.excInitIn K c3 veT "ValueError.__new__" = true)
    (ovr3 : PySem.W.excOver K c3 veT = true)
    (sa3 : PySem.W.findIn K (.ref c3) "__setattr__" = some (some (.builtin "object.__setattr__")))
    (hd3 : PySem.W.hasDictIn K c3 = true)
    (kc3 : PySem.W.keepIn K (.ref c3) = true)
    (ga3 : PySem.W.findIn K (.ref c3) "__getattribute__" = some (some (.builtin "BaseException.__getattribute__")))
    (gg3 : PySem.W.findIn K (.ref c3) "__getattr__" = some none)
    (ex3 : PySem.W.subIn K (.ref c3) (.type "BaseException") = some true)
    (ca3 : PySem.W.findIn K (.ref c3) "__class__" = some (some (.builtin "object.__class__")))
    (mo3 : PySem.W.mroIn K c3 (.type "object") = some true)
    (i4 : PySem.W.findIn K (.ref c4) "__init__" = some (some (.ref f4)))
    (l4 : K.lookup f4 = some ⟨oc4, od4, .func (PySem.W.fnOf "__init__" "InvalidName.__init__" (defArgs s4) (defBody s4) (defScope s4) .none kV4 dc4 pm4 an4 cd4 ct4), sl4⟩)
    (g4 : PySem.W.codeIn K cd4 "InvalidName.__init__" = true)
    (k4 : PySem.W.keepIn K (.ref f4) = true)
    (t4 : PySem.W.typeIn K (.ref f4) = some (.type "function"))
    (ht4 : PySem.W.takerIn K c4 "value" = some none)
    (hn4 : PySem.W.findIn K (.ref c4) "value" = some none)
    (isn4 : PySem.W.excInitIn K c4 veT "ValueError.__new__" = true)
    (ovr4 : PySem.W.excOver K c4 veT = true)
    (sa4 : PySem.W.findIn K (.ref c4) "__setattr__" = some (some (.builtin "object.__setattr__")))
    (hd4 : PySem.W.hasDictIn K c4 = true)
    (kc4 : PySem.W.keepIn K (.ref c4) = true)
    (ga4 : PySem.W.findIn K (.ref c4) "__getattribute__" = some (some (.builtin "BaseException.__getattribute__")))
    (gg4 : PySem.W.findIn K (.ref c4) "__getattr__" = some none)
    (ex4 : PySem.W.subIn K (.ref c4) (.type "BaseException") = some true)
    (ca4 : PySem.W.findIn K (.ref c4) "__class__" = some (some (.builtin "object.__class__")))
    (mo4 : PySem.W.mroIn K c4 (.type "object") = some true)
    (i5 : PySem.W.findIn K (.ref c5) "__init__" = some (some (.ref f5)))
    (l5 : K.lookup f5 = some ⟨oc5, od5, .func (PySem.W.fnOf "__init__" "InvalidKey.__init__" (defArgs s5) (defBody s5) (defScope s5) .none kV5 dc5 pm5 an5 cd5 ct5), sl5⟩)
    (g5 : PySem.W.codeIn K cd5 "InvalidKey.__init__" = true)
    (k5 : PySem.W.keepIn K (.ref f5) = true)
    (t5 : PySem.W.typeIn K (.ref f5) = some (.type "function"))
    (ht5 : PySem.W.takerIn K c5 "value" = some none)
    (hn5 : PySem.W.findIn K (.ref c5) "value" = some none)
    (isn5 : PySem.W.excInitIn K c5 veT "ValueError.__new__" = true)
    (ovr5 : PySem.W.excOver K c5 veT = true)
    (sa5 : PySem.W.findIn K (.ref c5) "__setattr__" = some (some (.builtin "object.__setattr__")))
    (hd5 : PySem.W.hasDictIn K c5 = true)
    (kc5 : PySem.W.keepIn K (.ref c5) = true)
    (ga5 : PySem.W.findIn K (.ref c5) "__getattribute__" = some (some (.builtin "BaseException.__getattribute__")))
    (gg5 : PySem.W.findIn K (.ref c5) "__getattr__" = some none)
    (ex5 : PySem.W.subIn K (.ref c5) (.type "BaseException") = some true)
    (ca5 : PySem.W.findIn K (.ref c5) "__class__" = some (some (.builtin "object.__class__")))
    (mo5 : PySem.W.mroIn K c5 (.type "object") = some true)
    (i6 : PySem.W.findIn K (.ref c6) "__init__" = some (some (.ref f6)))
    (l6 : K.lookup f6 = some ⟨oc6, od6, .func (PySem.W.fnOf "__init__" "InvalidNumber.__init__" (defArgs s6) (defBody s6) (defScope s6) .none kV6 dc6 pm6 an6 cd6 ct6), sl6⟩)
    (g6 : PySem.W.codeIn K cd6 "InvalidNumber.__init__" = true)
    (k6 : PySem.W.keepIn K (.ref f6) = true)
    (t6 : PySem.W.typeIn K (.ref f6) = some (.type "function"))
    (ht6 : PySem.W.takerIn K c6 "value" = some none)
    (hn6 : PySem.W.findIn K (.ref c6) "value" = some none)
    (isn6 : PySem.W.excInitIn K c6 veT "ValueError.__new__" = true)
    (ovr6 : PySem.W.excOver K c6 veT = true)
    (sa6 : PySem.W.findIn K (.ref c6) "__setattr__" = some (some (.builtin "object.__setattr__")))
    (hd6 : PySem.W.hasDictIn K c6 = true)
    (kc6 : PySem.W.keepIn K (.ref c6) = true)
    (ga6 : PySem.W.findIn K (.ref c6) "__getattribute__" = some (some (.builtin "BaseException.__getattribute__")))
    (gg6 : PySem.W.findIn K (.ref c6) "__getattr__" = some none)
    (ex6 : PySem.W.subIn K (.ref c6) (.type "BaseException") = some true)
    (ca6 : PySem.W.findIn K (.ref c6) "__class__" = some (some (.builtin "object.__class__")))
    (mo6 : PySem.W.mroIn K c6 (.type "object") = some true)
    (i7 : PySem.W.findIn K (.ref c7) "__init__" = some (some (.ref f7)))
    (l7 : K.lookup f7 = some ⟨oc7, od7, .func (PySem.W.fnOf "__init__" "InvalidPolicy.__init__" (defArgs s7) (defBody s7) (defScope s7) .none kV7 dc7 pm7 an7 cd7 ct7), sl7⟩)
    (g7 : PySem.W.codeIn K cd7 "InvalidPolicy.__init__" = true)
    (k7 : PySem.W.keepIn K (.ref f7) = true)
    (t7 : PySem.W.typeIn K (.ref f7) = some (.type "function"))
    (ht7 : PySem.W.takerIn K c7 "value" = some none)
    (hn7 : PySem.W.findIn K (.ref c7) "value" = some none)
    (isn7 : PySem.W.excInitIn K c7 veT "ValueError.__new__" = true)
    (ovr7 : PySem.W.excOver K c7 veT = true)
    (sa7 : PySem.W.findIn K (.ref c7) "__setattr__" = some (some (.builtin "object.__setattr__")))
    (hd7 : PySem.W.hasDictIn K c7 = true)
    (kc7 : PySem.W.keepIn K (.ref c7) = true)
    (ga7 : PySem.W.findIn K (.ref c7) "__getattribute__" = some (some (.builtin "BaseException.__getattribute__")))
    (gg7 : PySem.W.findIn K (.ref c7) "__getattr__" = some none)
    (ex7 : PySem.W.subIn K (.ref c7) (.type "BaseException") = some true)
    (ca7 : PySem.W.findIn K (.ref c7) "__class__" = some (some (.builtin "object.__class__")))
    (mo7 : PySem.W.mroIn K c7 (.type "object") = some true)
    (i8 : PySem.W.findIn K (.ref c8) "__init__" = some (some (.ref f8)))
    (l8 : K.lookup f8 = some ⟨oc8, od8, .func (PySem.W.fnOf "__init__" "InvalidLog.__init__" (defArgs s8) (defBody s8) (defScope s8) .none kV8 dc8 pm8 an8 cd8 ct8), sl8⟩)
    (g8 : PySem.W.codeIn K cd8 "InvalidLog.__init__" = true)
    (k8 : PySem.W.keepIn K (.ref f8) = true)
    (t8 : PySem.W.typeIn K (.ref f8) = some (.type "function"))
    (ht8 : PySem.W.takerIn K c8 "index" = some none)
    (hn8 : PySem.W.findIn K (.ref c8) "index" = some none)
    (isn8 : PySem.W.excInitIn K c8 veT "ValueError.__new__" = true)
    (ovr8 : PySem.W.excOver K c8 veT = true)
    (sa8 : PySem.W.findIn K (.ref c8) "__setattr__" = some (some (.builtin "object.__setattr__")))
    (hd8 : PySem.W.hasDictIn K c8 = true)
    (kc8 : PySem.W.keepIn K (.ref c8) = true)
    (ga8 : PySem.W.findIn K (.ref c8) "__getattribute__" = some (some (.builtin "BaseException.__getattribute__")))
    (gg8 : PySem.W.findIn K (.ref c8) "__getattr__" = some none)
    (ex8 : PySem.W.subIn K (.ref c8) (.type "BaseException") = some true)
    (ca8 : PySem.W.findIn K (.ref c8) "__class__" = some (some (.builtin "object.__class__")))
    (mo8 : PySem.W.mroIn K c8 (.type "object") = some true)
    (i9 : PySem.W.findIn K (.ref c9) "__init__" = some (some (.ref f9)))
    (l9 : K.lookup f9 = some ⟨oc9, od9, .func (PySem.W.fnOf "__init__" "InvalidText.__init__" (defArgs s9) (defBody s9) (defScope s9) .none kV9 dc9 pm9 an9 cd9 ct9), sl9⟩)
    (g9 : PySem.W.codeIn K cd9 "InvalidText.__init__" = true)
    (k9 : PySem.W.keepIn K (.ref f9) = true)
    (t9 : PySem.W.typeIn K (.ref f9) = some (.type "function"))
    (ht9 : PySem.W.takerIn K c9 "line" = some none)
    (hn9 : PySem.W.findIn K (.ref c9) "line" = some none)
    (isn9 : PySem.W.excInitIn K c9 veT "ValueError.__new__" = true)
    (ovr9 : PySem.W.excOver K c9 veT = true)
    (sa9 : PySem.W.findIn K (.ref c9) "__setattr__" = some (some (.builtin "object.__setattr__")))
    (hd9 : PySem.W.hasDictIn K c9 = true)
    (kc9 : PySem.W.keepIn K (.ref c9) = true)
    (ga9 : PySem.W.findIn K (.ref c9) "__getattribute__" = some (some (.builtin "BaseException.__getattribute__")))
    (gg9 : PySem.W.findIn K (.ref c9) "__getattr__" = some none)
    (ex9 : PySem.W.subIn K (.ref c9) (.type "BaseException") = some true)
    (ca9 : PySem.W.findIn K (.ref c9) "__class__" = some (some (.builtin "object.__class__")))
    (mo9 : PySem.W.mroIn K c9 (.type "object") = some true)
    (i10 : PySem.W.findIn K (.ref c10) "__init__" = some (some (.ref f10)))
    (l10 : K.lookup f10 = some ⟨oc10, od10, .func (PySem.W.fnOf "__init__" "InvalidCommand.__init__" (defArgs s10) (defBody s10) (defScope s10) .none kV10 dc10 pm10 an10 cd10 ct10), sl10⟩)
    (g10 : PySem.W.codeIn K cd10 "InvalidCommand.__init__" = true)
    (k10 : PySem.W.keepIn K (.ref f10) = true)
    (t10 : PySem.W.typeIn K (.ref f10) = some (.type "function"))
    (ht10 : PySem.W.takerIn K c10 "value" = some none)
    (hn10 : PySem.W.findIn K (.ref c10) "value" = some none)
    (isn10 : PySem.W.excInitIn K c10 veT "ValueError.__new__" = true)
    (ovr10 : PySem.W.excOver K c10 veT = true)
    (sa10 : PySem.W.findIn K (.ref c10) "__setattr__" = some (some (.builtin "object.__setattr__")))
    (hd10 : PySem.W.hasDictIn K c10 = true)
    (kc10 : PySem.W.keepIn K (.ref c10) = true)
    (ga10 : PySem.W.findIn K (.ref c10) "__getattribute__" = some (some (.builtin "BaseException.__getattribute__")))
    (gg10 : PySem.W.findIn K (.ref c10) "__getattr__" = some none)
    (ex10 : PySem.W.subIn K (.ref c10) (.type "BaseException") = some true)
    (ca10 : PySem.W.findIn K (.ref c10) "__class__" = some (some (.builtin "object.__class__")))
    (mo10 : PySem.W.mroIn K c10 (.type "object") = some true)
    (i11 : PySem.W.findIn K (.ref c11) "__init__" = some (some (.ref f11)))
    (l11 : K.lookup f11 = some ⟨oc11, od11, .func (PySem.W.fnOf "__init__" "UnknownTask.__init__" (defArgs s11) (defBody s11) (defScope s11) .none kV11 dc11 pm11 an11 cd11 ct11), sl11⟩)
    (g11 : PySem.W.codeIn K cd11 "UnknownTask.__init__" = true)
    (k11 : PySem.W.keepIn K (.ref f11) = true)
    (t11 : PySem.W.typeIn K (.ref f11) = some (.type "function"))
    (ht11 : PySem.W.takerIn K c11 "key" = some none)
    (hn11 : PySem.W.findIn K (.ref c11) "key" = some none)
    (isn11 : PySem.W.excInitIn K c11 PySem.Er.keyTail "LookupError.__new__" = true)
    (ovr11 : PySem.W.excOver K c11 PySem.Er.keyTail = true)
    (sa11 : PySem.W.findIn K (.ref c11) "__setattr__" = some (some (.builtin "object.__setattr__")))
    (hd11 : PySem.W.hasDictIn K c11 = true)
    (kc11 : PySem.W.keepIn K (.ref c11) = true)
    (ga11 : PySem.W.findIn K (.ref c11) "__getattribute__" = some (some (.builtin "BaseException.__getattribute__")))
    (gg11 : PySem.W.findIn K (.ref c11) "__getattr__" = some none)
    (ex11 : PySem.W.subIn K (.ref c11) (.type "BaseException") = some true)
    (ca11 : PySem.W.findIn K (.ref c11) "__class__" = some (some (.builtin "object.__class__")))
    (mo11 : PySem.W.mroIn K c11 (.type "object") = some true)
    (i12 : PySem.W.findIn K (.ref c12) "__init__" = some (some (.ref f12)))
    (l12 : K.lookup f12 = some ⟨oc12, od12, .func (PySem.W.fnOf "__init__" "NotHeld.__init__" (defArgs s12) (defBody s12) (defScope s12) .none kV12 dc12 pm12 an12 cd12 ct12), sl12⟩)
    (g12 : PySem.W.codeIn K cd12 "NotHeld.__init__" = true)
    (k12 : PySem.W.keepIn K (.ref f12) = true)
    (t12 : PySem.W.typeIn K (.ref f12) = some (.type "function"))
    (ht12 : PySem.W.takerIn K c12 "key" = some none)
    (hn12 : PySem.W.findIn K (.ref c12) "key" = some none)
    (isn12 : PySem.W.excInitIn K c12 leT "LookupError.__new__" = true)
    (ovr12 : PySem.W.excOver K c12 leT = true)
    (sa12 : PySem.W.findIn K (.ref c12) "__setattr__" = some (some (.builtin "object.__setattr__")))
    (hd12 : PySem.W.hasDictIn K c12 = true)
    (kc12 : PySem.W.keepIn K (.ref c12) = true)
    (ga12 : PySem.W.findIn K (.ref c12) "__getattribute__" = some (some (.builtin "BaseException.__getattribute__")))
    (gg12 : PySem.W.findIn K (.ref c12) "__getattr__" = some none)
    (ex12 : PySem.W.subIn K (.ref c12) (.type "BaseException") = some true)
    (ca12 : PySem.W.findIn K (.ref c12) "__class__" = some (some (.builtin "object.__class__")))
    (mo12 : PySem.W.mroIn K c12 (.type "object") = some true)
    (i13 : PySem.W.findIn K (.ref c13) "__init__" = some (some (.ref f13)))
    (l13 : K.lookup f13 = some ⟨oc13, od13, .func (PySem.W.fnOf "__init__" "LeaseLost.__init__" (defArgs s13) (defBody s13) (defScope s13) .none kV13 dc13 pm13 an13 cd13 ct13), sl13⟩)
    (g13 : PySem.W.codeIn K cd13 "LeaseLost.__init__" = true)
    (k13 : PySem.W.keepIn K (.ref f13) = true)
    (t13 : PySem.W.typeIn K (.ref f13) = some (.type "function"))
    (ht13 : PySem.W.takerIn K c13 "worker" = some none)
    (hn13 : PySem.W.findIn K (.ref c13) "worker" = some none)
    (isn13 : PySem.W.excInitIn K c13 reT "RuntimeError.__new__" = true)
    (ovr13 : PySem.W.excOver K c13 reT = true)
    (sa13 : PySem.W.findIn K (.ref c13) "__setattr__" = some (some (.builtin "object.__setattr__")))
    (hd13 : PySem.W.hasDictIn K c13 = true)
    (kc13 : PySem.W.keepIn K (.ref c13) = true)
    (ga13 : PySem.W.findIn K (.ref c13) "__getattribute__" = some (some (.builtin "BaseException.__getattribute__")))
    (gg13 : PySem.W.findIn K (.ref c13) "__getattr__" = some none)
    (ex13 : PySem.W.subIn K (.ref c13) (.type "BaseException") = some true)
    (ca13 : PySem.W.findIn K (.ref c13) "__class__" = some (some (.builtin "object.__class__")))
    (mo13 : PySem.W.mroIn K c13 (.type "object") = some true)
    (i14 : PySem.W.findIn K (.ref c14) "__init__" = some (some (.ref f14)))
    (l14 : K.lookup f14 = some ⟨oc14, od14, .func (PySem.W.fnOf "__init__" "LimitExceeded.__init__" (defArgs s14) (defBody s14) (defScope s14) .none kV14 dc14 pm14 an14 cd14 ct14), sl14⟩)
    (g14 : PySem.W.codeIn K cd14 "LimitExceeded.__init__" = true)
    (k14 : PySem.W.keepIn K (.ref f14) = true)
    (t14 : PySem.W.typeIn K (.ref f14) = some (.type "function"))
    (ht14 : PySem.W.takerIn K c14 "limit" = some none)
    (hn14 : PySem.W.findIn K (.ref c14) "limit" = some none)
    (isn14 : PySem.W.excInitIn K c14 oeT "OverflowError.__new__" = true)
    (ovr14 : PySem.W.excOver K c14 oeT = true)
    (sa14 : PySem.W.findIn K (.ref c14) "__setattr__" = some (some (.builtin "object.__setattr__")))
    (hd14 : PySem.W.hasDictIn K c14 = true)
    (kc14 : PySem.W.keepIn K (.ref c14) = true)
    (ga14 : PySem.W.findIn K (.ref c14) "__getattribute__" = some (some (.builtin "BaseException.__getattribute__")))
    (gg14 : PySem.W.findIn K (.ref c14) "__getattr__" = some none)
    (ex14 : PySem.W.subIn K (.ref c14) (.type "BaseException") = some true)
    (ca14 : PySem.W.findIn K (.ref c14) "__class__" = some (some (.builtin "object.__class__")))
    (mo14 : PySem.W.mroIn K c14 (.type "object") = some true)
    (cn : PySem.W.specialIn K (.builtin "object.__class__") "__get__" = some (some (.builtin "getset_descriptor.__get__")))
    (ct : PySem.W.takesIn K (.builtin "object.__class__") = some true)
    (z_KeyError : PySem.W.nsIn K mainGlobals "KeyError" = some none)
    (z_LookupError : PySem.W.nsIn K mainGlobals "LookupError" = some none)
    (z_RuntimeError : PySem.W.nsIn K mainGlobals "RuntimeError" = some none)
    (z_OverflowError : PySem.W.nsIn K mainGlobals "OverflowError" = some none)
    (z_ValueError : PySem.W.nsIn K mainGlobals "ValueError" = some none)
    (z_isinstance : PySem.W.nsIn K mainGlobals "isinstance" = some none)
    (z_list : PySem.W.nsIn K mainGlobals "list" = some none)
    (z_len : PySem.W.nsIn K mainGlobals "len" = some none)
    (z_int : PySem.W.nsIn K mainGlobals "int" = some none)
    (z_range : PySem.W.nsIn K mainGlobals "range" = some none)
    (z_enumerate : PySem.W.nsIn K mainGlobals "enumerate" = some none)
    (z_repr : PySem.W.nsIn K mainGlobals "repr" = some none)
    (wsp : PySem.W.specialIn K (.ref W0) "__getattribute__" = some (some (.builtin "type.__getattribute__")))
    (wrd : PySem.W.readsIn K W0 (.type "type") = true)
    (wfc : PySem.W.findCls K (.ref W0) (.type "type") "__init__" = some (.val (.builtin "ValueError.__init__")))
    (fc_KeyError : PySem.W.findCls K (.type "KeyError") (.type "type") "__init__" = some (.val (.builtin "KeyError.__init__")))
    (fc_LookupError : PySem.W.findCls K (.type "LookupError") (.type "type") "__init__" = some (.val (.builtin "LookupError.__init__")))
    (fc_RuntimeError : PySem.W.findCls K (.type "RuntimeError") (.type "type") "__init__" = some (.val (.builtin "RuntimeError.__init__")))
    (fc_OverflowError : PySem.W.findCls K (.type "OverflowError") (.type "type") "__init__" = some (.val (.builtin "OverflowError.__init__")))
    (a16 : PySem.W.nsIn K mainGlobals "_law_tape" = some (some (.ref f16)))
    (l16 : K.lookup f16 = some ⟨oc16, od16, .func (PySem.W.fnOf "_law_tape" "_law_tape" (defArgs sTape) (defBody sTape) (defScope sTape) .none kV16 dc16 pm16 an16 cd16 ct16), sl16⟩)
    (g16 : PySem.W.codeIn K cd16 "_law_tape" = true)
    (k16 : PySem.W.keepIn K (.ref f16) = true)
    (a17 : PySem.W.nsIn K mainGlobals "_law_draw" = some (some (.ref f17)))
    (l17 : K.lookup f17 = some ⟨oc17, od17, .func (PySem.W.fnOf "_law_draw" "_law_draw" (defArgs sDraw) (defBody sDraw) (defScope sDraw) .none kV17 dc17 pm17 an17 cd17 ct17), sl17⟩)
    (g17 : PySem.W.codeIn K cd17 "_law_draw" = true)
    (k17 : PySem.W.keepIn K (.ref f17) = true)
    (a18 : PySem.W.nsIn K mainGlobals "_law_made_errors" = some (some (.ref f18)))
    (l18 : K.lookup f18 = some ⟨oc18, od18, .func (PySem.W.fnOf "_law_made_errors" "_law_made_errors" (defArgs sMade) (defBody sMade) (defScope sMade) .none kV18 dc18 pm18 an18 cd18 ct18), sl18⟩)
    (g18 : PySem.W.codeIn K cd18 "_law_made_errors" = true)
    (k18 : PySem.W.keepIn K (.ref f18) = true)
    (a19 : PySem.W.nsIn K mainGlobals "_law_named_errors" = some (some (.ref f19)))
    (l19 : K.lookup f19 = some ⟨oc19, od19, .func (PySem.W.fnOf "_law_named_errors" "_law_named_errors" (defArgs sNamed) (defBody sNamed) (defScope sNamed) .none kV19 dc19 pm19 an19 cd19 ct19), sl19⟩)
    (g19 : PySem.W.codeIn K cd19 "_law_named_errors" = true)
    (k19 : PySem.W.keepIn K (.ref f19) = true)
    (a20 : PySem.W.nsIn K mainGlobals "_law_kinds_of" = some (some (.ref f20)))
    (l20 : K.lookup f20 = some ⟨oc20, od20, .func (PySem.W.fnOf "_law_kinds_of" "_law_kinds_of" (defArgs sKinds) (defBody sKinds) (defScope sKinds) .none kV20 dc20 pm20 an20 cd20 ct20), sl20⟩)
    (g20 : PySem.W.codeIn K cd20 "_law_kinds_of" = true)
    (k20 : PySem.W.keepIn K (.ref f20) = true)
    (a21 : PySem.W.nsIn K mainGlobals "_law_above" = some (some (.ref f21)))
    (l21 : K.lookup f21 = some ⟨oc21, od21, .func (PySem.W.fnOf "_law_above" "_law_above" (defArgs sAbove) (defBody sAbove) (defScope sAbove) .none kV21 dc21 pm21 an21 cd21 ct21), sl21⟩)
    (g21 : PySem.W.codeIn K cd21 "_law_above" = true)
    (k21 : PySem.W.keepIn K (.ref f21) = true)
    (a22 : PySem.W.nsIn K mainGlobals "_law_fields" = some (some (.ref f22)))
    (l22 : K.lookup f22 = some ⟨oc22, od22, .func (PySem.W.fnOf "_law_fields" "_law_fields" (defArgs sFields) (defBody sFields) (defScope sFields) .none kV22 dc22 pm22 an22 cd22 ct22), sl22⟩)
    (g22 : PySem.W.codeIn K cd22 "_law_fields" = true)
    (k22 : PySem.W.keepIn K (.ref f22) = true)
    (a23 : PySem.W.nsIn K mainGlobals "law" = some (some (.ref f23)))
    (l23 : K.lookup f23 = some ⟨oc23, od23, .func (PySem.W.fnOf "law" "law" (defArgs sLaw) (defBody sLaw) (defScope sLaw) .none kV23 dc23 pm23 an23 cd23 ct23), sl23⟩)
    (g23 : PySem.W.codeIn K cd23 "law" = true)
    (k23 : PySem.W.keepIn K (.ref f23) = true)
    (kr : ((csOf (fun n => match n with | 2 => c2 | 3 => c3 | 4 => c4 | 5 => c5 | 6 => c6 | 7 => c7 | 8 => c8 | 9 => c9 | 10 => c10 | 11 => c11 | 12 => c12 | 13 => c13 | 14 => c14 | _ => 0)).map fun c => ((csOf (fun n => match n with | 2 => c2 | 3 => c3 | 4 => c4 | 5 => c5 | 6 => c6 | 7 => c7 | 8 => c8 | 9 => c9 | 10 => c10 | 11 => c11 | 12 => c12 | 13 => c13 | 14 => c14 | _ => 0)) ++ [W0]).map fun d => PySem.W.kitOne K (.ref c) (.ref d)) = kitRefs)
    (kt : ((csOf (fun n => match n with | 2 => c2 | 3 => c3 | 4 => c4 | 5 => c5 | 6 => c6 | 7 => c7 | 8 => c8 | 9 => c9 | 10 => c10 | 11 => c11 | 12 => c12 | 13 => c13 | 14 => c14 | _ => 0)).map fun c => tys.map fun t => PySem.W.kitOne K (.ref c) (.type t)) = kitTys)
    : ∃ fd : FuncData, (∀ (s : Shared) (v : Value), BindsTo s fd ⟨[v], []⟩ [("_law_script", v)]) ∧ ∀ base : Heap, K.In base → base.Ns mainGlobals mg → (∃ o, base.get? sysModules = some o) → FnG l.prog w K mg base 4 fa fd ["_law_script"] (spLaw K) := by
  have e := hfa.symm.trans (PySem.W.mg_of X G a23)
  cases e
  have F2 := fun_mk (st := s2) l2 g2 k2
  have B2 := F2.binds (ps := ["self", "part"]) fun _ _ _ _ _ _ us hl => match us, hl with | [_, _], _ => rfl
  have E2 : ErC K c2 "ValueError" "ValueError.__new__" veT := ⟨isn2, ovr2, sa2, hd2, kc2, ga2, gg2, ex2, ca2, cn, ct, mo2, by decide +kernel⟩
  have X2 : ClsX K mg "InvalidPlan" "InvalidPlan.__init__" "part" s2 "ValueError" "ValueError.__new__" veT c2 f2 (PySem.W.fnOf "__init__" "InvalidPlan.__init__" (defArgs s2) (defBody s2) (defScope s2) .none kV2 dc2 pm2 an2 cd2 ct2) :=
    ⟨E2, i2, t2, PySem.W.mg_of X G a2, ht2, hn2, F2, B2, fun s u v => .of_eq rfl⟩
  have F3 := fun_mk (st := s3) l3 g3 k3
  have B3 := F3.binds (ps := ["self", "name"]) fun _ _ _ _ _ _ us hl => match us, hl with | [_, _], _ => rfl
  have E3 : ErC K c3 "ValueError" "ValueError.__new__" veT := ⟨isn3, ovr3, sa3, hd3, kc3, ga3, gg3, ex3, ca3, cn, ct, mo3, by decide +kernel⟩
  have X3 : ClsX K mg "InvalidProgram" "InvalidProgram.__init__" "name" s3 "ValueError" "ValueError.__new__" veT c3 f3 (PySem.W.fnOf "__init__" "InvalidProgram.__init__" (defArgs s3) (defBody s3) (defScope s3) .none kV3 dc3 pm3 an3 cd3 ct3) :=
    ⟨E3, i3, t3, PySem.W.mg_of X G a3, ht3, hn3, F3, B3, fun s u v => .of_eq rfl⟩
  have F4 := fun_mk (st := s4) l4 g4 k4
  have B4 := F4.binds (ps := ["self", "value"]) fun _ _ _ _ _ _ us hl => match us, hl with | [_, _], _ => rfl
  have E4 : ErC K c4 "ValueError" "ValueError.__new__" veT := ⟨isn4, ovr4, sa4, hd4, kc4, ga4, gg4, ex4, ca4, cn, ct, mo4, by decide +kernel⟩
  have X4 : ClsX K mg "InvalidName" "InvalidName.__init__" "value" s4 "ValueError" "ValueError.__new__" veT c4 f4 (PySem.W.fnOf "__init__" "InvalidName.__init__" (defArgs s4) (defBody s4) (defScope s4) .none kV4 dc4 pm4 an4 cd4 ct4) :=
    ⟨E4, i4, t4, PySem.W.mg_of X G a4, ht4, hn4, F4, B4, fun s u v => .of_eq rfl⟩
  have F5 := fun_mk (st := s5) l5 g5 k5
  have B5 := F5.binds (ps := ["self", "value"]) fun _ _ _ _ _ _ us hl => match us, hl with | [_, _], _ => rfl
  have E5 : ErC K c5 "ValueError" "ValueError.__new__" veT := ⟨isn5, ovr5, sa5, hd5, kc5, ga5, gg5, ex5, ca5, cn, ct, mo5, by decide +kernel⟩
  have X5 : ClsX K mg "InvalidKey" "InvalidKey.__init__" "value" s5 "ValueError" "ValueError.__new__" veT c5 f5 (PySem.W.fnOf "__init__" "InvalidKey.__init__" (defArgs s5) (defBody s5) (defScope s5) .none kV5 dc5 pm5 an5 cd5 ct5) :=
    ⟨E5, i5, t5, PySem.W.mg_of X G a5, ht5, hn5, F5, B5, fun s u v => .of_eq rfl⟩
  have F6 := fun_mk (st := s6) l6 g6 k6
  have B6 := F6.binds (ps := ["self", "value"]) fun _ _ _ _ _ _ us hl => match us, hl with | [_, _], _ => rfl
  have E6 : ErC K c6 "ValueError" "ValueError.__new__" veT := ⟨isn6, ovr6, sa6, hd6, kc6, ga6, gg6, ex6, ca6, cn, ct, mo6, by decide +kernel⟩
  have X6 : ClsX K mg "InvalidNumber" "InvalidNumber.__init__" "value" s6 "ValueError" "ValueError.__new__" veT c6 f6 (PySem.W.fnOf "__init__" "InvalidNumber.__init__" (defArgs s6) (defBody s6) (defScope s6) .none kV6 dc6 pm6 an6 cd6 ct6) :=
    ⟨E6, i6, t6, PySem.W.mg_of X G a6, ht6, hn6, F6, B6, fun s u v => .of_eq rfl⟩
  have F7 := fun_mk (st := s7) l7 g7 k7
  have B7 := F7.binds (ps := ["self", "value"]) fun _ _ _ _ _ _ us hl => match us, hl with | [_, _], _ => rfl
  have E7 : ErC K c7 "ValueError" "ValueError.__new__" veT := ⟨isn7, ovr7, sa7, hd7, kc7, ga7, gg7, ex7, ca7, cn, ct, mo7, by decide +kernel⟩
  have X7 : ClsX K mg "InvalidPolicy" "InvalidPolicy.__init__" "value" s7 "ValueError" "ValueError.__new__" veT c7 f7 (PySem.W.fnOf "__init__" "InvalidPolicy.__init__" (defArgs s7) (defBody s7) (defScope s7) .none kV7 dc7 pm7 an7 cd7 ct7) :=
    ⟨E7, i7, t7, PySem.W.mg_of X G a7, ht7, hn7, F7, B7, fun s u v => .of_eq rfl⟩
  have F8 := fun_mk (st := s8) l8 g8 k8
  have B8 := F8.binds (ps := ["self", "index"]) fun _ _ _ _ _ _ us hl => match us, hl with | [_, _], _ => rfl
  have E8 : ErC K c8 "ValueError" "ValueError.__new__" veT := ⟨isn8, ovr8, sa8, hd8, kc8, ga8, gg8, ex8, ca8, cn, ct, mo8, by decide +kernel⟩
  have X8 : ClsX K mg "InvalidLog" "InvalidLog.__init__" "index" s8 "ValueError" "ValueError.__new__" veT c8 f8 (PySem.W.fnOf "__init__" "InvalidLog.__init__" (defArgs s8) (defBody s8) (defScope s8) .none kV8 dc8 pm8 an8 cd8 ct8) :=
    ⟨E8, i8, t8, PySem.W.mg_of X G a8, ht8, hn8, F8, B8, fun s u v => .of_eq rfl⟩
  have F9 := fun_mk (st := s9) l9 g9 k9
  have B9 := F9.binds (ps := ["self", "line"]) fun _ _ _ _ _ _ us hl => match us, hl with | [_, _], _ => rfl
  have E9 : ErC K c9 "ValueError" "ValueError.__new__" veT := ⟨isn9, ovr9, sa9, hd9, kc9, ga9, gg9, ex9, ca9, cn, ct, mo9, by decide +kernel⟩
  have X9 : ClsX K mg "InvalidText" "InvalidText.__init__" "line" s9 "ValueError" "ValueError.__new__" veT c9 f9 (PySem.W.fnOf "__init__" "InvalidText.__init__" (defArgs s9) (defBody s9) (defScope s9) .none kV9 dc9 pm9 an9 cd9 ct9) :=
    ⟨E9, i9, t9, PySem.W.mg_of X G a9, ht9, hn9, F9, B9, fun s u v => .of_eq rfl⟩
  have F10 := fun_mk (st := s10) l10 g10 k10
  have B10 := F10.binds (ps := ["self", "value"]) fun _ _ _ _ _ _ us hl => match us, hl with | [_, _], _ => rfl
  have E10 : ErC K c10 "ValueError" "ValueError.__new__" veT := ⟨isn10, ovr10, sa10, hd10, kc10, ga10, gg10, ex10, ca10, cn, ct, mo10, by decide +kernel⟩
  have X10 : ClsX K mg "InvalidCommand" "InvalidCommand.__init__" "value" s10 "ValueError" "ValueError.__new__" veT c10 f10 (PySem.W.fnOf "__init__" "InvalidCommand.__init__" (defArgs s10) (defBody s10) (defScope s10) .none kV10 dc10 pm10 an10 cd10 ct10) :=
    ⟨E10, i10, t10, PySem.W.mg_of X G a10, ht10, hn10, F10, B10, fun s u v => .of_eq rfl⟩
  have F11 := fun_mk (st := s11) l11 g11 k11
  have B11 := F11.binds (ps := ["self", "key"]) fun _ _ _ _ _ _ us hl => match us, hl with | [_, _], _ => rfl
  have E11 : ErC K c11 "KeyError" "LookupError.__new__" PySem.Er.keyTail := ⟨isn11, ovr11, sa11, hd11, kc11, ga11, gg11, ex11, ca11, cn, ct, mo11, by decide +kernel⟩
  have X11 : ClsX K mg "UnknownTask" "UnknownTask.__init__" "key" s11 "KeyError" "LookupError.__new__" PySem.Er.keyTail c11 f11 (PySem.W.fnOf "__init__" "UnknownTask.__init__" (defArgs s11) (defBody s11) (defScope s11) .none kV11 dc11 pm11 an11 cd11 ct11) :=
    ⟨E11, i11, t11, PySem.W.mg_of X G a11, ht11, hn11, F11, B11, fun s u v => .of_eq rfl⟩
  have F12 := fun_mk (st := s12) l12 g12 k12
  have B12 := F12.binds (ps := ["self", "key"]) fun _ _ _ _ _ _ us hl => match us, hl with | [_, _], _ => rfl
  have E12 : ErC K c12 "LookupError" "LookupError.__new__" leT := ⟨isn12, ovr12, sa12, hd12, kc12, ga12, gg12, ex12, ca12, cn, ct, mo12, by decide +kernel⟩
  have X12 : ClsX K mg "NotHeld" "NotHeld.__init__" "key" s12 "LookupError" "LookupError.__new__" leT c12 f12 (PySem.W.fnOf "__init__" "NotHeld.__init__" (defArgs s12) (defBody s12) (defScope s12) .none kV12 dc12 pm12 an12 cd12 ct12) :=
    ⟨E12, i12, t12, PySem.W.mg_of X G a12, ht12, hn12, F12, B12, fun s u v => .of_eq rfl⟩
  have F13 := fun_mk (st := s13) l13 g13 k13
  have B13 := F13.binds (ps := ["self", "worker"]) fun _ _ _ _ _ _ us hl => match us, hl with | [_, _], _ => rfl
  have E13 : ErC K c13 "RuntimeError" "RuntimeError.__new__" reT := ⟨isn13, ovr13, sa13, hd13, kc13, ga13, gg13, ex13, ca13, cn, ct, mo13, by decide +kernel⟩
  have X13 : ClsX K mg "LeaseLost" "LeaseLost.__init__" "worker" s13 "RuntimeError" "RuntimeError.__new__" reT c13 f13 (PySem.W.fnOf "__init__" "LeaseLost.__init__" (defArgs s13) (defBody s13) (defScope s13) .none kV13 dc13 pm13 an13 cd13 ct13) :=
    ⟨E13, i13, t13, PySem.W.mg_of X G a13, ht13, hn13, F13, B13, fun s u v => .of_eq rfl⟩
  have F14 := fun_mk (st := s14) l14 g14 k14
  have B14 := F14.binds (ps := ["self", "limit"]) fun _ _ _ _ _ _ us hl => match us, hl with | [_, _], _ => rfl
  have E14 : ErC K c14 "OverflowError" "OverflowError.__new__" oeT := ⟨isn14, ovr14, sa14, hd14, kc14, ga14, gg14, ex14, ca14, cn, ct, mo14, by decide +kernel⟩
  have X14 : ClsX K mg "LimitExceeded" "LimitExceeded.__init__" "limit" s14 "OverflowError" "OverflowError.__new__" oeT c14 f14 (PySem.W.fnOf "__init__" "LimitExceeded.__init__" (defArgs s14) (defBody s14) (defScope s14) .none kV14 dc14 pm14 an14 cd14 ct14) :=
    ⟨E14, i14, t14, PySem.W.mg_of X G a14, ht14, hn14, F14, B14, fun s u v => .of_eq rfl⟩
  have Wk : WorkC K mg W0 := ⟨PySem.W.mg_of X G aW, wsp, wrd, wfc⟩
  have T : Tx K mg W0 (fun n => match n with | 2 => c2 | 3 => c3 | 4 => c4 | 5 => c5 | 6 => c6 | 7 => c7 | 8 => c8 | 9 => c9 | 10 => c10 | 11 => c11 | 12 => c12 | 13 => c13 | 14 => c14 | _ => 0) (fun n => match n with | 2 => f2 | 3 => f3 | 4 => f4 | 5 => f5 | 6 => f6 | 7 => f7 | 8 => f8 | 9 => f9 | 10 => f10 | 11 => f11 | 12 => f12 | 13 => f13 | 14 => f14 | _ => 0) (fun n => match n with | 2 => PySem.W.fnOf "__init__" "InvalidPlan.__init__" (defArgs s2) (defBody s2) (defScope s2) .none kV2 dc2 pm2 an2 cd2 ct2 | 3 => PySem.W.fnOf "__init__" "InvalidProgram.__init__" (defArgs s3) (defBody s3) (defScope s3) .none kV3 dc3 pm3 an3 cd3 ct3 | 4 => PySem.W.fnOf "__init__" "InvalidName.__init__" (defArgs s4) (defBody s4) (defScope s4) .none kV4 dc4 pm4 an4 cd4 ct4 | 5 => PySem.W.fnOf "__init__" "InvalidKey.__init__" (defArgs s5) (defBody s5) (defScope s5) .none kV5 dc5 pm5 an5 cd5 ct5 | 6 => PySem.W.fnOf "__init__" "InvalidNumber.__init__" (defArgs s6) (defBody s6) (defScope s6) .none kV6 dc6 pm6 an6 cd6 ct6 | 7 => PySem.W.fnOf "__init__" "InvalidPolicy.__init__" (defArgs s7) (defBody s7) (defScope s7) .none kV7 dc7 pm7 an7 cd7 ct7 | 8 => PySem.W.fnOf "__init__" "InvalidLog.__init__" (defArgs s8) (defBody s8) (defScope s8) .none kV8 dc8 pm8 an8 cd8 ct8 | 9 => PySem.W.fnOf "__init__" "InvalidText.__init__" (defArgs s9) (defBody s9) (defScope s9) .none kV9 dc9 pm9 an9 cd9 ct9 | 10 => PySem.W.fnOf "__init__" "InvalidCommand.__init__" (defArgs s10) (defBody s10) (defScope s10) .none kV10 dc10 pm10 an10 cd10 ct10 | 11 => PySem.W.fnOf "__init__" "UnknownTask.__init__" (defArgs s11) (defBody s11) (defScope s11) .none kV11 dc11 pm11 an11 cd11 ct11 | 12 => PySem.W.fnOf "__init__" "NotHeld.__init__" (defArgs s12) (defBody s12) (defScope s12) .none kV12 dc12 pm12 an12 cd12 ct12 | 13 => PySem.W.fnOf "__init__" "LeaseLost.__init__" (defArgs s13) (defBody s13) (defScope s13) .none kV13 dc13 pm13 an13 cd13 ct13 | 14 => PySem.W.fnOf "__init__" "LimitExceeded.__init__" (defArgs s14) (defBody s14) (defScope s14) .none kV14 dc14 pm14 an14 cd14 ct14 | _ => PySem.W.fnOf "__init__" "" (defArgs s2) (defBody s2) (defScope s2) .none kV2 dc2 pm2 an2 cd2 ct2) :=
    ⟨Wk, (PySem.W.mg_none_of X G z_KeyError), (PySem.W.mg_none_of X G z_LookupError), (PySem.W.mg_none_of X G z_RuntimeError), (PySem.W.mg_none_of X G z_OverflowError), (PySem.W.mg_none_of X G z_ValueError), (PySem.W.mg_none_of X G z_isinstance), fc_KeyError, fc_LookupError, fc_RuntimeError, fc_OverflowError, kr, kt, X2, X3, X4, X5, X6, X7, X8, X9, X10, X11, X12, X13, X14⟩
  have F16 := fun_mk (st := sTape) l16 g16 k16
  have D16 : DefX K mg "_law_tape" sTape ["_law_script"] f16 (PySem.W.fnOf "_law_tape" "_law_tape" (defArgs sTape) (defBody sTape) (defScope sTape) .none kV16 dc16 pm16 an16 cd16 ct16) :=
    ⟨PySem.W.mg_of X G a16, F16, F16.binds fun _ _ _ _ _ _ us hl => match us, hl with | [_], _ => rfl⟩
  have F17 := fun_mk (st := sDraw) l17 g17 k17
  have D17 : DefX K mg "_law_draw" sDraw ["_law_tape_here", "_law_many"] f17 (PySem.W.fnOf "_law_draw" "_law_draw" (defArgs sDraw) (defBody sDraw) (defScope sDraw) .none kV17 dc17 pm17 an17 cd17 ct17) :=
    ⟨PySem.W.mg_of X G a17, F17, F17.binds fun _ _ _ _ _ _ us hl => match us, hl with | [_, _], _ => rfl⟩
  have F18 := fun_mk (st := sMade) l18 g18 k18
  have D18 : DefX K mg "_law_made_errors" sMade ["_law_thing"] f18 (PySem.W.fnOf "_law_made_errors" "_law_made_errors" (defArgs sMade) (defBody sMade) (defScope sMade) .none kV18 dc18 pm18 an18 cd18 ct18) :=
    ⟨PySem.W.mg_of X G a18, F18, F18.binds fun _ _ _ _ _ _ us hl => match us, hl with | [_], _ => rfl⟩
  have F19 := fun_mk (st := sNamed) l19 g19 k19
  have D19 : DefX K mg "_law_named_errors" sNamed ["_law_thing"] f19 (PySem.W.fnOf "_law_named_errors" "_law_named_errors" (defArgs sNamed) (defBody sNamed) (defScope sNamed) .none kV19 dc19 pm19 an19 cd19 ct19) :=
    ⟨PySem.W.mg_of X G a19, F19, F19.binds fun _ _ _ _ _ _ us hl => match us, hl with | [_], _ => rfl⟩
  have F20 := fun_mk (st := sKinds) l20 g20 k20
  have D20 : DefX K mg "_law_kinds_of" sKinds ["_law_error"] f20 (PySem.W.fnOf "_law_kinds_of" "_law_kinds_of" (defArgs sKinds) (defBody sKinds) (defScope sKinds) .none kV20 dc20 pm20 an20 cd20 ct20) :=
    ⟨PySem.W.mg_of X G a20, F20, F20.binds fun _ _ _ _ _ _ us hl => match us, hl with | [_], _ => rfl⟩
  have F21 := fun_mk (st := sAbove) l21 g21 k21
  have D21 : DefX K mg "_law_above" sAbove ["_law_error"] f21 (PySem.W.fnOf "_law_above" "_law_above" (defArgs sAbove) (defBody sAbove) (defScope sAbove) .none kV21 dc21 pm21 an21 cd21 ct21) :=
    ⟨PySem.W.mg_of X G a21, F21, F21.binds fun _ _ _ _ _ _ us hl => match us, hl with | [_], _ => rfl⟩
  have F22 := fun_mk (st := sFields) l22 g22 k22
  have D22 : DefX K mg "_law_fields" sFields ["_law_made"] f22 (PySem.W.fnOf "_law_fields" "_law_fields" (defArgs sFields) (defBody sFields) (defScope sFields) .none kV22 dc22 pm22 an22 cd22 ct22) :=
    ⟨PySem.W.mg_of X G a22, F22, F22.binds fun _ _ _ _ _ _ us hl => match us, hl with | [_], _ => rfl⟩
  have U : Ux K mg (fun n => match n with | 16 => f16 | 17 => f17 | 18 => f18 | 19 => f19 | 20 => f20 | 21 => f21 | 22 => f22 | _ => 0) (fun n => match n with | 16 => PySem.W.fnOf "_law_tape" "_law_tape" (defArgs sTape) (defBody sTape) (defScope sTape) .none kV16 dc16 pm16 an16 cd16 ct16 | 17 => PySem.W.fnOf "_law_draw" "_law_draw" (defArgs sDraw) (defBody sDraw) (defScope sDraw) .none kV17 dc17 pm17 an17 cd17 ct17 | 18 => PySem.W.fnOf "_law_made_errors" "_law_made_errors" (defArgs sMade) (defBody sMade) (defScope sMade) .none kV18 dc18 pm18 an18 cd18 ct18 | 19 => PySem.W.fnOf "_law_named_errors" "_law_named_errors" (defArgs sNamed) (defBody sNamed) (defScope sNamed) .none kV19 dc19 pm19 an19 cd19 ct19 | 20 => PySem.W.fnOf "_law_kinds_of" "_law_kinds_of" (defArgs sKinds) (defBody sKinds) (defScope sKinds) .none kV20 dc20 pm20 an20 cd20 ct20 | 21 => PySem.W.fnOf "_law_above" "_law_above" (defArgs sAbove) (defBody sAbove) (defScope sAbove) .none kV21 dc21 pm21 an21 cd21 ct21 | 22 => PySem.W.fnOf "_law_fields" "_law_fields" (defArgs sFields) (defBody sFields) (defScope sFields) .none kV22 dc22 pm22 an22 cd22 ct22 | _ => PySem.W.fnOf "__init__" "" (defArgs s2) (defBody s2) (defScope s2) .none kV2 dc2 pm2 an2 cd2 ct2) := ⟨⟨(PySem.W.mg_none_of X G z_list), (PySem.W.mg_none_of X G z_len), (PySem.W.mg_none_of X G z_int)⟩, (PySem.W.mg_none_of X G z_range), (PySem.W.mg_none_of X G z_enumerate), (PySem.W.mg_none_of X G z_repr), D16, D17, D18, D19, D20, D21, D22⟩
  exact ⟨_, fun s v => .of_eq rfl, fun base _ _ hS => ok_law (fun_mk (st := sLaw) l23 g23 k23) T U hS⟩
theorem walk {l : PySem.W.OpenLaw} {q : Program} {loose : List Str} {XP : (Str → Option Value) → Heap → Prop} {YP : World → Heap → Prop} {d : DefRec} {K : Params → PySem.W.Frag} (hn : l.most = some 63) (hdf : d.params.defaults = []) (hq : importsNone q = true)
    (hY : ∀ (w : World) (h : Heap), YP w h → (K w.params).In h)
    (F : ∀ (w : World) (mg : Str → Option Value) (fa : Addr) (h : Heap), (K w.params).In h → h.Ns mainGlobals mg → mg d.name = some (.ref fa) →
      ∃ fd : FuncData, (∀ (s : Shared) (u : Value), BindsTo s fd ⟨[u], []⟩ [("_law_script", u)]) ∧
        ∀ base : Heap, (K w.params).In base → base.Ns mainGlobals mg → (∃ o, base.get? sysModules = some o) → FnG l.prog w (K w.params) mg base 4 fa fd ["_law_script"] (spLaw (K w.params))) :
    PySem.W.WalkO q loose XP YP l.row.toRowW d [] (fun f vs => PySem.call f vs) :=
  walk_ofG (n := 63) (k := 4) (x := "_law_script") (sp := spLaw) hn (by decide) hdf ⟨rfl, by decide, by decide⟩ hq hY F (fun _ _ a ns hl hS => ⟨a, ns, rfl, hS, hl, fun _ => rfl⟩)
end K94

open PySem PySem.W PyProof.Rows in
set_option maxRecDepth 100000 in
set_option maxHeartbeats 0 in
theorem PySem.Challenge.cw_wantedwork_k94_kinds_of_errors_holds : PySem.Challenge.rw_wantedwork_k94_kinds_of_errors.Holds := by
  w_on; o_law; k_head; (case hw => w_witness2)
  k_fill
  refine K94.walk (l := PySem.Challenge.rw_wantedwork_k94_kinds_of_errors) rfl rfl (by decide +kernel) (fun w h Y => PySem.W.kIn_of Y) ?F
  case F =>
    intro w mg fa h KX G hmg
    refine' K94.all_mk KX G hmg ?aW ?a2 ?a3 ?a4 ?a5 ?a6 ?a7 ?a8 ?a9 ?a10 ?a11 ?a12 ?a13 ?a14 ?i2 ?l2 ?g2 ?k2 ?t2 ?ht2 ?hn2 ?isn2 ?ovr2 ?sa2 ?hd2 ?kc2 ?ga2 ?gg2 ?ex2 ?ca2 ?mo2 ?i3 ?l3 ?g3 ?k3 ?t3 ?ht3 ?hn3 ?isn3 ?ovr3 ?sa3 ?hd3 ?kc3 ?ga3 ?gg3 ?ex3 ?ca3 ?mo3 ?i4 ?l4 ?g4 ?k4 ?t4 ?ht4 ?hn4 ?isn4 ?ovr4 ?sa4 ?hd4 ?kc4 ?ga4 ?gg4 ?ex4 ?ca4 ?mo4 ?i5 ?l5 ?g5 ?k5 ?t5 ?ht5 ?hn5 ?isn5 ?ovr5 ?sa5 ?hd5 ?kc5 ?ga5 ?gg5 ?ex5 ?ca5 ?mo5 ?i6 ?l6 ?g6 ?k6 ?t6 ?ht6 ?hn6 ?isn6 ?ovr6 ?sa6 ?hd6 ?kc6 ?ga6 ?gg6 ?ex6 ?ca6 ?mo6 ?i7 ?l7 ?g7 ?k7 ?t7 ?ht7 ?hn7 ?isn7 ?ovr7 ?sa7 ?hd7 ?kc7 ?ga7 ?gg7 ?ex7 ?ca7 ?mo7 ?i8 ?l8 ?g8 ?k8 ?t8 ?ht8 ?hn8 ?isn8 ?ovr8 ?sa8 ?hd8 ?kc8 ?ga8 ?gg8 ?ex8 ?ca8 ?mo8 ?i9 ?l9 ?g9 ?k9 ?t9 ?ht9 ?hn9 ?isn9 ?ovr9 ?sa9 ?hd9 ?kc9 ?ga9 ?gg9 ?ex9 ?ca9 ?mo9 ?i10 ?l10 ?g10 ?k10 ?t10 ?ht10 ?hn10 ?isn10 ?ovr10 ?sa10 ?hd10 ?kc10 ?ga10 ?gg10 ?ex10 ?ca10 ?mo10 ?i11 ?l11 ?g11 ?k11 ?t11 ?ht11 ?hn11 ?isn11 ?ovr11 ?sa11 ?hd11 ?kc11 ?ga11 ?gg11 ?ex11 ?ca11 ?mo11 ?i12 ?l12 ?g12 ?k12 ?t12 ?ht12 ?hn12 ?isn12 ?ovr12 ?sa12 ?hd12 ?kc12 ?ga12 ?gg12 ?ex12 ?ca12 ?mo12 ?i13 ?l13 ?g13 ?k13 ?t13 ?ht13 ?hn13 ?isn13 ?ovr13 ?sa13 ?hd13 ?kc13 ?ga13 ?gg13 ?ex13 ?ca13 ?mo13 ?i14 ?l14 ?g14 ?k14 ?t14 ?ht14 ?hn14 ?isn14 ?ovr14 ?sa14 ?hd14 ?kc14 ?ga14 ?gg14 ?ex14 ?ca14 ?mo14 ?cn ?ct ?z_KeyError ?z_LookupError ?z_RuntimeError ?z_OverflowError ?z_ValueError ?z_isinstance ?z_list ?z_len ?z_int ?z_range ?z_enumerate ?z_repr ?wsp ?wrd ?wfc ?fc_KeyError ?fc_LookupError ?fc_RuntimeError ?fc_OverflowError ?a16 ?l16 ?g16 ?k16 ?a17 ?l17 ?g17 ?k17 ?a18 ?l18 ?g18 ?k18 ?a19 ?l19 ?g19 ?k19 ?a20 ?l20 ?g20 ?k20 ?a21 ?l21 ?g21 ?k21 ?a22 ?l22 ?g22 ?k22 ?a23 ?l23 ?g23 ?k23 ?kr ?kt
    (case aW => k_is)
    (case a2 => k_is)
    (case a3 => k_is)
    (case a4 => k_is)
    (case a5 => k_is)
    (case a6 => k_is)
    (case a7 => k_is)
    (case a8 => k_is)
    (case a9 => k_is)
    (case a10 => k_is)
    (case a11 => k_is)
    (case a12 => k_is)
    (case a13 => k_is)
    (case a14 => k_is)
    (case i2 => k_is)
    (case l2 => k_is)
    (case g2 => k_is)
    (case k2 => k_is)
    (case t2 => k_is)
    (case ht2 => k_is)
    (case hn2 => k_is)
    (case isn2 => kernel_rfl)
    (case ovr2 => kernel_rfl)
    (case sa2 => k_is)
    (case hd2 => k_is)
    (case kc2 => k_is)
    (case ga2 => k_is)
    (case gg2 => k_is)
    (case ex2 => k_is)
    (case ca2 => k_is)
    (case mo2 => k_is)
    (case i3 => k_is)
    (case l3 => k_is)
    (case g3 => k_is)
    (case k3 => k_is)
    (case t3 => k_is)
    (case ht3 => k_is)
    (case hn3 => k_is)
    (case isn3 => kernel_rfl)
    (case ovr3 => kernel_rfl)
    (case sa3 => k_is)
    (case hd3 => k_is)
    (case kc3 => k_is)
    (case ga3 => k_is)
    (case gg3 => k_is)
    (case ex3 => k_is)
    (case ca3 => k_is)
    (case mo3 => k_is)
    (case i4 => k_is)
    (case l4 => k_is)
    (case g4 => k_is)
    (case k4 => k_is)
    (case t4 => k_is)
    (case ht4 => k_is)
    (case hn4 => k_is)
    (case isn4 => kernel_rfl)
    (case ovr4 => kernel_rfl)
    (case sa4 => k_is)
    (case hd4 => k_is)
    (case kc4 => k_is)
    (case ga4 => k_is)
    (case gg4 => k_is)
    (case ex4 => k_is)
    (case ca4 => k_is)
    (case mo4 => k_is)
    (case i5 => k_is)
    (case l5 => k_is)
    (case g5 => k_is)
    (case k5 => k_is)
    (case t5 => k_is)
    (case ht5 => k_is)
    (case hn5 => k_is)
    (case isn5 => kernel_rfl)
    (case ovr5 => kernel_rfl)
    (case sa5 => k_is)
    (case hd5 => k_is)
    (case kc5 => k_is)
    (case ga5 => k_is)
    (case gg5 => k_is)
    (case ex5 => k_is)
    (case ca5 => k_is)
    (case mo5 => k_is)
    (case i6 => k_is)
    (case l6 => k_is)
    (case g6 => k_is)
    (case k6 => k_is)
    (case t6 => k_is)
    (case ht6 => k_is)
    (case hn6 => k_is)
    (case isn6 => kernel_rfl)
    (case ovr6 => kernel_rfl)
    (case sa6 => k_is)
    (case hd6 => k_is)
    (case kc6 => k_is)
    (case ga6 => k_is)
    (case gg6 => k_is)
    (case ex6 => k_is)
    (case ca6 => k_is)
    (case mo6 => k_is)
    (case i7 => k_is)
    (case l7 => k_is)
    (case g7 => k_is)
    (case k7 => k_is)
    (case t7 => k_is)
    (case ht7 => k_is)
    (case hn7 => k_is)
    (case isn7 => kernel_rfl)
    (case ovr7 => kernel_rfl)
    (case sa7 => k_is)
    (case hd7 => k_is)
    (case kc7 => k_is)
    (case ga7 => k_is)
    (case gg7 => k_is)
    (case ex7 => k_is)
    (case ca7 => k_is)
    (case mo7 => k_is)
    (case i8 => k_is)
    (case l8 => k_is)
    (case g8 => k_is)
    (case k8 => k_is)
    (case t8 => k_is)
    (case ht8 => k_is)
    (case hn8 => k_is)
    (case isn8 => kernel_rfl)
    (case ovr8 => kernel_rfl)
    (case sa8 => k_is)
    (case hd8 => k_is)
    (case kc8 => k_is)
    (case ga8 => k_is)
    (case gg8 => k_is)
    (case ex8 => k_is)
    (case ca8 => k_is)
    (case mo8 => k_is)
    (case i9 => k_is)
    (case l9 => k_is)
    (case g9 => k_is)
    (case k9 => k_is)
    (case t9 => k_is)
    (case ht9 => k_is)
    (case hn9 => k_is)
    (case isn9 => kernel_rfl)
    (case ovr9 => kernel_rfl)
    (case sa9 => k_is)
    (case hd9 => k_is)
    (case kc9 => k_is)
    (case ga9 => k_is)
    (case gg9 => k_is)
    (case ex9 => k_is)
    (case ca9 => k_is)
    (case mo9 => k_is)
    (case i10 => k_is)
    (case l10 => k_is)
    (case g10 => k_is)
    (case k10 => k_is)
    (case t10 => k_is)
    (case ht10 => k_is)
    (case hn10 => k_is)
    (case isn10 => kernel_rfl)
    (case ovr10 => kernel_rfl)
    (case sa10 => k_is)
    (case hd10 => k_is)
    (case kc10 => k_is)
    (case ga10 => k_is)
    (case gg10 => k_is)
    (case ex10 => k_is)
    (case ca10 => k_is)
    (case mo10 => k_is)
    (case i11 => k_is)
    (case l11 => k_is)
    (case g11 => k_is)
    (case k11 => k_is)
    (case t11 => k_is)
    (case ht11 => k_is)
    (case hn11 => k_is)
    (case isn11 => kernel_rfl)
    (case ovr11 => kernel_rfl)
    (case sa11 => k_is)
    (case hd11 => k_is)
    (case kc11 => k_is)
    (case ga11 => k_is)
    (case gg11 => k_is)
    (case ex11 => k_is)
    (case ca11 => k_is)
    (case mo11 => k_is)
    (case i12 => k_is)
    (case l12 => k_is)
    (case g12 => k_is)
    (case k12 => k_is)
    (case t12 => k_is)
    (case ht12 => k_is)
    (case hn12 => k_is)
    (case isn12 => kernel_rfl)
    (case ovr12 => kernel_rfl)
    (case sa12 => k_is)
    (case hd12 => k_is)
    (case kc12 => k_is)
    (case ga12 => k_is)
    (case gg12 => k_is)
    (case ex12 => k_is)
    (case ca12 => k_is)
    (case mo12 => k_is)
    (case i13 => k_is)
    (case l13 => k_is)
    (case g13 => k_is)
    (case k13 => k_is)
    (case t13 => k_is)
    (case ht13 => k_is)
    (case hn13 => k_is)
    (case isn13 => kernel_rfl)
    (case ovr13 => kernel_rfl)
    (case sa13 => k_is)
    (case hd13 => k_is)
    (case kc13 => k_is)
    (case ga13 => k_is)
    (case gg13 => k_is)
    (case ex13 => k_is)
    (case ca13 => k_is)
    (case mo13 => k_is)
    (case i14 => k_is)
    (case l14 => k_is)
    (case g14 => k_is)
    (case k14 => k_is)
    (case t14 => k_is)
    (case ht14 => k_is)
    (case hn14 => k_is)
    (case isn14 => kernel_rfl)
    (case ovr14 => kernel_rfl)
    (case sa14 => k_is)
    (case hd14 => k_is)
    (case kc14 => k_is)
    (case ga14 => k_is)
    (case gg14 => k_is)
    (case ex14 => k_is)
    (case ca14 => k_is)
    (case mo14 => k_is)
    (case cn => k_is)
    (case ct => k_is)
    (case z_KeyError => k_is)
    (case z_LookupError => k_is)
    (case z_RuntimeError => k_is)
    (case z_OverflowError => k_is)
    (case z_ValueError => k_is)
    (case z_isinstance => k_is)
    (case z_list => k_is)
    (case z_len => k_is)
    (case z_int => k_is)
    (case z_range => k_is)
    (case z_enumerate => k_is)
    (case z_repr => k_is)
    (case wsp => k_is)
    (case wrd => k_is)
    (case wfc => kernel_rfl)
    (case fc_KeyError => kernel_rfl)
    (case fc_LookupError => kernel_rfl)
    (case fc_RuntimeError => kernel_rfl)
    (case fc_OverflowError => kernel_rfl)
    (case a16 => k_is)
    (case l16 => k_is)
    (case g16 => k_is)
    (case k16 => k_is)
    (case a17 => k_is)
    (case l17 => k_is)
    (case g17 => k_is)
    (case k17 => k_is)
    (case a18 => k_is)
    (case l18 => k_is)
    (case g18 => k_is)
    (case k18 => k_is)
    (case a19 => k_is)
    (case l19 => k_is)
    (case g19 => k_is)
    (case k19 => k_is)
    (case a20 => k_is)
    (case l20 => k_is)
    (case g20 => k_is)
    (case k20 => k_is)
    (case a21 => k_is)
    (case l21 => k_is)
    (case g21 => k_is)
    (case k21 => k_is)
    (case a22 => k_is)
    (case l22 => k_is)
    (case g22 => k_is)
    (case k22 => k_is)
    (case a23 => k_is)
    (case l23 => k_is)
    (case g23 => k_is)
    (case k23 => k_is)
    (case kr => kernel_rfl)
    (case kt => kernel_rfl)
#print axioms PySem.Challenge.cw_wantedwork_k94_kinds_of_errors_holds
