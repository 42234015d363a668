import PyProof.Rows.All
import Wide.All
import OpenK.AllK
import Wide.FinOn
import HandS.ForMost
import HandS.ExcInit
import HandS.IsInst
import HandS.FStr
import KE.KExcInit
import KE.KExcMake
import KE.KExcIs
import HandS.Words
import PyProof.ReprRoads
import PyProof.FString4
import HandS.Exc
import KE.KIntText
import KE.IntTextText
import HandS.StrMore
import HandS.More
import HandS.RaiseMore
import HandS.WordsExc
import HandS.ExcField
import HandS.ExcIs
import PyProof.StrBlock2
import PySem.Challenge.RW_wantedwork_k11_texts_of_no_expression
set_option Elab.async false
set_option linter.all false
set_option maxRecDepth 100000
set_option maxHeartbeats 4000000
/-! Own error classes over ValueError, KeyError, LookupError, RuntimeError, OverflowError, as values. -/
namespace PySem
namespace Er
open PySem.W PySem.Calls PyProof.Rows
open Builtin Builtin.ObjectAttr
section
variable {prog : Program} {w : World} {M : Model} {A : Around} {E : Value → Shared → Prop} {R : Result → Shared → Prop}
variable {hh : Heap} {gg : Array GenState} {dr : Drawn} {tk : Nat} {oo : OsState}
variable {nm qn : Str} {C N : Addr} {bs bm bo : List Value} {hd : Bool} {sn : List Str} {sub : List Value} {ab : Bool} {cl : Option Bool} {dd : Option Addr} {k0 k1 k2 k3 k5 : Option Value} {B nw ini : String}

/-- what the making of such an object asks of the classes above it -/
structure Above (B : String) (bm : List Value) : Prop where
  has : bm.contains (.type B) = true
  noA : bm.contains (.type "AttributeError") = false
  noN : bm.contains (.type "NameError") = false
theorem Above.has1 (u : Above B bm) : (Value.ref C :: bm).contains (.type B) = true := by
  rw [List.contains_cons, u.has, Bool.or_true]
theorem Above.noA1 (u : Above B bm) : (Value.ref C :: bm).contains (.type "AttributeError") = false := by
  rw [List.contains_cons, u.noA]
  rfl
theorem Above.noN1 (u : Above B bm) : (Value.ref C :: bm).contains (.type "NameError") = false := by
  rw [List.contains_cons, u.noN]
  rfl
theorem new_check (F : ExcBaseFacts B nw ini bo) (u : Above B bm) {args : List Value} {Q : Unit → Shared → Prop}
    (hC : hh.get? C = some (excClassObj nm qn C N bs bm hd sn sub ab cl dd k0 k1 k2 k3 k5 nw)) (q : Q () ⟨hh, gg, dr, tk, oo⟩) :
    wpAny M A (checkBuiltinCall nw ⟨.ref C :: args, []⟩) Q E ⟨hh, gg, dr, tk, oo⟩ := by
  have c1 := u.has1 (C := C)
  have c2 := F.noStar
  simp only [checkBuiltinCall, F.newKind, F.newSplit, F.newRow]
  repeat (first
    | refine wpAny_loadPart_at hC ?_
    | (refine wpAny_isSubtype_exc hC ?_
       rw [c1])
    | refine wpAny_staticBase_exc hC ?_
    | refine wpAny_madeBy_exc hC ?_
    | simp only [bne_self_eq_false, Bool.false_eq_true, if_false]
    | wp_step)
  exact q
theorem new_run (F : ExcBaseFacts B nw ini bo) (u : Above B bm) {args : List Value}
    (hC : hh.get? C = some (excClassObj nm qn C N bs bm hd sn sub ab cl dd k0 k1 k2 k3 k5 nw))
    (q : R (.ok (.ret (.ref (hh.objs.size + 1)))) ⟨(hh.push (kdv_tup args)).push (HandSPX.excO C hh.objs.size), gg, dr, tk, oo⟩)
    (hz : args.length ≤ sizeLine) : codeAny (model prog w) A (.builtin nw ⟨.ref C :: args, []⟩) R ⟨hh, gg, dr, tk, oo⟩ := by
  have e1 := F.ends
  have c1 := u.has1 (C := C)
  have c2 := u.noA1 (C := C)
  have c3 := u.noN1 (C := C)
  refine codeAny_builtinAt F.entry ?_
  unfold Builtin.«BaseException.__new__»
  refine wpAt_bind ?_
  show wpAt _ _ _ (stack >>= _) _ _ _
  refine wpAt_bind (wpAt_stack fun _ _ => wpAt_of_wpAny ?_)
  wp_walk
  refine wpAt_of_wpAny ?_
  rw [F.owner]
  repeat (first
    | with_reducible refine wpAny_madeHere_exc F.canon hC ?_
    | with_reducible refine wpAny_loadPart_at hC ?_
    | (with_reducible refine wpAny_isSubtype_exc hC ?_
       first | rw [c1] | rw [c2] | rw [c3])
    | wp_step)
  show R _ _
  rw [Heap.size_push]
  exact q
theorem kept2 {o1 o2 : Obj} : ∀ b o, hh.get? b = some o → ((hh.push o1).push o2).get? b = some o := fun b o e =>
  Heap.get?_push_of_some _ (Heap.get?_push_of_some _ e)
theorem type_call (F : ExcBaseFacts B nw ini bo) (u : Above B bm) {args : List Value} {kw : List (Str × Value)} {fI : Addr} {Q : Fin → Shared → Prop}
    (hC : hh.get? C = some (excClassObj nm qn C N bs bm hd sn sub ab cl dd k0 k1 k2 k3 k5 nw)) (ek : kw = [])
    (hi : Looks (model prog w) hh (typeLookup (.ref C) "__init__") (some (.ref fI)))
    (hb : ∀ self, Looks (model prog w) hh (bindSpecial (.ref fI) self) (.ref fI, [self])) (hz : args.length ≤ sizeLine)
    (q : codeAny (model prog w) A (.call (.ref fI) ⟨.ref (hh.objs.size + 1) :: args, kw⟩)
      (fun r s' => match r with | .ok (.ret v) => v = .none ∧ Q (.done (.ret (.ref (hh.objs.size + 1)))) s' | .ok _ => False | .error e => E e s')
      ⟨(hh.push (kdv_tup args)).push (HandSPX.excO C hh.objs.size), gg, dr, tk, oo⟩) :
    wpAny (model prog w) A (Builtin.«type.__call__» ⟨.ref C :: args, kw⟩) Q E ⟨hh, gg, dr, tk, oo⟩ := by
  subst ek
  repeat (first
    | with_reducible refine wpAny_loadPart_at hC ?_
    | with_reducible refine wpAny_madeBy_exc hC ?_
    | wp_step)
  refine codeAny_call_builtin_code (Code.quiet_builtin _ F.quiet) (new_check F u hC ?_)
  refine new_run F u hC ?_ hz
  show wpAny _ _ _ _ _ _
  have hC2 := kept2 (o1 := kdv_tup args) (o2 := HandSPX.excO C hh.objs.size) _ _ hC
  have hnew : ((hh.push (kdv_tup args)).push (HandSPX.excO C hh.objs.size)).get? (hh.objs.size + 1) = some (HandSPX.excO C hh.objs.size) := by heap_get
  have hself : (Value.ref C :: bm).contains (.ref C) = true := by simp
  have i2 := hi.keeps (kept2 (o1 := kdv_tup args) (o2 := HandSPX.excO C hh.objs.size))
  have b2 := (hb (.ref (hh.objs.size + 1))).keeps (kept2 (o1 := kdv_tup args) (o2 := HandSPX.excO C hh.objs.size))
  unfold isInstance
  repeat (first
    | with_reducible refine wpAny_loadPart_at hnew ?_
    | (with_reducible refine wpAny_isSubtype_exc hC2 ?_
       rw [hself])
    | wp_step)
  show wpAny _ _ (typeLookup (.ref C) _) _ _ _
  refine i2.at ?_
  refine wpAny_holding (wpAny_bind (b2.at ?_))
  refine wpAny_bind (wpAny_call (codeAny_mono q fun r s' z => ?_))
  rcases r with e | (v | _ | _ | _) <;> first
    | exact z
    | exact z.elim
    | (obtain ⟨rfl, z⟩ := z
       first
         | exact wpAny_pure (wpAny_pure z)
         | (wp_walk
            exact z))
theorem make_call (F : ExcBaseFacts B nw ini bo) (u : Above B bm) {args : List Value} {fI : Addr}
    (hC : hh.get? C = some (excClassObj nm qn C N bs bm hd sn sub ab cl dd k0 k1 k2 k3 k5 nw))
    (hi : Looks (model prog w) hh (typeLookup (.ref C) "__init__") (some (.ref fI)))
    (hb : ∀ self, Looks (model prog w) hh (bindSpecial (.ref fI) self) (.ref fI, [self])) (hz : args.length ≤ sizeLine)
    (q : codeAny (model prog w) (A.under (.builtin "type.__call__" ⟨.ref C :: args, []⟩)) (.call (.ref fI) ⟨.ref (hh.objs.size + 1) :: args, []⟩)
      (InitBack (hh.objs.size + 1) R) ⟨(hh.push (kdv_tup args)).push (HandSPX.excO C hh.objs.size), gg, dr, tk, oo⟩) :
    codeAny (model prog w) A (.call (.ref C) ⟨args, []⟩) R ⟨hh, gg, dr, tk, oo⟩ := by
  have g1 := tc_lookup
  have g2 := tc_bind (.ref C)
  have gT : (⟨hh, gg, dr, tk, oo⟩ : Shared).TypeIs (.ref C) "type" := ⟨_, hC, rfl⟩
  refine codeAny_of_tree ?_
  show wpAny _ _ (callAny (.ref C) _) _ _ _
  repeat (any_goals (first
    | assumption
    | with_reducible refine wpAny_loadPart_at hC ?_
    | wp_step))
  refine ⟨rfl, ?_⟩
  refine codeAny_call_builtin_at (Code.quiet_builtin _ (by decide +kernel)) entry_typeCall ?_
  refine wpAny_check_type_call_sub hC (type_call F u hC rfl hi hb hz (codeAny_mono q fun r s' z => ?_))
  rcases r with e | (v | _ | _ | _) <;> exact z
/-! the same with one keyword -/
variable {f : Str} {v : Value}
theorem new_checkK (F : ExcBaseFacts B nw ini bo) (u : Above B bm) {Q : Unit → Shared → Prop}
    (hC : hh.get? C = some (excClassObj nm qn C N bs bm hd sn sub ab cl dd k0 k1 k2 k3 k5 nw)) (q : Q () ⟨hh, gg, dr, tk, oo⟩) :
    wpAny M A (checkBuiltinCall nw ⟨[.ref C], [(f, v)]⟩) Q E ⟨hh, gg, dr, tk, oo⟩ := by
  have c1 := u.has1 (C := C)
  have c2 := F.noStar
  simp only [checkBuiltinCall, F.newKind, F.newSplit, F.newRow]
  repeat (first
    | refine wpAny_loadPart_at hC ?_
    | (refine wpAny_isSubtype_exc hC ?_
       rw [c1])
    | refine wpAny_staticBase_exc hC ?_
    | refine wpAny_madeBy_exc hC ?_
    | simp only [bne_self_eq_false, Bool.false_eq_true, if_false]
    | wp_step)
  exact q
theorem new_runK (F : ExcBaseFacts B nw ini bo) (u : Above B bm)
    (hC : hh.get? C = some (excClassObj nm qn C N bs bm hd sn sub ab cl dd k0 k1 k2 k3 k5 nw))
    (q : R (.ok (.ret (.ref (hh.objs.size + 1)))) ⟨(hh.push (kdv_tup [])).push (HandSPX.excO C hh.objs.size), gg, dr, tk, oo⟩) :
    codeAny (model prog w) A (.builtin nw ⟨[.ref C], [(f, v)]⟩) R ⟨hh, gg, dr, tk, oo⟩ := by
  have e1 := F.ends
  have c1 := u.has1 (C := C)
  have c2 := u.noA1 (C := C)
  have c3 := u.noN1 (C := C)
  refine codeAny_builtinAt F.entry ?_
  unfold Builtin.«BaseException.__new__»
  refine wpAt_bind ?_
  show wpAt _ _ _ (stack >>= _) _ _ _
  refine wpAt_bind (wpAt_stack fun _ _ => wpAt_of_wpAny ?_)
  wp_walk
  refine wpAt_of_wpAny ?_
  rw [F.owner]
  repeat (first
    | with_reducible refine wpAny_madeHere_exc F.canon hC ?_
    | with_reducible refine wpAny_loadPart_at hC ?_
    | (with_reducible refine wpAny_isSubtype_exc hC ?_
       first | rw [c1] | rw [c2] | rw [c3])
    | wp_step)
  show R _ _
  rw [Heap.size_push]
  exact q
theorem type_callK (F : ExcBaseFacts B nw ini bo) (u : Above B bm) {fI : Addr} {Q : Fin → Shared → Prop}
    (hC : hh.get? C = some (excClassObj nm qn C N bs bm hd sn sub ab cl dd k0 k1 k2 k3 k5 nw))
    (hi : Looks (model prog w) hh (typeLookup (.ref C) "__init__") (some (.ref fI)))
    (hb : ∀ self, Looks (model prog w) hh (bindSpecial (.ref fI) self) (.ref fI, [self]))
    (q : codeAny (model prog w) A (.call (.ref fI) ⟨[.ref (hh.objs.size + 1)], [(f, v)]⟩)
      (fun r s' => match r with | .ok (.ret v) => v = .none ∧ Q (.done (.ret (.ref (hh.objs.size + 1)))) s' | .ok _ => False | .error e => E e s')
      ⟨(hh.push (kdv_tup [])).push (HandSPX.excO C hh.objs.size), gg, dr, tk, oo⟩) :
    wpAny (model prog w) A (Builtin.«type.__call__» ⟨[.ref C], [(f, v)]⟩) Q E ⟨hh, gg, dr, tk, oo⟩ := by
  repeat (first
    | with_reducible refine wpAny_loadPart_at hC ?_
    | with_reducible refine wpAny_madeBy_exc hC ?_
    | wp_step)
  refine codeAny_call_builtin_code (Code.quiet_builtin _ F.quiet) (new_checkK F u hC ?_)
  refine new_runK F u hC ?_
  show wpAny _ _ _ _ _ _
  have hC2 := kept2 (o1 := kdv_tup []) (o2 := HandSPX.excO C hh.objs.size) _ _ hC
  have hnew : ((hh.push (kdv_tup [])).push (HandSPX.excO C hh.objs.size)).get? (hh.objs.size + 1) = some (HandSPX.excO C hh.objs.size) := by heap_get
  have hself : (Value.ref C :: bm).contains (.ref C) = true := by simp
  have i2 := hi.keeps (kept2 (o1 := kdv_tup []) (o2 := HandSPX.excO C hh.objs.size))
  have b2 := (hb (.ref (hh.objs.size + 1))).keeps (kept2 (o1 := kdv_tup []) (o2 := HandSPX.excO C hh.objs.size))
  unfold isInstance
  repeat (first
    | with_reducible refine wpAny_loadPart_at hnew ?_
    | (with_reducible refine wpAny_isSubtype_exc hC2 ?_
       rw [hself])
    | wp_step)
  show wpAny _ _ (typeLookup (.ref C) _) _ _ _
  refine i2.at ?_
  refine wpAny_holding (wpAny_bind (b2.at ?_))
  refine wpAny_bind (wpAny_call (codeAny_mono q fun r s' z => ?_))
  rcases r with e | (v | _ | _ | _) <;> first
    | exact z
    | exact z.elim
    | (obtain ⟨rfl, z⟩ := z
       first
         | exact wpAny_pure (wpAny_pure z)
         | (wp_walk
            exact z))
theorem type_checkK {Q : Unit → Shared → Prop} (hC : hh.get? C = some (excClassObj nm qn C N bs bm hd sn sub ab cl dd k0 k1 k2 k3 k5 nw))
    (q : Q () ⟨hh, gg, dr, tk, oo⟩) : wpAny M A (checkBuiltinCall "type.__call__" ⟨[.ref C], [(f, v)]⟩) Q E ⟨hh, gg, dr, tk, oo⟩ := by
  have g3 := tc_sub
  have gT : (⟨hh, gg, dr, tk, oo⟩ : Shared).TypeIs (.ref C) "type" := ⟨_, hC, rfl⟩
  simp only [checkBuiltinCall, tc_kind, tc_split]
  repeat (any_goals (first
    | assumption
    | with_reducible refine wpAny_loadPart_at hC ?_
    | with_reducible refine wpAny_onRaise ?_
    | with_reducible refine wpAny_map ?_
    | wp_step))
theorem make_callK (F : ExcBaseFacts B nw ini bo) (u : Above B bm) {fI : Addr}
    (hC : hh.get? C = some (excClassObj nm qn C N bs bm hd sn sub ab cl dd k0 k1 k2 k3 k5 nw))
    (hi : Looks (model prog w) hh (typeLookup (.ref C) "__init__") (some (.ref fI)))
    (hb : ∀ self, Looks (model prog w) hh (bindSpecial (.ref fI) self) (.ref fI, [self]))
    (q : codeAny (model prog w) (A.under (.builtin "type.__call__" ⟨[.ref C], [(f, v)]⟩)) (.call (.ref fI) ⟨[.ref (hh.objs.size + 1)], [(f, v)]⟩)
      (InitBack (hh.objs.size + 1) R) ⟨(hh.push (kdv_tup [])).push (HandSPX.excO C hh.objs.size), gg, dr, tk, oo⟩) :
    codeAny (model prog w) A (.call (.ref C) ⟨[], [(f, v)]⟩) R ⟨hh, gg, dr, tk, oo⟩ := by
  have g1 := tc_lookup
  have g2 := tc_bind (.ref C)
  have gT : (⟨hh, gg, dr, tk, oo⟩ : Shared).TypeIs (.ref C) "type" := ⟨_, hC, rfl⟩
  refine codeAny_of_tree ?_
  show wpAny _ _ (callAny (.ref C) _) _ _ _
  repeat (any_goals (first
    | assumption
    | with_reducible refine wpAny_loadPart_at hC ?_
    | wp_step))
  refine ⟨rfl, ?_⟩
  refine codeAny_call_builtin_at (Code.quiet_builtin _ (by decide +kernel)) entry_typeCall ?_
  refine type_checkK hC (type_callK F u hC hi hb (codeAny_mono q fun r s' z => ?_))
  rcases r with e | (v | _ | _ | _) <;> exact z
end
end Er
end PySem

namespace PySem
namespace Er
open PySem.W PySem.Calls PyProof.Rows
open Builtin Builtin.ObjectAttr
/-- B's own __init__, by the name ini, lays the args anew -/
structure IniB (B ini : String) : Prop where
  slot : Slot B "__init__" ini
  entry : entryFor table ini = some Builtin.«BaseException.__init__»
  split : splitId ini = some (B, "__init__")
  kind : builtinKind ini = some .slot
  row : Manifest.signature? ini = some ⟨.positional, "*", B, .self, [⟨"args", .varPos, false⟩]⟩
  noStar : (B != "*") = true
theorem IniB.of {B nw ini : String} (F : ExcCallFacts B nw ini) : IniB B ini := ⟨F.init, F.initEntry, F.initSplit, F.initKind, F.initRow, F.noStar⟩
theorem ini_KeyError : IniB "KeyError" "KeyError.__init__" where
  slot := .of (owner := "KeyError") (n := "__init__") (by rw [typeLookup_type, builtinLookup_eq_fast]; kernel_rfl) (by decide +kernel) (by decide +kernel)
    (by decide +kernel) (by first | exact .inl (by decide +kernel) | exact .inr (by decide +kernel)) (by rw [isSubtype_type]; kernel_rfl)
  entry := entryFor_alias (id' := "BaseException.__init__") (by rw [fastTable_eq_tree]; kernel_rfl)
    (by first | rfl | decide +kernel) (by decide +kernel) (by rw [fastTable_eq_tree]; kernel_rfl)
  split := by kernel_rfl
  kind := by kernel_rfl
  row := by kernel_rfl
  noStar := by decide +kernel
abbrev keyTail : List Value := [.type "KeyError", .type "LookupError", .type "Exception", .type "BaseException", .type "object"]
theorem store_KeyError : StoreFacts "KeyError" keyTail "object.__setattr__" "object" where
  mro := by kernel_rfl
  slot := .of (owner := "object") (n := "__setattr__") (by rw [typeLookup_type, builtinLookup_eq_fast]; kernel_rfl)
    (by decide +kernel) (by decide +kernel) (by decide +kernel)
    (by first | exact .inl (by decide +kernel) | exact .inr (by decide +kernel)) (by rw [isSubtype_type]; kernel_rfl)
  entry := F.entry_object_sa
  kind := by decide +kernel
  split := by decide +kernel
  hasOwner := by decide +kernel
  args := fun _ _ _ => by unfold argsOk; kernel_rfl
  passes := fun _ => by kernel_rfl
section
variable {prog : Program} {w : World} {M : Model} {A : Around} {E : Value → Shared → Prop} {R : Result → Shared → Prop}
variable {hh : Heap} {gg : Array GenState} {dr : Drawn} {tk : Nat} {oo : OsState}
variable {nm qn : Str} {C N : Addr} {bs bm bo : List Value} {hd : Bool} {sn : List Str} {sub : List Value} {ab : Bool} {cl : Option Bool} {dd : Option Addr} {k0 k1 k2 k3 k5 : Option Value} {B nw ini : String}
theorem ini_check (F : IniB B ini) (hB : bm.contains (.type B) = true) {e : Addr} {oe : Obj} {args : List Value} {Q : Unit → Shared → Prop}
    (hC : hh.get? C = some (excClassObj nm qn C N bs bm hd sn sub ab cl dd k0 k1 k2 k3 k5 nw)) (he : hh.get? e = some oe) (hc : oe.cls = .ref C)
    (q : Q () ⟨hh, gg, dr, tk, oo⟩) : wpAny M A (checkBuiltinCall ini ⟨.ref e :: args, []⟩) Q E ⟨hh, gg, dr, tk, oo⟩ := by
  have c1 : (Value.ref C :: bm).contains (.type B) = true := by
    rw [List.contains_cons, hB, Bool.or_true]
  have c2 := F.noStar
  simp only [checkBuiltinCall, F.kind, F.split, F.row]
  repeat (first
    | (with_reducible refine wpAny_loadPart_at he ?_
       rw [hc])
    | with_reducible refine wpAny_loadPart_at hC ?_
    | (with_reducible refine wpAny_isSubtype_exc hC ?_
       rw [c1])
    | wp_step)
  refine wpAny_onRaise ?_
  have z : ∀ (a b : String) (n : Nat), Bind.check ⟨.positional, "*", B, .self, [⟨"args", .varPos, false⟩]⟩ a b n (List.map (fun x => x.fst) ({ pos := Value.ref e :: args } : Args).kw) = pure () :=
    fun _ _ _ => check_star_args _ _ _ _ _ _
  rw [z]
  exact wpAny_pure q
theorem ini_run (F : IniB B ini) (hB : bm.contains (.type B) = true) {e t0 : Addr} {args : List Value}
    (hC : hh.get? C = some (excClassObj nm qn C N bs bm hd sn sub ab cl dd k0 k1 k2 k3 k5 nw)) (he : hh.get? e = some (HandSPX.excO C t0)) (hz : args.length ≤ sizeLine)
    (q : ∀ h' t1, (∀ b o, b ≠ e → hh.get? b = some o → h'.get? b = some o) → h'.get? e = some (HandSPX.excO C t1) → R (.ok (.ret .none)) ⟨h', gg, dr, tk, oo⟩) :
    codeAny (model prog w) A (.call (.builtin ini) ⟨.ref e :: args, []⟩) R ⟨hh, gg, dr, tk, oo⟩ := by
  refine codeAny_call_builtin F.slot.plain F.entry (ini_check F hB hC he rfl ?_)
  exact exc_init_tree (cls := .ref C) (t0 := t0) (dv := none) (c2 := .none) (c3 := .none) (b4 := .bool false) he hz fun h' k1 k2 _ => q h' _ k1 k2
end
end Er
end PySem

namespace L2
open PySem PySem.Spec PyProof.Rows
/-- an own error class at C, over the built-in class B (whose tail is bo), made by nw -/
structure ErC (K : PySem.W.Frag) (C : Addr) (B nw : String) (bo : List Value) : Prop where
  isn : PySem.W.excInitIn K C bo nw = true
  ovr : PySem.W.excOver K C bo = true
  sa : PySem.W.findIn K (.ref C) "__setattr__" = some (some (.builtin "object.__setattr__"))
  hd : PySem.W.hasDictIn K C = true
  kC : PySem.W.keepIn K (.ref C) = true
  ga : PySem.W.findIn K (.ref C) "__getattribute__" = some (some (.builtin "BaseException.__getattribute__"))
  gg : PySem.W.findIn K (.ref C) "__getattr__" = some none
  exC : PySem.W.subIn K (.ref C) (.type "BaseException") = some true
  ca : PySem.W.findIn K (.ref C) "__class__" = some (some (.builtin "object.__class__"))
  cn : PySem.W.specialIn K (.builtin "object.__class__") "__get__" = some (some (.builtin "getset_descriptor.__get__"))
  ct : PySem.W.takesIn K (.builtin "object.__class__") = some true
  mo : PySem.W.mroIn K C (.type "object") = some true
  hB : bo.contains (.type B) = true
section
variable {X : Cx} {pins : List (Addr × Obj)} {σ : St} {H : Hp} {s : Shared} {a C dx : Addr} {f : Str} {y : V} {u : Value} {fs : List (Str × V)} {E : Value → Shared → Prop} {A : Around} {B nw ini : String} {bo : List Value}
/-- B.__init__(self, ..) -/
theorem er_ini {us : List Value} {Q : Value → Shared → Prop} (T : ErC X.K C B nw bo) (F : PySem.Er.IniB B ini) (I : Inv X pins σ H s) (e : H a = some (exo a C none)) (hl : us.length ≤ sizeLine)
    (h : ∀ s', Inv X pins σ H s' → Q .none s') : wpAny (model X.prog X.w) A (call (.builtin ini) (.ref a :: us)) Q E s := by
  obtain ⟨nm, N, qn, bs, bm, hd, sn, sub, ab, cl, dd, k0, k1, k2, k3, k5, hC, hT⟩ := PySem.W.excInit_of I.kIn T.isn
  obtain ⟨t1, ho⟩ := exo_at I.hok e
  obtain ⟨hp, g, d, t, os⟩ := s
  refine wpAny_call (PySem.Er.ini_run F ((hT B).trans T.hB) hC ho hl fun h' t2 k hx => ?_)
  have J := I.write (t' := t) (x := a) (e := a) (o := exo a C none) (by rw [e]; exact True.intro) (.inl rfl) k ⟨_, hx⟩ (exo_ok hx)
  have eu : upd H a (exo a C none) = H := by
    funext b
    by_cases hb : b = a
    · rw [hb, upd_same, e]
    · rw [upd_ne hb]
  rw [eu] at J
  exact h _ J
end
end L2

namespace PySem
namespace Er
open PySem.W PySem.Calls PyProof.Rows
open Builtin Builtin.ObjectAttr
section
variable {prog : Program} {w : World} {A : Around} {R : Result → Shared → Prop} {hp : Heap} {gg : Array GenState} {dr : Drawn} {tk : Nat} {oo : OsState}
theorem first_store {K : W.Frag} {B : String} {bo : List Value} {name : Str} {tt : Tok} {v : Value} {x C t0 : Addr} (SF : StoreFacts B bo "object.__setattr__" "object")
    (X : K.In hp) (hx : hp.get? x = some (HandSPX.excO C t0)) (ho : W.excOver K C bo = true) (ht : W.takerIn K C name = some none) (hd : W.hasDictIn K C = true)
    (q : ∀ h' t' dx, (∀ b o, b ≠ x → hp.get? b = some o → h'.get? b = some o) → hp.objs.size ≤ dx → dx ≠ x →
      h'.get? x = some { cls := .ref C, dict := some dx, data := .fields #[.ref t0, .none, .none, .none, .bool false, .none] } →
      h'.Ns1 dx (fun y => if y = name then some v else none) → R (.ok (.ret .none)) ⟨h', gg, dr, t', oo⟩) :
    codeAny (model prog w) A (.call (.builtin "object.__setattr__") ⟨[.ref x, .str name tt, v], []⟩) R ⟨hp, gg, dr, tk, oo⟩ := by
  refine osa_openX (s := ⟨hp, gg, dr, tk, oo⟩) (od := none) SF X ⟨hx, rfl, rfl, trivial⟩ ho ht fun b => ?_
  obtain ⟨cd, hc, hd'⟩ := any_some hd
  have hxs : x ≠ hp.objs.size := Nat.ne_of_lt (Heap.lt_size hx)
  refine wpAny_bind (wpAny_pure (wpAny_bind (instanceDict_exc (s := ⟨hp, gg, dr, tk, oo⟩) (t := t0) (c2 := .none) hx (looks_clsIn X hc) hd' ?_)))
  show wpAny _ _ (storeInDict hp.objs.size (.str name tt) name v) _ _ _
  have hx1 : (hp.push (dictOf [] 0)).get? x = some (HandSPX.excO C t0) := Heap.get?_push_of_some _ hx
  have hnew : (hp.push (dictOf [] 0)).get? hp.objs.size = some (dictOf [] 0) := Heap.get?_push_size _ rfl
  refine HandSPX.store_in_new ⟨dictOf [] 0, #[], 0, (Heap.get?_update_ne _ _ _ _ hxs.symm).trans hnew, rfl, fun e he => absurd he (by simp), fun _ => rfl⟩ fun h' t' hn hs => ?_
  refine q h' t' hp.objs.size (fun b o hb hbo => ?_) (Nat.le_refl _) hxs.symm ?_ hn
  · exact (hs.2 b (Nat.ne_of_lt (Heap.lt_size hbo))).trans ((Heap.get?_update_ne _ _ _ _ hb).trans (Heap.get?_push_of_some _ hbo))
  · exact (hs.2 x hxs).trans (Heap.get?_update_self _ hx1 rfl)
end
end Er
end PySem
namespace L2
open PySem PySem.Spec PyProof.Rows
section
variable {X : Cx} {pins : List (Addr × Obj)} {σ : St} {H : Hp} {s : Shared} {a C dx : Addr} {f : Str} {y : V} {u : Value} {fs : List (Str × V)} {E : Value → Shared → Prop} {A : Around} {B nw ini : String} {bo : List Value}
/-- self.f = y on an error that has no dict yet -/
theorem er_set {Q : Unit → Shared → Prop} (T : ErC X.K C B nw bo) (SF : StoreFacts B bo "object.__setattr__" "object") (I : Inv X pins σ H s) (e : H a = some (exo a C none)) (ht : PySem.W.takerIn X.K C f = some none) (ry : RelV y u)
    (h : ∀ dx s', H dx = none → dx ≠ a → Inv X pins σ (upd (upd H dx (exd dx [(f, y)])) a (exo a C (some dx))) s' → Q () s') :
    wpAny (model X.prog X.w) A (setAttr (.ref a) f u) Q E s := by
  obtain ⟨t1, ho⟩ := exo_at I.hok e
  obtain ⟨hp, g, d, t, os⟩ := s
  refine PySem.W.set_plain I.kIn (ox := HandSPX.excO C t1) (od := none) ⟨ho, rfl, rfl, trivial⟩ T.sa ?_
  refine PySem.Er.first_store SF I.kIn ho T.ovr ht T.hd (fun h' tk' dx k dn dne hx hn => ?_)
  have hnd : H dx = none := I.hok.fresh dn
  have nd : ∀ {b : Addr} {o : Obj}, hp.get? b = some o → b ≠ dx := fun {b o} q => Nat.ne_of_lt (Nat.lt_of_lt_of_le (Heap.lt_size q) dn)
  have na : ∀ {b : Addr}, H b = none → b ≠ a := fun {b} n z => by
    rw [z, e] at n
    cases n
  have two : ∀ {b : Addr} {o : HO}, H b = some o → exo a C none ≠ o → upd (upd H dx (exd dx [(f, y)])) a (exo a C (some dx)) b = some o := fun {b o} q ne => by
    rw [upd_ne (at_ne e q ne), upd_ne (ne_of_none q hnd)]
    exact q
  have U : Un X.fs [] H (upd (upd H dx (exd dx [(f, y)])) a (exo a C (some dx))) hp h' := {
    keep := fun b o q n _ _ => k b o (na n) q
    slot := fun b o q n _ _ => ⟨o.slots, k b o (na n) q⟩
    free := fun b o q n _ => by rw [upd_ne (na n), upd_ne (nd q)]; exact n
    there := fun b o q _ => by
      by_cases hb : b = a
      · exact ⟨_, by rw [hb]; exact hx⟩
      · exact ⟨o, k b o hb q⟩
    tups := fun b xs q => two q exo_tup
    frzs := fun b o v q => two q exo_frz
    tbls := fun b ps q => ⟨#[], by rw [two q exo_tbl]; simp⟩ }
  refine h dx _ hnd dne (I.un (t' := tk') U fun b o q => ?_)
  by_cases hb : b = a
  · subst hb
    rw [upd_same] at q
    cases q
    exact exo_ok hx
  · rw [upd_ne hb] at q
    by_cases hd : b = dx
    · subst hd
      rw [upd_same] at q
      cases q
      exact exd_ok hn (relO_put (fs := []) ry fun g => True.intro)
    · rw [upd_ne hd] at q
      refine (I.hok b o q).stay (fun c v hc z => k c v ?_ z) (fun c hc => two hc exo_own) fun c xs hc => two hc exo_tup
      rcases hc with hc | hc
      · rw [hc]
        exact hb
      · exact at_ne e hc exo_own
end
/-! ### the readings -/
/-- Z.__init__(self, ..): Z above the error's class; nothing is told of it -/
def tErI (ta : TA) (B : String) : TE := fun σ H Q => ta σ H fun vs H1 => ∃ (a C : Addr) (ws : List V), vs = .ref a :: ws ∧ ws.length ≤ 1000 ∧ H1 a = some (exo a C none) ∧ Q .non H1
/-- self.f = e, the first -/
def tErS (f : Str) (to te : TE) : TS := fun D σ H => te σ H fun y H1 => to σ H1 fun x H2 => ∃ a C : Addr, x = .ref a ∧ H2 a = some (exo a C none) ∧
  ∀ dx, H2 dx = none → dx ≠ a → D.nx σ (upd (upd H2 dx (exd dx [(f, y)])) a (exo a C (some dx)))
section
variable {X : Cx} {o e : Expr} {es : List Expr} {to te : TE} {ta : TA} {f x : Str} {p p' p1 p2 pos : Pos} {B nw ini : String} {bo : List Value} {W0 : Addr}
/-- self.f = e; all tracked errors without a dict here are of the class at C -/
theorem ps_ers {C : Addr} (T : ErC X.K C B nw bo) (SF : StoreFacts B bo "object.__setattr__" "object") (ht : PySem.W.takerIn X.K C f = some none) (ho : PE X o to) (he : PE X e te)
    (hs : swapsWith e (some (.Attribute o f p')) pos.line X.env = pure false := by rfl) : PS X (.Assign [.Attribute o f p'] e pos)
      (fun D σ H => te σ H fun y H1 => to σ H1 fun x H2 => ∃ a : Addr, x = .ref a ∧ H2 a = some (exo a C none) ∧
        ∀ dx, H2 dx = none → dx ≠ a → D.nx σ (upd (upd H2 dx (exd dx [(f, y)])) a (exo a C (some dx)))) := by
  refine ⟨fun pins s σ H D I h => ?_⟩
  refine plainObj_wpAny_Assign_Attribute (thn (he.run pins s σ H _ I h) fun v s1 ⟨y, H1, I1, r1, q1⟩ => thn (ho.run pins s1 σ H1 _ I1 q1) fun u s2 ⟨x, H2, I2, r2, a, ex, ea, q⟩ => ?_) hs
  subst ex
  obtain rfl : u = Value.ref a := r2
  exact er_set T SF I2 ea ht r1 fun dx s' n ne J => ⟨σ, _, J, q dx n ne⟩
/-- W.__init__(self, ..), W an own class that has its __init__ from B -/
theorem pe_eri {C : Addr} {pl : Sem Bool} (T : ErC X.K C B nw bo) (F : PySem.Er.IniB B ini) (hg : Gl X x) (hm : X.mg x = some (.ref W0))
    (hsp : PySem.W.specialIn X.K (.ref W0) "__getattribute__" = some (some (.builtin "type.__getattribute__"))) (hrd : PySem.W.readsIn X.K W0 (.type "type") = true)
    (hf : PySem.W.findCls X.K (.ref W0) (.type "type") "__init__" = some (.val (.builtin ini))) (hin : PySem.W.handedIn (.builtin ini) = true) (ha : PA X (e :: es) ta) (hdb : (x == ("__debug__" : Str)) = false := by decide)
    (hc : eval (.Call (.Attribute (.Name x p1) "__init__" p2) (e :: es) [] pos) X.env = (do
      let ov ← eval (.Name x p1) X.env
      standAt p2.atName
      let (f, first) ← holding [ov] (getMethod ov "__init__" pl)
      callWith pos f first (backTo pos (starEach (e :: es) X.env)) (backToKw pos (keywordEach [] X.env))) := by rfl)
    (he : starEach (e :: es) X.env = (false, eval e X.env) :: starEach es X.env := by rfl) (hpl : (backTo pos (starEach es X.env)).any (·.1) = false := by rfl) :
    PE X (.Call (.Attribute (.Name x p1) "__init__" p2) (e :: es) [] pos)
      (fun σ H Q => ta σ H fun vs H1 => ∃ (a : Addr) (ws : List V), vs = .ref a :: ws ∧ ws.length ≤ 1000 ∧ H1 a = some (exo a C none) ∧ Q .non H1) := by
  refine ⟨fun pins s σ H Q I h => ?_⟩
  refine PySem.W.methodCall_KW (ld_glob I hg hm ?_ hdb) hc
  refine PySem.W.method_cls I.kIn hsp (PySem.W.cls_value I.kIn hrd hf hin ?_)
  show wpAny _ _ (callWith pos (Value.builtin ini) [] (backTo pos (starEach (e :: es) X.env)) []) _ _ _
  refine PyProof.Rows.callWith_method1 (thn (ha.run pos pins _ σ H _ (I.tok _) h) fun us s1 ⟨vs, H1, I1, r1, a, ws, ev, hl, ea, q⟩ => ?_) he hpl
  subst ev
  cases r1 with
  | @cons _ u0 _ ur ra rw' =>
    obtain rfl : u0 = Value.ref a := ra
    have hlen : ur.length ≤ sizeLine := by
      rw [← Paired.length rw', sizeLine_eq]
      omega
    exact er_ini T F I1 ea hlen fun s' J => ⟨.non, H1, J, rfl, q⟩
/-- the same of a built-in class -/
theorem pe_erb {C : Addr} {pl : Sem Bool} (T : ErC X.K C B nw bo) (F : PySem.Er.IniB B ini) (hg : Gl X x) (hm : X.mg x = none) (hv : bootBuiltins x = some (.type B)) (hty : typeOf (.type B) = pure (.type "type")) (hst : Manifest.isStub B = false)
    (hf : PySem.W.findCls X.K (.type B) (.type "type") "__init__" = some (.val (.builtin ini))) (hin : PySem.W.handedIn (.builtin ini) = true) (ha : PA X (e :: es) ta) (hn : x ≠ "__name__" := by decide) (hdb : (x == ("__debug__" : Str)) = false := by decide)
    (hc : eval (.Call (.Attribute (.Name x p1) "__init__" p2) (e :: es) [] pos) X.env = (do
      let ov ← eval (.Name x p1) X.env
      standAt p2.atName
      let (f, first) ← holding [ov] (getMethod ov "__init__" pl)
      callWith pos f first (backTo pos (starEach (e :: es) X.env)) (backToKw pos (keywordEach [] X.env))) := by rfl)
    (he : starEach (e :: es) X.env = (false, eval e X.env) :: starEach es X.env := by rfl) (hpl : (backTo pos (starEach es X.env)).any (·.1) = false := by rfl) :
    PE X (.Call (.Attribute (.Name x p1) "__init__" p2) (e :: es) [] pos)
      (fun σ H Q => ta σ H fun vs H1 => ∃ (a : Addr) (ws : List V), vs = .ref a :: ws ∧ ws.length ≤ 1000 ∧ H1 a = some (exo a C none) ∧ Q .non H1) := by
  refine ⟨fun pins s σ H Q I h => ?_⟩
  refine PySem.W.methodCall_KW (ld_blt I hg hm hv ?_ hn hdb) hc
  obtain ⟨m, fr⟩ := I.fr
  refine PySem.W.method_type fr I.ok.mod.kin hty hst hf hin ?_
  show wpAny _ _ (callWith pos (Value.builtin ini) [] (backTo pos (starEach (e :: es) X.env)) []) _ _ _
  refine PyProof.Rows.callWith_method1 (thn (ha.run pos pins _ σ H _ (I.tok _) h) fun us s1 ⟨vs, H1, I1, r1, a, ws, ev, hl, ea, q⟩ => ?_) he hpl
  subst ev
  cases r1 with
  | @cons _ u0 _ ur ra rw' =>
    obtain rfl : u0 = Value.ref a := ra
    have hlen : ur.length ≤ sizeLine := by
      rw [← Paired.length rw', sizeLine_eq]
      omega
    exact er_ini T F I1 ea hlen fun s' J => ⟨.non, H1, J, rfl, q⟩
end
end L2

namespace L2
open PySem PySem.Spec PyProof.Rows
/-- a def's promise where no repr is under way -/
structure FnG (P : Program) (w : World) (K : PySem.W.Frag) (mg : Str → Option Value) (base : Heap) (k : Nat) (f : Addr) (fd : FuncData) (ps : List Str) (sp : Sp) : Prop where
  len : ∀ vs H Q, sp vs H Q E0 → vs.length = ps.length
  run : ∀ (A : Around) (outer : List Env) (s : Shared) (H : Hp) (args : Args) (us : List Value) (vs : List V) (Q : VK), Room k A → A.guards = some [] →
    Env0 P w K mg base A outer s H → BindsTo s fd args (ps.zip us) → Vals vs us → sp vs H Q E0 →
    codeAny (model P w) A (.call (.ref f) args) (CR CX0 outer P w H s Q E0) s
theorem FnG.of {P : Program} {w : World} {K : PySem.W.Frag} {mg : Str → Option Value} {base : Heap} {k : Nat} {f : Addr} {fd : FuncData} {ps : List Str} {sp : Sp}
    (F : FnOk P w K mg base CX0 k f fd ps sp) : FnG P w K mg base k f fd ps sp :=
  ⟨fun vs H Q => F.len vs H Q E0, fun A outer s H args us vs Q hr _ e b r q => F.run A outer s H args us vs Q E0 hr e b r q⟩
theorem FnG.mono {P : Program} {w : World} {K : PySem.W.Frag} {mg : Str → Option Value} {base : Heap} {j k : Nat} {f : Addr} {fd : FuncData} {ps : List Str} {sp : Sp}
    (F : FnG P w K mg base j f fd ps sp) (h : j ≤ k) : FnG P w K mg base k f fd ps sp :=
  ⟨F.len, fun A outer s H args us vs Q hr => F.run A outer s H args us vs Q (hr.mono h)⟩
section
variable {P : Program} {w : World} {K : PySem.W.Frag} {mg : Str → Option Value} {base : Heap}
theorem Fun.okG {x qual : Str} {st : Stmt} {f : Addr} {fd : FuncData} {N ps : List Str} {k : Nat} {sp : Sp} (F : Fun K x qual st f fd) (S : FnScope N ps (defScope st))
    (len : ∀ vs H Q, sp vs H Q E0 → vs.length = ps.length)
    (body : ∀ (cdv : Value) (A : Around) (outer : List Env) (s : Shared) (H : Hp) (vs : List V) (Q : VK),
      Room k (A.deeper (envOfC qual (defScope st) s.heap.objs.size f cdv)) → (A.deeper (envOfC qual (defScope st) s.heap.objs.size f cdv)).guards = some [] → sp vs H Q E0 →
      ∃ t, PSs (cxOf CX0 P w K mg base N qual (defScope st) f cdv A outer s H E0).nox (defBody st) t ∧ t { nx := fun _ H' => Q .non H', rt := Q } (start N vs) H) :
    FnG P w K mg base (k + 1) f fd ps sp := by
  obtain ⟨oc, od, kV, doc, pm, an, cdv, ct, osl, rfl, lk, hcd⟩ := F.ex
  refine ⟨len, fun A outer s H args us vs Q hr hg e0 hb r hsp => ?_⟩
  have hl := len _ _ _ hsp
  have KX : K.In s.heap := e0.mod.kin.keeps fun b o e => (e0.bs b o e).1
  have lim : s.heap.NoLimit := e0.mod.nolimit.keeps fun b o e => (e0.bs b o e).1
  refine codeAny_call_function hr.depth (KX _ _ lk) rfl S.co S.gen rfl (PySem.W.codeRec_of KX hcd) (hb _ _ _ _ ?_)
  refine wpAny_newFunctionEnv_cells S.kind (fun ⟨n, v⟩ hy => ?_) fun env he s1 x => ?_
  · rcases S.par n (List.of_mem_zip hy).1 with q | q
    · exact .inl q
    · exact .inr ⟨q, PySem.W.cellsFrom_some _ _ _ (.inl q)⟩
  subst he
  refine ⟨lim.keeps x.toInCall.keep, codeAny_func ?_⟩
  obtain ⟨t, ht, hq⟩ := body cdv A outer s H vs Q (hr.deeper _) hg hsp
  have I := inv_start (CX := CX0) (P := P) (w := w) (E := E0) S hr.hd e0 hl r x
  refine wpAny_mono (ht.run [] s1 (start N vs) H _ (I.wish _) hq) (fun fl s' hs => ?_) fun e s' hs => hs.elim
  cases fl with
  | ret u =>
    obtain ⟨v, σ', H', J, rv, q⟩ := hs
    exact ⟨v, H', J.os, J.bare, J.base, J.hok, rv, q⟩
  | next =>
    obtain ⟨σ', H', J, q⟩ := hs
    exact ⟨V.non, H', J.os, J.bare, J.base, J.hok, rfl, q⟩
  | brk =>
    obtain ⟨_, _, _, z⟩ := hs
    exact False.elim z
  | cont =>
    obtain ⟨_, _, _, z⟩ := hs
    exact False.elim z
end
section
variable {X : Cx} {k : Nat} {f : Addr} {fd : FuncData} {ps : List Str} {sp : Sp} {x : Str} {p pos : Pos} {e : Expr} {es : List Expr} {t : TA}
theorem run_fnG {pins : List (Addr × Obj)} {σ : St} {H : Hp} {s : Shared} {Q : VK} {us : List Value} {vs : List V} (F : FnG X.prog X.w X.K X.mg X.base k f fd ps sp) (hr : Room k X.A)
    (hgd : X.A.guards = some []) (hb : Binds X.K fd ps []) (I : Inv X pins σ H s) (r : Vals vs us) (h : sp vs H Q E0) :
    wpAny (model X.prog X.w) X.A (call (.ref f) us) (EP X pins σ Q) X.xe s := by
  have hl : (us ++ []).length = ps.length := by
    rw [List.append_nil, ← r.length]
    exact F.len _ _ _ h
  have hb' := hb s us I.kIn hl
  rw [List.append_nil] at hb'
  refine wpAny_call (codeAny_mono (F.run X.A X.stack s H ⟨us, []⟩ us vs Q hr hgd I.env0 hb' r h) fun r s' hq => ?_)
  rcases r with er | (u | _ | _ | _)
  all_goals first | exact hq.elim | exact I.after hq
/-- f(e, ..) -/
theorem pe_callG (F : FnG X.prog X.w X.K X.mg X.base k f fd ps sp) (hr : Room k X.A) (hgd : X.A.guards = some []) (hg : Gl X x) (hm : X.mg x = some (.ref f)) (hk : PySem.W.keepIn X.K (.ref f) = true)
    (hb : Binds X.K fd ps []) (ha : PA X (e :: es) t) (hdb : (x == ("__debug__" : Str)) = false := by decide) (he : starEach (e :: es) X.env = (false, eval e X.env) :: starEach es X.env := by rfl)
    (hpl : (backTo pos (starEach es X.env)).any (·.1) = false := by rfl) : PE X (.Call (.Name x p) (e :: es) [] pos) (fun σ H Q => t σ H fun vs H1 => sp vs H1 Q E0) := by
  refine ⟨fun pins s σ H Q I h => ?_⟩
  refine wpAny_Call_Name_kw (ld_glob I hg hm ?_ hdb)
  refine PySem.W.callWith_K (h₀ := X.base) I.ok.mod.kin hk (thn (ha.run pos pins s σ H _ I h) fun us s1 ⟨vs, H1, I1, r, q⟩ => ⟨I1.kIn, ?_⟩) he hpl
  exact run_fnG F hr hgd hb I1 r q
end
/-! ### an error as a value -/
/-- at a: an error of the class at C whose field f is y -/
def ErrAt (H : Hp) (a C : Addr) (f : Str) (y : V) : Prop := ∃ d, H a = some (exo a C (some d)) ∧ H d = some (exd d [(f, y)])
theorem ErrAt.same {H H' : Hp} {a C : Addr} {f : Str} {y : V} (x : ErrAt H a C f y) (e : Same H H') : ErrAt H' a C f y :=
  let ⟨d, h1, h2⟩ := x
  ⟨d, e _ _ h1, e _ _ h2⟩
/-- the promise of an __init__ that keeps its argument in f -/
def spErr (C : Addr) (f : Str) (Ok : V → Hp → Prop) : Sp := fun vs H Q _ => ∃ (a : Addr) (y : V), vs = [.ref a, y] ∧ H a = some (exo a C none) ∧ Ok y H ∧
  ∀ d, H d = none → d ≠ a → Q .non (upd (upd H d (exd d [(f, y)])) a (exo a C (some d)))
section
variable {X : Cx} {k : Nat} {fI C : Addr} {fd : FuncData} {ps : List Str} {f x kn : Str} {p pos kpos : Pos} {e : Expr} {te : TE} {B nw ini nwi : String} {bo bn : List Value} {Ok : V → Hp → Prop}
/-- behind the making -/
theorem er_made {pins : List (Addr × Obj)} {σ : St} {H1 : Hp} {y : V} {s1 : Shared} {args : Args} {R : Result → Shared → Prop} {A1 : Around}
    {tup : Obj} {us : List Value} (F1 : FnG X.prog X.w X.K X.mg X.base k fI fd ps (spErr C f Ok)) (hA : Room k A1) (hA2 : A1.guards = some []) (hA3 : A1.frames = X.A.frames)
    (I1 : Inv X pins σ H1 s1) (hb : BindsTo { s1 with heap := (s1.heap.push tup).push (HandSPX.excO C s1.heap.objs.size) } fd args (ps.zip us))
    (rv : Vals [V.ref (s1.heap.objs.size + 1), y] us) (hOk : ∀ a, H1 a = none → Ok y (upd H1 a (exo a C none)))
    (hR : ∀ s' H2, Inv X pins σ H2 s' → Same H1 H2 → H1 (s1.heap.objs.size + 1) = none → ErrAt H2 (s1.heap.objs.size + 1) C f y → R (.ok (.ret .none)) s') :
    codeAny (model X.prog X.w) A1 (.call (.ref fI) args) R { s1 with heap := (s1.heap.push tup).push (HandSPX.excO C s1.heap.objs.size) } := by
  have hsz : s1.heap.objs.size ≤ s1.heap.objs.size + 1 := Nat.le_succ _
  have hn : H1 (s1.heap.objs.size + 1) = none := I1.hok.fresh hsz
  have hget : ((s1.heap.push tup).push (HandSPX.excO C s1.heap.objs.size)).get? (s1.heap.objs.size + 1) = some (HandSPX.excO C s1.heap.objs.size) := by
    have z := Heap.get?_push_size (s1.heap.push tup) (o := HandSPX.excO C s1.heap.objs.size) rfl
    rw [Heap.size_push] at z
    exact z
  have I2 : Inv X pins σ (upd H1 (s1.heap.objs.size + 1) (exo (s1.heap.objs.size + 1) C none)) { s1 with heap := (s1.heap.push tup).push (HandSPX.excO C s1.heap.objs.size) } :=
    I1.laid (t' := s1.toks) (fun b o q => Heap.get?_push_of_some _ (Heap.get?_push_of_some _ q)) hsz (exo_ok hget)
  have e0 := I2.env0
  refine codeAny_mono (F1.run A1 X.stack _ _ args us _ (fun v H2 => v = .non ∧ Same H1 H2 ∧ ErrAt H2 (s1.heap.objs.size + 1) C f y) hA hA2
    ⟨hA3.trans e0.frames, e0.mod, e0.bs, e0.bsz, e0.funs, e0.frf, e0.hok, e0.bare⟩ hb rv
    ⟨s1.heap.objs.size + 1, y, rfl, upd_same, hOk _ hn, fun d hd nd => ⟨rfl, fun b o q => ?_, d, upd_same, ?_⟩⟩) fun r s' hq => ?_
  · rw [upd_ne (ne_of_none q hn)]
    have nb : b ≠ d := fun z => by
      rw [z] at q
      rw [upd_ne nd, q] at hd
      cases hd
    rw [upd_ne nb, upd_ne (ne_of_none q hn)]
    exact q
  · rw [upd_ne nd, upd_same]
  · cases r with
    | error er => exact False.elim hq
    | ok fl =>
      cases fl with
      | ret u =>
        obtain ⟨v, H2, J, rv2, ev, hs, he⟩ := I2.after hq
        subst ev
        cases (show u = Value.none from rv2)
        exact hR s' H2 J hs hn he
      | next => exact False.elim hq
      | brk => exact False.elim hq
      | cont => exact False.elim hq
end
end L2

namespace L2
open PySem PySem.Spec PyProof.Rows
theorem typeCall_guards {A : Around} {us : List Value} {kw : List (Str × Value)} (h : A.guards = some []) : (A.under (.builtin "type.__call__" ⟨us, kw⟩)).guards = some [] := by
  first
    | exact h
    | (show pushGuards (Code.guards _) A.guards = some []
       rw [show Code.guards (.builtin "type.__call__" ⟨us, kw⟩) = [] from by first | rfl | simp [Code.guards, Code.isGuard, guardIds]]
       exact h)
theorem typeCall_frames {A : Around} {us : List Value} {kw : List (Str × Value)} : (A.under (.builtin "type.__call__" ⟨us, kw⟩)).frames = A.frames := by
  first
    | rfl
    | simp [Around.under, Code.envs, Code.isFrame, pushEnvs]
/-- the reading of C(y) and C(f=y), as a value -/
def tErV (C : Addr) (f : Str) (Ok : V → Hp → Prop) (ta : TA) : TE := fun σ H Q => ta σ H fun vs H1 => ∃ y, vs = [y] ∧ (∀ a, H1 a = none → Ok y (upd H1 a (exo a C none))) ∧
  ∀ H2 a, Same H1 H2 → H1 a = none → ErrAt H2 a C f y → Q (.ref a) H2
section
variable {X : Cx} {k : Nat} {fI C : Addr} {fd : FuncData} {ps : List Str} {f x kn : Str} {p pos kpos : Pos} {e : Expr} {ta : TA} {B nw Bn nwi : String} {bo bn : List Value} {Ok : V → Hp → Prop}
theorem above_of {bm : List Value} (u : PySem.Er.Above Bn bo) (hT : ∀ X : String, bm.contains (.type X) = bo.contains (.type X)) : PySem.Er.Above Bn bm :=
  ⟨(hT _).trans u.has, (hT _).trans u.noA, (hT _).trans u.noN⟩
/-- C(y) -/
theorem pe_errV (T : ErC X.K C B nw bo) (FB : ExcBaseFacts Bn nw nwi bn) (u : PySem.Er.Above Bn bo) (iC : PySem.W.findIn X.K (.ref C) "__init__" = some (some (.ref fI)))
    (tI : PySem.W.typeIn X.K (.ref fI) = some (.type "function")) (F1 : FnG X.prog X.w X.K X.mg X.base k fI fd ["self", f] (spErr C f Ok)) (hr : Room (k + 1) X.A) (hgd : X.A.guards = some [])
    (hb : Binds X.K fd ["self", f] []) (hg : Gl X x) (hm : X.mg x = some (.ref C)) (ha : PA X [e] ta) (hdb : (x == ("__debug__" : Str)) = false := by decide)
    (hs : starEach (e :: []) X.env = (false, eval e X.env) :: starEach [] X.env := by rfl) (hpl : (backTo pos (starEach [] X.env)).any (·.1) = false := by rfl) :
    PE X (.Call (.Name x p) [e] [] pos) (tErV C f Ok ta) := by
  refine ⟨fun pins s σ H Q I h => ?_⟩
  refine wpAny_Call_Name_kw (ld_glob I hg hm ?_ hdb)
  refine PySem.W.callWith_K (h₀ := X.base) I.ok.mod.kin T.kC (thn (ha.run pos pins s σ H _ I h) fun us s1 ⟨vs, H1, I1, r1, y, ev, hOk, hq⟩ => ⟨I1.kIn, ?_⟩) hs hpl
  subst ev
  show wpAny _ _ (call (.ref C) us) _ _ _
  obtain ⟨nm, N, qn, bs, bm, hd, sn, sub, ab, cl, dd, k0, k1, k2, k3, k5, hC, hT⟩ := PySem.W.excInit_of I1.kIn T.isn
  have hus : us.length ≤ sizeLine := by
    rw [← Paired.length r1, sizeLine_eq]
    exact (by decide : 1 ≤ 16777216)
  obtain ⟨hp, gg, dr, tk, oo⟩ := s1
  have hsz : hp.objs.size ≤ hp.objs.size + 1 := Nat.le_succ _
  refine wpAny_call (PySem.Er.make_call FB (above_of u hT) hC (PySem.W.looks_findIn I1.kIn iC) (fun self => PySem.W.bind_fn I1.kIn self tI) hus
    (er_made (s1 := ⟨hp, gg, dr, tk, oo⟩) (A1 := X.A.under (.builtin "type.__call__" ⟨.ref C :: us, []⟩)) (us := Value.ref (hp.objs.size + 1) :: us) F1 (hr.make C us []) (typeCall_guards hgd) typeCall_frames I1 ?_ (.cons rfl r1) hOk fun s' H2 J hsame hn he => ⟨rfl, .ref (hp.objs.size + 1), H2, J, rfl, hq H2 _ hsame hn he⟩))
  · have KX : X.K.In ((hp.push (PySem.W.kdv_tup us)).push (HandSPX.excO C hp.objs.size)) := I1.kIn.keeps PySem.Er.kept2
    have z := hb ⟨(hp.push (PySem.W.kdv_tup us)).push (HandSPX.excO C hp.objs.size), gg, dr, tk, oo⟩ (Value.ref (hp.objs.size + 1) :: us) KX (by
      rw [List.append_nil, List.length_cons, ← Paired.length r1]
      rfl)
    rw [List.append_nil] at z
    exact z
/-- C(f=y) -/
theorem pe_errK {tk : TA} {kws : List Keyword} (T : ErC X.K C B nw bo) (FB : ExcBaseFacts Bn nw nwi bn) (u : PySem.Er.Above Bn bo) (iC : PySem.W.findIn X.K (.ref C) "__init__" = some (some (.ref fI)))
    (tI : PySem.W.typeIn X.K (.ref fI) = some (.type "function")) (F1 : FnG X.prog X.w X.K X.mg X.base k fI fd ["self", f] (spErr C f Ok)) (hr : Room (k + 1) X.A) (hgd : X.A.guards = some [])
    (hb : ∀ (s : Shared) (u v : Value), BindsTo s fd ⟨[u], [(f, v)]⟩ [("self", u), (f, v)]) (hg : Gl X x) (hm : X.mg x = some (.ref C)) (ha : PK X kws tk) (hdb : (x == ("__debug__" : Str)) = false := by decide)
    (hall : (backToKw pos (keywordEach kws X.env)).all (·.1.isSome) = true := by rfl) (hks : (backToKw pos (keywordEach kws X.env)).filterMap (·.1) = [f] := by rfl)
    (hpl : ((backTo pos (starEach [] X.env)).any (·.1) || (backToKw pos (keywordEach kws X.env)).any (·.1.isNone)) = false := by rfl) :
    PE X (.Call (.Name x p) [] kws pos) (tErV C f Ok tk) := by
  refine ⟨fun pins s σ H Q I h => ?_⟩
  refine wpAny_Call_Name_kw (ld_glob I hg hm ?_ hdb)
  refine PySem.W.callWith_KW0 (h₀ := X.base) I.ok.mod.kin T.kC hall (thn (ha.run pos pins s σ H _ I h) fun us s1 ⟨vs, H1, I1, r1, y, ev, hOk, hq⟩ => ⟨I1.kIn, ?_⟩) hpl
  subst ev
  rw [hks]
  cases r1 with
  | @cons _ u1 _ ur ry rn =>
  cases rn
  show wpAny _ _ (call (.ref C) [] [(f, u1)]) _ _ _
  obtain ⟨nm, N, qn, bs, bm, hd, sn, sub, ab, cl, dd, k0, k1, k2, k3, k5, hC, hT⟩ := PySem.W.excInit_of I1.kIn T.isn
  obtain ⟨hp, gg, dr, tk, oo⟩ := s1
  exact wpAny_call (PySem.Er.make_callK FB (above_of u hT) hC (PySem.W.looks_findIn I1.kIn iC) (fun self => PySem.W.bind_fn I1.kIn self tI)
    (er_made (s1 := ⟨hp, gg, dr, tk, oo⟩) (A1 := X.A.under (.builtin "type.__call__" ⟨[.ref C], [(f, u1)]⟩)) (us := [Value.ref (hp.objs.size + 1), u1]) F1 (hr.make C [] [(f, u1)]) (typeCall_guards hgd) typeCall_frames I1
      (hb _ _ _) (.cons rfl (.cons ry .nil)) hOk fun s' H2 J hsame hn he => ⟨rfl, .ref (hp.objs.size + 1), H2, J, rfl, hq H2 _ hsame hn he⟩))
/-! ### what is asked of an error -/
theorem err_inst {pins : List (Addr × Obj)} {σ : St} {H : Hp} {s : Shared} {a : Addr} {y : V} (I : Inv X pins σ H s) (h : ErrAt H a C f y) :
    ∃ ox od mA d, PySem.W.InstAt s.heap a ox C (some od) ∧ s.heap.Ns1 d mA ∧ s.heap.get? d = some od ∧ ∀ g, RelO ([(f, y)].lookup g) (mA g) := by
  obtain ⟨d, h1, h2⟩ := h
  obtain ⟨t1, ho⟩ := exo_at I.hok h1
  obtain ⟨mA, hns, rel⟩ := exd_at I.hok h2
  obtain ⟨od, es, ep, hod, hr⟩ := id hns
  exact ⟨_, od, mA, d, ⟨ho, rfl, rfl, hod⟩, hns, hod, rel⟩
/-- e.f -/
theorem pe_errF {o : Expr} {to : TE} {n : Str} (ho : PE X o to) (hb : attributeBase o n X.env (eval o X.env) = eval o X.env := by rfl) :
    PE X (.Attribute o n pos) (fun σ H Q => to σ H fun x H1 => ∃ (a C : Addr) (y : V) (B nw : String) (bo : List Value), x = .ref a ∧ ErrAt H1 a C n y ∧ ErC X.K C B nw bo ∧ PySem.W.findIn X.K (.ref C) n = some none ∧ Q y H1) := by
  refine ⟨fun pins s σ H Q I h => ?_⟩
  refine attr_of hb (thn (ho.run pins s σ H _ I h) fun u s1 ⟨x, H1, I1, rx, a, C, y, B, nw, bo, ex, he, T, hno, q⟩ => ?_)
  subst ex
  obtain rfl : u = Value.ref a := rx
  obtain ⟨d, h1, h2⟩ := he
  obtain ⟨t1, hoe⟩ := exo_at I1.hok h1
  obtain ⟨mA, hns, rel⟩ := exd_at I1.hok h2
  obtain ⟨od, hod, hl⟩ := lookIn_ns hns
  have r1 := rel n
  have lk : [(n, y)].lookup n = some y := by simp [List.lookup]
  rw [lk] at r1
  obtain ⟨u, hu, ru⟩ := RelO.some_of r1
  have J : PySem.W.InstAt s1.heap a { cls := .ref C, dict := some d, data := .fields #[.ref t1, .none, .none, .none, .bool false, .none] } C (some od) := ⟨hoe, rfl, rfl, hod⟩
  exact HandSPX.exc_get I1.kIn J T.ga T.gg T.exC (PySem.W.findObj_own T.hd hno rfl (by rw [hl, hu])) (handed_of ru) ⟨y, H1, I1.tok _, ru, q⟩
/-- isinstance(e, c) -/
def rIsErr (K : PySem.W.Frag) : List V → Hp → VK → Prop := fun xs H Q => ∃ (a C : Addr) (f : Str) (y c : V) (u : Value) (b : Bool) (B nw : String) (bo : List Value), xs = [.ref a, c] ∧ ErrAt H a C f y ∧ ErC K C B nw bo ∧
  ClsV c u ∧ PySem.W.kitOne K (.ref C) u = some b ∧ Q (.bl b) H
theorem call_isErr : CallR X (.builtin "isinstance") (rIsErr X.K) := by
  intro pins s σ H xs us Q I r h
  obtain ⟨a, C, f, y, c, u, b, B, nw, bo, rfl, he, T, k, e, q⟩ := h
  obtain ⟨u1, u2, rfl, r1, r2⟩ := vals2 r
  have e2 := k.eq r2
  subst e2
  obtain rfl : u1 = Value.ref a := r1
  obtain ⟨ox, od, mA, d, J, _⟩ := err_inst I he
  obtain ⟨cd, hcd, _⟩ := PySem.W.any_some T.hd
  exact PySem.W.kia_one (PySem.W.kitx_exc (gt := none) (ox := ox) (od := some od) (by rw [hcd]; rfl) T.ga T.gg T.exC T.ca T.cn T.ct T.mo) I.kIn J e (fun z => nomatch z) fun tk => ⟨.bl b, H, I.tok tk, rfl, q⟩
end
end L2

namespace L2
open PySem PySem.Spec PyProof.Rows
/-- {'a': 1}, the one dict that is shown here -/
abbrev oneKv : List (Key × V) := [(Sum.inr ("a" : Str), V.int 1)]
abbrev oneDict : PyData := .dict [(.str "a", .int 1)]
/-- v is the data d -/
inductive Dy (K : PySem.W.Frag) (H : Hp) : V → PyData → Prop where
  | plain {v : V} {d : PyData} (h : Dp K H v d) (n : d.hasDict = false) : Dy K H v d
  | dict {a : Addr} (e : H a = some (.dK oneKv)) : Dy K H (.ref a) oneDict
section
variable {X : Cx} {pins : List (Addr × Obj)} {σ : St} {H : Hp} {s : Shared}
theorem Dy.reads (I : Inv X pins σ H s) {v : V} {d : PyData} {u : Value} (h : Dy X.K H v d) (r : RelV v u) : ∃ as, Reads s.heap u d as ∧ (d.hasDict = true → sysModules ∉ as) := by
  cases h with
  | plain h n =>
    obtain ⟨as, q⟩ := Dp.reads I _ _ _ h r
    exact ⟨as, q, fun z => by rw [n] at z; cases z⟩
  | @dict a e =>
    obtain rfl : u = Value.ref a := r
    obtain ⟨_, hm, vs, kv, o, es, ep, ho, ex, hd, _, pr, _⟩ := (show ObjOk X.prog X.w H s.heap a (.dK oneKv) from I.hok a _ e)
    cases kv with
    | @cons _ q _ _ h1 h2 =>
      cases h2
      obtain ⟨k, w⟩ := q
      obtain ⟨e1, t, e2⟩ := h1
      dsimp only at e1 e2
      subst e1 e2
      obtain ⟨es⟩ := es
      dsimp only at pr
      cases pr with
      | @cons en _ _ _ p1 p2 p3 =>
        cases p3
        dsimp only at p1 p2
        obtain ⟨x, tk, e3, e4⟩ : ∃ (x : Str) (tk : Tok), en.key = .str x tk ∧ x = "a" := by
          have p1' : keyIs (Sum.inr ("a" : Str)) en.key = true := p1
          rcases keyIs_shape p1' with ⟨i, t', q1, q2⟩ | ⟨x, t', q1, q2⟩
          · cases q1
          · exact ⟨x, t', q2, (Sum.inr.inj q1).symm⟩
        subst e4
        refine ⟨_, Reads.dict (kvs := [(.str "a", .int 1)]) ho ex.1 hd (as := []) (bs := []) ?_ ?_, fun _ => ?_⟩
        · show ReadsAll _ [en.key] [.str "a"] []
          rw [e3]
          exact .cons (.str _ _) .nil
        · show ReadsAll _ [en.val] [.int 1] []
          rw [p2]
          exact .cons (.int _ _) .nil
        · have na : a ≠ sysModules := by simpa using hm
          simp [Ne.symm na]
theorem Dy.readsAll (I : Inv X pins σ H s) {v : V} {d : PyData} (h : Dy X.K H v d) : ∀ (n : Nat) (us : List Value), Vals (List.replicate n v) us → ∃ as, ReadsAll s.heap us (List.replicate n d) as ∧ (d.hasDict = true → sysModules ∉ as)
  | 0, _, r => by
    cases r
    exact ⟨[], .nil, fun _ => by simp⟩
  | n + 1, _, r => by
    cases r with
    | cons r1 r2 =>
      obtain ⟨as, q1, q2⟩ := Dy.reads I h r1
      obtain ⟨bs, q3, q4⟩ := Dy.readsAll I h n _ r2
      exact ⟨as ++ bs, .cons q1 q3, fun z w => (List.mem_append.mp w).elim (q2 z) (q4 z)⟩
end
/-- what can be shown, shortly -/
structure Short (d : PyData) : Prop where
  sh : d.showable = true
  ln : d.shown.length ≤ 100
  dp : d.depth ≤ 10
  st : ∀ x, d = .str x → x.length ≤ 100
section
variable {X : Cx} {e : Expr} {te : TE} {pos : Pos} {k : Nat}
/-- {x}: some short text -/
theorem pe_fmtD (hr : Room k X.A) (hgd : X.A.guards = some []) (he : PE X e te) : PE X (.FormattedValue e (-1) none pos)
    (fun σ H Q => te σ H fun x H1 => ∃ d, Dy X.K H1 x d ∧ Short d ∧ ∀ m : Str, m.length ≤ 100 → Q (.str m) H1) := by
  refine ⟨fun pins s σ H Q I h => ?_⟩
  refine wpAny_FormattedValue_plain (thn (he.run pins s σ H _ I h) fun v s1 ⟨x, H1, I1, r1, d, hd, sh, q⟩ => ?_)
  have hun := hr.units
  obtain ⟨as, rd, hsm⟩ := Dy.reads I1 hd r1
  have hz : d.shown.length ≤ sizeLine := Nat.le_trans sh.ln (by rw [sizeLine_eq]; decide)
  have fin : ∀ {a : Addr}, v = .ref a → wpAny (model X.prog X.w) X.A (formatField v Str.empty) (EP X pins σ Q) X.xe s1 := fun {a} ev => by
    subst ev
    exact formatField_of_reads rd sh.sh hsm hgd (by have := sh.dp; omega) (fun _ _ z => z) (fun h' u tk hk => ⟨.str d.shown, H1, I1.kept hk, ⟨u, rfl⟩, q _ sh.ln⟩) hz
  cases rd with
  | none => exact wpAny_formatField_none ⟨.str "None", H1, I1.tok _, ⟨_, rfl⟩, q _ sh.ln⟩
  | bool b => exact wpAny_formatField_bool ⟨.str (if b then "True" else "False"), H1, I1.tok _, ⟨_, rfl⟩, q _ sh.ln⟩
  | int i t =>
    have hi : i.natAbs.log2 < 1920 := by
      have z := sh.sh
      simpa [PyData.showable] using z
    exact wpAny_formatField_int hi ⟨.str (toString i), H1, I1.tok _, ⟨_, rfl⟩, q _ sh.ln⟩
  | str x t =>
    have hx := sh.st x rfl
    exact wpAny_formatField_str ⟨.str x, H1, I1, ⟨_, rfl⟩, q _ hx⟩ ⟨.str x, H1, I1.tok _, ⟨_, rfl⟩, q _ hx⟩ (Nat.le_trans hx (by rw [sizeLine_eq]; decide))
  | list => exact fin rfl
  | tuple => exact fin rfl
  | dict => exact fin rfl
theorem dictAll_rep {d : PyData} : ∀ n : Nat, PyData.hasDictAll (List.replicate n d) = true → d.hasDict = true
  | 0, z => by cases z
  | n + 1, z => by
    have z3 : (d.hasDict || PyData.hasDictAll (List.replicate n d)) = true := z
    cases hh : d.hasDict with
    | true => rfl
    | false =>
      rw [hh, Bool.false_or] at z3
      exact hh.symm.trans (dictAll_rep n z3)
/-- repr([v] * n) -/
def rRepr (K : PySem.W.Frag) : List V → Hp → VK → Prop := fun xs H Q => ∃ (l : Addr) (n : Nat) (v : V) (d : PyData), xs = [.ref l] ∧ H l = some (.lst (List.replicate n v)) ∧ Dy K H v d ∧
  (PyData.list (List.replicate n d)).showable = true ∧ (PyData.list (List.replicate n d)).shown.length ≤ 10000 ∧ (PyData.list (List.replicate n d)).depth ≤ 20 ∧
  Q (.str (PyData.list (List.replicate n d)).shown) H
theorem call_reprL (hr : Room k X.A) (hgd : X.A.guards = some []) (hS : ∃ o, X.base.get? sysModules = some o) : CallR X (.builtin "repr") (rRepr X.K) := by
  intro pins s σ H xs us Q I r h
  obtain ⟨l, n, v, d, rfl, hl, hd, h1, h2, h3, q⟩ := h
  cases r with
  | @cons _ u _ ur ru rn =>
  cases rn
  obtain rfl : u = Value.ref l := ru
  obtain ⟨_, its, m, rv, hget⟩ := (show ObjOk X.prog X.w H s.heap l (.lst (List.replicate n v)) from I.hok l _ hl)
  obtain ⟨as, ra, hsm⟩ := Dy.readsAll I hd n its rv
  have hun := hr.units
  have nl : l ≠ sysModules := fun z => by
    obtain ⟨o, ho⟩ := hS
    have w := (I.bs _ _ ho).2
    rw [← z, hl] at w
    cases w
  have rd : Reads s.heap (.ref l) (.list (List.replicate n d)) (l :: as) := Reads.list hget rfl rfl ra
  refine repr_of_reads' rd h1 (fun z w => ?_) hgd (by omega) (fun _ _ z => z) (fun h' u tk hk => ⟨.str _, H, I.kept hk, ⟨u, rfl⟩, q⟩) (Nat.le_trans h2 (by rw [sizeLine_eq]; decide))
  rcases List.mem_cons.mp w with w | w
  · exact nl w.symm
  · exact hsm (dictAll_rep n z) w
end
end L2

namespace L2
open PySem PySem.Spec PyProof.Rows
section
variable {X : Cx} {e : Expr} {te : TE} {pos : Pos}
/-- {x}: None, a text or an int, as a text -/
def tFmtO (te : TE) : TE := fun σ H Q => te σ H fun x H1 => (x = .non ∧ Q (.str "None") H1) ∨ (∃ y : Str, x = .str y ∧ y.length ≤ sizeLine ∧ Q (.str y) H1) ∨ ∃ i : Int, x = .int i ∧ i.natAbs.log2 < 1920 ∧ Q (.str (toString i)) H1
theorem pe_fmtO (he : PE X e te) : PE X (.FormattedValue e (-1) none pos) (tFmtO te) := by
  refine ⟨fun pins s σ H Q I h => ?_⟩
  refine wpAny_FormattedValue_plain (thn (he.run pins s σ H _ I h) fun v s1 hv => ?_)
  obtain ⟨x, H1, I1, r1, q⟩ := hv
  rcases q with ⟨rfl, q⟩ | ⟨y, rfl, hz, q⟩ | ⟨i, rfl, hz, q⟩
  · cases (show v = Value.none from r1)
    exact wpAny_formatField_none ⟨.str "None", H1, I1.tok _, ⟨_, rfl⟩, q⟩
  · obtain ⟨t, rfl⟩ := r1
    exact wpAny_formatField_str ⟨.str y, H1, I1, ⟨t, rfl⟩, q⟩ ⟨.str y, H1, I1.tok _, ⟨_, rfl⟩, q⟩ hz
  · obtain ⟨t, rfl⟩ := r1
    exact wpAny_formatField_int hz ⟨.str (toString i), H1, I1.tok _, ⟨_, rfl⟩, q⟩
end
/-- raise C(y): the reading of the making -/
def tErM (C : Addr) (f : Str) (Ok : V → Hp → Prop) (ta : TA) : St → Hp → XK → Prop := fun σ H Q => ta σ H fun vs H1 => ∃ y, vs = [y] ∧ (∀ a, H1 a = none → Ok y (upd H1 a (exo a C none))) ∧
  ∀ d, H1 d = none → Q (.ref C) (some d) (upd H1 d (.xd [(f, y)]))
section
variable {X : Cx} {k : Nat} {fI C : Addr} {fd : FuncData} {ps : List Str} {f x : Str} {p pos : Pos} {e : Expr} {ta : TA} {B nw Bn nwi : String} {bo bn : List Value} {Ok : V → Hp → Prop}
theorem pmk_err (T : ErC X.K C B nw bo) (tyC : PySem.W.typeIn X.K (.ref C) = some (.type "type")) (FB : ExcBaseFacts Bn nw nwi bn) (u : PySem.Er.Above Bn bo) (iC : PySem.W.findIn X.K (.ref C) "__init__" = some (some (.ref fI)))
    (tI : PySem.W.typeIn X.K (.ref fI) = some (.type "function")) (F1 : FnOk X.prog X.w X.K X.mg X.base CX0 k fI fd ["self", f] (spErr C f Ok)) (hr : Room (k + 1) X.A)
    (hb : Binds X.K fd ["self", f] []) (hg : Gl X x) (hm : X.mg x = some (.ref C)) (ha : PA X [e] ta) (hdb : (x == ("__debug__" : Str)) = false := by decide)
    (hs : starEach (e :: []) X.env = (false, eval e X.env) :: starEach [] X.env := by rfl) (hpl : (backTo pos (starEach [] X.env)).any (·.1) = false := by rfl) :
    PMk X (.Call (.Name x p) [e] [] pos) (tErM C f Ok ta) := by
  intro pins s σ H Q I h
  refine wpAny_Call_Name_kw (ld_glob I hg hm ?_ hdb)
  refine PySem.W.callWith_K (h₀ := X.base) I.ok.mod.kin T.kC (thn (ha.run pos pins s σ H _ I h) fun us s1 ⟨vs, H1, I1, r1, y, ev, hOk, q1⟩ => ⟨I1.kIn, ?_⟩) hs hpl
  subst ev
  show wpAny _ _ (call (.ref C) us) _ _ _
  obtain ⟨nm, N, qn, bs, bm, hd, sn, sub, ab, cl, dd, k0, k1, k2, k3, k5, hC, hT⟩ := PySem.W.excInit_of I1.kIn T.isn
  have hus : us.length ≤ sizeLine := by
    rw [← Paired.length r1, sizeLine_eq]
    exact (by decide : 1 ≤ 16777216)
  obtain ⟨hp, g, dr, tk, os⟩ := s1
  have hsz : hp.objs.size ≤ hp.objs.size + 1 := Nat.le_succ _
  have hn : H1 (hp.objs.size + 1) = none := I1.hok.fresh hsz
  have kk : ∀ b o, hp.get? b = some o → ((hp.push (PySem.W.kdv_tup us)).push (PySem.HandSPX.excO C hp.objs.size)).get? b = some o := fun b o e => Heap.get?_push_of_some _ (Heap.get?_push_of_some _ e)
  have hget : ((hp.push (PySem.W.kdv_tup us)).push (PySem.HandSPX.excO C hp.objs.size)).get? (hp.objs.size + 1) = some (PySem.HandSPX.excO C hp.objs.size) := by
    have z := Heap.get?_push_size (hp.push (PySem.W.kdv_tup us)) (o := HandSPX.excO C hp.objs.size) rfl
    rw [Heap.size_push] at z
    exact z
  have I2 : Inv X pins σ (upd H1 (hp.objs.size + 1) (exo (hp.objs.size + 1) C none)) ⟨(hp.push (PySem.W.kdv_tup us)).push (PySem.HandSPX.excO C hp.objs.size), g, dr, tk, os⟩ :=
    I1.laid (t' := tk) (a := hp.objs.size + 1) (o := exo (hp.objs.size + 1) C none) (h' := (hp.push (PySem.W.kdv_tup us)).push (PySem.HandSPX.excO C hp.objs.size)) kk hsz (exo_ok hget)
  have hl : (Value.ref (hp.objs.size + 1) :: us ++ []).length = (["self", f] : List Str).length := by
    rw [List.append_nil, List.length_cons, ← Paired.length r1]
    rfl
  have hb' := hb ⟨(hp.push (PySem.W.kdv_tup us)).push (HandSPX.excO C hp.objs.size), g, dr, tk, os⟩ (Value.ref (hp.objs.size + 1) :: us) I2.kIn hl
  rw [List.append_nil] at hb'
  refine wpAny_call (PySem.Er.make_call FB (above_of u hT) hC (PySem.W.looks_findIn I1.kIn iC) (fun self => PySem.W.bind_fn I1.kIn self tI) hus
    (codeAny_mono (F1.run _ X.stack _ _ ⟨Value.ref (hp.objs.size + 1) :: us, []⟩ (Value.ref (hp.objs.size + 1) :: us) [V.ref (hp.objs.size + 1), y]
      (fun v H2 => v = .non ∧ ∃ d, H1 d = none ∧ d ≠ hp.objs.size + 1 ∧ H2 = upd (upd (upd H1 (hp.objs.size + 1) (exo (hp.objs.size + 1) C none)) d (exd d [(f, y)])) (hp.objs.size + 1) (exo (hp.objs.size + 1) C (some d))) E0
      (hr.make C us []) (I2.env0.make C us []) hb' (.cons rfl r1)
      ⟨hp.objs.size + 1, y, rfl, upd_same, hOk _ hn, fun d hd nd => ⟨rfl, d, by rw [upd_ne nd] at hd; exact hd, nd, rfl⟩⟩) fun r s' hq' => ?_))
  cases r with
  | error er => exact False.elim hq'
  | ok fl =>
    cases fl with
    | ret u =>
      obtain ⟨v, H2, os2, bare2, un2, hok2, rv, ev, d, hd1, nd, eH⟩ := hq'
      subst ev
      obtain ⟨h2, g2, d2, t2, os'⟩ := s'
      have ea : H2 (hp.objs.size + 1) = some (exo (hp.objs.size + 1) C (some d)) := by rw [eH, upd_same]
      have ed : H2 d = some (exd d [(f, y)]) := by rw [eH, upd_ne nd, upd_same]
      have eq : upd (del H2 (hp.objs.size + 1)) d (.xd [(f, y)]) = upd H1 d (.xd [(f, y)]) := by
        funext b
        by_cases hb : b = d
        · rw [hb, upd_same, upd_same]
        · rw [upd_ne hb, upd_ne hb]
          by_cases ha : b = hp.objs.size + 1
          · rw [ha, del_same, hn]
          · rw [del_ne ha, eH, upd_ne ha, upd_ne hb, upd_ne ha]
      exact ⟨rv, mk_end (raises_own T.exC tyC) I1 hsz kk un2 hok2 os2 bare2 ea ed hd1 (by rw [eq]; exact q1 d hd1)⟩
    | next => exact False.elim hq'
    | brk => exact False.elim hq'
    | cont => exact False.elim hq'
end
end L2

namespace Lg
open PySem PySem.Spec PyProof.Rows L2
inductive Op where
  | plus | minus | times | less | same
deriving DecidableEq
def Op.sign : Op → List Nat
  | .plus => [32, 43, 32]
  | .minus => [32, 45, 32]
  | .times => [32, 42, 32]
  | .less => [32, 60, 32]
  | .same => [32, 61, 61, 32]
def Op.str : Op → Nat
  | .plus => 2
  | .minus => 2
  | .times => 3
  | .less => 1
  | .same => 1
def Op.name : Op → Str
  | .plus => "plus"
  | .minus => "minus"
  | .times => "times"
  | .less => "less"
  | .same => "same"
theorem Op.str_pos (o : Op) : 1 ≤ o.str := by cases o <;> decide
theorem Op.str_le (o : Op) : o.str ≤ 3 := by cases o <;> decide
inductive E where
  | word (z : List Nat)
  | num (n : Nat)
  | ask (q z : List Nat)
  | op (o : Op) (a b : E)
/-- the code points of str(n) -/
def ntx (n : Nat) : List Nat := (Str.ofString (toString (n : Int))).cps.toList
def Dig (c : Nat) : Prop := 48 ≤ c ∧ c ≤ 57
def Let (c : Nat) : Prop := 97 ≤ c ∧ c ≤ 122
instance : DecidablePred Dig := fun c => by unfold Dig; exact inferInstance
instance : DecidablePred Let := fun c => by unfold Let; exact inferInstance
structure WordOk (z : List Nat) : Prop where
  ne : z ≠ []
  len : z.length ≤ 8
  all : ∀ c ∈ z, Let c
structure NumOk (n : Nat) : Prop where
  lt : n < 1000000007
  ne : ntx n ≠ []
  len : (ntx n).length ≤ 10
  all : ∀ c ∈ ntx n, Dig c
  lead : (ntx n)[0]? = some 48 → (ntx n).length ≤ 1
  int : intText? ⟨(ntx n).toArray⟩ = some (n : Int)
/-- the code points of a word -/
def wd (s : String) : List Nat := (Str.ofString s).cps.toList
def Ques (q : List Nat) : Prop := q = wd "known" ∨ q = wd "reason"
def E.Ok : E → Prop
  | .word z => WordOk z
  | .num n => NumOk n
  | .ask q z => Ques q ∧ WordOk z
  | .op _ a b => a.Ok ∧ b.Ok
def E.dep : E → Nat
  | .op _ a b => max a.dep b.dep + 1
  | _ => 1
def E.str : E → Nat
  | .op o _ _ => o.str
  | _ => 4
theorem E.dep_pos (e : E) : 1 ≤ e.dep := by cases e <;> simp [E.dep]
theorem E.str_pos (e : E) : 1 ≤ e.str := by
  cases e with
  | op o a b => exact o.str_pos
  | _ => show 1 ≤ 4; decide
def signAt (l : List Nat) : Option Op :=
  if [32, 43, 32].isPrefixOf l then some .plus else if [32, 45, 32].isPrefixOf l then some .minus else if [32, 42, 32].isPrefixOf l then some .times
  else if [32, 60, 32].isPrefixOf l then some .less else if [32, 61, 61, 32].isPrefixOf l then some .same else none
def NoHead (P : Nat → Prop) (l : List Nat) : Prop := ∀ c r, l = c :: r → ¬ P c
def Bef (l : List Nat) : Prop := ∃ c r, l = 32 :: c :: r ∧ Let c
inductive J where
  | opd
  | ops (least : Nat)
  | loop (least : Nat) (e : E) (d : Nat)
inductive Rd : Nat → Nat → J → List Nat → E → Nat → List Nat → Prop where
  | par {h ar l e d l'} : ar < 20 → Rd h (ar + 1) (.ops 1) l e d (41 :: l') → Rd (h + 1) ar .opd (40 :: l) e d l'
  | num {h ar n l'} : NumOk n → NoHead Dig l' → Rd h ar .opd (ntx n ++ l') (.num n) 1 l'
  | word {h ar z l'} : WordOk z → NoHead Let l' → ¬ (Ques z ∧ Bef l') → Rd h ar .opd (z ++ l') (.word z) 1 l'
  | ask {h ar q z l'} : Ques q → WordOk z → NoHead Let l' → Rd h ar .opd (q ++ 32 :: (z ++ l')) (.ask q z) 1 l'
  | ops {h ar least l e0 d0 l1 e d l'} : Rd h ar .opd l e0 d0 l1 → Rd h ar (.loop least e0 d0) l1 e d l' → Rd (h + 1) ar (.ops least) l e d l'
  | stop {h ar least e d l} : (∀ o, signAt l = some o → o.str < least) → Rd h ar (.loop least e d) l e d l
  | step {h ar least e d o l1 e2 d2 l2 e' d' l'} : signAt (o.sign ++ l1) = some o → least ≤ o.str → Rd h ar (.ops (o.str + 1)) l1 e2 d2 l2 → max d d2 + 1 ≤ 6 →
      Rd h ar (.loop least (.op o e e2) (max d d2 + 1)) l2 e' d' l' → Rd h ar (.loop least e d) (o.sign ++ l1) e' d' l'
theorem Rd.mono {h ar j l e d l'} (r : Rd h ar j l e d l') : ∀ {h2}, h ≤ h2 → Rd h2 ar j l e d l' := by
  induction r with
  | par a _ ih => intro h2 z; obtain ⟨m, rfl⟩ : ∃ m, h2 = m + 1 := ⟨h2 - 1, by omega⟩; exact .par a (ih (by omega))
  | num a b => intro h2 z; exact .num a b
  | word a b c => intro h2 z; exact .word a b c
  | ask a b c => intro h2 z; exact .ask a b c
  | ops _ _ i1 i2 => intro h2 z; obtain ⟨m, rfl⟩ : ∃ m, h2 = m + 1 := ⟨h2 - 1, by omega⟩; exact .ops (i1 (by omega)) (i2 (by omega))
  | stop a => intro h2 z; exact .stop a
  | step a b _ c _ i1 i2 => intro h2 z; exact .step a b (i1 z) c (i2 z)
/-! ### what stands behind is left -/
theorem split_one {P : Nat → Prop} : ∀ {a b r s : List Nat}, (∀ c ∈ a, P c) → (∀ c ∈ b, P c) → NoHead P r → NoHead P s → a ++ r = b ++ s → a = b ∧ r = s
  | [], [], _, _, _, _, _, _, e => ⟨rfl, e⟩
  | [], c :: b, r, s, _, hb, hr, _, e => absurd (hb c (by simp)) (hr c _ (by simpa using e))
  | c :: a, [], r, s, ha, _, _, hs, e => absurd (ha c (by simp)) (hs c _ (by simpa using e.symm))
  | c :: a, c2 :: b, r, s, ha, hb, hr, hs, e => by
    have e' : c :: (a ++ r) = c2 :: (b ++ s) := e
    injection e' with e1 e2
    obtain ⟨x, y⟩ := split_one (fun q hq => ha q (by simp [hq])) (fun q hq => hb q (by simp [hq])) hr hs e2
    exact ⟨by rw [e1, x], y⟩
theorem WordOk.head {z : List Nat} (w : WordOk z) : ∃ c r, z = c :: r ∧ Let c := by
  cases z with
  | nil => exact absurd rfl w.ne
  | cons c r => exact ⟨c, r, rfl, w.all c (by simp)⟩
theorem Ques.word {q : List Nat} (h : Ques q) : WordOk q := by
  rcases h with rfl | rfl
  · exact ⟨by decide +kernel, by decide +kernel, by decide +kernel⟩
  · exact ⟨by decide +kernel, by decide +kernel, by decide +kernel⟩
theorem NumOk.head {n : Nat} (w : NumOk n) : ∃ c r, ntx n = c :: r ∧ Dig c := by
  cases z : ntx n with
  | nil => exact absurd z w.ne
  | cons c r => exact ⟨c, r, rfl, w.all c (by rw [z]; simp)⟩
theorem let_dig {c : Nat} (h : Let c) (g : Dig c) : False := by
  obtain ⟨a, b⟩ := h
  obtain ⟨x, y⟩ := g
  omega
theorem let_open {c : Nat} (h : Let c) : c ≠ 40 := by
  obtain ⟨a, b⟩ := h
  omega
theorem dig_open {c : Nat} (h : Dig c) : c ≠ 40 := by
  obtain ⟨a, b⟩ := h
  omega
theorem nohead32 (r : List Nat) : NoHead Let (32 :: r) := fun c r' e => by
  injection e with e1 _
  rw [← e1]
  decide
theorem ntx_inj {n m : Nat} (hn : NumOk n) (hm : NumOk m) (e : ntx n = ntx m) : n = m := by
  have a := hn.int
  rw [e, hm.int] at a
  have b := Option.some.inj a
  omega
theorem det {h ar j l e d l'} (r : Rd h ar j l e d l') : ∀ {h2 e2 d2 l2}, Rd h2 ar j l e2 d2 l2 → e = e2 ∧ d = d2 ∧ l' = l2 := by
  induction r with
  | @par h ar l e d l' a _ ih =>
    intro h2 e2 d2 l2 r2
    generalize hl : 40 :: l = L at r2
    cases r2 with
    | par _ q =>
      injection hl with _ hl
      subst hl
      obtain ⟨x, y, z⟩ := ih q
      injection z with _ z
      exact ⟨x, y, z⟩
    | num w _ =>
      obtain ⟨c, r, e1, hc⟩ := w.head
      rw [e1] at hl
      injection hl with q _
      exact absurd q.symm (dig_open hc)
    | word w _ _ =>
      obtain ⟨c, r, e1, hc⟩ := w.head
      rw [e1] at hl
      injection hl with q _
      exact absurd q.symm (let_open hc)
    | ask w _ _ =>
      obtain ⟨c, r, e1, hc⟩ := w.word.head
      rw [e1] at hl
      injection hl with q _
      exact absurd q.symm (let_open hc)
  | @num h ar n l' hn hl' =>
    intro h2 e2 d2 l2 r2
    generalize hl : ntx n ++ l' = L at r2
    obtain ⟨c0, r0, en, hc0⟩ := hn.head
    cases r2 with
    | par _ q =>
      rw [en] at hl
      injection hl with q _
      exact absurd q (dig_open hc0)
    | num w k =>
      obtain ⟨x, y⟩ := split_one hn.all w.all hl' k hl
      exact ⟨by rw [ntx_inj hn w x], rfl, y⟩
    | word w _ _ =>
      obtain ⟨c, r, e1, hc⟩ := w.head
      rw [e1, en] at hl
      injection hl with q _
      exact (let_dig hc (q ▸ hc0)).elim
    | ask w _ _ =>
      obtain ⟨c, r, e1, hc⟩ := w.word.head
      rw [e1, en] at hl
      injection hl with q _
      exact (let_dig hc (q ▸ hc0)).elim
  | @word h ar z l' hn hl' nq =>
    intro h2 e2 d2 l2 r2
    generalize hl : z ++ l' = L at r2
    obtain ⟨c0, r0, en, hc0⟩ := hn.head
    cases r2 with
    | par _ q =>
      rw [en] at hl
      injection hl with q _
      exact absurd q (let_open hc0)
    | num w k =>
      obtain ⟨c, r, e1, hc⟩ := w.head
      rw [e1, en] at hl
      injection hl with q _
      exact (let_dig hc0 (q.symm ▸ hc)).elim
    | word w k _ =>
      obtain ⟨x, y⟩ := split_one hn.all w.all hl' k hl
      exact ⟨by rw [x], rfl, y⟩
    | ask w u k =>
      obtain ⟨x, y⟩ := split_one hn.all w.word.all hl' (nohead32 _) hl
      obtain ⟨c, r, e1, hc⟩ := u.head
      exact absurd ⟨x ▸ w, c, r ++ l2, by rw [y, e1]; rfl, hc⟩ nq
  | @ask h ar q z l' hq hz hl' =>
    intro h2 e2 d2 l2 r2
    generalize hl : q ++ 32 :: (z ++ l') = L at r2
    obtain ⟨c0, r0, en, hc0⟩ := hq.word.head
    cases r2 with
    | par _ q =>
      rw [en] at hl
      injection hl with q _
      exact absurd q (let_open hc0)
    | num w k =>
      obtain ⟨c, r, e1, hc⟩ := w.head
      rw [e1, en] at hl
      injection hl with q _
      exact (let_dig hc0 (q.symm ▸ hc)).elim
    | word w k nq =>
      obtain ⟨x, y⟩ := split_one hq.word.all w.all (nohead32 _) k hl
      obtain ⟨c, r, e1, hc⟩ := hz.head
      exact absurd ⟨x ▸ hq, c, r ++ l', by rw [← y, e1]; rfl, hc⟩ nq
    | ask w u k =>
      obtain ⟨x, y⟩ := split_one hq.word.all w.word.all (nohead32 _) (nohead32 _) hl
      injection y with _ y
      obtain ⟨y1, y2⟩ := split_one hz.all u.all hl' k y
      exact ⟨by rw [x, y1], rfl, y2⟩
  | ops _ _ i1 i2 =>
    intro h2 e2 d2 l2 r2
    cases r2 with
    | ops p q =>
      obtain ⟨x, y, z⟩ := i1 p
      subst x y z
      exact i2 q
  | @stop h ar least e d l a =>
    intro h2 e2 d2 l2 r2
    cases r2 with
    | stop _ => exact ⟨rfl, rfl, rfl⟩
    | step s k _ _ _ => exact absurd k (Nat.not_le.mpr (a _ s))
  | @step h ar least e d o l1 e2 d2 l2 e' d' l' s k _ _ _ i1 i2 =>
    intro h2 e2 d2 l2 r2
    generalize hl : o.sign ++ l1 = L at r2
    cases r2 with
    | stop a => exact absurd k (Nat.not_le.mpr (a _ (hl ▸ s)))
    | @step _ _ _ _ _ o2 l12 _ _ _ _ _ _ s2 k2 p m q =>
      have eo : o = o2 := by
        rw [← hl, s] at s2
        exact Option.some.inj s2
      subst eo
      have el := List.append_cancel_left hl
      subst el
      obtain ⟨x, y, z⟩ := i1 p
      subst x y z
      exact i2 q
end Lg

namespace Lg
open PySem PySem.Spec PyProof.Rows L2
def paren (s : List Nat) : List Nat := 40 :: (s ++ [41])
inductive Shw : E → List Nat → Prop where
  | word {z} : Shw (.word z) z
  | num {n} : Shw (.num n) (ntx n)
  | ask {q z} : Shw (.ask q z) (q ++ 32 :: z)
  | op {o a b sa sb xa xb} : Shw a sa → Shw b sb → (xa = paren sa ∨ (xa = sa ∧ o.str ≤ a.str)) → (xb = paren sb ∨ (xb = sb ∧ o.str < b.str)) → Shw (.op o a b) (xa ++ o.sign ++ xb)
def fmt : E → List Nat
  | .word z => z
  | .num n => ntx n
  | .ask q z => q ++ 32 :: z
  | .op o a b => (if a.str < o.str then paren (fmt a) else fmt a) ++ o.sign ++ (if b.str < o.str + 1 then paren (fmt b) else fmt b)
theorem shw_fmt : ∀ e : E, Shw e (fmt e)
  | .word _ => .word
  | .num _ => .num
  | .ask _ _ => .ask
  | .op o a b => by
    refine .op (shw_fmt a) (shw_fmt b) ?_ ?_
    · by_cases c : a.str < o.str
      · rw [if_pos c]; exact .inl rfl
      · rw [if_neg c]; exact .inr ⟨rfl, by omega⟩
    · by_cases c : b.str < o.str + 1
      · rw [if_pos c]; exact .inl rfl
      · rw [if_neg c]; exact .inr ⟨rfl, by omega⟩
/-- what may stand behind an expression so strong -/
def Fol (k : Nat) (r : List Nat) : Prop := r = [] ∨ (∃ r', r = 41 :: r') ∨ ∃ (o : Op) (r' : List Nat), r = o.sign ++ r' ∧ o.str ≤ k
theorem Fol.let {k : Nat} {r : List Nat} (f : Fol k r) : NoHead Let r := by
  intro c x e
  rcases f with rfl | ⟨r', rfl⟩ | ⟨o, r', rfl, _⟩
  · cases e
  · injection e with e _; rw [← e]; decide
  · cases o <;> (injection e with e _; rw [← e]; decide)
theorem Fol.dig {k : Nat} {r : List Nat} (f : Fol k r) : NoHead Dig r := by
  intro c x e
  rcases f with rfl | ⟨r', rfl⟩ | ⟨o, r', rfl, _⟩
  · cases e
  · injection e with e _; rw [← e]; decide
  · cases o <;> (injection e with e _; rw [← e]; decide)
theorem Fol.bef {k : Nat} {r : List Nat} (f : Fol k r) : ¬ Bef r := by
  rintro ⟨c, x, e, hc⟩
  rcases f with rfl | ⟨r', rfl⟩ | ⟨o, r', rfl, _⟩
  · cases e
  · injection e with e _; cases e
  · cases o <;> (injection e with _ e; injection e with e _; rw [← e] at hc; revert hc; decide)
theorem signAt_sign (o : Op) (r : List Nat) : signAt (o.sign ++ r) = some o := by
  cases o <;> rfl
theorem signAt_shut (r : List Nat) : signAt (41 :: r) = none := rfl
theorem Fol.stop {k : Nat} {r : List Nat} (f : Fol k r) : ∀ o, signAt r = some o → o.str < k + 1 := by
  intro o e
  rcases f with rfl | ⟨r', rfl⟩ | ⟨o2, r', rfl, h⟩
  · cases e
  · cases e
  · rw [signAt_sign] at e
    cases e
    omega
theorem Fol.up {k m : Nat} {r : List Nat} (f : Fol k r) (h : k ≤ m) : Fol m r := by
  rcases f with a | a | ⟨o, r', e, q⟩
  · exact .inl a
  · exact .inr (.inl a)
  · exact .inr (.inr ⟨o, r', e, by omega⟩)
theorem fol_shut {k : Nat} {r : List Nat} : Fol k (41 :: r) := .inr (.inl ⟨r, rfl⟩)
/-- a reading of the text of e, and of what comes behind it -/
theorem reads {e : E} {s : List Nat} (S : Shw e s) : e.Ok → e.dep ≤ 6 → ∀ {least h ar r e' d' l'}, least ≤ e.str → 3 * e.dep ≤ h → ar + e.dep ≤ 20 → Fol e.str r →
    Rd h ar (.loop least e e.dep) r e' d' l' → Rd (h + 1) ar (.ops least) (s ++ r) e' d' l' := by
  induction S with
  | word => intro ok _ least h ar r e' d' l' _ _ _ f k; exact .ops (.word ok f.let fun z => f.bef z.2) k
  | num => intro ok _ least h ar r e' d' l' _ _ _ f k; exact .ops (.num ok f.dig) k
  | ask =>
    intro ok _ least h ar r e' d' l' _ _ _ f k
    have q := Rd.ask (h := h) (ar := ar) ok.1 ok.2 f.let
    rw [List.append_assoc]
    exact .ops q k
  | @op o a b sa sb xa xb SA SB ha hb ia ib =>
    intro ok dp least h ar r e' d' l' hl hh har f k
    have dm : (E.op o a b).dep = max a.dep b.dep + 1 := rfl
    have d1 : a.dep ≤ max a.dep b.dep := Nat.le_max_left _ _
    have d2 : b.dep ≤ max a.dep b.dep := Nat.le_max_right _ _
    have p1 := a.dep_pos
    have p2 := b.dep_pos
    have hl' : least ≤ o.str := hl
    rw [dm] at dp hh har
    -- the second part
    have second : Rd h ar (.ops (o.str + 1)) (xb ++ r) b b.dep r := by
      obtain ⟨g, rfl⟩ : ∃ g, h = g + 1 := ⟨h - 1, by omega⟩
      rcases hb with rfl | ⟨rfl, hb⟩
      · have f' : Fol 0 (41 :: r) := fol_shut
        obtain ⟨g2, rfl⟩ : ∃ g2, g = g2 + 2 := ⟨g - 2, by omega⟩
        have inn : Rd (g2 + 1) (ar + 1) (.ops 1) (sb ++ 41 :: r) b b.dep (41 :: r) :=
          ib ok.2 (by omega) b.str_pos (by omega) (by omega) fol_shut (.stop fun o z => by cases z)
        have e1 : paren sb ++ r = 40 :: (sb ++ 41 :: r) := by simp [paren]
        rw [e1]
        exact .ops (.par (by omega) inn) (.stop fun o2 z => f.stop o2 z)
      · refine ib ok.2 (by omega) hb (by omega) (by omega) (f.up ?_) (.stop fun o2 z => f.stop o2 z)
        show o.str ≤ _
        omega
    have cont : Rd h ar (.loop least a a.dep) (o.sign ++ (xb ++ r)) e' d' l' := .step (signAt_sign o _) hl' second (by omega) k
    have ea : xa ++ o.sign ++ xb ++ r = xa ++ (o.sign ++ (xb ++ r)) := by simp
    rw [ea]
    rcases ha with rfl | ⟨rfl, ha⟩
    · obtain ⟨g2, rfl⟩ : ∃ g2, h = g2 + 2 := ⟨h - 2, by omega⟩
      have inn : Rd (g2 + 1) (ar + 1) (.ops 1) (sa ++ 41 :: (o.sign ++ (xb ++ r))) a a.dep (41 :: (o.sign ++ (xb ++ r))) :=
        ia ok.1 (by omega) a.str_pos (by omega) (by omega) fol_shut (.stop fun o z => by cases z)
      have e1 : paren sa ++ (o.sign ++ (xb ++ r)) = 40 :: (sa ++ 41 :: (o.sign ++ (xb ++ r))) := by simp [paren]
      rw [e1]
      exact .ops (.par (by omega) inn) cont
    · exact ia ok.1 (by omega) (by omega) (by omega) (by omega) (.inr (.inr ⟨o, _, rfl, ha⟩)) cont
/-- the whole text, in up to m parentheses more -/
theorem reads_all {e : E} {s : List Nat} (S : Shw e s) (ok : e.Ok) (dp : e.dep ≤ 6) {ar : Nat} (har : ar ≤ 4) {r : List Nat} (hr : r = [] ∨ ∃ r', r = 41 :: r') : Rd 19 ar (.ops 1) (s ++ r) e e.dep r := by
  refine reads S ok dp e.str_pos (by omega) (by omega) ?_ (.stop fun o z => ?_)
  · rcases hr with h | h
    · exact .inl h
    · exact .inr (.inl h)
  · rcases hr with rfl | ⟨r', rfl⟩ <;> cases z
theorem reads_par {e : E} {s : List Nat} (S : Shw e s) (ok : e.Ok) (dp : e.dep ≤ 6) : Rd 24 0 (.ops 1) (40 :: 40 :: (s ++ [41, 41])) e e.dep [] := by
  have a : Rd 19 2 (.ops 1) (s ++ [41, 41]) e e.dep [41, 41] := reads_all S ok dp (by omega) (.inr ⟨_, rfl⟩)
  have b : Rd 21 1 (.ops 1) (40 :: (s ++ [41, 41])) e e.dep [41] := .ops (.par (by omega) a) (.stop fun o z => by cases z)
  have c : Rd 23 0 (.ops 1) (40 :: 40 :: (s ++ [41, 41])) e e.dep [] := .ops (.par (by omega) b) (.stop fun o z => by cases z)
  exact c.mono (by omega)
theorem shw_inj {e e2 : E} {s : List Nat} (S : Shw e s) (S2 : Shw e2 s) (ok : e.Ok) (ok2 : e2.Ok) (dp : e.dep ≤ 6) (dp2 : e2.dep ≤ 6) : e = e2 :=
  (det (reads_all (ar := 0) S ok dp (by omega) (r := []) (.inl rfl)) (reads_all (ar := 0) S2 ok2 dp2 (by omega) (r := []) (.inl rfl))).1
end Lg

namespace Lg
open PySem PySem.Spec PyProof.Rows L2
abbrev st (z : List Nat) : Str := ⟨z.toArray⟩
def dat : E → PyData
  | .word z => .str (st z)
  | .num n => .int n
  | .ask q z => .tuple [.str (st q), .str (st z)]
  | .op o a b => .tuple [.str o.name, dat a, dat b]
def nm (o : Op) : List Nat := o.name.cps.toList
def rp : E → List Nat
  | .word z => 39 :: (z ++ [39])
  | .num n => ntx n
  | .ask q z => 40 :: 39 :: (q ++ 39 :: 44 :: 32 :: 39 :: (z ++ [39, 41]))
  | .op o a b => 40 :: 39 :: (nm o ++ 39 :: 44 :: 32 :: (rp a ++ 44 :: 32 :: (rp b ++ [41])))
theorem nm_let (o : Op) : ∀ c ∈ nm o, Let c := by cases o <;> decide +kernel
theorem nm_inj {o o2 : Op} (e : nm o = nm o2) : o = o2 := by
  revert e
  cases o <;> cases o2 <;> decide +kernel
theorem nm_ques {o : Op} (h : Ques (nm o)) : False := by
  rcases h with h | h <;> (revert h; cases o <;> decide +kernel)
theorem repr_char {c : Nat} (h : Let c) : Builtin.Str.reprChar 39 c = [c] := by
  obtain ⟨h1, h2⟩ := h
  have : ∀ c, c < 123 → 97 ≤ c → Builtin.Str.reprChar 39 c = [c] := by decide +kernel
  exact this c (by omega) h1
theorem fold_repr : ∀ (z : List Nat) (acc : Array Nat), (∀ c ∈ z, Let c) → (z.foldl (fun out c => out ++ (Builtin.Str.reprChar 39 c).toArray) acc).toList = acc.toList ++ z
  | [], acc, _ => by simp
  | c :: z, acc, h => by
    rw [List.foldl_cons, fold_repr z _ fun q hq => h q (by simp [hq]), repr_char (h c (by simp))]
    simp
theorem quote_let {z : List Nat} (h : ∀ c ∈ z, Let c) : reprQuote (st z) = 39 := by
  unfold reprQuote
  have n : ¬ (39 ∈ z) := fun q => by
    obtain ⟨a, b⟩ := h _ q
    omega
  simp [n]
theorem repr_word {z : List Nat} (h : ∀ c ∈ z, Let c) : (reprText (st z)).cps.toList = 39 :: (z ++ [39]) := by
  unfold reprText
  rw [quote_let h]
  rw [Array.toList_push, ← Array.foldl_toList, fold_repr _ _ h]
  simp
theorem strExt {a b : Str} (h : a.cps.toList = b.cps.toList) : a = b := by
  obtain ⟨⟨a⟩⟩ := a
  obtain ⟨⟨b⟩⟩ := b
  simp at h
  rw [h]
theorem app_list (a b : Str) : (a ++ b).cps.toList = a.cps.toList ++ b.cps.toList := by
  show (a.cps ++ b.cps).toList = _
  simp
theorem comma_list : (Str.ofString ", ").cps.toList = [44, 32] := by decide +kernel
theorem open_list : (Str.ofString "(").cps.toList = [40] := by decide +kernel
theorem shut_list : (Str.ofString ")").cps.toList = [41] := by decide +kernel
theorem name_list (o : Op) : (st (nm o)) = o.name := by cases o <;> rfl
theorem tup2 (a b : Str) : (tupleText [a, b]).cps.toList = 40 :: (a.cps.toList ++ 44 :: 32 :: (b.cps.toList ++ [41])) := by
  unfold tupleText
  rw [app_list, app_list, open_list]
  rw [if_neg (show ¬ (([a, b].length == 1) = true) by simp), shut_list]
  show [40] ++ (a ++ Str.ofString ", " ++ b).cps.toList ++ [41] = _
  rw [app_list, app_list, comma_list]
  simp
theorem tup3 (a b c : Str) : (tupleText [a, b, c]).cps.toList = 40 :: (a.cps.toList ++ 44 :: 32 :: (b.cps.toList ++ 44 :: 32 :: (c.cps.toList ++ [41]))) := by
  unfold tupleText
  rw [app_list, app_list, open_list]
  rw [if_neg (show ¬ (([a, b, c].length == 1) = true) by simp), shut_list]
  show [40] ++ (a ++ Str.ofString ", " ++ (b ++ Str.ofString ", " ++ c)).cps.toList ++ [41] = _
  rw [app_list, app_list, app_list, app_list, comma_list]
  simp
theorem shown_dat : ∀ e : E, e.Ok → (dat e).shown.cps.toList = rp e
  | .word z, ok => by
    show (PyData.shown (.str (st z))).cps.toList = _
    rw [PyData.shown.eq_4]
    exact repr_word ok.all
  | .num n, ok => by
    show (PyData.shown (.int n)).cps.toList = _
    rw [PyData.shown.eq_3]
    rfl
  | .ask q z, ok => by
    show (PyData.shown (.tuple [.str (st q), .str (st z)])).cps.toList = _
    rw [PyData.shown.eq_6, PyData.shownAll.eq_2, PyData.shownAll.eq_2, PyData.shownAll.eq_1, tup2, PyData.shown.eq_4, PyData.shown.eq_4, repr_word ok.1.word.all, repr_word ok.2.all]
    simp [rp]
  | .op o a b, ok => by
    show (PyData.shown (.tuple [.str o.name, dat a, dat b])).cps.toList = _
    rw [PyData.shown.eq_6, PyData.shownAll.eq_2, PyData.shownAll.eq_2, PyData.shownAll.eq_2, PyData.shownAll.eq_1, tup3, PyData.shown.eq_4, ← name_list, repr_word (nm_let o), shown_dat a ok.1, shown_dat b ok.2]
    simp [rp]
theorem nh39 (r : List Nat) : NoHead Let (39 :: r) := fun c r' e => by
  injection e with e1 _
  rw [← e1]
  decide
theorem nd44 (r : List Nat) : NoHead Dig (44 :: r) := fun c r' e => by
  injection e with e1 _
  rw [← e1]
  decide
theorem nd41 (r : List Nat) : NoHead Dig (41 :: r) := fun c r' e => by
  injection e with e1 _
  rw [← e1]
  decide
theorem rp_head (e : E) : e.Ok → ∃ c r, rp e = c :: r ∧ ((∃ z, e = .word z) ∧ c = 39 ∨ (∃ n, e = .num n) ∧ Dig c ∨ ((∃ q z, e = .ask q z) ∨ ∃ o a b, e = .op o a b) ∧ c = 40) := by
  cases e with
  | word z => intro _; exact ⟨_, _, rfl, .inl ⟨⟨_, rfl⟩, rfl⟩⟩
  | num n => intro ok; obtain ⟨c, r, h1, h2⟩ := NumOk.head ok; exact ⟨c, r, h1, .inr (.inl ⟨⟨_, rfl⟩, h2⟩)⟩
  | ask q z => intro _; exact ⟨_, _, rfl, .inr (.inr ⟨.inl ⟨_, _, rfl⟩, rfl⟩)⟩
  | op o a b => intro _; exact ⟨_, _, rfl, .inr (.inr ⟨.inr ⟨_, _, _, rfl⟩, rfl⟩)⟩
theorem rp_inj : ∀ (e e2 : E), e.Ok → e2.Ok → ∀ {r r2 : List Nat}, NoHead Dig r → NoHead Dig r2 → rp e ++ r = rp e2 ++ r2 → e = e2 ∧ r = r2
  | .word z, e2, ok, ok2, r, r2, n1, n2, h => by
    obtain ⟨c, x, hx, w⟩ := rp_head e2 ok2
    rw [hx] at h
    have hc : (39 : Nat) = c := by injection h
    rcases w with ⟨⟨z2, rfl⟩, _⟩ | ⟨_, w⟩ | ⟨_, w⟩
    · have h' : 39 :: (z ++ 39 :: r) = 39 :: (z2 ++ 39 :: r2) := by
        rw [← hx] at h
        simpa [rp] using h
      injection h' with _ h'
      obtain ⟨a, b⟩ := split_one ok.all ok2.all (nh39 _) (nh39 _) h'
      injection b with _ b
      exact ⟨by rw [a], b⟩
    · rw [← hc] at w; exact absurd w (by decide)
    · rw [← hc] at w; cases w
  | .num n, e2, ok, ok2, r, r2, n1, n2, h => by
    obtain ⟨c0, x0, hx0, w0⟩ := NumOk.head ok
    obtain ⟨c, x, hx, w⟩ := rp_head e2 ok2
    have hc : c0 = c := by
      have h' : ntx n ++ r = rp e2 ++ r2 := h
      rw [hx0, hx] at h'
      injection h'
    rcases w with ⟨_, w⟩ | ⟨⟨m, rfl⟩, _⟩ | ⟨_, w⟩
    · rw [← hc] at w; rw [w] at w0; exact absurd w0 (by decide)
    · obtain ⟨a, b⟩ := split_one ok.all ok2.all n1 n2 h
      exact ⟨by rw [ntx_inj ok ok2 a], b⟩
    · rw [← hc] at w; rw [w] at w0; exact absurd w0 (by decide)
  | .ask q z, e2, ok, ok2, r, r2, n1, n2, h => by
    obtain ⟨c, x, hx, w⟩ := rp_head e2 ok2
    have hc : (40 : Nat) = c := by
      rw [hx] at h
      injection h
    rcases w with ⟨_, w⟩ | ⟨_, w⟩ | ⟨w, _⟩
    · rw [← hc] at w; cases w
    · rw [← hc] at w; exact absurd w (by decide)
    · rcases w with ⟨q2, z2, rfl⟩ | ⟨o, a, b, rfl⟩
      · have h' : q ++ 39 :: (44 :: 32 :: 39 :: (z ++ 39 :: 41 :: r)) = q2 ++ 39 :: (44 :: 32 :: 39 :: (z2 ++ 39 :: 41 :: r2)) := by simpa [rp] using h
        obtain ⟨a, b⟩ := split_one ok.1.word.all ok2.1.word.all (nh39 _) (nh39 _) h'
        have b' : z ++ 39 :: 41 :: r = z2 ++ 39 :: 41 :: r2 := by simpa using b
        obtain ⟨a2, b2⟩ := split_one ok.2.all ok2.2.all (nh39 _) (nh39 _) b'
        exact ⟨by rw [a, a2], by simpa using b2⟩
      · have h' : q ++ 39 :: (44 :: 32 :: 39 :: (z ++ 39 :: 41 :: r)) = nm o ++ 39 :: (44 :: 32 :: (rp a ++ 44 :: 32 :: (rp b ++ 41 :: r2))) := by simpa [rp] using h
        obtain ⟨a, _⟩ := split_one ok.1.word.all (nm_let o) (nh39 _) (nh39 _) h'
        exact (nm_ques (a ▸ ok.1)).elim
  | .op o a b, e2, ok, ok2, r, r2, n1, n2, h => by
    obtain ⟨c, x, hx, w⟩ := rp_head e2 ok2
    have hc : (40 : Nat) = c := by
      rw [hx] at h
      injection h
    rcases w with ⟨_, w⟩ | ⟨_, w⟩ | ⟨w, _⟩
    · rw [← hc] at w; cases w
    · rw [← hc] at w; exact absurd w (by decide)
    · rcases w with ⟨q2, z2, rfl⟩ | ⟨o2, a2, b2, rfl⟩
      · have h' : nm o ++ 39 :: (44 :: 32 :: (rp a ++ 44 :: 32 :: (rp b ++ 41 :: r))) = q2 ++ 39 :: (44 :: 32 :: 39 :: (z2 ++ 39 :: 41 :: r2)) := by simpa [rp] using h
        obtain ⟨a, _⟩ := split_one (nm_let o) ok2.1.word.all (nh39 _) (nh39 _) h'
        exact (nm_ques (a ▸ ok2.1)).elim
      · have h' : nm o ++ 39 :: (44 :: 32 :: (rp a ++ 44 :: 32 :: (rp b ++ 41 :: r))) = nm o2 ++ 39 :: (44 :: 32 :: (rp a2 ++ 44 :: 32 :: (rp b2 ++ 41 :: r2))) := by simpa [rp] using h
        obtain ⟨x1, x2⟩ := split_one (nm_let o) (nm_let o2) (nh39 _) (nh39 _) h'
        have x3 : rp a ++ 44 :: 32 :: (rp b ++ 41 :: r) = rp a2 ++ 44 :: 32 :: (rp b2 ++ 41 :: r2) := by simpa using x2
        obtain ⟨x4, x5⟩ := rp_inj a a2 ok.1 ok2.1 (nd44 _) (nd44 _) x3
        have x6 : rp b ++ 41 :: r = rp b2 ++ 41 :: r2 := by simpa using x5
        obtain ⟨x7, x8⟩ := rp_inj b b2 ok.2 ok2.2 (nd41 _) (nd41 _) x6
        exact ⟨by rw [nm_inj x1, x4, x7], by simpa using x8⟩
theorem shown_inj {e e2 : E} (ok : e.Ok) (ok2 : e2.Ok) (h : (dat e).shown = (dat e2).shown) : e = e2 := by
  have h' : rp e ++ [] = rp e2 ++ [] := by rw [← shown_dat e ok, ← shown_dat e2 ok2, h]
  exact (rp_inj e e2 ok ok2 (fun c r z => by cases z) (fun c r z => by cases z) h').1
end Lg

namespace Lg
open PySem PySem.Spec PyProof.Rows L2
/-! ### numbers as texts, any -/
theorem ntx_digits (n : Nat) : ntx n = (Nat.toDigits 10 n).map Char.toNat := PySem.W.KIN.signs_num n
theorem digits_ne (n : Nat) : Nat.toDigits 10 n ≠ [] := by
  rw [Nat.toDigits_eq_if (by decide)]
  split <;> simp
theorem ntx_ne (n : Nat) : ntx n ≠ [] := by
  rw [ntx_digits]
  intro e
  exact digits_ne n (List.map_eq_nil_iff.mp e)
theorem digitChar_nat : ∀ d : Nat, d < 10 → (Nat.digitChar d).toNat = 48 + d := by decide
theorem ntx_step (n : Nat) : ntx n = if n < 10 then [48 + n] else ntx (n / 10) ++ [48 + n % 10] := by
  rw [ntx_digits, ntx_digits]
  by_cases h : n < 10
  · rw [if_pos h, Nat.toDigits_of_lt_base h]
    show [(Nat.digitChar n).toNat] = _
    rw [digitChar_nat n h]
  · rw [if_neg h, Nat.toDigits_of_base_le (by decide) (by omega), List.map_append]
    show _ ++ [(Nat.digitChar (n % 10)).toNat] = _
    rw [digitChar_nat _ (Nat.mod_lt _ (by decide))]
theorem ntx_dig (n : Nat) : ∀ c ∈ ntx n, Dig c := by
  induction n using Nat.strongRecOn with
  | _ n ih =>
    intro c hc
    rw [ntx_step] at hc
    by_cases h : n < 10
    · rw [if_pos h] at hc
      have e : c = 48 + n := by simpa using hc
      unfold Dig
      omega
    · rw [if_neg h] at hc
      rcases List.mem_append.mp hc with q | q
      · exact ih (n / 10) (by omega) c q
      · have e : c = 48 + n % 10 := by simpa using q
        unfold Dig
        omega
theorem ntx_lead (n : Nat) : (ntx n)[0]? = some 48 → (ntx n).length ≤ 1 := by
  have key : ∀ n : Nat, (ntx n)[0]? = some 48 → n = 0 := by
    intro n
    induction n using Nat.strongRecOn with
    | _ n ih =>
      intro h
      rw [ntx_step] at h
      by_cases q : n < 10
      · rw [if_pos q] at h
        have e : 48 + n = 48 := by simpa using h
        omega
      · rw [if_neg q, List.getElem?_append_left (List.length_pos_iff.mpr (ntx_ne _))] at h
        have := ih (n / 10) (by omega) h
        omega
  intro h
  rw [key n h]
  decide +kernel
theorem ntx_len {n : Nat} (h : n < 10 ^ 10) : (ntx n).length ≤ 10 := by
  rw [ntx_digits, List.length_map]
  exact (Nat.length_toDigits_le_iff (by decide) (by decide)).mpr h
theorem num_ok {n : Nat} (h : n < 1000000007) : NumOk n := by
  have h2 : n < 10 ^ 10 := Nat.lt_trans h (by decide)
  refine ⟨h, ntx_ne n, ntx_len h2, ntx_dig n, ntx_lead n, ?_⟩
  have e := PySem.W.KIN.num_reads (n := (n : Int)) (by omega) (by
    have : (10 : Int) ^ 10 = 10000000000 := by decide
    omega)
  have e2 : Str.ofString (toString (n : Int)) = ⟨(ntx n).toArray⟩ := strExt (by simp [ntx])
  rw [e2] at e
  exact e
/-- the number that some digits are -/
def val (ds : List Nat) : Nat := PySem.NumText.digitsVal ds
theorem ntx_val {ds : List Nat} (hd : ∀ c ∈ ds, Dig c) (hne : ds ≠ []) (hl : ds[0]? = some 48 → ds.length ≤ 1) : ntx (val ds) = ds := by
  have hlen : ds.length = (ds.length - 1) + 1 := by
    have := List.length_pos_iff.mpr hne
    omega
  have e := PySem.NumText.toDigits_digitsVal (ds.length - 1) ds hlen hd (by
    cases ds with
    | nil => exact absurd rfl hne
    | cons c r =>
      by_cases h : c = 48
      · subst h
        have := hl rfl
        left
        omega
      · right
        have := hd c (by simp)
        unfold Dig at this
        exact ⟨c, r, rfl, by omega⟩)
  rw [ntx_digits]
  unfold val
  rw [e, List.map_map]
  have : ∀ l : List Nat, (∀ c ∈ l, Dig c) → l.map (Char.toNat ∘ Char.ofNat) = l := by
    intro l
    induction l with
    | nil => intro _; rfl
    | cons c r ih =>
      intro h
      rw [List.map_cons, ih fun q hq => h q (by simp [hq])]
      have hc := h c (by simp)
      have : ∀ c, c < 58 → (Char.toNat ∘ Char.ofNat) c = c := by decide +kernel
      rw [this c (by unfold Dig at hc; omega)]
  exact this ds hd
end Lg

namespace Lg
open PySem PySem.Spec PyProof.Rows L2
/-! ### texts that are refused -/
def NumTx (ds : List Nat) : Prop := ds.length ≤ 10 ∧ (ds[0]? = some 48 → ds.length ≤ 1) ∧ val ds < 1000000007
def WordTx (z : List Nat) : Prop := z ≠ [] ∧ z.length ≤ 8
inductive Bad : Nat → Nat → J → List Nat → Prop where
  | full {h ar l} : 20 ≤ ar → Bad h ar .opd (40 :: l)
  | inn {h ar l} : ar < 20 → Bad h (ar + 1) (.ops 1) l → Bad (h + 1) ar .opd (40 :: l)
  | shut {h ar l e d l'} : ar < 20 → Rd h (ar + 1) (.ops 1) l e d l' → NoHead (· = 41) l' → Bad (h + 1) ar .opd (40 :: l)
  | num {h ar ds l'} : ds ≠ [] → (∀ c ∈ ds, Dig c) → NoHead Dig l' → ¬ NumTx ds → Bad h ar .opd (ds ++ l')
  | word {h ar z l'} : (∀ c ∈ z, Let c) → NoHead Let l' → NoHead Dig (z ++ l') → NoHead (· = 40) (z ++ l') → ¬ WordTx z → Bad h ar .opd (z ++ l')
  | ask {h ar q z l'} : Ques q → (∀ c ∈ z, Let c) → NoHead Let l' → z ≠ [] → ¬ WordTx z → Bad h ar .opd (q ++ 32 :: (z ++ l'))
  | ops1 {h ar least l} : Bad h ar .opd l → Bad (h + 1) ar (.ops least) l
  | ops2 {h ar least l e0 d0 l1} : Rd h ar .opd l e0 d0 l1 → Bad h ar (.loop least e0 d0) l1 → Bad (h + 1) ar (.ops least) l
  | loop1 {h ar least e d o l1} : signAt (o.sign ++ l1) = some o → least ≤ o.str → Bad h ar (.ops (o.str + 1)) l1 → Bad h ar (.loop least e d) (o.sign ++ l1)
  | deep {h ar least e d o l1 e2 d2 l2} : signAt (o.sign ++ l1) = some o → least ≤ o.str → Rd h ar (.ops (o.str + 1)) l1 e2 d2 l2 → 6 < max d d2 + 1 → Bad h ar (.loop least e d) (o.sign ++ l1)
  | loop2 {h ar least e d o l1 e2 d2 l2} : signAt (o.sign ++ l1) = some o → least ≤ o.str → Rd h ar (.ops (o.str + 1)) l1 e2 d2 l2 → max d d2 + 1 ≤ 6 →
      Bad h ar (.loop least (.op o e e2) (max d d2 + 1)) l2 → Bad h ar (.loop least e d) (o.sign ++ l1)
theorem Bad.mono {h ar j l} (r : Bad h ar j l) : ∀ {h2}, h ≤ h2 → Bad h2 ar j l := by
  induction r with
  | full a => intro h2 z; exact .full a
  | inn a _ ih => intro h2 z; obtain ⟨m, rfl⟩ : ∃ m, h2 = m + 1 := ⟨h2 - 1, by omega⟩; exact .inn a (ih (by omega))
  | shut a b c => intro h2 z; obtain ⟨m, rfl⟩ : ∃ m, h2 = m + 1 := ⟨h2 - 1, by omega⟩; exact .shut a (b.mono (by omega)) c
  | num a b c d => intro h2 z; exact .num a b c d
  | word a b c d e => intro h2 z; exact .word a b c d e
  | ask a b c d e => intro h2 z; exact .ask a b c d e
  | ops1 _ ih => intro h2 z; obtain ⟨m, rfl⟩ : ∃ m, h2 = m + 1 := ⟨h2 - 1, by omega⟩; exact .ops1 (ih (by omega))
  | ops2 a _ ih => intro h2 z; obtain ⟨m, rfl⟩ : ∃ m, h2 = m + 1 := ⟨h2 - 1, by omega⟩; exact .ops2 (a.mono (by omega)) (ih (by omega))
  | loop1 a b _ ih => intro h2 z; exact .loop1 a b (ih z)
  | deep a b c d => intro h2 z; exact .deep a b (c.mono z) d
  | loop2 a b c d _ ih => intro h2 z; exact .loop2 a b (c.mono z) d (ih z)
/-! ### each text is read or refused -/
theorem cut_run (P : Nat → Prop) [DecidablePred P] : ∀ l : List Nat, ∃ a r, l = a ++ r ∧ (∀ c ∈ a, P c) ∧ NoHead P r
  | [] => ⟨[], [], rfl, fun c h => (nomatch h), fun c r e => by cases e⟩
  | c :: l => by
    by_cases h : P c
    · obtain ⟨a, r, e, h1, h2⟩ := cut_run P l
      exact ⟨c :: a, r, by rw [e]; rfl, fun q hq => by
        rcases List.mem_cons.mp hq with rfl | hq
        · exact h
        · exact h1 q hq, h2⟩
    · exact ⟨[], c :: l, rfl, fun q hq => (nomatch hq), fun q r e => by injection e with e _; rw [← e]; exact h⟩
/-- the height that is enough -/
def hi (ar least : Nat) : Nat := 5 * (20 - ar) + (4 - least) + 3
theorem word_of {z : List Nat} (h : ∀ c ∈ z, Let c) (w : WordTx z) : WordOk z := ⟨w.1, w.2, h⟩
theorem tot_opd {n ar : Nat} {l : List Nat} (hl : l.length ≤ n) (har : ar ≤ 20)
    (ih : ∀ l1 : List Nat, l1.length < l.length → ar < 20 → (∃ e d l', Rd (hi (ar + 1) 1) (ar + 1) (.ops 1) l1 e d l') ∨ Bad (hi (ar + 1) 1) (ar + 1) (.ops 1) l1) :
    (∃ e d l', Rd (hi ar 4 - 1) ar .opd l e d l') ∨ Bad (hi ar 4 - 1) ar .opd l := by
  by_cases h40 : ∃ l1, l = 40 :: l1
  · obtain ⟨l1, rfl⟩ := h40
    by_cases hf : 20 ≤ ar
    · exact .inr (.full hf)
    · have hlt : ar < 20 := by omega
      have hh : hi ar 4 - 1 = hi (ar + 1) 1 + 1 + (hi ar 4 - 1 - (hi (ar + 1) 1 + 1)) := by
        unfold hi
        omega
      rcases ih l1 (by simp) hlt with ⟨e, d, l', r⟩ | b
      · by_cases hs : ∃ l2, l' = 41 :: l2
        · obtain ⟨l2, rfl⟩ := hs
          exact .inl ⟨e, d, l2, (Rd.par hlt r).mono (by omega)⟩
        · exact .inr ((Bad.shut hlt r fun c x q z => hs ⟨x, by rw [q, z]⟩).mono (by omega))
      · exact .inr ((Bad.inn hlt b).mono (by omega))
  · have n40 : NoHead (· = 40) l := fun c r e z => h40 ⟨r, by rw [e, z]⟩
    obtain ⟨ds, r, rfl, hd, hr⟩ := cut_run Dig l
    by_cases hds : ds = []
    · subst hds
      rw [List.nil_append] at n40 hl ⊢
      obtain ⟨z, r2, rfl, hz, hr2⟩ := cut_run Let r
      by_cases hw : WordTx z
      · have wz := word_of hz hw
        by_cases hq : Ques z ∧ Bef r2
        · obtain ⟨hq, c, r3, rfl, hc⟩ := hq
          obtain ⟨z2, r4, e4, hz2, hr4⟩ := cut_run Let (c :: r3)
          have hne : z2 ≠ [] := fun z => by
            rw [z, List.nil_append] at e4
            exact hr4 c r3 e4.symm hc
          rw [e4]
          by_cases hw2 : WordTx z2
          · exact .inl ⟨_, _, _, .ask hq (word_of hz2 hw2) hr4⟩
          · exact .inr (.ask hq hz2 hr4 hne hw2)
        · exact .inl ⟨_, _, _, .word wz hr2 hq⟩
      · exact .inr (.word hz hr2 hr n40 hw)
    · by_cases hn : NumTx ds
      · obtain ⟨n1, n2, n3⟩ := hn
        have e := ntx_val hd hds n2
        have r2 : Rd (hi ar 4 - 1) ar .opd (ntx (val ds) ++ r) (.num (val ds)) 1 r := .num (num_ok n3) hr
        rw [e] at r2
        exact .inl ⟨_, _, _, r2⟩
      · exact .inr (.num hds hd hr hn)
end Lg

namespace Lg
open PySem PySem.Spec PyProof.Rows L2
theorem rd_len {h ar j l e d l'} (r : Rd h ar j l e d l') : l'.length ≤ l.length ∧ (j = .opd → l'.length < l.length) := by
  induction r with
  | par a _ ih =>
    refine ⟨?_, fun _ => ?_⟩ <;> (have := ih.1; simp at this ⊢; omega)
  | @num h ar n l' a b =>
    have z := List.length_pos_iff.mpr (ntx_ne n)
    exact ⟨by simp, fun _ => by rw [List.length_append]; omega⟩
  | word a b c =>
    have z := List.length_pos_iff.mpr a.ne
    exact ⟨by simp, fun _ => by rw [List.length_append]; omega⟩
  | ask a b c => exact ⟨by simp; omega, fun _ => by simp; omega⟩
  | ops _ _ i1 i2 => exact ⟨Nat.le_trans i2.1 i1.1, fun z => by cases z⟩
  | stop a => exact ⟨Nat.le_refl _, fun z => by cases z⟩
  | step a b _ c _ i1 i2 =>
    refine ⟨?_, fun z => by cases z⟩
    have h1 := i1.1
    have h2 := i2.1
    simp
    omega
theorem signAt_split {l : List Nat} {o : Op} (h : signAt l = some o) : ∃ l1, l = o.sign ++ l1 := by
  by_cases q : ∃ o2 : Op, o2.sign.isPrefixOf l = true
  · obtain ⟨o2, q⟩ := q
    rw [List.isPrefixOf_iff_prefix] at q
    obtain ⟨r, rfl⟩ := q
    rw [signAt_sign] at h
    cases h
    exact ⟨r, rfl⟩
  · unfold signAt at h
    have n : ∀ o2 : Op, ¬ o2.sign.isPrefixOf l = true := fun o2 z => q ⟨o2, z⟩
    have h1 := n .plus
    have h2 := n .minus
    have h3 := n .times
    have h4 := n .less
    have h5 := n .same
    simp only [Op.sign] at h1 h2 h3 h4 h5
    rw [if_neg h1, if_neg h2, if_neg h3, if_neg h4, if_neg h5] at h
    cases h
theorem sign_pos (o : Op) : 1 ≤ o.sign.length := by cases o <;> decide
def Total (N : Nat) : Prop := ∀ (ar least : Nat) (l : List Nat), l.length < N → ar ≤ 20 → 1 ≤ least → least ≤ 4 → (∃ e d l', Rd (hi ar least) ar (.ops least) l e d l') ∨ Bad (hi ar least) ar (.ops least) l
theorem tot_loop {N ar least : Nat} (T : Total N) (har : ar ≤ 20) (h1 : 1 ≤ least) (h4 : least ≤ 4) : ∀ (m : Nat) (l : List Nat) (e : E) (d : Nat), l.length ≤ m → l.length ≤ N →
    (∃ e' d' l', Rd (hi ar least - 1) ar (.loop least e d) l e' d' l') ∨ Bad (hi ar least - 1) ar (.loop least e d) l := by
  intro m
  induction m with
  | zero =>
    intro l e d hm hN
    have e0 : l = [] := List.eq_nil_of_length_eq_zero (by omega)
    subst e0
    exact .inl ⟨e, d, [], .stop fun o z => by cases z⟩
  | succ m ih =>
    intro l e d hm hN
    by_cases hs : ∃ o, signAt l = some o ∧ least ≤ o.str
    · obtain ⟨o, hs, hle⟩ := hs
      obtain ⟨l1, rfl⟩ := signAt_split hs
      have hp := sign_pos o
      have o3 := o.str_le
      rw [List.length_append] at hm hN
      have hh : hi ar (o.str + 1) ≤ hi ar least - 1 := by
        unfold hi
        omega
      rcases T ar (o.str + 1) l1 (by omega) har (by omega) (by omega) with ⟨e2, d2, l2, r⟩ | b
      · have r' := r.mono hh
        by_cases hd : max d d2 + 1 ≤ 6
        · have hl := (rd_len r).1
          rcases ih l2 (.op o e e2) (max d d2 + 1) (by omega) (by omega) with ⟨e3, d3, l3, r3⟩ | b3
          · exact .inl ⟨e3, d3, l3, .step hs hle r' hd r3⟩
          · exact .inr (.loop2 hs hle r' hd b3)
        · exact .inr (.deep hs hle r' (by omega))
      · exact .inr (.loop1 hs hle (b.mono hh))
    · exact .inl ⟨e, d, l, .stop fun o z => by
        rcases Nat.lt_or_ge o.str least with q | q
        · exact q
        · exact absurd ⟨o, z, q⟩ hs⟩
theorem total : ∀ N : Nat, Total N := by
  intro N
  induction N with
  | zero => intro ar least l h; omega
  | succ N T =>
    intro ar least l hl har h1 h4
    have hpos : hi ar least = (hi ar least - 1) + 1 := by unfold hi; omega
    have hop : hi ar 4 - 1 ≤ hi ar least - 1 := by unfold hi; omega
    rw [hpos]
    rcases tot_opd (n := l.length) (Nat.le_refl _) har (fun l1 h2 h3 => T (ar + 1) 1 l1 (by omega) (by omega) (by omega) (by omega)) with ⟨e0, d0, l1, r⟩ | b
    · have hlt := (rd_len r).2 rfl
      rcases tot_loop T har h1 h4 l1.length l1 e0 d0 (Nat.le_refl _) (by omega) with ⟨e, d, l2, r2⟩ | b2
      · exact .inl ⟨e, d, l2, .ops (r.mono hop) r2⟩
      · exact .inr (.ops2 (r.mono hop) b2)
    · exact .inr (.ops1 (b.mono hop))
theorem read_or_bad (l : List Nat) : (∃ e d l', Rd 106 0 (.ops 1) l e d l') ∨ Bad 106 0 (.ops 1) l := total (l.length + 1) 0 1 l (by omega) (by omega) (by omega) (by omega)
/-! ### what is read is an expression, and its text is the one that was read, but for parentheses -/
theorem rd_ok {h ar j l e d l'} (r : Rd h ar j l e d l') : (∀ least e0 d0, j = .loop least e0 d0 → e0.Ok ∧ e0.dep = d0 ∧ d0 ≤ 6) → e.Ok ∧ e.dep = d ∧ d ≤ 6 := by
  induction r with
  | par a _ ih => intro _; exact ih fun _ _ _ z => by cases z
  | num a b => intro _; exact ⟨a, rfl, by decide⟩
  | word a b c => intro _; exact ⟨a, rfl, by decide⟩
  | ask a b c => intro _; exact ⟨⟨a, b⟩, rfl, by decide⟩
  | ops _ _ i1 i2 =>
    intro _
    have q := i1 fun _ _ _ z => by cases z
    exact i2 fun _ _ _ z => by
      injection z with _ z1 z2
      rw [← z1, ← z2]
      exact q
  | stop a => intro k; exact k _ _ _ rfl
  | step a b _ c _ i1 i2 =>
    intro k
    obtain ⟨k1, k2, k3⟩ := k _ _ _ rfl
    obtain ⟨q1, q2, q3⟩ := i1 fun _ _ _ z => by cases z
    exact i2 fun _ _ _ z => by
      injection z with _ z1 z2
      rw [← z1, ← z2]
      exact ⟨⟨k1, q1⟩, by show max _ _ + 1 = _; rw [k2, q2], c⟩
def bare (l : List Nat) : List Nat := l.filter fun c => !(decide (c = 40) || decide (c = 41))
theorem bare_app (a b : List Nat) : bare (a ++ b) = bare a ++ bare b := List.filter_append ..
theorem bare_paren (s : List Nat) : bare (paren s) = bare s := by
  unfold paren
  show bare ([40] ++ (s ++ [41])) = _
  rw [bare_app, bare_app]
  show [] ++ (bare s ++ []) = _
  simp
theorem bare_if {p : Prop} [Decidable p] (s : List Nat) : bare (if p then paren s else s) = bare s := by
  split
  · exact bare_paren s
  · rfl
theorem bare_op (o : Op) (a b : E) : bare (fmt (.op o a b)) = bare (fmt a) ++ bare o.sign ++ bare (fmt b) := by
  show bare ((if a.str < o.str then paren (fmt a) else fmt a) ++ o.sign ++ (if b.str < o.str + 1 then paren (fmt b) else fmt b)) = _
  rw [bare_app, bare_app, bare_if, bare_if]
def start : J → List Nat
  | .loop _ e _ => bare (fmt e)
  | _ => []
theorem rd_bare {h ar j l e d l'} (r : Rd h ar j l e d l') : start j ++ bare l = bare (fmt e) ++ bare l' := by
  induction r with
  | @par h ar l e d l' a _ ih =>
    show bare ([40] ++ l) = _
    rw [bare_app]
    have e1 : bare (41 :: l') = bare l' := by
      show bare ([41] ++ l') = _
      rw [bare_app]
      rfl
    rw [e1] at ih
    exact ih
  | num a b => exact bare_app ..
  | word a b c => exact bare_app ..
  | @ask h ar q z l' a b c =>
    show bare (q ++ 32 :: (z ++ l')) = bare (q ++ 32 :: z) ++ bare l'
    rw [← bare_app]
    simp
  | ops _ _ i1 i2 =>
    have e1 : bare _ = _ := i1
    show bare _ = _
    rw [e1]
    exact i2
  | stop a => rfl
  | @step h ar least e d o l1 e2 d2 l2 e' d' l' a b _ c _ i1 i2 =>
    have e1 : bare l1 = bare (fmt e2) ++ bare l2 := i1
    have e2' : bare (fmt (.op o e e2)) ++ bare l2 = bare (fmt e') ++ bare l' := i2
    show bare (fmt e) ++ bare (o.sign ++ l1) = _
    rw [← e2', bare_op, bare_app, e1]
    simp
end Lg

namespace Lg
open PySem PySem.Spec PyProof.Rows L2
/-! ### for k in d, d a dict of the written part with text keys -/
structure KKeys (K : PySem.W.Frag) (d : Addr) (ks : List Str) : Prop where
  ex : ∃ (es : Array DictEntry) (ep : Nat), K.lookup d = some ⟨.type "dict", none, .dict es ep, #[]⟩ ∧ es.toList.map (fun en => match en.key with | .str x _ => some x | _ => none) = ks.map some
  ns : (d == sysModules) = false
def Itw (ks : List Str) : It := ⟨fun i _ => i < ks.length, fun i H x H' => H' = H ∧ ∃ z, ks[i]? = some z ∧ x = .str z, fun i _ => ks.length ≤ i⟩
theorem KKeys.at {es : Array DictEntry} {ks : List Str} (h : es.toList.map (fun en => match en.key with | .str x _ => some x | _ => none) = ks.map some) {i : Nat} (hi : i < ks.length) :
    ∃ (en : DictEntry) (z : Str) (t : Tok), es[i]? = some en ∧ ks[i]? = some z ∧ en.key = .str z t := by
  have hz : ks[i]? = some ks[i] := List.getElem?_eq_getElem hi
  have q : (es.toList.map (fun en => match en.key with | .str x _ => some x | _ => none))[i]? = some (some ks[i]) := by rw [h, List.getElem?_map, hz]; rfl
  rw [List.getElem?_map] at q
  cases he : es.toList[i]? with
  | none => rw [he] at q; cases q
  | some en =>
    rw [he] at q
    have q' : (match en.key with | .str x _ => some x | _ => none) = some ks[i] := Option.some.inj q
    refine ⟨en, ks[i], ?_⟩
    cases hk : en.key with
    | str x t =>
      rw [hk] at q'
      have q2 : x = ks[i] := Option.some.inj q'
      exact ⟨t, by simpa using he, hz, by rw [q2]⟩
    | _ => rw [hk] at q'; cases q'
theorem turn_kkeys {P : Program} {w : World} {K : PySem.W.Frag} {tg : Expr} {d : Addr} {ks : List Str} {es : Array DictEntry} {ep : Nat} (it : Addr) (hl : K.lookup d = some ⟨.type "dict", none, .dict es ep, #[]⟩)
    (hk : es.toList.map (fun en => match en.key with | .str x _ => some x | _ => none) = ks.map some) : Turn P w K tg (Itw ks) [it] it (fun i h => h.IsKeyIter it d i ks.length ep) where
  mem := by simp
  obj := fun i h st b hb => by
    have e : b = it := by simpa using hb
    subst e
    obtain ⟨oi, e, c, dd⟩ := st
    exact ⟨oi, e, fun v z => by rw [dd] at z; cases z⟩
  keep := fun i h h' st k => st.at fun oi e => k it (by simp) oi e
  item := by
    intro X hP hw hK hc i pins s σ H E I hf st hg
    subst hP hw hK
    obtain ⟨f0, f1, f2, f3, f4, f5⟩ := hf it (by simp)
    obtain ⟨en, z, t, e1, e2, e3⟩ := KKeys.at hk hg
    have hsz : es.size = ks.length := by
      have := congrArg List.length hk
      simpa using this
    refine next_key_item st (I.kIn _ _ hl) rfl hsz e1 fun h' st' sb => ?_
    have I1 : Inv X pins σ H { s with heap := h' } := I.turned (t' := s.toks) (fun b ob hb e => (sb.2 b hb).trans e) f0 f1 f3 f4 f5
    obtain ⟨oi, e, c, dd⟩ := id st'
    exact ⟨en.key, rfl, go_of (s := { s with heap := h' }) e c dd (by decide) ⟨.str z, H, I1, ⟨t, e3⟩, ⟨rfl, z, e2, rfl⟩, st', fun b hb => (hf b hb).1⟩⟩
  done := by
    intro X hP hw hK hc i pins s σ H E I hf st hg
    subst hP hw hK
    obtain ⟨f0, f1, f2, f3, f4, f5⟩ := hf it (by simp)
    have hsz : es.size = ks.length := by
      have := congrArg List.length hk
      simpa using this
    exact next_key_end (I.ok.hd hc) st (I.kIn _ _ hl) rfl hsz hg fun h' eb => ⟨rfl, I.turned (t' := s.toks) (fun b ob hb e => eb b ob hb e) f0 f1 f3 f4 f5⟩
  self := fun A i s Q E st h => by
    refine wpAny_pyIter_slot st.typeIs F.slot_dict_keyiterator_iter (wpAny_call_entry F.slot_dict_keyiterator_iter st.typeIs F.entry_dict_keyiterator_iter ?_ (F.args_dict_keyiterator_iter_1 _))
    show wpAny _ _ (ret (.ref it)) _ _ s
    exact wpAny_pure ⟨_, rfl, "dict_keyiterator", _, st.typeIs, F.slot_dict_keyiterator_next.lookup, h⟩
def iKKeys (K : PySem.W.Frag) (td : TE) : TI := fun σ H R => td σ H fun x H1 => ∃ d ks, x = .ref d ∧ KKeys K d ks ∧ R (Itw ks) H1
theorem pi_kkeys {X : Cx} {tg e : Expr} {td : TE} (he : PE X e td) : PI X tg e (iKKeys X.K td) := by
  refine ⟨fun pins s σ H R I h => ?_⟩
  refine thn (he.run pins s σ H _ I h) fun u s1 ⟨x, H1, I1, rx, d, ks, ex, ⟨⟨es, ep, hl, hk⟩, hns⟩, q⟩ => ?_
  subst ex
  obtain rfl : u = Value.ref d := rx
  have hsz : es.size = ks.length := by
    have := congrArg List.length hk
    simpa using this
  refine iter_keys hns (I1.kIn _ _ hl) ⟨rfl, rfl, rfl⟩ rfl (pi_one (tk := s1.toks) I1 _ (turn_kkeys _ hl hk) ⟨_, Heap.get?_push_size _ rfl, rfl, ?_⟩ q)
  rw [hsz] <;> rfl
end Lg

namespace Lg
open PySem PySem.Spec PyProof.Rows L2
/-! ### texts without a care for strengths: each is read -/
inductive FJ where
  | part
  | tail
/-- a part, or a row of signs and parts: how many leaves, how deep its parentheses are, its text -/
inductive Flat : FJ → Nat → Nat → List Nat → Prop where
  | word {p z} : WordOk z → Flat .part 1 p z
  | num {p n} : NumOk n → Flat .part 1 p (ntx n)
  | ask {p q z} : Ques q → WordOk z → Flat .part 1 p (q ++ 32 :: z)
  | par {p w v s t} : Flat .part w p s → Flat .tail v p t → Flat .part (w + v) (p + 1) (paren (s ++ t))
  | nil {p} : Flat .tail 0 p []
  | cons {p w v s t} (o : Op) : Flat .part w p s → Flat .tail v p t → Flat .tail (w + v) p (o.sign ++ (s ++ t))
/-- what may stand behind all -/
def End (r : List Nat) : Prop := r = [] ∨ ∃ r', r = 41 :: r'
theorem End.fol {k : Nat} {r : List Nat} (h : End r) : Fol k r := h.elim .inl fun q => .inr (.inl q)
theorem End.none {r : List Nat} (h : End r) : signAt r = none := by
  rcases h with rfl | ⟨r', rfl⟩ <;> rfl
theorem tail_fol {v p t r} (h : Flat .tail v p t) (e : End r) : Fol 4 (t ++ r) := by
  cases h with
  | nil => exact e.fol
  | cons o _ _ => exact .inr (.inr ⟨o, _, by rw [List.append_assoc], by have := o.str_le; omega⟩)
/-- the loop over a tail, given that parts are read -/
theorem loop_tail {p ar : Nat}
    (RP : ∀ {w s r}, Flat .part w p s → w ≤ 6 → Fol 4 r → ∃ e d, d ≤ w ∧ 1 ≤ d ∧ Rd (hi ar 4 - 1) ar .opd (s ++ r) e d r) :
    ∀ (n : Nat) {least : Nat}, 1 ≤ least → least ≤ 4 → ∀ {v t r e d}, t.length ≤ n → Flat .tail v p t → End r → 1 ≤ d → d + v ≤ 6 →
      ∃ e' d' v' t', Rd (hi ar least - 1) ar (.loop least e d) (t ++ r) e' d' (t' ++ r) ∧ Flat .tail v' p t' ∧ d' + v' ≤ d + v ∧ 1 ≤ d' ∧ t'.length ≤ t.length ∧ ∀ o, signAt (t' ++ r) = some o → o.str < least := by
  intro n
  induction n with
  | zero =>
    intro least k1 k4 v t r e d hn F hr hd hv
    have e0 : t = [] := List.eq_nil_of_length_eq_zero (by omega)
    subst e0
    refine ⟨e, d, v, [], .stop fun o z => ?_, F, Nat.le_refl _, hd, Nat.le_refl _, fun o z => ?_⟩
    · rw [List.nil_append, hr.none] at z; cases z
    · rw [List.nil_append, hr.none] at z; cases z
  | succ n ih =>
    intro least k1 k4 v t r e d hn F hr hd hv
    cases F with
    | nil =>
      refine ⟨e, d, 0, [], .stop fun o z => ?_, .nil, Nat.le_refl _, hd, Nat.le_refl _, fun o z => ?_⟩
      · rw [List.nil_append, hr.none] at z; cases z
      · rw [List.nil_append, hr.none] at z; cases z
    | @cons _ w v s t o P F =>
      have ea : o.sign ++ (s ++ t) ++ r = o.sign ++ (s ++ (t ++ r)) := by simp
      have hs : signAt (o.sign ++ (s ++ (t ++ r))) = some o := signAt_sign o _
      rw [List.length_append, List.length_append] at hn
      have hp := sign_pos o
      have o3 := o.str_le
      by_cases hle : least ≤ o.str
      · obtain ⟨e0, d0, hd0, hd1, q1⟩ := RP (r := t ++ r) P (by omega) (tail_fol F hr)
        obtain ⟨e2, d2, v2, t2, q2, F2, hv2, hd2, ht2, hs2⟩ := ih (least := o.str + 1) (by omega) (by omega) (e := e0) (d := d0) (by omega) F hr hd1 (by omega)
        have hh : hi ar (o.str + 1) ≤ hi ar least - 1 := by
          unfold hi
          omega
        have hh2 : hi ar (o.str + 1) = (hi ar (o.str + 1) - 1) + 1 := by unfold hi; omega
        have hh3 : hi ar 4 - 1 ≤ hi ar (o.str + 1) - 1 := by unfold hi; omega
        have ops : Rd (hi ar (o.str + 1)) ar (.ops (o.str + 1)) (s ++ (t ++ r)) e2 d2 (t2 ++ r) := by
          rw [hh2]
          exact .ops (q1.mono hh3) q2
        obtain ⟨e3, d3, v3, t3, q3, F3, hv3, hd3, ht3, hs3⟩ := ih (least := least) k1 k4 (e := .op o e e2) (d := max d d2 + 1) (by omega) F2 hr (by omega) (by omega)
        refine ⟨e3, d3, v3, t3, ?_, F3, by omega, hd3, by rw [List.length_append, List.length_append]; omega, hs3⟩
        rw [ea]
        exact .step hs hle (ops.mono hh) (by omega) q3
      · refine ⟨e, d, w + v, o.sign ++ (s ++ t), .stop fun o2 z => ?_, .cons o P F, Nat.le_refl _, hd, Nat.le_refl _, fun o2 z => ?_⟩
        · rw [ea, hs] at z; cases z; omega
        · rw [ea, hs] at z; cases z; omega
theorem flat_part : ∀ (p ar : Nat), ar + p ≤ 20 → ∀ {w s r}, Flat .part w p s → w ≤ 6 → Fol 4 r → ∃ e d, d ≤ w ∧ 1 ≤ d ∧ Rd (hi ar 4 - 1) ar .opd (s ++ r) e d r := by
  intro p
  induction p with
  | zero =>
    intro ar har w s r F hw hr
    cases F with
    | word h => exact ⟨_, 1, Nat.le_refl _, Nat.le_refl _, .word h hr.let fun z => hr.bef z.2⟩
    | num h => exact ⟨_, 1, Nat.le_refl _, Nat.le_refl _, .num h hr.dig⟩
    | ask h1 h2 =>
      rw [List.append_assoc]
      exact ⟨_, 1, Nat.le_refl _, Nat.le_refl _, .ask h1 h2 hr.let⟩
  | succ p ih =>
    intro ar har w s r F hw hr
    cases F with
    | word h => exact ⟨_, 1, Nat.le_refl _, Nat.le_refl _, .word h hr.let fun z => hr.bef z.2⟩
    | num h => exact ⟨_, 1, Nat.le_refl _, Nat.le_refl _, .num h hr.dig⟩
    | ask h1 h2 =>
      rw [List.append_assoc]
      exact ⟨_, 1, Nat.le_refl _, Nat.le_refl _, .ask h1 h2 hr.let⟩
    | @par _ w v s t P F =>
      have hend : End (41 :: r) := .inr ⟨r, rfl⟩
      obtain ⟨e0, d0, hd0, hd1, q1⟩ := ih (ar + 1) (by omega) (r := t ++ 41 :: r) P (by omega) (tail_fol F hend)
      obtain ⟨e2, d2, v2, t2, q2, F2, hv2, hd2, _, hs2⟩ := loop_tail (ar := ar + 1) (fun P' hw' hf => ih (ar + 1) (by omega) P' hw' hf) t.length (least := 1) (by omega) (by omega) (e := e0) (Nat.le_refl _) F hend hd1 (by omega)
      have et : t2 = [] := by
        cases F2 with
        | nil => rfl
        | cons o _ _ =>
          have z := hs2 o (by rw [List.append_assoc]; exact signAt_sign o _)
          have := o.str_pos
          omega
      subst et
      have hh : hi (ar + 1) 4 - 1 ≤ hi (ar + 1) 1 - 1 := by unfold hi; omega
      have hh2 : hi (ar + 1) 1 = (hi (ar + 1) 1 - 1) + 1 := by unfold hi; omega
      have ops : Rd (hi (ar + 1) 1) (ar + 1) (.ops 1) (s ++ (t ++ 41 :: r)) e2 d2 (41 :: r) := by
        rw [hh2]
        exact .ops (q1.mono hh) q2
      refine ⟨e2, d2, by omega, hd2, ?_⟩
      have e1 : paren (s ++ t) ++ r = 40 :: (s ++ (t ++ 41 :: r)) := by simp [paren]
      rw [e1]
      have hh3 : hi (ar + 1) 1 + 1 ≤ hi ar 4 - 1 := by unfold hi; omega
      exact (Rd.par (by omega) ops).mono hh3
/-- a whole text -/
theorem flat_read {w v p : Nat} {s t : List Nat} (P : Flat .part w p s) (F : Flat .tail v p t) (hp : p ≤ 20) (hw : w + v ≤ 6) : ∃ e d, Rd 106 0 (.ops 1) (s ++ t) e d [] := by
  have hend : End ([] : List Nat) := .inl rfl
  obtain ⟨e0, d0, hd0, hd1, q1⟩ := flat_part p 0 (by omega) (r := t ++ []) P (by omega) (tail_fol F hend)
  obtain ⟨e2, d2, v2, t2, q2, F2, hv2, hd2, _, hs2⟩ := loop_tail (ar := 0) (fun P' hw' hf => flat_part p 0 (by omega) P' hw' hf) t.length (least := 1) (by omega) (by omega) (e := e0) (Nat.le_refl _) F hend hd1 (by omega)
  have et : t2 = [] := by
    cases F2 with
    | nil => rfl
    | cons o _ _ =>
      have z := hs2 o (by rw [List.append_assoc]; exact signAt_sign o _)
      have := o.str_pos
      omega
  subst et
  rw [List.append_nil] at q1 q2
  refine ⟨e2, d2, ?_⟩
  have r : Rd (hi 0 1 - 1 + 1) 0 (.ops 1) (s ++ t) e2 d2 [] := .ops (q1.mono (by decide)) q2
  exact r.mono (by decide)
theorem flat_up {j : FJ} {w p : Nat} {s : List Nat} (F : Flat j w p s) : ∀ {q}, p ≤ q → Flat j w q s := by
  induction F with
  | word h => intro q _; exact .word h
  | num h => intro q _; exact .num h
  | ask h1 h2 => intro q _; exact .ask h1 h2
  | par _ _ i1 i2 => intro q h; obtain ⟨m, rfl⟩ : ∃ m, q = m + 1 := ⟨q - 1, by omega⟩; exact .par (i1 (by omega)) (i2 (by omega))
  | nil => intro q _; exact .nil
  | cons o _ _ i1 i2 => intro q h; exact .cons o (i1 h) (i2 h)
theorem tail_snoc {v p w : Nat} {t s : List Nat} (o : Op) (F : Flat .tail v p t) (P : Flat .part w p s) : Flat .tail (v + w) p (t ++ (o.sign ++ s)) := by
  generalize hj : FJ.tail = j at F
  induction F with
  | word => cases hj
  | num => cases hj
  | ask => cases hj
  | par => cases hj
  | nil =>
    have h : Flat .tail (w + 0) _ (o.sign ++ (s ++ [])) := .cons o P .nil
    rw [Nat.add_zero, List.append_nil] at h
    rw [Nat.zero_add]
    exact h
  | @cons p w2 v2 s2 t2 o2 P2 F2 i1 i2 =>
    have h := Flat.cons o2 P2 (i2 P rfl)
    rw [← Nat.add_assoc] at h
    have e : o2.sign ++ (s2 ++ (t2 ++ (o.sign ++ s))) = o2.sign ++ (s2 ++ t2) ++ (o.sign ++ s) := by simp
    rw [e] at h
    exact h
/-- a text of these -/
def FlatTx (w p : Nat) (s : List Nat) : Prop := ∃ w1 v1 a t, s = a ++ t ∧ Flat .part w1 p a ∧ Flat .tail v1 p t ∧ w1 + v1 = w
theorem FlatTx.read {w p : Nat} {s : List Nat} (h : FlatTx w p s) (hp : p ≤ 20) (hw : w ≤ 6) : ∃ e d, Rd 106 0 (.ops 1) s e d [] := by
  obtain ⟨w1, v1, a, t, rfl, P, F, rfl⟩ := h
  exact flat_read P F hp hw
theorem FlatTx.snoc {w p : Nat} {s z : List Nat} (o : Op) (h : FlatTx w p s) (P : Flat .part 1 0 z) : FlatTx (w + 1) p (s ++ (o.sign ++ z)) := by
  obtain ⟨w1, v1, a, t, rfl, P1, F, rfl⟩ := h
  exact ⟨w1, v1 + 1, a, _, by simp, P1, tail_snoc o F (flat_up P (Nat.zero_le _)), by omega⟩
theorem FlatTx.paren {w p : Nat} {s : List Nat} (h : FlatTx w p s) : Flat .part w (p + 1) (paren s) := by
  obtain ⟨w1, v1, a, t, rfl, P1, F, rfl⟩ := h
  exact .par P1 F
theorem FlatTx.inSnoc {w p : Nat} {s z : List Nat} (o : Op) (h : FlatTx w p s) (P : Flat .part 1 0 z) : FlatTx (w + 1) (p + 1) (Lg.paren s ++ (o.sign ++ z)) := by
  have F : Flat .tail (1 + 0) (p + 1) (o.sign ++ (z ++ [])) := .cons o (flat_up P (Nat.zero_le _)) .nil
  rw [List.append_nil] at F
  exact ⟨w, 1, _, _, rfl, h.paren, F, rfl⟩
theorem FlatTx.snocIn {w p : Nat} {s z : List Nat} (o : Op) (h : FlatTx w p s) (P : Flat .part 1 0 z) : FlatTx (w + 1) (p + 1) (z ++ (o.sign ++ Lg.paren s)) := by
  have F : Flat .tail (w + 0) (p + 1) (o.sign ++ (Lg.paren s ++ [])) := .cons o h.paren .nil
  rw [List.append_nil, Nat.add_zero] at F
  exact ⟨1, w, _, _, rfl, flat_up P (Nat.zero_le _), F, by omega⟩
theorem FlatTx.up {w p q : Nat} {s : List Nat} (h : FlatTx w p s) (hq : p ≤ q) : FlatTx w q s := by
  obtain ⟨w1, v1, a, t, rfl, P1, F, rfl⟩ := h
  exact ⟨w1, v1, a, t, rfl, flat_up P1 hq, flat_up F hq, rfl⟩
theorem FlatTx.one {z : List Nat} (P : Flat .part 1 0 z) : FlatTx 1 0 z := ⟨1, 0, z, [], by simp, P, .nil, rfl⟩
end Lg

namespace Lg
open PySem PySem.Spec PyProof.Rows L2
/-! ### a reading that can be run -/
inductive R where
  | ok (e : E) (d : Nat) (l : List Nat)
  | bad
  | out
def isDig (c : Nat) : Bool := decide (Dig c)
def isLet (c : Nat) : Bool := decide (Let c)
def numTx (ds : List Nat) : Bool := decide (ds.length ≤ 10) && (!(ds[0]? == some 48) || decide (ds.length ≤ 1)) && decide (val ds < 1000000007)
def wordTx (z : List Nat) : Bool := !z.isEmpty && decide (z.length ≤ 8)
def quesB (z : List Nat) : Bool := decide (z = wd "known") || decide (z = wd "reason")
def leafF (l : List Nat) : R :=
  let ds := l.takeWhile isDig
  let r := l.dropWhile isDig
  if ds.isEmpty then
    let z := l.takeWhile isLet
    let r2 := l.dropWhile isLet
    if wordTx z then
      match r2 with
      | 32 :: c :: r3 =>
        if quesB z && isLet c then
          let z2 := (c :: r3).takeWhile isLet
          let r4 := (c :: r3).dropWhile isLet
          if wordTx z2 then .ok (.ask z z2) 1 r4 else .bad
        else .ok (.word z) 1 r2
      | _ => .ok (.word z) 1 r2
    else .bad
  else if numTx ds then .ok (.num (val ds)) 1 r else .bad
def opdF (sub : Nat → List Nat → R) (ar : Nat) (l : List Nat) : R := match l with
  | [] => leafF []
  | c :: l1 => if c = 40 then (if 20 ≤ ar then .bad else match sub (ar + 1) l1 with
      | .ok e d (41 :: l2) => .ok e d l2
      | .ok _ _ _ => .bad
      | .bad => .bad
      | .out => .out) else leafF (c :: l1)
def loopF (ops : Nat → List Nat → R) (least : Nat) : Nat → E → Nat → List Nat → R
  | 0, _, _, _ => .out
  | m + 1, e, d, l => match signAt l with
    | none => .ok e d l
    | some o => if least ≤ o.str then (match ops (o.str + 1) (l.drop o.sign.length) with
        | .ok e2 d2 l2 => if max d d2 + 1 ≤ 6 then loopF ops least m (.op o e e2) (max d d2 + 1) l2 else .bad
        | .bad => .bad
        | .out => .out) else .ok e d l
def opsF : Nat → Nat → Nat → List Nat → R
  | 0, _, _, _ => .out
  | n + 1, ar, least, l => match opdF (fun ar' l' => opsF n ar' 1 l') ar l with
    | .ok e d l1 => loopF (fun least' l' => opsF n ar least' l') least 100 e d l1
    | .bad => .bad
    | .out => .out
def Good (h ar : Nat) (j : J) (l : List Nat) : R → Prop
  | .ok e d l' => Rd h ar j l e d l'
  | .bad => Bad h ar j l
  | .out => True
theorem dw_head {p : Nat → Bool} (l : List Nat) : NoHead (fun c => p c = true) (l.dropWhile p) := by
  induction l with
  | nil => intro c r e; cases e
  | cons c l ih =>
    rw [List.dropWhile_cons]
    by_cases h : p c = true
    · rw [if_pos h]; exact ih
    · rw [if_neg h]
      intro c2 r e
      injection e with e _
      rw [← e]; exact h
theorem tw_all {p : Nat → Bool} (l : List Nat) : ∀ c ∈ l.takeWhile p, p c = true := by
  induction l with
  | nil => intro c h; cases h
  | cons c l ih =>
    intro c2 h
    rw [List.takeWhile_cons] at h
    by_cases q : p c = true
    · rw [if_pos q] at h
      rcases List.mem_cons.mp h with rfl | h
      · exact q
      · exact ih c2 h
    · rw [if_neg q] at h; cases h
theorem wordTx_iff {z : List Nat} : wordTx z = true ↔ WordTx z := by
  unfold wordTx WordTx
  cases z <;> simp
theorem numTx_iff {z : List Nat} : numTx z = true ↔ NumTx z := by
  unfold numTx NumTx
  simp only [Bool.and_eq_true, Bool.or_eq_true, decide_eq_true_iff, Bool.not_eq_true', beq_eq_false_iff_ne]
  constructor
  · rintro ⟨⟨h1, h2⟩, h3⟩
    exact ⟨h1, fun q => h2.elim (fun n => absurd q n) id, h3⟩
  · rintro ⟨h1, h2, h3⟩
    refine ⟨⟨h1, ?_⟩, h3⟩
    by_cases q : z[0]? = some 48
    · exact .inr (h2 q)
    · exact .inl q
theorem quesB_iff {z : List Nat} : quesB z = true ↔ Ques z := by
  unfold quesB Ques
  simp
theorem leaf_good {h ar : Nat} (l : List Nat) (n40 : NoHead (· = 40) l) : Good h ar .opd l (leafF l) := by
  have ed : l.takeWhile isDig ++ l.dropWhile isDig = l := List.takeWhile_append_dropWhile
  have el : l.takeWhile isLet ++ l.dropWhile isLet = l := List.takeWhile_append_dropWhile
  have hd : ∀ c ∈ l.takeWhile isDig, Dig c := fun c hc => of_decide_eq_true (tw_all l c hc)
  have hl : ∀ c ∈ l.takeWhile isLet, Let c := fun c hc => of_decide_eq_true (tw_all l c hc)
  have nd : NoHead Dig (l.dropWhile isDig) := fun c r e z => dw_head l c r e (decide_eq_true z)
  have nl : NoHead Let (l.dropWhile isLet) := fun c r e z => dw_head l c r e (decide_eq_true z)
  unfold leafF
  dsimp only
  by_cases hds : (l.takeWhile isDig).isEmpty = true
  · rw [if_pos hds]
    have hds' : l.takeWhile isDig = [] := List.isEmpty_iff.mp hds
    have ndl : NoHead Dig l := by
      rw [hds', List.nil_append] at ed
      rw [ed] at nd
      exact nd
    by_cases hw : wordTx (l.takeWhile isLet) = true
    · rw [if_pos hw]
      have wz := word_of hl (wordTx_iff.mp hw)
      have plain : ¬ (Ques (l.takeWhile isLet) ∧ Bef (l.dropWhile isLet)) → Rd h ar .opd l (.word (l.takeWhile isLet)) 1 (l.dropWhile isLet) := fun hq => by
        have q : Rd h ar .opd (l.takeWhile isLet ++ l.dropWhile isLet) (.word (l.takeWhile isLet)) 1 (l.dropWhile isLet) := .word wz nl hq
        rw [el] at q
        exact q
      split
      · rename_i c r3 er
        by_cases hq : (quesB (l.takeWhile isLet) && isLet c) = true
        · rw [if_pos hq]
          rw [Bool.and_eq_true] at hq
          have hqq := quesB_iff.mp hq.1
          have hc : Let c := of_decide_eq_true hq.2
          have e2 : (c :: r3).takeWhile isLet ++ (c :: r3).dropWhile isLet = c :: r3 := List.takeWhile_append_dropWhile
          have hl2 : ∀ c2 ∈ (c :: r3).takeWhile isLet, Let c2 := fun c2 hc2 => of_decide_eq_true (tw_all _ c2 hc2)
          have nl2 : NoHead Let ((c :: r3).dropWhile isLet) := fun c2 r e z => dw_head _ c2 r e (decide_eq_true z)
          have whole : l = l.takeWhile isLet ++ 32 :: ((c :: r3).takeWhile isLet ++ (c :: r3).dropWhile isLet) := by
            rw [e2, ← er, el]
          by_cases hw2 : wordTx ((c :: r3).takeWhile isLet) = true
          · rw [if_pos hw2]
            have q : Rd h ar .opd (l.takeWhile isLet ++ 32 :: ((c :: r3).takeWhile isLet ++ (c :: r3).dropWhile isLet)) (.ask (l.takeWhile isLet) ((c :: r3).takeWhile isLet)) 1 ((c :: r3).dropWhile isLet) := .ask hqq (word_of hl2 (wordTx_iff.mp hw2)) nl2
            rw [← whole] at q
            exact q
          · rw [if_neg hw2]
            have hne : (c :: r3).takeWhile isLet ≠ [] := by
              rw [List.takeWhile_cons, if_pos hq.2]
              simp
            have q : Bad h ar .opd (l.takeWhile isLet ++ 32 :: ((c :: r3).takeWhile isLet ++ (c :: r3).dropWhile isLet)) := .ask hqq hl2 nl2 hne fun z => hw2 (wordTx_iff.mpr z)
            rw [← whole] at q
            exact q
        · rw [if_neg hq]
          have := plain fun ⟨z1, c2, r, z2, z3⟩ => hq (by
            rw [er] at z2
            injection z2 with _ z2
            injection z2 with z2 _
            rw [Bool.and_eq_true]
            exact ⟨quesB_iff.mpr z1, decide_eq_true (z2 ▸ z3)⟩)
          exact this
      · rename_i hne
        exact plain fun ⟨z1, c2, r, z2, z3⟩ => hne c2 r z2
    · rw [if_neg hw]
      have q : Bad h ar .opd (l.takeWhile isLet ++ l.dropWhile isLet) := .word hl nl (by rw [el]; exact ndl) (by rw [el]; exact n40) fun z => hw (wordTx_iff.mpr z)
      rw [el] at q
      exact q
  · rw [if_neg hds]
    have hne : l.takeWhile isDig ≠ [] := fun z => hds (by rw [z]; rfl)
    by_cases hn : numTx (l.takeWhile isDig) = true
    · rw [if_pos hn]
      obtain ⟨n1, n2, n3⟩ := numTx_iff.mp hn
      have e := ntx_val hd hne n2
      have q : Rd h ar .opd (ntx (val (l.takeWhile isDig)) ++ l.dropWhile isDig) (.num (val (l.takeWhile isDig))) 1 (l.dropWhile isDig) := .num (num_ok n3) nd
      rw [e, ed] at q
      exact q
    · rw [if_neg hn]
      have q : Bad h ar .opd (l.takeWhile isDig ++ l.dropWhile isDig) := .num hne hd nd fun z => hn (numTx_iff.mpr z)
      rw [ed] at q
      exact q
theorem opd_good {h ar : Nat} {sub : Nat → List Nat → R} (har : ar ≤ 20) (S : ∀ l1, ar < 20 → Good h (ar + 1) (.ops 1) l1 (sub (ar + 1) l1)) (l : List Nat) : Good (h + 1) ar .opd l (opdF sub ar l) := by
  unfold opdF
  split
  · exact leaf_good [] fun c r e => by cases e
  · rename_i c l1
    by_cases hc : c = 40
    · rw [if_pos hc]
      subst hc
      by_cases hf : 20 ≤ ar
      · rw [if_pos hf]
        exact Bad.full hf
      · rw [if_neg hf]
        have hlt : ar < 20 := by omega
        have q := S l1 hlt
        cases hs : sub (ar + 1) l1 with
        | out => exact True.intro
        | bad =>
          rw [hs] at q
          exact Bad.inn hlt q
        | ok e d l' =>
          rw [hs] at q
          have q' : Rd h (ar + 1) (.ops 1) l1 e d l' := q
          split
          · rename_i heq
            injection heq with h1 h2 h3
            subst h1 h2 h3
            exact Rd.par hlt q'
          · rename_i hn heq
            injection heq with h1 h2 h3
            subst h1 h2 h3
            exact Bad.shut hlt q' fun c r z1 z2 => hn r (by rw [z1, z2])
          · rename_i heq; cases heq
          · rename_i heq; cases heq
    · rw [if_neg hc]
      exact leaf_good _ fun c2 r e => by
        injection e with e _
        rw [← e]
        exact hc
theorem loop_good {h ar : Nat} {ops : Nat → List Nat → R} (S : ∀ least l1, Good h ar (.ops least) l1 (ops least l1)) (least : Nat) : ∀ (m : Nat) (e : E) (d : Nat) (l : List Nat), Good h ar (.loop least e d) l (loopF ops least m e d l) := by
  intro m
  induction m with
  | zero => intro e d l; exact True.intro
  | succ m ih =>
    intro e d l
    unfold loopF
    cases hs : signAt l with
    | none => exact Rd.stop fun o z => by rw [hs] at z; cases z
    | some o =>
      dsimp only
      by_cases hle : least ≤ o.str
      · rw [if_pos hle]
        obtain ⟨l1, rfl⟩ := signAt_split hs
        rw [List.drop_left]
        have q := S (o.str + 1) l1
        cases hp : ops (o.str + 1) l1 with
        | out => exact True.intro
        | bad =>
          rw [hp] at q
          exact Bad.loop1 hs hle q
        | ok e2 d2 l2 =>
          rw [hp] at q
          have q' : Rd h ar (.ops (o.str + 1)) l1 e2 d2 l2 := q
          dsimp only
          by_cases hd : max d d2 + 1 ≤ 6
          · rw [if_pos hd]
            have r := ih (.op o e e2) (max d d2 + 1) l2
            cases hr : loopF ops least m (.op o e e2) (max d d2 + 1) l2 with
            | out => exact True.intro
            | bad =>
              rw [hr] at r
              exact Bad.loop2 hs hle q' hd r
            | ok e3 d3 l3 =>
              rw [hr] at r
              exact Rd.step hs hle q' hd r
          · rw [if_neg hd]
            exact Bad.deep hs hle q' (by omega)
      · rw [if_neg hle]
        exact Rd.stop fun o2 z => by rw [hs] at z; cases z; omega
theorem good_mono {h h2 ar : Nat} {j : J} {l : List Nat} {r : R} (g : Good h ar j l r) (hh : h ≤ h2) : Good h2 ar j l r := by
  cases r with
  | ok e d l' => exact Rd.mono g hh
  | bad => exact Bad.mono g hh
  | out => exact True.intro
theorem ops_good : ∀ (n ar least : Nat) (l : List Nat), ar ≤ 20 → Good (2 * n) ar (.ops least) l (opsF n ar least l) := by
  intro n
  induction n with
  | zero => intro ar least l _; exact True.intro
  | succ n ih =>
    intro ar least l har
    unfold opsF
    have q := opd_good (h := 2 * n) (sub := fun ar' l' => opsF n ar' 1 l') har (fun l1 hlt => ih (ar + 1) 1 l1 (by omega)) l
    cases hs : opdF (fun ar' l' => opsF n ar' 1 l') ar l with
    | out => exact True.intro
    | bad =>
      rw [hs] at q
      exact Bad.ops1 (h := 2 * n + 1) q
    | ok e d l1 =>
      rw [hs] at q
      have q' : Rd (2 * n + 1) ar .opd l e d l1 := q
      have r := loop_good (h := 2 * n + 1) (ar := ar) (ops := fun least' l' => opsF n ar least' l') (fun least' l' => good_mono (ih ar least' l' har) (by omega)) least 100 e d l1
      dsimp only
      cases hr : loopF (fun least' l' => opsF n ar least' l') least 100 e d l1 with
      | out => exact True.intro
      | bad =>
        rw [hr] at r
        exact Bad.ops2 (h := 2 * n + 1) q' r
      | ok e3 d3 l3 =>
        rw [hr] at r
        exact Rd.ops (h := 2 * n + 1) q' r
/-- the text is none of an expression -/
def isWrong (l : List Nat) : Bool := match opsF 53 0 1 l with
  | .ok _ _ [] => false
  | .ok _ _ _ => true
  | .bad => true
  | .out => false
theorem wrong_ok {l : List Nat} (h : isWrong l = true) : Bad 106 0 (.ops 1) l ∨ ∃ e d l', Rd 106 0 (.ops 1) l e d l' ∧ l' ≠ [] := by
  have g := ops_good 53 0 1 l (by omega)
  unfold isWrong at h
  cases hs : opsF 53 0 1 l with
  | out => rw [hs] at h; cases h
  | bad =>
    rw [hs] at g
    exact .inl g
  | ok e d l' =>
    rw [hs] at g h
    refine .inr ⟨e, d, l', g, fun z => ?_⟩
    rw [z] at h
    cases h
/-- the text is one of an expression -/
def isRight (l : List Nat) : Bool := match opsF 53 0 1 l with
  | .ok _ _ [] => true
  | _ => false
theorem right_ok {l : List Nat} (h : isRight l = true) : ∃ e d, Rd 106 0 (.ops 1) l e d [] := by
  have g := ops_good 53 0 1 l (by omega)
  unfold isRight at h
  cases hs : opsF 53 0 1 l with
  | out => rw [hs] at h; cases h
  | bad => rw [hs] at h; cases h
  | ok e d l' =>
    rw [hs] at g h
    cases l' with
    | nil => exact ⟨e, d, g⟩
    | cons c r => cases h
example : (["", " ", "+", "a +", "a + ", " a", "a ", "a+b", "a  + b", "a +  b", "a b", "01", "00", "-1", "1000000007", "A", "a_b", "abcdefghi", "()", "(a", "a)", "( a)", "(a )", "a ( + b)", "(a) (b)", "(a)b", "known(x)", "known  x", "known (x)",
  "reason 1", "a = b", "a === b", "a > b", "a <b", "a / b", "a ** b", "a, b", "1a", "a1", "known abcdefghi", "a\n", "12345678901", "a + (b", "a + b)", "1 + 1 + 1 + 1 + 1 + 1 + 1", "a * * b", "((a)"].all fun s => isWrong (wd s)) = true := by decide +kernel
example : (["1 + 1 + 1 + 1 + 1 + 1", "((((((((((((((((((((a))))))))))))))))))))"].all fun s => isRight (wd s)) = true := by decide +kernel
example : isWrong (List.replicate 9000 40) = true := by decide +kernel
end Lg

namespace Lg
open PySem PySem.Spec PyProof.Rows L2
theorem big1 : isWrong ((List.replicate 4000 [97, 32, 43, 32]).flatten ++ [97]) = true := by decide +kernel
theorem big2 : isWrong ((List.replicate 9000 [40]).flatten) = true := by decide +kernel
theorem big3 : isWrong ((List.replicate 9000 [49]).flatten) = true := by decide +kernel
theorem big4 : isWrong ((List.replicate 21 [40]).flatten ++ [97] ++ (List.replicate 21 [41]).flatten) = true := by decide +kernel
theorem right20 : opsF 53 0 1 ((List.replicate 20 [40]).flatten ++ [97] ++ (List.replicate 20 [41]).flatten) = .ok (.word [97]) 1 [] := by rfl
theorem right6 : isRight (wd "1 + 1 + 1 + 1 + 1 + 1") = true := by decide +kernel
theorem wrongs_ok : (["", " ", "+", "a +", "a + ", " a", "a ", "a+b", "a  + b", "a +  b", "a b", "01", "00", "-1", "1000000007", "A", "a_b", "abcdefghi", "()", "(a", "a)", "( a)", "(a )", "a ( + b)", "(a) (b)", "(a)b", "known(x)", "known  x", "known (x)",
  "reason 1", "a = b", "a === b", "a > b", "a <b", "a / b", "a ** b", "a, b", "1a", "a1", "known abcdefghi", "a\n", "12345678901", "a + (b", "a + b)", "1 + 1 + 1 + 1 + 1 + 1 + 1", "a * * b", "((a)"].all fun s => isWrong (wd s) && decide ((wd s).length ≤ 100)) = true := by decide +kernel
end Lg

namespace Lg
open PySem PySem.Spec PyProof.Rows L2
def top (i : Nat) : Stmt := PySem.Challenge.pw_wantedwork_k11_texts_of_no_expression.main.body.getD i (.Pass ⟨0, 0, 0, 0⟩)
abbrev sMade : Stmt := top 7
abbrev sIsWord : Stmt := top 8
abbrev sNumber : Stmt := top 16
abbrev sWord : Stmt := top 17
abbrev sExpr : Stmt := top 18
abbrev sInit : Stmt := inClass (top 19) 0
abbrev sOps : Stmt := inClass (top 19) 1
abbrev sSign : Stmt := inClass (top 19) 2
abbrev sOpd : Stmt := inClass (top 19) 3
abbrev sPar : Stmt := inClass (top 19) 4
abbrev sTaken : Stmt := inClass (top 19) 5
abbrev sBefore : Stmt := inClass (top 19) 6
abbrev sFormat : Stmt := top 22
abbrev sWritten : Stmt := top 23
abbrev sParse : Stmt := top 24
abbrev sTape : Stmt := top 26
abbrev sDraw : Stmt := top 27
abbrev sTextInit : Stmt := inClass (top 2) 0
abbrev sOne : Stmt := top 28
abbrev sRead : Stmt := top 29
abbrev sText : Stmt := top 30
abbrev sBare : Stmt := top 31
abbrev sLaw : Stmt := top 32
end Lg

namespace Lg
open PySem PySem.Spec PyProof.Rows L2
/-! ### over the signs of a text -/
theorem lc_str {z : Str} {g : TG} {tt : TT} {te : TE} {vs : List Nat} {σ : L2.St} {H1 : Hp} {D : Addr} {Qd : Hp → Prop} (Pv : Nat → Hp → Prop) (h0 : Pv 0 (upd H1 D (.lst [])))
    (hs : ∀ i c H, z.cps.toList[i]? = some c → Pv i H → g (.str ⟨#[c]⟩) (wipe σ vs) H fun σ2 H2 => wipe σ2 vs = wipe σ vs ∧ tt σ2 H2 fun b H3 =>
      if b = true then te σ2 H3 fun y H4 => ∃ acc, H4 D = some (.lst acc) ∧ acc.length < sizeLine ∧ Pv (i + 1) (upd H4 D (.lst (acc ++ [y]))) else Pv (i + 1) H3) (hd : ∀ H, Pv z.cps.size H → Qd H) :
    ∃ W : Nat → Nat → Hp → Prop, (∃ m, W 0 m (upd H1 D (.lst []))) ∧ ∀ i m H, W i m H →
      ((Its z).stop i H ∧ Qd H) ∨ ((Its z).go i H ∧ ∃ Nx : Hp → Prop, (∀ H', Nx H' → ∃ m', m' < m ∧ W (i + 1) m' H') ∧ ∀ x H', (Its z).yld i H x H' → g x (wipe σ vs) H' fun σ2 H2 => wipe σ2 vs = wipe σ vs ∧ tt σ2 H2 fun b H3 =>
        if b = true then te σ2 H3 fun y H4 => ∃ acc, H4 D = some (.lst acc) ∧ acc.length < sizeLine ∧ Nx (upd H4 D (.lst (acc ++ [y]))) else Nx H3) := by
  refine ⟨fun i m H => m = z.cps.size - i ∧ i ≤ z.cps.size ∧ Pv i H, ⟨_, rfl, Nat.zero_le _, h0⟩, ?_⟩
  rintro i m H ⟨rfl, hi, p⟩
  by_cases hlt : i < z.cps.size
  · refine .inr ⟨hlt, Pv (i + 1), fun H' p' => ⟨z.cps.size - (i + 1), by omega, rfl, hlt, p'⟩, fun x H' y => ?_⟩
    obtain ⟨e, c, hc, rfl⟩ := y
    subst e
    exact hs i c _ (by simpa using hc) p
  · have e : i = z.cps.size := by omega
    subst e
    exact .inl ⟨Nat.le_refl _, hd H p⟩
/-- for over the keys of a written dict -/
theorem for_keysW {ks : List Str} {g : TG} {tb : TS} {D : Ends} {σ : L2.St} {H : Hp} (Pv : Nat → L2.St → Hp → Prop) (h0 : Pv 0 σ H)
    (hs : ∀ i x σ H, ks[i]? = some x → Pv i σ H → g (.str x) σ H fun σ2 H2 => tb { D with nx := Pv (i + 1), ct := Pv (i + 1), bk := D.nx } σ2 H2) (hd : ∀ σ H, Pv ks.length σ H → D.nx σ H) :
    ∃ W : Nat → Nat → L2.St → Hp → Prop, (∃ m, W 0 m σ H) ∧ ∀ i m σ H, W i m σ H →
      ((Itw ks).stop i H ∧ D.nx σ H) ∨ ((Itw ks).go i H ∧ ∃ N : L2.St → Hp → Prop, (∀ σ' H', N σ' H' → ∃ m', m' < m ∧ W (i + 1) m' σ' H') ∧ ∀ x H', (Itw ks).yld i H x H' → g x σ H' fun σ2 H2 => tb { D with nx := N, ct := N, bk := D.nx } σ2 H2) := by
  refine ⟨fun i m σ H => m = ks.length - i ∧ i ≤ ks.length ∧ Pv i σ H, ⟨_, rfl, Nat.zero_le _, h0⟩, ?_⟩
  rintro i m σ H ⟨rfl, hi, p⟩
  by_cases hlt : i < ks.length
  · refine .inr ⟨hlt, Pv (i + 1), fun σ' H' p' => ⟨ks.length - (i + 1), by omega, rfl, hlt, p'⟩, fun x H' y => ?_⟩
    obtain ⟨e, z, hz, rfl⟩ := y
    subst e
    exact hs i z σ _ hz p
  · have e : i = ks.length := by omega
    subst e
    exact .inl ⟨Nat.le_refl _, hd σ H p⟩
/-! ### what the written part says -/
abbrev sLetters : Str := "abcdefghijklmnopqrstuvwxyz"
abbrev sDigits : Str := "0123456789"
theorem letters_iff (c : Nat) : c ∈ sLetters.cps.toList ↔ Let c := by
  constructor
  · have : ∀ c ∈ sLetters.cps.toList, Let c := by decide +kernel
    exact this c
  · rintro ⟨h1, h2⟩
    have : ∀ c, c < 123 → 97 ≤ c → c ∈ sLetters.cps.toList := by decide +kernel
    exact this c (by omega) h1
theorem digits_iff (c : Nat) : c ∈ sDigits.cps.toList ↔ Dig c := by
  constructor
  · have : ∀ c ∈ sDigits.cps.toList, Dig c := by decide +kernel
    exact this c
  · rintro ⟨h1, h2⟩
    have : ∀ c, c < 58 → 48 ≤ c → c ∈ sDigits.cps.toList := by decide +kernel
    exact this c (by omega) h1
theorem same_upd {H : Hp} {a : Addr} {o : HO} (h : H a = none) : Same H (upd H a o) := fun b q e => by
  rw [upd_ne (ne_of_none e h)]
  exact e
structure DefX (K : PySem.W.Frag) (mg : Str → Option Value) (nm : Str) (s : Stmt) (ps : List Str) (f : Addr) (fd : FuncData) : Prop where
  mg : mg nm = some (.ref f)
  F : Fun K nm nm s f fd
  b : Binds K fd ps []
def Op.key : Op → Str := fun o => ⟨o.sign.toArray⟩
def opAll : List Op := [.plus, .minus, .times, .less, .same]
structure Gx (K : PySem.W.Frag) (w : World) (mg : Str → Option Value) : Prop where
  all : mg "all" = none
  len : mg "len" = none
  int : mg "int" = none
  isi : mg "isinstance" = none
  str : mg "str" = none
  max : mg "max" = none
  tuple : mg "tuple" = none
  list : mg "list" = none
  range : mg "range" = none
  repr : mg "repr" = none
  letters : ∃ t, mg "LETTERS" = some (.str sLetters t)
  digits : ∃ t, mg "DIGITS" = some (.str sDigits t)
  modulus : ∃ t, mg "MODULUS" = some (.int 1000000007 t)
  deepest : ∃ t, mg "DEEPEST" = some (.int 6 t)
  mostP : ∃ t, mg "MOST_PARENTHESES" = some (.int 20 t)
  mostD : ∃ t, mg "MOST_DIGITS" = some (.int 10 t)
  ops : ∃ d, mg "OPERATIONS_OF_SIGNS" = some (.ref d) ∧ KKeys K d (opAll.map Op.key) ∧ ∀ o : Op, KDct K w d o.key (.str o.name)
  strengths : ∃ d, mg "STRENGTHS" = some (.ref d) ∧ ∀ o : Op, KDct K w d o.name (.int o.str)
  quests : ∃ t, mg "QUESTIONS" = some (.ref t) ∧ ∀ H, SqT K H t [.str (st (wd "known")), .str (st (wd "reason"))]
theorem scMade : FnScope ["text", "allowed", "character"] ["text", "allowed"] (defScope sMade) := ⟨rfl, rfl, rfl, by decide +kernel, rfl, by decide +kernel, by decide +kernel⟩
theorem scIsWord : FnScope ["value"] ["value"] (defScope sIsWord) := ⟨rfl, rfl, rfl, by decide +kernel, rfl, by decide +kernel, by decide +kernel⟩
theorem scNumber : FnScope ["text"] ["text"] (defScope sNumber) := ⟨rfl, rfl, rfl, by decide +kernel, rfl, by decide +kernel, by decide +kernel⟩
theorem scWord : FnScope ["text"] ["text"] (defScope sWord) := ⟨rfl, rfl, rfl, by decide +kernel, rfl, by decide +kernel, by decide +kernel⟩
/-- is_made_of: all signs are allowed ones -/
def spMadeOf : Sp := fun vs H Q _ => ∃ z al : Str, vs = [.str z, .str al] ∧ z.length ≤ 40000 ∧ ∀ H', Same H H' → Q (.bl (decide (∀ c ∈ z.cps.toList, c ∈ al.cps.toList))) H'
/-- a word, by its form -/
def IsW (z : List Nat) : Prop := 1 ≤ z.length ∧ z.length ≤ 8 ∧ ∀ c ∈ z, Let c
/-- digits of a number -/
def IsN (z : List Nat) : Prop := 1 ≤ z.length ∧ z.length ≤ 10 ∧ (∀ c ∈ z, Dig c) ∧ (z[0]? = some 48 → z.length ≤ 1)
/-- the raising of InvalidText(None) -/
def Fails (C : Addr) (H : Hp) (E : XK) : Prop := ∀ H' d, Same H H' → H d = none → H' d = some (.xd [("line", .non)]) → E (.ref C) (some d) H'
def spIsWord : Sp := fun vs H Q _ => ∃ z : List Nat, vs = [.str (st z)] ∧ z.length ≤ 40000 ∧ ∀ H' b, Same H H' → (b = true ↔ IsW z) → Q (.bl b) H'
def spNumber (C : Addr) : Sp := fun vs H Q E => ∃ z : List Nat, vs = [.str (st z)] ∧ z.length ≤ 40000 ∧ ((IsN z ∧ ∀ H', Same H H' → Q (.int (val z : Nat)) H') ∨ (¬ IsN z ∧ Fails C H E))
def spWord (C : Addr) : Sp := fun vs H Q E => ∃ z : List Nat, vs = [.str (st z)] ∧ z.length ≤ 40000 ∧ ((IsW z ∧ ∀ H', Same H H' → Q (.str (st z)) H') ∨ (¬ IsW z ∧ Fails C H E))
theorem all_taken : ∀ (l : List Nat) (p : Nat → Bool), (l.map p).all id = l.all p
  | [], _ => rfl
  | c :: l, p => by simp [all_taken l p]
section
variable {P : Program} {w : World} {K : PySem.W.Frag} {mg : Str → Option Value} {base : Heap} {f : Addr} {fd : FuncData}
theorem ok_madeOf (F : Fun K "is_made_of" "is_made_of" sMade f fd) (T : Gx K w mg) : FnOk P w K mg base CX0 1 f fd ["text", "allowed"] spMadeOf := by
  refine F.ok scMade (fun vs H Q E h => ?_) (fun cdv A outer s H vs Q E hr h => ?_)
  · obtain ⟨z, al, rfl, _⟩ := h
    rfl
  · obtain ⟨z, al, rfl, hz, k⟩ := h
    refine ⟨_, pss_one (ps_ret (pe_callB (cr_all rfl) (by rfl) T.all (by decide +kernel) (pa_cons
      (pe_lc (own := [("character", 2)]) (g := gName 2) (tt := tYes) (by rfl) scMade.nd (pi_str (pv 0)) (blkOk_by (own := [("character", 2)]) (N := ["text", "allowed", "character"]) (sc := defScope sMade) (by decide +kernel))
        (fun _ _ _ _ _ => pg_name (i := 2) scMade.nd rfl (Or.inl rfl)) (fun _ _ _ _ _ => pts_nil) (fun _ _ _ _ _ => pe_cmpR op_in_sign (pv 2) (pv 1) rfl)) pa_nil))), ?_⟩
    refine ⟨_, rfl, z, rfl, fun D hD => lc_str (z := z) (fun i H' => Same H H' ∧ H' D = some (.lst ((z.cps.toList.take i).map fun c => V.bl (decide (c ∈ al.cps.toList))))) ⟨same_upd hD, upd_same⟩ ?_ ?_⟩
    · rintro i c H' hc ⟨q1, q2⟩
      refine ⟨rfl, ?_⟩
      unfold tYes
      refine iteT ?_
      have hi : i < z.cps.toList.length := by
        rcases Nat.lt_or_ge i z.cps.toList.length with h | h
        · exact h
        · rw [List.getElem?_eq_none h] at hc; cases hc
      refine ⟨_, rfl, _, rfl, c, al, rfl, rfl, _, q2, ?_, ?_, ?_⟩
      · rw [List.length_map, List.length_take, sizeLine_eq]
        have : z.cps.toList.length = z.length := by simp [PySem.Str.length]
        omega
      · intro b o e
        rw [upd_ne (ne_of_none e hD)]
        exact q1 b o e
      · rw [upd_same, List.take_succ, hc, List.map_append]
        rfl
    · rintro H' ⟨q1, q2⟩
      refine ⟨D, z.cps.toList.map fun c => decide (c ∈ al.cps.toList), rfl, SqL.of ?_, ?_⟩
      · rw [q2]
        have e : z.cps.toList.take z.cps.size = z.cps.toList := List.take_of_length_le (by simp)
        rw [e, List.map_map]
        rfl
      · have e : (List.map (fun c => decide (c ∈ al.cps.toList)) z.cps.toList).all id = decide (∀ c ∈ z.cps.toList, c ∈ al.cps.toList) := by
          rw [all_taken, Bool.eq_iff_iff, List.all_eq_true, decide_eq_true_iff]
          exact forall_congr' fun c => forall_congr' fun _ => by rw [decide_eq_true_iff]
        rw [e]
        exact k H' q1
theorem bl_of {p : Prop} [Decidable p] (h : p) : V.bl (decide p) = V.bl true := by rw [decide_eq_true h]
theorem bl_no {p : Prop} [Decidable p] (h : ¬ p) : V.bl (decide p) = V.bl false := by rw [decide_eq_false h]
theorem st_len (z : List Nat) : (st z).length = z.length := by simp [PySem.Str.length]
abbrev veT : List Value := [.type "ValueError", .type "Exception", .type "BaseException", .type "object"]
theorem abVE : PySem.Er.Above "ValueError" veT := ⟨by decide +kernel, by decide +kernel, by decide +kernel⟩
theorem iniVE : PySem.Er.IniB "ValueError" "ValueError.__init__" := .of PySem.F.excCall_ValueError
structure WorkC (K : PySem.W.Frag) (mg : Str → Option Value) (W0 : Addr) : Prop where
  mg : mg "WorkError" = some (.ref W0)
  sp : PySem.W.specialIn K (.ref W0) "__getattribute__" = some (some (.builtin "type.__getattribute__"))
  rd : PySem.W.readsIn K W0 (.type "type") = true
  fc : PySem.W.findCls K (.ref W0) (.type "type") "__init__" = some (.val (.builtin "ValueError.__init__"))
structure ErX (K : PySem.W.Frag) (mg : Str → Option Value) (C W0 fI : Addr) (fdI : FuncData) : Prop where
  er : ErC K C "ValueError" "ValueError.__new__" veT
  ty : PySem.W.typeIn K (.ref C) = some (.type "type")
  mgC : mg "InvalidText" = some (.ref C)
  iC : PySem.W.findIn K (.ref C) "__init__" = some (some (.ref fI))
  tI : PySem.W.typeIn K (.ref fI) = some (.type "function")
  F : Fun K "__init__" "InvalidText.__init__" sTextInit fI fdI
  b : Binds K fdI ["self", "line"] []
  ht : PySem.W.takerIn K C "line" = some none
  wk : WorkC K mg W0
theorem scTextInit : FnScope ["self", "line"] ["self", "line"] (defScope sTextInit) := ⟨rfl, rfl, rfl, by decide +kernel, rfl, by decide +kernel, by decide +kernel⟩
theorem ok_textInit {C W0 fI : Addr} {fdI : FuncData} (T : ErX K mg C W0 fI fdI) : FnOk P w K mg base CX0 1 fI fdI ["self", "line"] (spErr C "line" fun y _ => y = .non) := by
  refine T.F.ok scTextInit (fun vs H Q E h => ?_) (fun cdv A outer s H vs Q E hr h => ?_)
  · obtain ⟨a, y, rfl, _⟩ := h
    rfl
  · obtain ⟨a, y, rfl, ea, rfl, q⟩ := h
    refine ⟨_, pss_cons (ps_expr (pe_eri T.er iniVE (by rfl) T.wk.mg T.wk.sp T.wk.rd T.wk.fc (by decide +kernel) (pa_cons (pv 0) (pa_cons (pe_joined (PJ.cons pe_str (PJ.cons (pe_fmtO (pv 1)) PJ.nil))) pa_nil)))) (pss_one (ps_ers T.er PySem.F.store_ValueError T.ht (pv 0) (pv 1))), ?_⟩
    refine ⟨_, rfl, _, rfl, by size_fits, _, rfl, .inl ⟨rfl, _, rfl, by size_fits, a, [_], rfl, Nat.le_of_ble_eq_true rfl, ea, ?_⟩⟩
    exact ⟨_, rfl, _, rfl, a, rfl, ea, fun dx h1 h2 => q dx h1 h2⟩
end
end Lg

namespace Lg
open PySem PySem.Spec PyProof.Rows L2
theorem iteN {p A B : Prop} [Decidable p] (h : ¬ p) (k : B) : if decide p = true then A else B := by
  rw [decide_eq_false h]
  exact iteF k
theorem iteY {p A B : Prop} [Decidable p] (h : p) (k : A) : if decide p = true then A else B := by
  rw [decide_eq_true h]
  exact iteT k
theorem ite_b {A B : Prop} {b : Bool} (h1 : b = true → A) (h2 : b = false → B) : if b = true then A else B := by
  cases b with
  | true => exact iteT (h1 rfl)
  | false => exact iteF (h2 rfl)
theorem ite_n {A B : Prop} {b : Bool} (h1 : b = false → A) (h2 : b = true → B) : if (!b) = true then A else B := by
  cases b with
  | true => exact iteF (h2 rfl)
  | false => exact iteT (h1 rfl)
section
variable {P : Program} {w : World} {K : PySem.W.Frag} {mg : Str → Option Value} {base : Heap} {f C W0 fI : Addr} {fd fdI : FuncData}
theorem ok_isWord (F : Fun K "is_word" "is_word" sIsWord f fd) (T : Gx K w mg) {fm : Addr} {fdm : FuncData} (M : DefX K mg "is_made_of" sMade ["text", "allowed"] fm fdm) : FnOk P w K mg base CX0 2 f fd ["value"] spIsWord := by
  have GM : FnOk P w K mg base CX0 1 _ _ ["text", "allowed"] spMadeOf := ok_madeOf M.F T
  obtain ⟨tl, hlet⟩ := T.letters
  refine F.ok scIsWord (fun vs H Q E h => ?_) (fun cdv A outer s H vs Q E hr h => ?_)
  · obtain ⟨z, rfl, _⟩ := h
    rfl
  · obtain ⟨z, rfl, hz, k⟩ := h
    refine ⟨_, pss_one (ps_ret (pe_and (pe_callB call_isi (by rfl) T.isi (by decide +kernel) (pa_cons (pv 0) (pa_cons (pe_bltn (v := .ty "str") (by rfl) T.str (by decide +kernel) rfl) pa_nil)))
      (pe_and (pe_chain op_le op_le pe_int (pe_callB call_len_str (by rfl) T.len (by decide +kernel) (pa_cons (pv 0) pa_nil)) pe_int)
        (pe_one (pe_call GM hr (by rfl) M.mg M.F.kp M.b .nil pass0 (pa_cons (pv 0) (pa_cons (pe_glob (v := .str sLetters) rfl hlet ⟨_, rfl⟩) pa_nil))))))), ?_⟩
    refine ⟨_, rfl, _, _, _, _, true, rfl, .ty "str", .base (.str _), kit_ty (by decide +kernel), ?_⟩
    refine ⟨true, rfl, iteT ?_⟩
    have hsl := st_len z
    have hsz : (st z).length ≤ sizeLine := by rw [sizeLine_eq]; omega
    refine ⟨_, rfl, _, rfl, hsz, 1, _, rfl, rfl, decide ((1 : Int) ≤ ((st z).length : Int)), rfl, ?_⟩
    refine ite_b (fun c1 => ?_) (fun c1 => ?_)
    · refine ⟨_, _, rfl, rfl, ?_⟩
      refine ⟨decide (((st z).length : Int) ≤ 8), rfl, ite_b (fun c2 => ?_) (fun c2 => ?_)⟩
      · refine ⟨_, rfl, st z, sLetters, rfl, by omega, fun H' sm => ?_⟩
        refine k H' _ sm ?_
        rw [decide_eq_true_iff]
        have e1 := of_decide_eq_true c1
        have e2 := of_decide_eq_true c2
        constructor
        · intro h
          exact ⟨by omega, by omega, fun c hc => (letters_iff c).mp (h c (by simpa using hc))⟩
        · rintro ⟨_, _, h⟩ c hc
          exact (letters_iff c).mpr (h c (by simpa using hc))
      · have e2 := of_decide_eq_false c2
        exact k H false (fun _ _ e => e) ⟨fun z => (by cases z), fun h => (by have := h.2.1; omega)⟩
    · have e1 := of_decide_eq_false c1
      exact ⟨false, rfl, iteF (k H false (fun _ _ e => e) ⟨fun z => (by cases z), fun h => (by have := h.1; omega)⟩)⟩
theorem ok_word (F : Fun K "read_word" "read_word" sWord f fd) (X : ErX K mg C W0 fI fdI) {fw : Addr} {fdw : FuncData} (W : DefX K mg "is_word" sIsWord ["value"] fw fdw) (GW : FnOk P w K mg base CX0 2 fw fdw ["value"] spIsWord) :
    FnOk P w K mg base (L2.CX P w) 3 f fd ["text"] (spWord C) := by
  have GI : FnOk P w K mg base CX0 1 fI fdI ["self", "line"] (spErr C "line" fun y _ => y = .non) := ok_textInit X
  refine F.okX scWord (fun vs H Q E h => ?_) (fun cdv A outer s H vs Q E hr h => ?_)
  · obtain ⟨z, rfl, _⟩ := h
    rfl
  · obtain ⟨z, rfl, hz, k⟩ := h
    refine ⟨_, pss_cons (ps_if (pt_not (pt_val (pe_call GW hr (by rfl) W.mg W.F.kp W.b .nil pass0 (pa_cons (pv 0) pa_nil))))
        (pss_one (ps_raise rfl (takes_of rfl rfl rfl rfl) (pmk_err X.er X.ty PySem.F.excBase_ValueError abVE X.iC X.tI GI hr X.b (by rfl) X.mgC (pa_cons pe_non pa_nil)))) pss_nil) (pss_one (ps_ret (pv 0))), ?_⟩
    refine ⟨_, rfl, z, rfl, hz, fun H' b sm hb => ?_⟩
    refine ⟨b, rfl, ?_⟩
    refine ite_n (fun c => ?_) (fun c => ?_)
    · rcases k with ⟨kw, _⟩ | ⟨_, k⟩
      · rw [c] at hb
        exact absurd (hb.mpr kw) (by decide)
      · exact ⟨_, rfl, fun a ha => rfl, fun d hd => k _ d (sm.trans (same_upd hd)) (by
          cases q : H d with
          | none => rfl
          | some o => rw [sm _ _ q] at hd; cases hd) upd_same⟩
    · rcases k with ⟨_, k⟩ | ⟨nk, _⟩
      · exact ⟨_, rfl, k H' sm⟩
      · exact absurd (hb.mp c) nk
end
end Lg

namespace Lg
open PySem PySem.Spec PyProof.Rows L2
theorem int_val {z : List Nat} (h : IsN z) : intText? (st z) = some ((val z : Nat) : Int) := by
  have hl := st_len z
  have e : (st z).cps.toList = z := by simp
  have q := PySem.intText_digits (x := st z) (by rw [e]; exact h.2.2.1) (by rw [e]; intro z0; have := h.1; rw [z0] at this; simp at this) (by have := h.2.1; omega)
  rw [e] at q
  exact q
theorem back_none {H H' : Hp} {d : Addr} (sm : Same H H') (h : H' d = none) : H d = none := by
  cases q : H d with
  | none => rfl
  | some o => rw [sm _ _ q] at h; cases h
section
variable {P : Program} {w : World} {K : PySem.W.Frag} {mg : Str → Option Value} {base : Heap} {f C W0 fI : Addr} {fd fdI : FuncData}
theorem ok_number (F : Fun K "read_number" "read_number" sNumber f fd) (T : Gx K w mg) (X : ErX K mg C W0 fI fdI) {fm : Addr} {fdm : FuncData} (M : DefX K mg "is_made_of" sMade ["text", "allowed"] fm fdm) :
    FnOk P w K mg base (L2.CX P w) 3 f fd ["text"] (spNumber C) := by
  have GM : FnOk P w K mg base CX0 1 _ _ ["text", "allowed"] spMadeOf := ok_madeOf M.F T
  have GI : FnOk P w K mg base CX0 1 fI fdI ["self", "line"] (spErr C "line" fun y _ => y = .non) := ok_textInit X
  obtain ⟨td, hdig⟩ := T.digits
  obtain ⟨tm, hmost⟩ := T.mostD
  refine F.okX scNumber (fun vs H Q E h => ?_) (fun cdv A outer s H vs Q E hr h => ?_)
  · obtain ⟨z, rfl, _⟩ := h
    rfl
  · obtain ⟨z, rfl, hz, k⟩ := h
    have hr1 : Room 1 _ := hr.mono (by decide)
    refine ⟨_, pss_cons (ps_if (PW.pt (pw_or (pt_not (pt_chain op_le op_le pe_int (pe_callB call_len_str (by rfl) T.len (by decide +kernel) (pa_cons (pv 0) pa_nil)) (pe_glob (v := .int 10) rfl hmost ⟨_, rfl⟩)))
        (pw_or1 (pt_not (pt_val (pe_call GM hr1 (by rfl) M.mg M.F.kp M.b .nil pass0 (pa_cons (pv 0) (pa_cons (pe_glob (v := .str sDigits) rfl hdig ⟨_, rfl⟩) pa_nil))))))))
          (pss_one (ps_raise rfl (takes_of rfl rfl rfl rfl) (pmk_err X.er X.ty PySem.F.excBase_ValueError abVE X.iC X.tI GI hr X.b (by rfl) X.mgC (pa_cons pe_non pa_nil)))) pss_nil)
      (pss_cons (ps_if (PW.pt (pw_and (pt_cmpR op_eq (pe_ix ix_str (pv 0) pe_int (fun _ _ => rfl)) pe_str (nomark _)) (pw_and1 (pt_cmpR op_gt (pe_callB call_len_str (by rfl) T.len (by decide +kernel) (pa_cons (pv 0) pa_nil)) pe_int (nomark _)))))
          (pss_one (ps_raise rfl (takes_of rfl rfl rfl rfl) (pmk_err X.er X.ty PySem.F.excBase_ValueError abVE X.iC X.tI GI hr X.b (by rfl) X.mgC (pa_cons pe_non pa_nil)))) pss_nil)
      (pss_one (ps_ret (pe_callTy call_int_str (by rfl) T.int (by decide +kernel) (pa_cons (pv 0) pa_nil))))), ?_⟩
    have hsl := st_len z
    have hsz : (st z).length ≤ sizeLine := by rw [sizeLine_eq]; omega
    have fail : ∀ {H' : Hp}, Same H H' → ¬ IsN z → tErM C "line" (fun y _ => y = .non) (tCons (tC V.non) tNil) [some (V.str (st z))] H' fun cls d H'' => E cls d H'' := fun {H'} sm nk => by
      rcases k with ⟨kn, _⟩ | ⟨_, k⟩
      · exact absurd kn nk
      · exact ⟨_, rfl, fun a ha => rfl, fun d hd => k _ d (sm.trans (same_upd hd)) (back_none sm hd) upd_same⟩
    refine ⟨_, rfl, _, rfl, hsz, 1, _, rfl, rfl, decide ((1 : Int) ≤ ((st z).length : Int)), rfl, ?_⟩
    refine ite_b (fun c1 => ?_) (fun c1 => ?_)
    · refine ⟨_, _, rfl, rfl, ?_⟩
      refine ⟨decide (((st z).length : Int) ≤ 10), rfl, ?_⟩
      have e1 := of_decide_eq_true c1
      refine ite_n (fun c2 => ?_) (fun c2 => ?_)
      · have e2 := of_decide_eq_false c2
        exact fail (fun _ _ e => e) fun h => by have := h.2.1; omega
      · have e2 := of_decide_eq_true c2
        refine ⟨_, rfl, st z, sDigits, rfl, by omega, fun H' sm => ?_⟩
        refine ⟨_, rfl, ?_⟩
        refine ite_n (fun c3 => ?_) (fun c3 => ?_)
        · have e3 := of_decide_eq_false c3
          exact fail sm fun h => e3 fun c hc => (digits_iff c).mpr (h.2.2.1 c (by simpa using hc))
        · have e3 := of_decide_eq_true c3
          have hd : ∀ c ∈ z, Dig c := fun c hc => (digits_iff c).mp (e3 c (by simpa using hc))
          obtain ⟨c0, r0, rfl⟩ : ∃ c r, z = c :: r := by
            cases z with
            | nil => simp at hsl; omega
            | cons c r => exact ⟨c, r, rfl⟩
          refine ⟨_, rfl, st (c0 :: r0), 0, c0, rfl, rfl, hsz, atI_nat (j := 0) rfl, rfl, _, rfl, ?_⟩
          have zero_list : (Str.ofString "0").cps.toList = [48] := by decide +kernel
          have h48 : V.str ⟨#[c0]⟩ = V.str (Str.ofString "0") ↔ c0 = 48 := by
            constructor
            · intro h
              have z1 : (⟨#[c0]⟩ : Str) = Str.ofString "0" := by injection h
              have z2 : [c0] = [48] := (congrArg (fun x : Str => x.cps.toList) z1).trans zero_list
              exact List.head_eq_of_cons_eq z2
            · rintro rfl
              exact congrArg V.str (strExt (by rw [zero_list]))
          have good : (c0 = 48 → (c0 :: r0).length ≤ 1) → Q (.int (val (c0 :: r0) : Nat)) H' ∧ intText? (st (c0 :: r0)) = some ((val (c0 :: r0) : Nat) : Int) := fun hh => by
            have hN : IsN (c0 :: r0) := ⟨by omega, by omega, hd, fun q => hh (by simpa using q)⟩
            rcases k with ⟨_, k⟩ | ⟨nk, _⟩
            · exact ⟨k H' sm, int_val hN⟩
            · exact absurd hN nk
          refine ite_b (fun c4 => ?_) (fun c4 => ?_)
          · have h4 := h48.mp (of_decide_eq_true c4)
            refine ⟨_, rfl, _, rfl, hsz, _, _, rfl, rfl, decide ((1 : Int) < ((st (c0 :: r0)).length : Int)), rfl, ?_⟩
            refine ite_b (fun c5 => ?_) (fun c5 => ?_)
            · have e5 := of_decide_eq_true c5
              exact fail sm fun h => by have := h.2.2.2 (by rw [h4]; rfl); omega
            · have e5 := of_decide_eq_false c5
              obtain ⟨q, iv⟩ := good fun _ => by omega
              exact ⟨_, rfl, _, _, rfl, iv, by omega, q⟩
          · have n4 : ¬ c0 = 48 := fun z => of_decide_eq_false c4 (h48.mpr z)
            obtain ⟨q, iv⟩ := good fun z => absurd z n4
            exact ⟨_, rfl, _, _, rfl, iv, by omega, q⟩
    · have e1 := of_decide_eq_false c1
      refine ⟨false, rfl, iteT ?_⟩
      exact fail (fun _ _ e => e) fun h => by have := h.1; omega
end
end Lg

namespace Lg
open PySem PySem.Spec PyProof.Rows L2
def RdO (C : Addr) (z : Str) (p g : Nat) (dx : Addr) : HO := .ins C dx [("text", .str z), ("at", .int p), ("around", .int g)]
def RdAt (C r : Addr) (z : Str) (p g : Nat) (H : Hp) : Prop := ∃ dx, H r = some (RdO C z p g dx)
def Off (r : Addr) (H H' : Hp) : Prop := ∀ b o, b ≠ r → H b = some o → H' b = some o
theorem Off.refl (r : Addr) (H : Hp) : Off r H H := fun b o _ e => e
theorem Off.trans {r : Addr} {H H' H'' : Hp} (a : Off r H H') (b : Off r H' H'') : Off r H H'' := fun q o n e => b q o n (a q o n e)
theorem off_at {r : Addr} {H : Hp} {o : HO} : Off r H (upd H r o) := fun b q n e => by
  rw [upd_ne n]
  exact e
theorem off_new {r a : Addr} {H : Hp} {o : HO} (h : H a = none) : Off r H (upd H a o) := fun b q n e => by
  rw [upd_ne (ne_of_none e h)]
  exact e
theorem Same.off {r : Addr} {H H' : Hp} (s : Same H H') : Off r H H' := fun b o _ e => s b o e
structure MethX (K : PySem.W.Frag) (C : Addr) (m qual : Str) (s : Stmt) (ps : List Str) (f : Addr) (fd : FuncData) : Prop where
  M : Meth K C m f
  F : Fun K m qual s f fd
  b : Binds K fd ps []
structure Rx (K : PySem.W.Frag) (C : Addr) : Prop where
  cls : Cls K C
  nT : NoAttr K C "text"
  nA : NoAttr K C "at"
  nR : NoAttr K C "around"
theorem scTaken : FnScope ["self", "allowed", "start"] ["self", "allowed"] (defScope sTaken) := ⟨rfl, rfl, rfl, by decide +kernel, rfl, by decide +kernel, by decide +kernel⟩
theorem scSign : FnScope ["self", "sign"] ["self"] (defScope sSign) := ⟨rfl, rfl, rfl, by decide +kernel, rfl, by decide +kernel, by decide +kernel⟩
theorem scBefore : FnScope ["self", "ahead"] ["self"] (defScope sBefore) := ⟨rfl, rfl, rfl, by decide +kernel, rfl, by decide +kernel, by decide +kernel⟩
def spTaken (C : Addr) : Sp := fun vs H Q _ => ∃ (r : Addr) (z : Str) (p g : Nat) (al : Str) (x l' : List Nat), vs = [.ref r, .str al] ∧ RdAt C r z p g H ∧ z.length ≤ 40000 ∧ p ≤ z.length ∧
  z.cps.toList.drop p = x ++ l' ∧ (∀ c ∈ x, c ∈ al.cps.toList) ∧ NoHead (fun c => c ∈ al.cps.toList) l' ∧ ∀ H', Off r H H' → RdAt C r z (p + x.length) g H' → Q (.str (st x)) H'
/-- while, by a word with its measure -/
theorem while_at {c : TT} {tb : TS} {D : Ends} {σ : L2.St} {H : Hp} (Pv : Nat → L2.St → Hp → Prop) (h0 : ∃ m, Pv m σ H)
    (hs : ∀ m σ H, Pv m σ H → c σ H fun b H1 => if b = true then ∃ N : L2.St → Hp → Prop, (∀ σ' H', N σ' H' → ∃ m', m' < m ∧ Pv m' σ' H') ∧ tb { D with nx := N, ct := N, bk := D.nx } σ H1 else D.nx σ H1) : tWhile c tb D σ H :=
  ⟨Pv, h0, hs⟩
theorem len_list (z : Str) : z.cps.toList.length = z.length := by simp [PySem.Str.length]
theorem drop_at {z : Str} {p : Nat} {x l' : List Nat} (h : z.cps.toList.drop p = x ++ l') {i : Nat} {c : Nat} (hx : (x ++ l')[i]? = some c) : z.cps.toList[p + i]? = some c := by
  rw [← h, List.getElem?_drop] at hx
  exact hx
theorem drop_len {z : Str} {p : Nat} {l : List Nat} (h : z.cps.toList.drop p = l) (hp : p ≤ z.length) : z.length = p + l.length := by
  rw [← h, List.length_drop, len_list]
  omega
theorem drop_more {z : Str} {p : Nat} {x l' : List Nat} (h : z.cps.toList.drop p = x ++ l') : z.cps.toList.drop (p + x.length) = l' := by
  rw [← List.drop_drop, h, List.drop_left]
theorem cut_at {z : Str} {p : Nat} {x l' : List Nat} (h : z.cps.toList.drop p = x ++ l') (hp : p ≤ z.length) : cutS z (some (p : Int)) (some ((p + x.length : Nat) : Int)) = st x := by
  have hl := drop_len h hp
  rw [List.length_append] at hl
  unfold cutS
  rw [HT.sIx_nat, HT.sIx_nat]
  have e1 : min p z.length = p := by omega
  have e2 : min (p + x.length) z.length = p + x.length := by omega
  rw [e1, e2, h]
  have e3 : p + x.length - p = x.length := by omega
  rw [e3, List.take_left]
section
variable {P : Program} {w : World} {K : PySem.W.Frag} {mg : Str → Option Value} {base : Heap} {f C : Addr} {fd : FuncData}
theorem ok_taken (F : Fun K "taken" "Reader.taken" sTaken f fd) (T : Gx K w mg) (R : Rx K C) : FnOk P w K mg base CX0 1 f fd ["self", "allowed"] (spTaken C) := by
  refine F.ok scTaken (fun vs H Q E h => ?_) (fun cdv A outer s H vs Q E hr h => ?_)
  · obtain ⟨r, z, p, g, al, x, l', rfl, _⟩ := h
    rfl
  · obtain ⟨r, z, p, g, al, x, l', rfl, ⟨dx, hR⟩, hz, hp, hd, hx, hn, k⟩ := h
    have hsz : z.length ≤ sizeLine := by rw [sizeLine_eq]; omega
    have hl := drop_len hd hp
    rw [List.length_append] at hl
    refine ⟨_, pss_cons (ps_set (i := 2) scTaken.nd rfl (Or.inl rfl) (pe_fld (pv 0) rfl))
      (pss_cons (ps_while PassesOwn.never (PW.pt (pw_and (pt_cmpR op_lt (pe_fld (pv 0) rfl) (pe_callB call_len_str (by rfl) T.len (by decide +kernel) (pa_cons (pe_fld (pv 0) rfl) pa_nil)) (nomark _))
          (pw_and1 (pt_cmpR op_in_sign (pe_ix ix_str (pe_fld (pv 0) rfl) (pe_fld (pv 0) rfl) (fun _ _ => rfl)) (pv 1) rfl))))
        (pss_one (ps_fldaug (pv 0) pe_int in_add)))
      (pss_one (ps_ret (pe_slice sl_str (pe_fld (pv 0) rfl) (po_some (pv 2)) (po_some (pe_fld (pv 0) rfl)))))), ?_⟩
    refine ⟨_, rfl, r, C, dx, _, .int p, rfl, hR, R.cls, R.nA, rfl, ?_⟩
    refine while_at (fun m σ H' => ∃ i, i + m = x.length ∧ σ = [some (.ref r), some (.str al), some (.int p)] ∧ Off r H H' ∧ RdAt C r z (p + i) g H') ⟨x.length, 0, by omega, rfl, Off.refl r H, dx, hR⟩ ?_
    rintro m σ H1 ⟨i, hi, rfl, off, dx1, hR1⟩
    refine ⟨_, rfl, r, C, dx1, _, .int ((p + i : Nat) : Int), rfl, hR1, R.cls, R.nA, rfl, _, rfl, r, C, dx1, _, .str z, rfl, hR1, R.cls, R.nT, rfl, _, rfl, hsz, _, _, rfl, rfl, _, rfl, ?_⟩
    have fin : i = x.length → (tRet (tSl rSlS (tFld K (tVar 0) "text") (tPart (tVar 2)) (tPart (tFld K (tVar 0) "at")))) { nx := fun x H' => Q V.non H', rt := Q } [some (V.ref r), some (V.str al), some (V.int (p : Int))] H1 := by
      rintro rfl
      refine ⟨_, rfl, r, C, dx1, _, .str z, rfl, hR1, R.cls, R.nT, rfl, _, rfl, (p : Int), rfl, _, rfl, r, C, dx1, _, .int ((p + x.length : Nat) : Int), rfl, hR1, R.cls, R.nA, rfl, ((p + x.length : Nat) : Int), rfl, z, rfl, hsz, ?_⟩
      rw [cut_at hd hp]
      exact k H1 off ⟨dx1, hR1⟩
    have hlen := len_list z
    refine ite2 (fun c => ?_) (fun c => ?_)
    · have c1 : p + i < z.length := by have := of_decide_eq_true c; omega
      obtain ⟨c0, hc0⟩ : ∃ c0, z.cps.toList[p + i]? = some c0 := ⟨_, List.getElem?_eq_getElem (by omega)⟩
      have hc1 : (x ++ l')[i]? = some c0 := by rw [← hd, List.getElem?_drop]; exact hc0
      refine ⟨_, rfl, r, C, dx1, _, .str z, rfl, hR1, R.cls, R.nT, rfl, _, rfl, r, C, dx1, _, .int ((p + i : Nat) : Int), rfl, hR1, R.cls, R.nA, rfl, z, _, c0, rfl, rfl, hsz, atI_nat hc0, ?_⟩
      refine ⟨_, rfl, c0, al, rfl, rfl, _, rfl, ?_⟩
      rcases Nat.lt_or_ge i x.length with hlt | hge
      · have hin : c0 ∈ al.cps.toList := hx _ (by
          rw [List.getElem?_append_left hlt] at hc1
          exact List.mem_of_getElem? hc1)
        rw [decide_eq_true hin]
        refine iteT ?_
        refine ⟨fun σ' H' => ∃ i, i + (m - 1) = x.length ∧ σ' = [some (.ref r), some (.str al), some (.int p)] ∧ Off r H H' ∧ RdAt C r z (p + i) g H', fun σ' H' q => ⟨m - 1, by omega, q⟩, ?_⟩
        refine ⟨_, rfl, r, C, dx1, _, .int ((p + i : Nat) : Int), rfl, hR1, R.cls, R.nA, rfl, _, _, rfl, rfl, dx1, _, hR1, (show 3 < 1000 by decide), i + 1, by omega, rfl, off.trans off_at, dx1, ?_⟩
        rw [upd_same]
        rfl
      · have hout : ¬ c0 ∈ al.cps.toList := by
          have e : i = x.length := by omega
          subst e
          rw [List.getElem?_append_right (Nat.le_refl _), Nat.sub_self] at hc1
          cases l' with
          | nil => cases hc1
          | cons c1 r1 =>
            have e2 : c1 = c0 := by simpa using hc1
            subst e2
            exact hn c1 r1 rfl
        rw [decide_eq_false hout]
        exact fin (by omega)
    · have c1 : ¬ (p + i < z.length) := by simp only [decide_eq_true_eq] at c; omega
      exact fin (by omega)
end
end Lg

namespace Lg
open PySem PySem.Spec PyProof.Rows L2
theorem starts_at {z : Str} {k : List Nat} {p : Nat} (hk : k ≠ []) (hp : p ≤ z.length) : Txt.startswith3 z (st k) p = k.isPrefixOf (z.cps.toList.drop p) := by
  have hf : fromIndex z.length (p : Int) = p := by
    unfold fromIndex
    rw [if_neg (by omega)]
    omega
  have hl := len_list z
  have hk2 : (st k).length = k.length := st_len k
  unfold Txt.startswith3
  rw [hf, hk2, Bool.eq_iff_iff, List.isPrefixOf_iff_prefix, List.prefix_iff_eq_take, Bool.and_eq_true, decide_eq_true_iff]
  unfold Builtin.Str.subAt
  rw [beq_iff_eq, hk2]
  have he : (z.cps.extract p (p + k.length)).toList = (z.cps.toList.drop p).take k.length := by
    rw [Array.toList_extract]
    simp [List.extract]
  constructor
  · rintro ⟨_, h⟩
    have h2 := congrArg Array.toList h
    rw [he] at h2
    exact h2.symm
  · intro h
    refine ⟨?_, ?_⟩
    · have h2 := congrArg List.length h
      rw [List.length_take, List.length_drop, hl, Nat.min_def] at h2
      have : k.length ≠ 0 := by
        intro z
        exact hk (List.eq_nil_of_length_eq_zero z)
      split at h2 <;> omega
    · apply Array.ext'
      rw [he, ← h]
theorem signAt_of {o : Op} {l : List Nat} (h : o.sign.isPrefixOf l = true) : signAt l = some o := by
  rw [List.isPrefixOf_iff_prefix] at h
  obtain ⟨r, rfl⟩ := h
  exact signAt_sign o r
theorem signAt_no {l : List Nat} (h : ∀ o : Op, ¬ o.sign.isPrefixOf l = true) : signAt l = none := by
  unfold signAt
  have h1 := h .plus
  have h2 := h .minus
  have h3 := h .times
  have h4 := h .less
  have h5 := h .same
  simp only [Op.sign] at h1 h2 h3 h4 h5
  rw [if_neg h1, if_neg h2, if_neg h3, if_neg h4, if_neg h5]
theorem sign_ne (o : Op) : o.sign ≠ [] := by cases o <;> simp [Op.sign]
def signV (l : List Nat) : V := match signAt l with
  | some o => .str o.key
  | none => .non
def spSign (C : Addr) : Sp := fun vs H Q _ => ∃ (r : Addr) (z : Str) (p g : Nat), vs = [.ref r] ∧ RdAt C r z p g H ∧ p ≤ z.length ∧ Q (signV (z.cps.toList.drop p)) H
def spBefore (C : Addr) : Sp := fun vs H Q _ => ∃ (r : Addr) (z : Str) (p g : Nat), vs = [.ref r] ∧ RdAt C r z p g H ∧ p ≤ z.length ∧ z.length ≤ 40000 ∧
  ((Bef (z.cps.toList.drop p) ∧ Q (.bl true) H) ∨ (¬ Bef (z.cps.toList.drop p) ∧ Q (.bl false) H))
theorem all_ops : ∀ o : Op, ∃ j, j < opAll.length ∧ opAll[j]? = some o := by
  intro o
  cases o
  · exact ⟨0, by decide, rfl⟩
  · exact ⟨1, by decide, rfl⟩
  · exact ⟨2, by decide, rfl⟩
  · exact ⟨3, by decide, rfl⟩
  · exact ⟨4, by decide, rfl⟩
section
variable {P : Program} {w : World} {K : PySem.W.Frag} {mg : Str → Option Value} {base : Heap} {f C : Addr} {fd : FuncData}
theorem ok_sign (F : Fun K "sign_here" "Reader.sign_here" sSign f fd) (T : Gx K w mg) (R : Rx K C) : FnOk P w K mg base CX0 1 f fd ["self"] (spSign C) := by
  obtain ⟨d, hmg, hkeys, _⟩ := T.ops
  refine F.ok scSign (fun vs H Q E h => ?_) (fun cdv A outer s H vs Q E hr h => ?_)
  · obtain ⟨r, z, p, g, rfl, _⟩ := h
    rfl
  · obtain ⟨r, z, p, g, rfl, ⟨dx, hR⟩, hp, k⟩ := h
    refine ⟨_, pss_cons (ps_for PassesOwn.never rfl (pi_kkeys (pe_glob (v := .ref d) rfl hmg rfl)) (pg_name (i := 1) scSign.nd rfl (Or.inl rfl))
        (pss_one (ps_if (pt_val (pe_bm PySem.F.plainAttrs_str PySem.F.slot_str_startswith PySem.F.type_str_startswith mt_startswith3 (pe_fld (pv 0) rfl) (pa_cons (pv 1) (pa_cons (pe_fld (pv 0) rfl) pa_nil)))) (pss_one (ps_ret (pv 1))) pss_nil)))
      (pss_one (ps_ret pe_non)), ?_⟩
    refine ⟨d, _, rfl, hkeys, for_keysW (fun i σ H' => (∃ v, σ = [some (.ref r), v]) ∧ H' = H ∧ ∀ j < i, ∀ o, opAll[j]? = some o → ¬ o.sign.isPrefixOf (z.cps.toList.drop p) = true) ⟨⟨_, rfl⟩, rfl, fun j hj => by omega⟩ ?_ ?_⟩
    · rintro i x σ H' hx ⟨⟨v, rfl⟩, rfl, no⟩
      rw [List.getElem?_map] at hx
      obtain ⟨o, ho, rfl⟩ : ∃ o, opAll[i]? = some o ∧ o.key = x := by
        cases q : opAll[i]? with
        | none => rw [q] at hx; cases hx
        | some o => rw [q] at hx; exact ⟨o, rfl, Option.some.inj hx⟩
      refine ⟨_, rfl, r, C, dx, _, .str z, rfl, hR, R.cls, R.nT, rfl, rfl, _, rfl, _, rfl, r, C, dx, _, .int (p : Int), rfl, hR, R.cls, R.nA, rfl, z, o.key, (p : Int), rfl, rfl, _, rfl, ?_⟩
      have e : Txt.startswith3 z o.key p = o.sign.isPrefixOf (z.cps.toList.drop p) := starts_at (sign_ne o) hp
      rw [e]
      refine ite2 (fun c => ?_) (fun c => ?_)
      · refine ⟨_, rfl, ?_⟩
        have q : signV (z.cps.toList.drop p) = .str o.key := by
          unfold signV
          rw [signAt_of c]
        rw [q] at k
        exact k
      · refine ⟨⟨_, rfl⟩, rfl, fun j hj o2 ho2 => ?_⟩
        rcases Nat.lt_or_eq_of_le (Nat.le_of_lt_succ hj) with h | h
        · exact no j h o2 ho2
        · subst h
          rw [ho] at ho2
          cases ho2
          exact c
    · rintro σ H' ⟨_, rfl, no⟩
      have q : signV (z.cps.toList.drop p) = .non := by
        unfold signV
        rw [signAt_no fun o => by
          obtain ⟨j, hj, ho⟩ := all_ops o
          exact no j (by simpa using hj) o ho]
      rw [q] at k
      exact k
end
end Lg

namespace Lg
open PySem PySem.Spec PyProof.Rows L2
theorem one_eq {c : Nat} {t : Str} {n : Nat} (ht : t.cps.toList = [n]) : (V.str ⟨#[c]⟩ = V.str t) ↔ c = n := by
  constructor
  · intro h
    have z : (⟨#[c]⟩ : Str) = t := by injection h
    have z2 : [c] = [n] := (congrArg (fun x : Str => x.cps.toList) z).trans ht
    exact List.head_eq_of_cons_eq z2
  · rintro rfl
    exact congrArg V.str (strExt (by rw [ht]))
theorem blank_list : (Str.ofString " ").cps.toList = [32] := by decide +kernel
/-- v is the expression e -/
inductive Rep (H : Hp) : V → E → Prop where
  | word {z} : Rep H (.str (st z)) (.word z)
  | num {n : Nat} : Rep H (.int (n : Int)) (.num n)
  | ask {a : Addr} {q z} : H a = some (.tup [.str (st q), .str (st z)]) → Rep H (.ref a) (.ask q z)
  | op {t : Addr} {o : Op} {va vb : V} {a b : E} : H t = some (.tup [.str o.name, va, vb]) → Rep H va a → Rep H vb b → Rep H (.ref t) (.op o a b)
theorem Rep.by {H H' : Hp} {v : V} {e : E} (h : Rep H v e) (k : ∀ b xs, H b = some (.tup xs) → H' b = some (.tup xs)) : Rep H' v e := by
  induction h with
  | word => exact .word
  | num => exact .num
  | ask e => exact .ask (k _ _ e)
  | op e _ _ i1 i2 => exact .op (k _ _ e) i1 i2
theorem Rep.same {H H' : Hp} {v : V} {e : E} (h : Rep H v e) (k : Same H H') : Rep H' v e := h.by fun b xs q => k b _ q
theorem RdAt.ne {C r : Addr} {z : Str} {p g : Nat} {H : Hp} (h : RdAt C r z p g H) {b : Addr} {xs : List V} (e : H b = some (.tup xs)) : b ≠ r := fun q => by
  obtain ⟨dx, h⟩ := h
  rw [q, h] at e
  cases e
theorem Rep.off {C r : Addr} {z : Str} {p g : Nat} {H H' : Hp} {v : V} {e : E} (h : Rep H v e) (R : RdAt C r z p g H) (k : Off r H H') : Rep H' v e := h.by fun b xs q => k b _ (R.ne q) q
theorem Rep.dp {K : PySem.W.Frag} {H : Hp} {v : V} {e : E} (h : Rep H v e) : Dp K H v (dat e) := by
  induction h with
  | word => exact .str _
  | num => exact .int _
  | ask e => exact .tup (.inl (.inl e)) (.cons (.str _) (.cons (.str _) .nil))
  | op e _ _ i1 i2 => exact .tup (.inl (.inl e)) (.cons (.str _) (.cons i1 (.cons i2 .nil)))
theorem fnNever {CX : CXT} {P : Program} {w : World} {K : PySem.W.Frag} {mg : Str → Option Value} {base : Heap} {k : Nat} {f : Addr} {fd : FuncData} {ps : List Str} {sp : Sp} (h : ∀ vs H Q E, ¬ sp vs H Q E) : FnOk P w K mg base CX k f fd ps sp :=
  ⟨fun vs H Q E z => absurd z (h vs H Q E), fun A outer s H args us vs Q E _ _ _ _ z => absurd z (h vs H Q E)⟩
/-- what a reading leaves behind -/
def Left (C r : Addr) (z : Str) (g : Nat) (H : Hp) (e : E) (d : Nat) (l' : List Nat) (Q : VK) : Prop :=
  ∀ (H' : Hp) (t : Addr) (v : V) (p' : Nat), Off r H H' → RdAt C r z p' g H' → p' ≤ z.length → z.cps.toList.drop p' = l' → H' t = some (.tup [v, .int (d : Int)]) → Rep H' v e → Q (.ref t) H'
/-- what a refusal leaves behind -/
def Refuses (C0 r : Addr) (H : Hp) (E : XK) : Prop := ∀ H' d, Off r H H' → H d = none → H' d = some (.xd [("line", .non)]) → E (.ref C0) (some d) H'
def spOpd (C C0 : Addr) (h : Nat) : Sp := fun vs H Q E => ∃ (r : Addr) (z : Str) (p g : Nat) (l : List Nat), vs = [.ref r] ∧ RdAt C r z p g H ∧ z.length ≤ 40000 ∧ p ≤ z.length ∧ z.cps.toList.drop p = l ∧ g ≤ 20 ∧
  ((∃ e d l', Rd h g .opd l e d l' ∧ Left C r z g H e d l' Q) ∨ (Bad h g .opd l ∧ Refuses C0 r H E))
def spOps (C C0 : Addr) (h : Nat) : Sp := fun vs H Q E => ∃ (r : Addr) (least : Nat) (z : Str) (p g : Nat) (l : List Nat), vs = [.ref r, .int least] ∧ RdAt C r z p g H ∧ z.length ≤ 40000 ∧ p ≤ z.length ∧ z.cps.toList.drop p = l ∧ g ≤ 20 ∧
  ((∃ e d l', Rd h g (.ops least) l e d l' ∧ Left C r z g H e d l' Q) ∨ (Bad h g (.ops least) l ∧ Refuses C0 r H E))
def spOpsP (C C0 : Addr) : Nat → Sp
  | 0 => fun _ _ _ _ => False
  | h + 1 => spOps C C0 h
def spPar (C C0 : Addr) (h : Nat) : Sp := fun vs H Q E => ∃ (r : Addr) (z : Str) (p g : Nat) (l : List Nat), vs = [.ref r] ∧ RdAt C r z p g H ∧ z.length ≤ 40000 ∧ p ≤ z.length ∧ z.cps.toList.drop p = 40 :: l ∧ g ≤ 20 ∧
  ((∃ h0 e d l', h = h0 + 1 ∧ g < 20 ∧ Rd h0 (g + 1) (.ops 1) l e d (41 :: l') ∧ Left C r z g H e d l' Q) ∨
    (Refuses C0 r H E ∧ (20 ≤ g ∨ ∃ h0, h = h0 + 1 ∧ g < 20 ∧ (Bad h0 (g + 1) (.ops 1) l ∨ ∃ e d l', Rd h0 (g + 1) (.ops 1) l e d l' ∧ NoHead (· = 41) l'))))
theorem scPar : FnScope ["self", "found"] ["self"] (defScope sPar) := ⟨rfl, rfl, rfl, by decide +kernel, rfl, by decide +kernel, by decide +kernel⟩
theorem cut_two {z : Str} {p : Nat} {l : List Nat} (h : z.cps.toList.drop p = l) (hp : p ≤ z.length) : cutS z (some (p : Int)) (some ((p : Int) + 2)) = st (l.take 2) := by
  have e0 : (p : Int) + 2 = ((p + 2 : Nat) : Int) := by omega
  have hl := len_list z
  have hd := drop_len h hp
  rw [e0]
  unfold cutS
  rw [HT.sIx_nat, HT.sIx_nat]
  have e1 : min p z.length = p := by omega
  rw [e1, h]
  show st (l.take (min (p + 2) z.length - p)) = _
  rcases Nat.lt_or_ge l.length 2 with q | q
  · rw [List.take_of_length_le (by omega), List.take_of_length_le (by omega)]
  · have e2 : min (p + 2) z.length - p = 2 := by omega
    rw [e2]
section
variable {P : Program} {w : World} {K : PySem.W.Frag} {mg : Str → Option Value} {base : Heap} {f C C0 W0 fI : Addr} {fd fdI : FuncData} {σ : L2.St}
theorem ok_before (F : Fun K "is_before_word" "Reader.is_before_word" sBefore f fd) (T : Gx K w mg) (R : Rx K C) : FnOk P w K mg base CX0 1 f fd ["self"] (spBefore C) := by
  obtain ⟨tl, hlet⟩ := T.letters
  refine F.ok scBefore (fun vs H Q E h => ?_) (fun cdv A outer s H vs Q E hr h => ?_)
  · obtain ⟨r, z, p, g, rfl, _⟩ := h
    rfl
  · obtain ⟨r, z, p, g, rfl, ⟨dx, hR⟩, hp, hz, k⟩ := h
    have hsz : z.length ≤ sizeLine := by rw [sizeLine_eq]; omega
    refine ⟨_, pss_cons (ps_set (i := 1) scBefore.nd rfl (Or.inl rfl) (pe_slice sl_str (pe_fld (pv 0) rfl) (po_some (pe_fld (pv 0) rfl)) (po_some (pe_op op_add (pe_fld (pv 0) rfl) pe_int))))
      (pss_one (ps_ret (pe_and (pe_cmpR op_eq (pe_callB call_len_str (by rfl) T.len (by decide +kernel) (pa_cons (pv 1) pa_nil)) pe_int (nomark _))
        (pe_and (pe_cmpR op_eq (pe_ix ix_str (pv 1) pe_int (fun _ _ => rfl)) pe_str (nomark _))
          (pe_one (pe_cmpR op_in_sign (pe_ix ix_str (pv 1) pe_int (fun _ _ => rfl)) (pe_glob (v := .str sLetters) rfl hlet ⟨_, rfl⟩) rfl)))))), ?_⟩
    refine ⟨_, rfl, r, C, dx, _, .str z, rfl, hR, R.cls, R.nT, rfl, _, rfl, r, C, dx, _, .int (p : Int), rfl, hR, R.cls, R.nA, rfl, (p : Int), rfl, _, rfl, r, C, dx, _, .int (p : Int), rfl, hR, R.cls, R.nA, rfl, _, _, rfl, rfl, (p : Int) + 2, rfl, z, rfl, hsz, ?_⟩
    rw [cut_two rfl hp]
    generalize z.cps.toList.drop p = l at k
    have small : (st (l.take 2)).length ≤ sizeLine := by
      rw [st_len, List.length_take, sizeLine_eq]
      omega
    refine ⟨_, rfl, _, rfl, small, ?_⟩
    refine ⟨rfl, _, rfl, ?_⟩
    have no : ∀ {l : List Nat}, (st (l.take 2)).length ≠ 2 → ¬ V.int ((st (l.take 2)).length : Int) = V.int 2 := fun h z => by
      injection z with z
      omega
    match l, k, small with
    | [], k, _ =>
      refine iteN (no (by rw [st_len]; simp)) ?_
      rcases k with ⟨⟨_, _, e, _⟩, _⟩ | ⟨_, k⟩
      · cases e
      · exact k
    | [a], k, _ =>
      refine iteN (no (by rw [st_len]; simp)) ?_
      rcases k with ⟨⟨_, _, e, _⟩, _⟩ | ⟨_, k⟩
      · cases e
      · exact k
    | a :: b :: l2, k, small =>
      refine iteY (by rw [st_len]; simp) ?_
      refine ⟨_, rfl, st [a, b], 0, a, rfl, rfl, small, rfl, rfl, _, rfl, ?_⟩
      refine ite2 (fun c => ?_) (fun c => ?_)
      · have ha : a = 32 := (one_eq blank_list).mp (of_decide_eq_true c)
        subst ha
        refine ⟨_, rfl, st [32, b], 1, b, rfl, rfl, small, rfl, b, sLetters, rfl, rfl, ?_⟩
        rcases k with ⟨⟨c1, r1, e, hc⟩, k⟩ | ⟨nb, k⟩
        · injection e with _ e
          injection e with e _
          subst e
          rw [decide_eq_true ((letters_iff b).mpr hc)]
          exact k
        · have hb : ¬ b ∈ sLetters.cps.toList := fun z => nb ⟨b, l2, rfl, (letters_iff b).mp z⟩
          rw [decide_eq_false hb]
          exact k
      · rcases k with ⟨⟨c1, r1, e, hc⟩, k⟩ | ⟨nb, k⟩
        · injection e with e _
          subst e
          exact absurd (decide_eq_true ((one_eq blank_list).mpr rfl)) c
        · have e : decide (V.str ⟨#[a]⟩ = V.str (Str.ofString " ")) = false := by simpa using c
          exact k
theorem refused {C0 r : Addr} {H H' : Hp} {E : XK} {z : Str} {p g : Nat} (R : RdAt C r z p g H) (off : Off r H H') (R' : ∃ o, H' r = some o) (k : Refuses C0 r H E) :
    tErM C0 "line" (fun y _ => y = .non) (tCons (tC V.non) tNil) σ H' fun cls d H'' => E cls d H'' := by
  refine ⟨_, rfl, fun a ha => rfl, fun d hd => k _ d (off.trans (off_new hd)) ?_ upd_same⟩
  obtain ⟨o, ho⟩ := R'
  have nd : d ≠ r := fun z => by rw [z, ho] at hd; cases hd
  cases q : H d with
  | none => rfl
  | some o => rw [off _ _ nd q] at hd; cases hd
theorem ok_par (F : Fun K "parentheses" "Reader.parentheses" sPar f fd) (T : Gx K w mg) (X : ErX K mg C0 W0 fI fdI) (R : Rx K C) {fo : Addr} {fdo : FuncData} (O : MethX K C "operations" "Reader.operations" sOps ["self", "least"] fo fdo) {k h : Nat} (hk : 2 ≤ k)
    (GO : FnOk P w K mg base (L2.CX P w) k fo fdo ["self", "least"] (spOpsP C C0 h)) : FnOk P w K mg base (L2.CX P w) (k + 1) f fd ["self"] (spPar C C0 h) := by
  obtain ⟨tp, hmp⟩ := T.mostP
  have GI : FnOk P w K mg base CX0 1 fI fdI ["self", "line"] (spErr C0 "line" fun y _ => y = .non) := ok_textInit X
  refine F.okX scPar (fun vs H Q E h => ?_) (fun cdv A outer s H vs Q E hr h => ?_)
  · obtain ⟨r, z, p, g, l, rfl, _⟩ := h
    rfl
  · obtain ⟨r, z, p, g, l, rfl, ⟨dx, hR⟩, hz, hp, hd, hg, kk⟩ := h
    have hr2 : Room 2 _ := hr.mono hk
    have hl := drop_len hd hp
    have hl2 : (40 :: l).length = l.length + 1 := rfl
    refine ⟨_, pss_cons (ps_if (pt_cmpR op_eq (pe_fld (pv 0) rfl) (pe_glob (v := .int 20) rfl hmp ⟨_, rfl⟩) (nomark _)) (pss_one (ps_raise rfl (takes_of rfl rfl rfl rfl) (pmk_err X.er X.ty PySem.F.excBase_ValueError abVE X.iC X.tI GI hr2 X.b (by rfl) X.mgC (pa_cons pe_non pa_nil)))) pss_nil)
      (pss_cons (ps_fldaug (pv 0) pe_int in_add)
      (pss_cons (ps_fldaug (pv 0) pe_int in_add)
      (pss_cons (ps_set (i := 1) scPar.nd rfl (Or.inl rfl) (pe_meth (pv 0) R.cls O.M GO hr O.b .nil (passes_call (takes_of rfl rfl rfl rfl) fun _ _ _ _ h => h) (pa_cons pe_int pa_nil)))
      (pss_cons (ps_if (pt_not (pt_val (pe_bm PySem.F.plainAttrs_str PySem.F.slot_str_startswith PySem.F.type_str_startswith mt_startswith3 (pe_fld (pv 0) rfl) (pa_cons pe_str (pa_cons (pe_fld (pv 0) rfl) pa_nil))))) (pss_one (ps_raise rfl (takes_of rfl rfl rfl rfl) (pmk_err X.er X.ty PySem.F.excBase_ValueError abVE X.iC X.tI GI hr2 X.b (by rfl) X.mgC (pa_cons pe_non pa_nil)))) pss_nil)
      (pss_cons (ps_fldaug (pv 0) pe_int in_add)
      (pss_cons (ps_fldaug (pv 0) pe_int in_sub)
      (pss_one (ps_ret (pv 1))))))))), ?_⟩
    refine ⟨_, rfl, r, C, dx, _, .int (g : Int), rfl, hR, R.cls, R.nR, rfl, rfl, _, rfl, ?_⟩
    refine ite2 (fun c => ?_) (fun c => ?_)
    · have hg20 : g = 20 := by
        have z := of_decide_eq_true c
        injection z with z
        omega
      rcases kk with ⟨_, _, _, _, _, hlt, _⟩ | ⟨k, _⟩
      · omega
      · exact refused ⟨dx, hR⟩ (Off.refl _ _) ⟨_, hR⟩ k
    · have hlt : g < 20 := by
        have : ¬ g = 20 := fun z => c (decide_eq_true (by rw [z]; rfl))
        omega
      refine ⟨_, rfl, r, C, dx, _, .int (g : Int), rfl, hR, R.cls, R.nR, rfl, _, _, rfl, rfl, dx, _, hR, (show 3 < 1000 by decide), ?_⟩
      have h1 : upd H r (.ins C dx (putF "around" (.int ((g : Int) + 1)) [("text", .str z), ("at", .int (p : Int)), ("around", .int (g : Int))])) r = some (RdO C z p (g + 1) dx) := by
        rw [upd_same]
        rfl
      refine ⟨_, rfl, r, C, dx, _, .int (p : Int), rfl, h1, R.cls, R.nA, rfl, _, _, rfl, rfl, dx, _, h1, (show 3 < 1000 by decide), ?_⟩
      refine ⟨_, rfl, r, dx, _, rfl, upd_same, rfl, ?_⟩
      generalize hH2 : upd (upd H r (.ins C dx (putF "around" (.int ((g : Int) + 1)) [("text", .str z), ("at", .int (p : Int)), ("around", .int (g : Int))]))) r
        (.ins C dx (putF "at" (.int ((p : Int) + 1)) [("text", .str z), ("at", .int (p : Int)), ("around", .int ((g + 1 : Nat) : Int))])) = H2
      have off0 : Off r H H2 := by rw [← hH2]; exact off_at.trans off_at
      have hR2 : H2 r = some (RdO C z (p + 1) (g + 1) dx) := by rw [← hH2, upd_same]; rfl
      have back : ∀ {d : Addr}, H2 d = none → H d = none := fun {d} hn => by
        have nd : d ≠ r := fun z => by rw [z, hR2] at hn; cases hn
        cases q : H d with
        | none => rfl
        | some o => rw [off0 _ _ nd q] at hn; cases hn
      have hdrop : z.cps.toList.drop (p + 1) = l := by
        rw [← List.drop_drop, hd]
        rfl
      rcases kk with ⟨h0, e, d, l', rfl, _, hrd, k⟩ | ⟨ref, hbig | ⟨h0, rfl, _, hbad | ⟨e, d, l', hrd, nh⟩⟩⟩
      · refine ⟨r, 1, z, p + 1, g + 1, l, rfl, ⟨dx, hR2⟩, hz, by omega, hdrop, by omega, .inl ⟨e, d, _, hrd, ?_⟩⟩
        intro H' t v p' off ⟨dx', hR'⟩ hp' hd' ht rep
        have hl3 := drop_len hd' hp'
        have hl4 : (41 :: l').length = l'.length + 1 := rfl
        refine ⟨_, rfl, r, C, dx', _, .str z, rfl, hR', R.cls, R.nT, rfl, rfl, _, rfl, r, C, dx', _, .int (p' : Int), rfl, hR', R.cls, R.nA, rfl, z, _, (p' : Int), rfl, rfl, _, rfl, ?_⟩
        have e1 : Txt.startswith3 z (Str.ofString ")") p' = true := by
          have q := starts_at (z := z) (k := [41]) (p := p') (by simp) hp'
          rw [hd'] at q
          exact q
        rw [e1]
        refine iteF ?_
        refine ⟨_, rfl, r, C, dx', _, .int (p' : Int), rfl, hR', R.cls, R.nA, rfl, _, _, rfl, rfl, dx', _, hR', (show 3 < 1000 by decide), ?_⟩
        have h2 : upd H' r (.ins C dx' (putF "at" (.int ((p' : Int) + 1)) [("text", .str z), ("at", .int (p' : Int)), ("around", .int ((g + 1 : Nat) : Int))])) r = some (RdO C z (p' + 1) (g + 1) dx') := by
          rw [upd_same]
          rfl
        refine ⟨_, rfl, r, C, dx', _, .int ((g + 1 : Nat) : Int), rfl, h2, R.cls, R.nR, rfl, _, _, rfl, rfl, dx', _, h2, (show 3 < 1000 by decide), ?_⟩
        have nt : t ≠ r := RdAt.ne ⟨dx', hR'⟩ ht
        refine ⟨_, rfl, k _ t v (p' + 1) ?_ ⟨dx', ?_⟩ (by omega) ?_ ?_ ?_⟩
        · exact (off0.trans off).trans (off_at.trans off_at)
        · rw [upd_same]
          show some (HO.ins C dx' [("text", .str z), ("at", .int ((p' + 1 : Nat) : Int)), ("around", .int (((g + 1 : Nat) : Int) - 1))]) = _
          have : ((g + 1 : Nat) : Int) - 1 = (g : Int) := by omega
          rw [this]
          rfl
        · rw [← List.drop_drop, hd']
          rfl
        · rw [upd_ne nt, upd_ne nt]
          exact ht
        · exact rep.off ⟨dx', hR'⟩ (off_at.trans off_at)
      · omega
      · exact ⟨r, 1, z, p + 1, g + 1, l, rfl, ⟨dx, hR2⟩, hz, by omega, hdrop, by omega, .inr ⟨hbad, fun H' d off hn he => ref H' d (off0.trans off) (back hn) he⟩⟩
      · refine ⟨r, 1, z, p + 1, g + 1, l, rfl, ⟨dx, hR2⟩, hz, by omega, hdrop, by omega, .inl ⟨e, d, _, hrd, ?_⟩⟩
        intro H' t v p' off ⟨dx', hR'⟩ hp' hd' ht rep
        refine ⟨_, rfl, r, C, dx', _, .str z, rfl, hR', R.cls, R.nT, rfl, rfl, _, rfl, r, C, dx', _, .int (p' : Int), rfl, hR', R.cls, R.nA, rfl, z, _, (p' : Int), rfl, rfl, _, rfl, ?_⟩
        have e1 : Txt.startswith3 z (Str.ofString ")") p' = false := by
          have q := starts_at (z := z) (k := [41]) (p := p') (by simp) hp'
          rw [hd'] at q
          have n : [41].isPrefixOf l' = false := by
            cases l' with
            | nil => rfl
            | cons c r1 =>
              have : ¬ 41 = c := fun z => nh c r1 rfl z.symm
              simp [List.isPrefixOf, this]
          rw [n] at q
          exact q
        rw [e1]
        refine iteT ?_
        exact refused ⟨dx, hR⟩ (off0.trans off) ⟨_, hR'⟩ ref
end
end Lg

namespace Lg
open PySem PySem.Spec PyProof.Rows L2
theorem scOpd : FnScope ["self", "digits", "number", "word"] ["self"] (defScope sOpd) := ⟨rfl, rfl, rfl, by decide +kernel, rfl, by decide +kernel, by decide +kernel⟩
theorem st_inj {a b : List Nat} (h : st a = st b) : a = b := by
  have := congrArg (fun x : Str => x.cps.toList) h
  simpa using this
theorem in_quests (z : List Nat) : inV (.str (st z)) [.str (st (wd "known")), .str (st (wd "reason"))] = true ↔ Ques z := by
  have e : ∀ a : List Nat, eqV (.str (st a)) (.str (st z)) = true ↔ a = z := fun a => by
    show (decide (st a = st z)) = true ↔ _
    rw [decide_eq_true_iff]
    exact ⟨st_inj, fun h => by rw [h]⟩
  unfold inV
  rw [List.any_cons, List.any_cons, List.any_nil, Bool.or_false, Bool.or_eq_true, e, e]
  exact ⟨fun h => h.imp Eq.symm Eq.symm, fun h => h.imp Eq.symm Eq.symm⟩
theorem iteNN {c A B : Prop} [Decidable c] (hc : ¬ c) (h : A) : if (!decide c) = true then A else B := by
  rw [decide_eq_false hc]
  exact iteT h
theorem empty_eq : V.str (st []) = V.str (Str.ofString "") := congrArg V.str (strExt (by decide +kernel))
theorem empty_ne {l : List Nat} (h : l ≠ []) : ¬ V.str (st l) = V.str (Str.ofString "") := fun z => by
  rw [← empty_eq] at z
  injection z with z
  exact h (st_inj z)
theorem two_size (a b : V) : [a, b].length ≤ sizeLine := by
  rw [sizeLine_eq]
  exact (by decide : 2 ≤ 16777216)
theorem nohead_dig {l : List Nat} (h : NoHead Dig l) : NoHead (fun c => c ∈ sDigits.cps.toList) l := fun c r e m => h c r e ((digits_iff c).mp m)
theorem nohead_let {l : List Nat} (h : NoHead Let l) : NoHead (fun c => c ∈ sLetters.cps.toList) l := fun c r e m => h c r e ((letters_iff c).mp m)
theorem word_nodig {z l : List Nat} (w : WordOk z) : NoHead Dig (z ++ l) := fun c r e m => by
  obtain ⟨c1, r1, e1, h1⟩ := w.head
  rw [e1] at e
  injection e with e _
  exact let_dig h1 (e ▸ m)
theorem val_ntx (n : Nat) : val (ntx n) = n := by
  unfold val
  rw [ntx_digits]
  exact PySem.W.KIN.val_back n
theorem fails_of {C0 r : Addr} {H H' : Hp} {E : XK} (off : Off r H H') (R' : ∃ o, H' r = some o) (k : Refuses C0 r H E) : Fails C0 H' E := fun H'' d sm hn he => by
  refine k H'' d (off.trans (Same.off sm)) ?_ he
  obtain ⟨o, ho⟩ := R'
  have nd : d ≠ r := fun z => by rw [z, ho] at hn; cases hn
  cases q : H d with
  | none => rfl
  | some o => rw [off _ _ nd q] at hn; cases hn
theorem num_is {n : Nat} (w : NumOk n) : IsN (ntx n) := ⟨by have := List.length_pos_iff.mpr w.ne; omega, w.len, w.all, w.lead⟩
theorem word_is {z : List Nat} (w : WordOk z) : IsW z := ⟨by have := List.length_pos_iff.mpr w.ne; omega, w.len, w.all⟩
theorem not_is {z : List Nat} (n : ¬ WordTx z) : ¬ IsW z := fun h => n ⟨fun e => by have := h.1; rw [e] at this; simp at this, h.2.1⟩
section
variable {P : Program} {w : World} {K : PySem.W.Frag} {mg : Str → Option Value} {base : Heap} {f C C0 W0 fI : Addr} {fd fdI : FuncData}
theorem ok_opd (F : Fun K "operand" "Reader.operand" sOpd f fd) (T : Gx K w mg) (X : ErX K mg C0 W0 fI fdI) (R : Rx K C) {fp ft fb fn fw : Addr} {fdp fdt fdb fdn fdw : FuncData} {k h : Nat} (hk : 3 ≤ k)
    (PM : MethX K C "parentheses" "Reader.parentheses" sPar ["self"] fp fdp) (GP : FnOk P w K mg base (L2.CX P w) k fp fdp ["self"] (spPar C C0 h))
    (TM : MethX K C "taken" "Reader.taken" sTaken ["self", "allowed"] ft fdt) (GT : FnOk P w K mg base CX0 1 ft fdt ["self", "allowed"] (spTaken C))
    (BM : MethX K C "is_before_word" "Reader.is_before_word" sBefore ["self"] fb fdb) (GB : FnOk P w K mg base CX0 1 fb fdb ["self"] (spBefore C))
    (ND : DefX K mg "read_number" sNumber ["text"] fn fdn) (GN : FnOk P w K mg base (L2.CX P w) 3 fn fdn ["text"] (spNumber C0))
    (WD : DefX K mg "read_word" sWord ["text"] fw fdw) (GW : FnOk P w K mg base (L2.CX P w) 3 fw fdw ["text"] (spWord C0)) : FnOk P w K mg base (L2.CX P w) (k + 1) f fd ["self"] (spOpd C C0 h) := by
  obtain ⟨tl, hlet⟩ := T.letters
  obtain ⟨td, hdig⟩ := T.digits
  obtain ⟨tm, hmod⟩ := T.modulus
  obtain ⟨qa, hqu, hqs⟩ := T.quests
  have GI : FnOk P w K mg base CX0 1 fI fdI ["self", "line"] (spErr C0 "line" fun y _ => y = .non) := ok_textInit X
  refine F.okX scOpd (fun vs H Q E h => ?_) (fun cdv A outer s H vs Q E hr h => ?_)
  · obtain ⟨r, z, p, g, l, rfl, _⟩ := h
    rfl
  · obtain ⟨r, z, p, g, l, rfl, ⟨dx, hR⟩, hz, hp, hd, hg, kk⟩ := h
    have hr1 : Room 1 _ := hr.mono (by omega)
    have hr2 : Room 2 _ := hr.mono (by omega)
    have hr3 : Room 3 _ := hr.mono (by omega)
    refine ⟨_, pss_cons (ps_if (pt_val (pe_bm PySem.F.plainAttrs_str PySem.F.slot_str_startswith PySem.F.type_str_startswith mt_startswith3 (pe_fld (pv 0) rfl) (pa_cons pe_str (pa_cons (pe_fld (pv 0) rfl) pa_nil)))) (pss_one (ps_ret (pe_meth0 (pv 0) R.cls PM.M GP hr PM.b .nil (passes_call (takes_of rfl rfl rfl rfl) fun _ _ _ _ h => h)))) pss_nil)
      (pss_cons (ps_set (i := 1) scOpd.nd rfl (Or.inl rfl) (pe_meth (pv 0) R.cls TM.M GT hr1 TM.b .nil pass0 (pa_cons (pe_glob (v := .str sDigits) rfl hdig ⟨_, rfl⟩) pa_nil)))
      (pss_cons (ps_if (pt_cmpR op_ne (pv 1) pe_str (nomark _))
        (pss_cons (ps_set (i := 2) scOpd.nd rfl (Or.inl rfl) (pe_call GN hr3 (by rfl) ND.mg ND.F.kp ND.b .nil (passes_call (takes_of rfl rfl rfl rfl) fun _ _ _ _ h => h) (pa_cons (pv 1) pa_nil)))
        (pss_cons (ps_if (pt_cmpR op_ge (pv 2) (pe_glob (v := .int 1000000007) rfl hmod ⟨_, rfl⟩) (nomark _)) (pss_one (ps_raise rfl (takes_of rfl rfl rfl rfl) (pmk_err X.er X.ty PySem.F.excBase_ValueError abVE X.iC X.tI GI hr2 X.b (by rfl) X.mgC (pa_cons pe_non pa_nil)))) pss_nil)
        (pss_one (ps_ret (pe_tup (pa_cons (pv 2) (pa_cons pe_int pa_nil))))))) pss_nil)
      (pss_cons (ps_set (i := 3) scOpd.nd rfl (Or.inl rfl) (pe_call GW hr3 (by rfl) WD.mg WD.F.kp WD.b .nil (passes_call (takes_of rfl rfl rfl rfl) fun _ _ _ _ h => h) (pa_cons (pe_meth (pv 0) R.cls TM.M GT hr1 TM.b .nil pass0 (pa_cons (pe_glob (v := .str sLetters) rfl hlet ⟨_, rfl⟩) pa_nil)) pa_nil)))
      (pss_cons (ps_if (PW.pt (pw_and (pt_cmpR op_in_seq (pv 3) (pe_glob (v := .ref qa) rfl hqu rfl) (by rfl)) (pw_and1 (pt_val (pe_meth0 (pv 0) R.cls BM.M GB hr1 BM.b .nil pass0)))))
        (pss_cons (ps_fldaug (pv 0) pe_int in_add)
        (pss_one (ps_ret (pe_tup (pa_cons (pe_tup (pa_cons (pv 3) (pa_cons (pe_call GW hr3 (by rfl) WD.mg WD.F.kp WD.b .nil (passes_call (takes_of rfl rfl rfl rfl) fun _ _ _ _ h => h) (pa_cons (pe_meth (pv 0) R.cls TM.M GT hr1 TM.b .nil pass0 (pa_cons (pe_glob (v := .str sLetters) rfl hlet ⟨_, rfl⟩) pa_nil)) pa_nil)) pa_nil))) (pa_cons pe_int pa_nil)))))) pss_nil)
      (pss_one (ps_ret (pe_tup (pa_cons (pv 3) (pa_cons pe_int pa_nil))))))))), ?_⟩
    refine ⟨_, rfl, r, C, dx, _, .str z, rfl, hR, R.cls, R.nT, rfl, rfl, _, rfl, r, C, dx, _, .int (p : Int), rfl, hR, R.cls, R.nA, rfl, z, _, (p : Int), rfl, rfl, _, rfl, ?_⟩
    have e1 : Txt.startswith3 z (Str.ofString "(") p = [40].isPrefixOf l := by
      have q := starts_at (z := z) (k := [40]) (p := p) (by simp) hp
      rw [hd] at q
      exact q
    rw [e1]
    clear e1
    rcases kk with ⟨e, d, l', hrd, kk⟩ | ⟨hbad, ref⟩
    · cases hrd with
      | @par h0 _ l0 _ _ _ hlt q =>
        have e2 : [40].isPrefixOf (40 :: l0) = true := by simp [List.isPrefixOf]
        rw [e2]
        refine iteT ?_
        exact ⟨_, rfl, r, dx, _, rfl, hR, rfl, r, z, p, g, l0, rfl, ⟨dx, hR⟩, hz, hp, hd, by omega, .inl ⟨h0, e, d, l', rfl, hlt, q, kk⟩⟩
      | @num _ _ n _ wn nh =>
        obtain ⟨c0, r0, en, hc0⟩ := wn.head
        have e2 : [40].isPrefixOf (ntx n ++ l') = false := by
          rw [en]
          have : ¬ (40 = c0) := fun z => dig_open hc0 z.symm
          simp [List.isPrefixOf, this]
        rw [e2]
        refine iteF ?_
        refine ⟨_, rfl, r, dx, _, rfl, hR, rfl, r, z, p, g, sDigits, ntx n, l', rfl, ⟨dx, hR⟩, hz, hp, hd, fun c hc => (digits_iff c).mpr (wn.all c hc), nohead_dig nh, fun H1 off1 R1 => ?_⟩
        refine ⟨_, rfl, rfl, _, rfl, ?_⟩
        refine iteNN (empty_ne wn.ne) ?_
        have hN := wn.len
        refine ⟨_, rfl, ntx n, rfl, by omega, .inl ⟨num_is wn, fun H2 sm => ?_⟩⟩
        rw [val_ntx]
        refine ⟨_, rfl, _, _, rfl, rfl, _, rfl, ?_⟩
        refine iteN (fun z => by have := wn.lt; omega) ?_
        refine ⟨_, rfl, two_size _ _, fun t ht => ?_⟩
        have hl := drop_len hd hp
        rw [List.length_append] at hl
        have off2 : Off r H (upd H2 t (.tup [.int (n : Int), .int 1])) := (off1.trans (Same.off sm)).trans (off_new ht)
        obtain ⟨dx1, hR1⟩ := R1
        exact kk _ t _ _ off2 ⟨dx1, by rw [upd_ne (ne_of_none (sm _ _ hR1) ht)]; exact sm _ _ hR1⟩ (by omega) (drop_more hd) upd_same .num
      | @word _ _ zz _ wz nh nq =>
        obtain ⟨c0, r0, en, hc0⟩ := wz.head
        have e2 : [40].isPrefixOf (zz ++ l') = false := by
          rw [en]
          have : ¬ (40 = c0) := fun z => let_open hc0 z.symm
          simp [List.isPrefixOf, this]
        rw [e2]
        refine iteF ?_
        refine ⟨_, rfl, r, dx, _, rfl, hR, rfl, r, z, p, g, sDigits, [], zz ++ l', rfl, ⟨dx, hR⟩, hz, hp, hd, fun c hc => (nomatch hc), nohead_dig (word_nodig wz), fun H1 off1 R1 => ?_⟩
        refine ⟨_, rfl, rfl, _, rfl, ?_⟩
        refine iteNS empty_eq ?_
        obtain ⟨dx1, hR1⟩ := R1
        have hl := drop_len hd hp
        rw [List.length_append] at hl
        refine ⟨_, rfl, r, dx1, _, rfl, hR1, rfl, r, z, p, g, sLetters, zz, l', rfl, ⟨dx1, hR1⟩, hz, hp, hd, fun c hc => (letters_iff c).mpr (wz.all c hc), nohead_let nh, fun H2 off2 ⟨dx2, hR2⟩ => ?_⟩
        refine ⟨zz, rfl, by have := wz.len; omega, .inl ⟨word_is wz, fun H3 sm => ?_⟩⟩
        have hR3 := sm _ _ hR2
        have hd3 : z.cps.toList.drop (p + zz.length) = l' := drop_more hd
        have last : ∀ t, H3 t = none → Q (.ref t) (upd H3 t (.tup [.str (st zz), .int 1])) := fun t ht =>
          kk _ t _ (p + zz.length) (((off1.trans off2).trans (Same.off sm)).trans (off_new ht)) ⟨dx2, by rw [upd_ne (ne_of_none hR3 ht)]; exact hR3⟩ (by omega) hd3 upd_same .word
        refine ⟨_, rfl, qa, _, rfl, .inr (hqs H3), rfl, rfl, _, rfl, ?_⟩
        refine ite2 (fun c => ?_) (fun c => ?_)
        · have hq := (in_quests zz).mp c
          refine ⟨_, rfl, r, dx2, _, rfl, hR3, rfl, r, z, p + zz.length, g, rfl, ⟨dx2, hR3⟩, by omega, hz, .inr ⟨?_, ?_⟩⟩
          · rw [hd3]
            exact fun b => nq ⟨hq, b⟩
          · refine ⟨false, rfl, iteF ?_⟩
            exact ⟨_, rfl, two_size _ _, last⟩
        · exact ⟨_, rfl, two_size _ _, last⟩
      | @ask _ _ q zz _ wq wz nh =>
        obtain ⟨c0, r0, en, hc0⟩ := wq.word.head
        have e2 : [40].isPrefixOf (q ++ 32 :: (zz ++ l')) = false := by
          rw [en]
          have : ¬ (40 = c0) := fun z => let_open hc0 z.symm
          simp [List.isPrefixOf, this]
        rw [e2]
        refine iteF ?_
        refine ⟨_, rfl, r, dx, _, rfl, hR, rfl, r, z, p, g, sDigits, [], q ++ 32 :: (zz ++ l'), rfl, ⟨dx, hR⟩, hz, hp, hd, fun c hc => (nomatch hc), nohead_dig (word_nodig wq.word), fun H1 off1 R1 => ?_⟩
        refine ⟨_, rfl, rfl, _, rfl, ?_⟩
        refine iteNS empty_eq ?_
        obtain ⟨dx1, hR1⟩ := R1
        have hl := drop_len hd hp
        have hl2 : (q ++ 32 :: (zz ++ l')).length = q.length + (1 + (zz.length + l'.length)) := by simp; omega
        refine ⟨_, rfl, r, dx1, _, rfl, hR1, rfl, r, z, p, g, sLetters, q, 32 :: (zz ++ l'), rfl, ⟨dx1, hR1⟩, hz, hp, hd, fun c hc => (letters_iff c).mpr (wq.word.all c hc), nohead_let (nohead32 _), fun H2 off2 ⟨dx2, hR2⟩ => ?_⟩
        refine ⟨q, rfl, by have := wq.word.len; omega, .inl ⟨word_is wq.word, fun H3 sm => ?_⟩⟩
        have hR3 := sm _ _ hR2
        have hd3 : z.cps.toList.drop (p + q.length) = 32 :: (zz ++ l') := drop_more hd
        refine ⟨_, rfl, qa, _, rfl, .inr (hqs H3), rfl, rfl, _, rfl, ?_⟩
        refine ite2 (fun c => ?_) (fun c => absurd ((in_quests q).mpr wq) c)
        obtain ⟨c1, r1, e1, hc1⟩ := wz.head
        refine ⟨_, rfl, r, dx2, _, rfl, hR3, rfl, r, z, p + q.length, g, rfl, ⟨dx2, hR3⟩, by omega, hz, .inl ⟨?_, ?_⟩⟩
        · rw [hd3, e1]
          exact ⟨c1, r1 ++ l', rfl, hc1⟩
        · refine ⟨true, rfl, iteT ?_⟩
          refine ⟨_, rfl, r, C, dx2, _, .int ((p + q.length : Nat) : Int), rfl, hR3, R.cls, R.nA, rfl, _, _, rfl, rfl, dx2, _, hR3, (show 3 < 1000 by decide), ?_⟩
          have hR4 : upd H3 r (.ins C dx2 (putF "at" (.int (((p + q.length : Nat) : Int) + 1)) [("text", .str z), ("at", .int ((p + q.length : Nat) : Int)), ("around", .int (g : Int))])) r = some (RdO C z (p + q.length + 1) g dx2) := by
            rw [upd_same]
            rfl
          have hd4 : z.cps.toList.drop (p + q.length + 1) = zz ++ l' := by
            rw [← List.drop_drop, hd3]
            rfl
          refine ⟨_, rfl, _, rfl, r, dx2, _, rfl, hR4, rfl, r, z, p + q.length + 1, g, sLetters, zz, l', rfl, ⟨dx2, hR4⟩, hz, by omega, hd4, fun c hc => (letters_iff c).mpr (wz.all c hc), nohead_let nh, fun H5 off5 ⟨dx5, hR5⟩ => ?_⟩
          refine ⟨zz, rfl, by have := wz.len; omega, .inl ⟨word_is wz, fun H6 sm6 => ?_⟩⟩
          have hR6 := sm6 _ _ hR5
          refine ⟨two_size _ _, fun t ht => ⟨two_size _ _, fun u hu => ?_⟩⟩
          have hut : t ≠ u := fun z => by
            rw [← z, upd_same] at hu
            cases hu
          have hR7 : upd H6 t (.tup [.str (st q), .str (st zz)]) r = some (RdO C z (p + q.length + 1 + zz.length) g dx5) := by rw [upd_ne (ne_of_none hR6 ht)]; exact hR6
          refine kk _ u (.ref t) (p + q.length + 1 + zz.length) ((((((off1.trans off2).trans (Same.off sm)).trans off_at).trans off5).trans (Same.off sm6)).trans ((off_new ht).trans (off_new hu))) ⟨dx5, by rw [upd_ne (ne_of_none hR7 hu)]; exact hR7⟩ (by omega) (drop_more hd4) upd_same (.ask ?_)
          rw [upd_ne hut]
          exact upd_same
    · have e40 : ∀ l0 : List Nat, [40].isPrefixOf (40 :: l0) = true := fun l0 => by simp [List.isPrefixOf]
      have n40 : ∀ {l0 : List Nat}, NoHead (· = 40) l0 → [40].isPrefixOf l0 = false := fun {l0} n => by
        cases l0 with
        | nil => rfl
        | cons c r1 =>
          have : ¬ 40 = c := fun z => n c r1 rfl z.symm
          simp [List.isPrefixOf, this]
      cases hbad with
      | @full _ _ l1 hge =>
        rw [e40]
        refine iteT ?_
        exact ⟨_, rfl, r, dx, _, rfl, hR, rfl, r, z, p, g, l1, rfl, ⟨dx, hR⟩, hz, hp, hd, hg, .inr ⟨ref, .inl hge⟩⟩
      | @inn h0 _ l1 hlt b =>
        rw [e40]
        refine iteT ?_
        exact ⟨_, rfl, r, dx, _, rfl, hR, rfl, r, z, p, g, l1, rfl, ⟨dx, hR⟩, hz, hp, hd, hg, .inr ⟨ref, .inr ⟨h0, rfl, hlt, .inl b⟩⟩⟩
      | @shut h0 _ l1 e d l' hlt rd nh =>
        rw [e40]
        refine iteT ?_
        exact ⟨_, rfl, r, dx, _, rfl, hR, rfl, r, z, p, g, l1, rfl, ⟨dx, hR⟩, hz, hp, hd, hg, .inr ⟨ref, .inr ⟨h0, rfl, hlt, .inr ⟨e, d, l', rd, nh⟩⟩⟩⟩
      | @num _ _ ds l' hne hall nh hnt =>
        rw [n40 (fun c x e m => by
          cases ds with
          | nil => exact hne rfl
          | cons c0 r0 =>
            injection e with e _
            exact dig_open (hall c0 (by simp)) (e.trans m))]
        refine iteF ?_
        have hl := drop_len hd hp
        rw [List.length_append] at hl
        refine ⟨_, rfl, r, dx, _, rfl, hR, rfl, r, z, p, g, sDigits, ds, l', rfl, ⟨dx, hR⟩, hz, hp, hd, fun c hc => (digits_iff c).mpr (hall c hc), nohead_dig nh, fun H1 off1 R1 => ?_⟩
        obtain ⟨dx1, hR1⟩ := R1
        refine ⟨_, rfl, rfl, _, rfl, ?_⟩
        refine iteNN (empty_ne hne) ?_
        refine ⟨_, rfl, ds, rfl, by omega, ?_⟩
        by_cases hN : IsN ds
        · refine .inl ⟨hN, fun H2 sm => ?_⟩
          refine ⟨_, rfl, _, _, rfl, rfl, _, rfl, ?_⟩
          have hbig : (1000000007 : Int) ≤ ((val ds : Nat) : Int) := by
            rcases Nat.lt_or_ge (val ds) 1000000007 with q | q
            · exact absurd ⟨hN.2.1, hN.2.2.2, q⟩ hnt
            · omega
          refine iteY hbig ?_
          exact refused ⟨dx, hR⟩ (off1.trans (Same.off sm)) ⟨_, sm _ _ hR1⟩ ref
        · exact .inr ⟨hN, fails_of off1 ⟨_, hR1⟩ ref⟩
      | @word _ _ zz l' hall nh ndig hn40 hnw =>
        rw [n40 hn40]
        refine iteF ?_
        refine ⟨_, rfl, r, dx, _, rfl, hR, rfl, r, z, p, g, sDigits, [], zz ++ l', rfl, ⟨dx, hR⟩, hz, hp, hd, fun c hc => (nomatch hc), nohead_dig ndig, fun H1 off1 R1 => ?_⟩
        refine ⟨_, rfl, rfl, _, rfl, ?_⟩
        refine iteNS empty_eq ?_
        obtain ⟨dx1, hR1⟩ := R1
        have hl := drop_len hd hp
        rw [List.length_append] at hl
        refine ⟨_, rfl, r, dx1, _, rfl, hR1, rfl, r, z, p, g, sLetters, zz, l', rfl, ⟨dx1, hR1⟩, hz, hp, hd, fun c hc => (letters_iff c).mpr (hall c hc), nohead_let nh, fun H2 off2 ⟨dx2, hR2⟩ => ?_⟩
        exact ⟨zz, rfl, by omega, .inr ⟨not_is hnw, fails_of (off1.trans off2) ⟨_, hR2⟩ ref⟩⟩
      | @ask _ _ q zz l' wq hall nh hne hnw =>
        have wq' := wq.word
        rw [n40 (fun c x e m => by
          obtain ⟨c0, r0, en, hc0⟩ := wq'.head
          rw [en] at e
          injection e with e _
          exact let_open hc0 (e.trans m))]
        refine iteF ?_
        refine ⟨_, rfl, r, dx, _, rfl, hR, rfl, r, z, p, g, sDigits, [], q ++ 32 :: (zz ++ l'), rfl, ⟨dx, hR⟩, hz, hp, hd, fun c hc => (nomatch hc), nohead_dig (word_nodig wq'), fun H1 off1 R1 => ?_⟩
        refine ⟨_, rfl, rfl, _, rfl, ?_⟩
        refine iteNS empty_eq ?_
        obtain ⟨dx1, hR1⟩ := R1
        have hl := drop_len hd hp
        have hl2 : (q ++ 32 :: (zz ++ l')).length = q.length + (1 + (zz.length + l'.length)) := by simp; omega
        refine ⟨_, rfl, r, dx1, _, rfl, hR1, rfl, r, z, p, g, sLetters, q, 32 :: (zz ++ l'), rfl, ⟨dx1, hR1⟩, hz, hp, hd, fun c hc => (letters_iff c).mpr (wq'.all c hc), nohead_let (nohead32 _), fun H2 off2 ⟨dx2, hR2⟩ => ?_⟩
        refine ⟨q, rfl, by omega, .inl ⟨word_is wq', fun H3 sm => ?_⟩⟩
        have hR3 := sm _ _ hR2
        have hd3 : z.cps.toList.drop (p + q.length) = 32 :: (zz ++ l') := drop_more hd
        refine ⟨_, rfl, qa, _, rfl, .inr (hqs H3), rfl, rfl, _, rfl, ?_⟩
        refine ite2 (fun c => ?_) (fun c => absurd ((in_quests q).mpr wq) c)
        obtain ⟨c1, r1, e1, hc1⟩ : ∃ c r, zz = c :: r ∧ Let c := by
          cases zz with
          | nil => exact absurd rfl hne
          | cons c r => exact ⟨c, r, rfl, hall c (by simp)⟩
        refine ⟨_, rfl, r, dx2, _, rfl, hR3, rfl, r, z, p + q.length, g, rfl, ⟨dx2, hR3⟩, by omega, hz, .inl ⟨?_, ?_⟩⟩
        · rw [hd3, e1]
          exact ⟨c1, r1 ++ l', rfl, hc1⟩
        · refine ⟨true, rfl, iteT ?_⟩
          refine ⟨_, rfl, r, C, dx2, _, .int ((p + q.length : Nat) : Int), rfl, hR3, R.cls, R.nA, rfl, _, _, rfl, rfl, dx2, _, hR3, (show 3 < 1000 by decide), ?_⟩
          have hR4 : upd H3 r (.ins C dx2 (putF "at" (.int (((p + q.length : Nat) : Int) + 1)) [("text", .str z), ("at", .int ((p + q.length : Nat) : Int)), ("around", .int (g : Int))])) r = some (RdO C z (p + q.length + 1) g dx2) := by
            rw [upd_same]
            rfl
          have hd4 : z.cps.toList.drop (p + q.length + 1) = zz ++ l' := by
            rw [← List.drop_drop, hd3]
            rfl
          refine ⟨_, rfl, _, rfl, r, dx2, _, rfl, hR4, rfl, r, z, p + q.length + 1, g, sLetters, zz, l', rfl, ⟨dx2, hR4⟩, hz, by omega, hd4, fun c hc => (letters_iff c).mpr (hall c hc), nohead_let nh, fun H5 off5 ⟨dx5, hR5⟩ => ?_⟩
          exact ⟨zz, rfl, by omega, .inr ⟨not_is hnw, fails_of ((((off1.trans off2).trans (Same.off sm)).trans off_at).trans off5) ⟨_, hR5⟩ ref⟩⟩
end
end Lg

namespace Lg
open PySem PySem.Spec PyProof.Rows L2
theorem Rd.len {h ar j l e d l'} (r : Rd h ar j l e d l') : l'.length ≤ l.length := by
  induction r with
  | par a _ ih => simp at ih ⊢; omega
  | num a b => simp
  | word a b c => simp
  | ask a b c => simp; omega
  | ops _ _ i1 i2 => omega
  | stop a => exact Nat.le_refl _
  | step a b _ c _ i1 i2 => simp; omega
theorem scOps : FnScope ["self", "least", "first", "depth", "sign", "operation", "second", "second_depth"] ["self", "least"] (defScope sOps) := ⟨rfl, rfl, rfl, by decide +kernel, rfl, by decide +kernel, by decide +kernel⟩
theorem max_nat (a b : Nat) : (if (b : Int) > (a : Int) then (b : Int) else (a : Int)) + 1 = ((max a b + 1 : Nat) : Int) := by
  rw [Nat.max_def]
  split <;> split <;> omega
theorem key_len (o : Op) : o.key.length = o.sign.length := by simp [Op.key, PySem.Str.length]
theorem sign_len (o : Op) : 1 ≤ o.sign.length ∧ o.sign.length ≤ 4 := by cases o <;> decide
theorem three_size (a b c : V) : [a, b, c].length ≤ sizeLine := by
  rw [sizeLine_eq]
  exact (by decide : 3 ≤ 16777216)
section
variable {P : Program} {w : World} {K : PySem.W.Frag} {mg : Str → Option Value} {base : Heap} {f C C0 W0 fI : Addr} {fd fdI : FuncData}
theorem ok_ops (F : Fun K "operations" "Reader.operations" sOps f fd) (T : Gx K w mg) (X : ErX K mg C0 W0 fI fdI) (R : Rx K C) {fo fs : Addr} {fdo fds : FuncData} {k h : Nat} (hk : 2 ≤ k)
    (OM : MethX K C "operand" "Reader.operand" sOpd ["self"] fo fdo) (GO : FnOk P w K mg base (L2.CX P w) k fo fdo ["self"] (spOpd C C0 h))
    (SM : MethX K C "sign_here" "Reader.sign_here" sSign ["self"] fs fds) (GS : FnOk P w K mg base CX0 1 fs fds ["self"] (spSign C))
    (MM : MethX K C "operations" "Reader.operations" sOps ["self", "least"] f fd) (GM : FnOk P w K mg base (L2.CX P w) k f fd ["self", "least"] (spOps C C0 h)) : FnOk P w K mg base (L2.CX P w) (k + 1) f fd ["self", "least"] (spOps C C0 (h + 1)) := by
  have GI : FnOk P w K mg base CX0 1 fI fdI ["self", "line"] (spErr C0 "line" fun y _ => y = .non) := ok_textInit X
  obtain ⟨dO, hmO, _, hO⟩ := T.ops
  obtain ⟨dS, hmS, hS⟩ := T.strengths
  obtain ⟨td, hdeep⟩ := T.deepest
  refine F.okX scOps (fun vs H Q E h => ?_) (fun cdv A outer s H vs Q E hr h => ?_)
  · obtain ⟨r, least, z, p, g, l, rfl, _⟩ := h
    rfl
  · obtain ⟨r, least, z, p, g, l, rfl, ⟨dx, hR⟩, hz, hp, hd, hg, kk⟩ := h
    have hr2 : Room 2 _ := hr.mono (by omega)
    have hr1 : Room 1 _ := hr.mono (by omega)
    refine ⟨_, pss_cons (ps_asg (pe_meth0 (pv 0) R.cls OM.M GO hr OM.b .nil (passes_call (takes_of rfl rfl rfl rfl) fun _ _ _ _ h => h)) (pg_tup (by rfl) (pgs_cons (pg_name (i := 2) scOps.nd rfl (Or.inl rfl)) (pgs_cons (pg_name (i := 3) scOps.nd rfl (Or.inl rfl)) pgs_nil))))
      (pss_cons (ps_set (i := 4) scOps.nd rfl (Or.inl rfl) (pe_meth0 (pv 0) R.cls SM.M GS hr1 SM.b .nil pass0))
      (pss_cons (ps_while (passes_of rfl) (PW.pt (pw_and (pt_cmpR op_notN (pv 4) pe_non (nomark _)) (pw_and1 (pt_cmpR op_ge (pe_ix ix_kdict (pe_glob (v := .ref dS) rfl hmS rfl) (pe_ix ix_kdict (pe_glob (v := .ref dO) rfl hmO rfl) (pv 4) (fun _ _ => rfl)) (fun _ _ => rfl)) (pv 1) (nomark _)))))
        (pss_cons (ps_set (i := 5) scOps.nd rfl (Or.inl rfl) (pe_ix ix_kdict (pe_glob (v := .ref dO) rfl hmO rfl) (pv 4) (fun _ _ => rfl)))
        (pss_cons (ps_fldaug (pv 0) (pe_callB call_len_str (by rfl) T.len (by decide +kernel) (pa_cons (pv 4) pa_nil)) in_add)
        (pss_cons (ps_asg (pe_meth (pv 0) R.cls MM.M GM hr MM.b .nil (passes_call (takes_of rfl rfl rfl rfl) fun _ _ _ _ h => h) (pa_cons (pe_op op_add (pe_ix ix_kdict (pe_glob (v := .ref dS) rfl hmS rfl) (pv 5) (fun _ _ => rfl)) pe_int) pa_nil)) (pg_tup (by rfl) (pgs_cons (pg_name (i := 6) scOps.nd rfl (Or.inl rfl)) (pgs_cons (pg_name (i := 7) scOps.nd rfl (Or.inl rfl)) pgs_nil))))
        (pss_cons (ps_par (i := 2) (j := 3) rfl scOps.nd rfl rfl (by decide) rfl rfl (pa_cons (pe_tup (pa_cons (pv 5) (pa_cons (pv 2) (pa_cons (pv 6) pa_nil)))) (pa_cons (pe_op op_add (pe_callB (call_max2 rfl) (by rfl) T.max (by decide +kernel) (pa_cons (pv 3) (pa_cons (pv 7) pa_nil))) pe_int) pa_nil)) (by rfl))
        (pss_cons (ps_if (pt_cmpR op_gt (pv 3) (pe_glob (v := .int 6) rfl hdeep ⟨_, rfl⟩) (nomark _)) (pss_one (ps_raise rfl (takes_of rfl rfl rfl rfl) (pmk_err X.er X.ty PySem.F.excBase_ValueError abVE X.iC X.tI GI hr2 X.b (by rfl) X.mgC (pa_cons pe_non pa_nil)))) pss_nil)
        (pss_one (ps_set (i := 4) scOps.nd rfl (Or.inl rfl) (pe_meth0 (pv 0) R.cls SM.M GS hr1 SM.b .nil pass0)))))))))
      (pss_one (ps_ret (pe_tup (pa_cons (pv 2) (pa_cons (pv 3) pa_nil))))))), ?_⟩
    refine ⟨_, rfl, r, dx, _, rfl, hR, rfl, r, z, p, g, l, rfl, ⟨dx, hR⟩, hz, hp, hd, hg, ?_⟩
    have split : (Bad h g .opd l ∧ Refuses C0 r H E) ∨ ∃ e0 d0 l1, Rd h g .opd l e0 d0 l1 ∧ ((∃ e d l', Rd h g (.loop least e0 d0) l1 e d l' ∧ Left C r z g H e d l' Q) ∨ (Bad h g (.loop least e0 d0) l1 ∧ Refuses C0 r H E)) := by
      rcases kk with ⟨e, d, l', hrd, kk⟩ | ⟨hbad, ref⟩
      · cases hrd with
        | ops q1 q2 => exact .inr ⟨_, _, _, q1, .inl ⟨_, _, _, q2, kk⟩⟩
      · cases hbad with
        | ops1 b => exact .inl ⟨b, ref⟩
        | ops2 q1 b => exact .inr ⟨_, _, _, q1, .inr ⟨b, ref⟩⟩
    rcases split with ⟨b, ref⟩ | ⟨e0, d0, l1, q1, q2⟩
    · exact .inr ⟨b, ref⟩
    refine .inl ⟨e0, d0, l1, q1, fun H1 t v p1 off1 ⟨dx1, hR1⟩ hp1 hd1 ht rep => ?_⟩
    refine ⟨t, _, rfl, .inl (.inl ht), rfl, _, _, rfl, _, _, rfl, rfl, ?_⟩
    refine ⟨_, rfl, r, dx1, _, rfl, hR1, rfl, r, z, p1, g, rfl, ⟨dx1, hR1⟩, hp1, ?_⟩
    rw [hd1]
    refine while_at (fun m σ H' => ∃ (v : V) (e1 : Lg.E) (d1 : Nat) (l2 : List Nat) (p2 : Nat) (v5 v6 v7 : Option V), m = l2.length ∧ σ = [some (.ref r), some (.int (least : Int)), some v, some (.int (d1 : Int)), some (signV l2), v5, v6, v7] ∧
      Off r H H' ∧ RdAt C r z p2 g H' ∧ p2 ≤ z.length ∧ z.cps.toList.drop p2 = l2 ∧ Rep H' v e1 ∧ ((∃ e d l', Rd h g (.loop least e1 d1) l2 e d l' ∧ Left C r z g H e d l' Q) ∨ (Bad h g (.loop least e1 d1) l2 ∧ Refuses C0 r H E)))
      ⟨_, v, e0, d0, l1, p1, _, _, _, rfl, rfl, off1, ⟨dx1, hR1⟩, hp1, hd1, rep, q2⟩ ?_
    rintro m σ H2 ⟨v1, e1, d1, l2, p2, v5, v6, v7, rfl, rfl, off2, ⟨dx2, hR2⟩, hp2, hd2, rep2, hloop⟩
    -- a turn with a sign
    have turnSplit : ((∀ o, signAt l2 = some o → o.str < least) ∧ ∃ e d l', (e1 = e ∧ d1 = d ∧ l2 = l') ∧ Left C r z g H e d l' Q) ∨
        ∃ o l3, l2 = o.sign ++ l3 ∧ signAt (o.sign ++ l3) = some o ∧ least ≤ o.str ∧ ((Bad h g (.ops (o.str + 1)) l3 ∧ Refuses C0 r H E) ∨
          ∃ e2 d2 l4, Rd h g (.ops (o.str + 1)) l3 e2 d2 l4 ∧ ((6 < max d1 d2 + 1 ∧ Refuses C0 r H E) ∨ (max d1 d2 + 1 ≤ 6 ∧
            ((∃ e d l', Rd h g (.loop least (.op o e1 e2) (max d1 d2 + 1)) l4 e d l' ∧ Left C r z g H e d l' Q) ∨ (Bad h g (.loop least (.op o e1 e2) (max d1 d2 + 1)) l4 ∧ Refuses C0 r H E))))) := by
      rcases hloop with ⟨e, d, l', hl, kk⟩ | ⟨hb, ref⟩
      · cases hl with
        | stop hs => exact .inl ⟨hs, _, _, _, ⟨rfl, rfl, rfl⟩, kk⟩
        | @step _ _ _ _ _ o l3 e2 d2 l4 _ _ _ hs hle hops hdp hnext => exact .inr ⟨o, l3, rfl, hs, hle, .inr ⟨e2, d2, l4, hops, .inr ⟨hdp, .inl ⟨_, _, _, hnext, kk⟩⟩⟩⟩
      · cases hb with
        | @loop1 _ _ _ _ _ o l3 hs hle b => exact .inr ⟨o, l3, rfl, hs, hle, .inl ⟨b, ref⟩⟩
        | @deep _ _ _ _ _ o l3 e2 d2 l4 hs hle hops hdp => exact .inr ⟨o, l3, rfl, hs, hle, .inr ⟨e2, d2, l4, hops, .inl ⟨hdp, ref⟩⟩⟩
        | @loop2 _ _ _ _ _ o l3 e2 d2 l4 hs hle hops hdp b => exact .inr ⟨o, l3, rfl, hs, hle, .inr ⟨e2, d2, l4, hops, .inr ⟨hdp, .inr ⟨b, ref⟩⟩⟩⟩
    rcases turnSplit with ⟨hs, e, d, l', ⟨rfl, rfl, rfl⟩, kk⟩ | ⟨o, l3, rfl, hs, hle, rest⟩
    · have fin : ∀ t2, H2 t2 = none → Q (.ref t2) (upd H2 t2 (.tup [v1, .int (d1 : Int)])) := fun t2 ht2 =>
        kk _ t2 v1 p2 (off2.trans (off_new ht2)) ⟨dx2, by rw [upd_ne (ne_of_none hR2 ht2)]; exact hR2⟩ hp2 hd2 upd_same (rep2.same (same_upd ht2))
      cases hsig : signAt l2 with
      | none =>
        have es : signV l2 = .non := by
          unfold signV
          rw [hsig]
        rw [es]
        refine ⟨_, rfl, rfl, _, rfl, iteNS rfl ?_⟩
        exact ⟨_, rfl, _, rfl, two_size _ _, fin⟩
      | some o =>
        have es : signV l2 = .str o.key := by
          unfold signV
          rw [hsig]
        rw [es]
        refine ⟨_, rfl, rfl, _, rfl, iteNN (fun z => by cases z) ?_⟩
        refine ⟨_, rfl, dO, o.key, .str o.name, rfl, rfl, hO o, dS, o.name, .int o.str, rfl, rfl, hS o, _, rfl, _, _, rfl, rfl, _, rfl, ?_⟩
        refine iteN (fun z => by have := hs o hsig; omega) ?_
        exact ⟨_, rfl, _, rfl, two_size _ _, fin⟩
    · have es : signV (o.sign ++ l3) = .str o.key := by
        unfold signV
        rw [hs]
      rw [es]
      have hsl := sign_len o
      have hl2 := drop_len hd2 hp2
      rw [List.length_append] at hl2
      refine ⟨_, rfl, rfl, _, rfl, iteNN (fun z => by cases z) ?_⟩
      refine ⟨_, rfl, dO, o.key, .str o.name, rfl, rfl, hO o, dS, o.name, .int o.str, rfl, rfl, hS o, _, rfl, _, _, rfl, rfl, _, rfl, ?_⟩
      refine iteY (by omega) ?_
      refine ⟨fun σ' H' => ∃ (v : V) (e1 : Lg.E) (d1 : Nat) (l2 : List Nat) (p2 : Nat) (v5 v6 v7 : Option V), l2.length < (o.sign ++ l3).length ∧ σ' = [some (.ref r), some (.int (least : Int)), some v, some (.int (d1 : Int)), some (signV l2), v5, v6, v7] ∧
        Off r H H' ∧ RdAt C r z p2 g H' ∧ p2 ≤ z.length ∧ z.cps.toList.drop p2 = l2 ∧ Rep H' v e1 ∧ ((∃ e d l', Rd h g (.loop least e1 d1) l2 e d l' ∧ Left C r z g H e d l' Q) ∨ (Bad h g (.loop least e1 d1) l2 ∧ Refuses C0 r H E)),
        fun σ' H' ⟨a1, a2, a3, a4, a5, a6, a7, a8, b1, b2⟩ => ⟨_, b1, a1, a2, a3, a4, a5, a6, a7, a8, rfl, b2⟩, ?_⟩
      refine ⟨_, rfl, dO, o.key, .str o.name, rfl, rfl, hO o, ?_⟩
      have hks : o.key.length ≤ sizeLine := by rw [key_len, sizeLine_eq]; omega
      refine ⟨_, rfl, r, C, dx2, _, .int (p2 : Int), rfl, hR2, R.cls, R.nA, rfl, _, rfl, _, rfl, hks, _, _, rfl, rfl, dx2, _, hR2, (show 3 < 1000 by decide), ?_⟩
      have hR3 : upd H2 r (.ins C dx2 (putF "at" (.int ((p2 : Int) + (o.key.length : Int))) [("text", .str z), ("at", .int (p2 : Int)), ("around", .int (g : Int))])) r = some (RdO C z (p2 + o.sign.length) g dx2) := by
        rw [upd_same, key_len]
        rfl
      have hd3 : z.cps.toList.drop (p2 + o.sign.length) = l3 := drop_more hd2
      refine ⟨_, rfl, r, dx2, _, rfl, hR3, rfl, _, rfl, dS, o.name, .int o.str, rfl, rfl, hS o, _, _, rfl, rfl, r, o.str + 1, z, p2 + o.sign.length, g, l3, rfl, ⟨dx2, hR3⟩, hz, by omega, hd3, hg, ?_⟩
      rcases rest with ⟨b, ref⟩ | ⟨e2, d2, l4, hops, rest⟩
      · refine .inr ⟨b, fun H' dd off hn he => ref H' dd ((off2.trans off_at).trans off) ?_ he⟩
        have nd : dd ≠ r := fun z => by rw [z, hR3] at hn; cases hn
        rw [upd_ne nd] at hn
        cases q : H dd with
        | none => rfl
        | some o => rw [off2 _ _ nd q] at hn; cases hn
      refine .inl ⟨e2, d2, l4, hops, fun H4 t4 v4 p4 off4 ⟨dx4, hR4⟩ hp4 hd4 ht4 rep4 => ?_⟩
      refine ⟨t4, _, rfl, .inl (.inl ht4), rfl, _, _, rfl, _, _, rfl, rfl, ?_⟩
      refine ⟨_, rfl, _, rfl, _, rfl, three_size _ _ _, fun t5 ht5 => ?_⟩
      have hR5 : upd H4 t5 (.tup [.str o.name, v1, v4]) r = some (RdO C z p4 g dx4) := by
        rw [upd_ne (ne_of_none hR4 ht5)]
        exact hR4
      have off5 : Off r H2 (upd H4 t5 (.tup [.str o.name, v1, v4])) := (off_at.trans off4).trans (off_new ht5)
      have hlen := Rd.len hops
      refine ⟨_, rfl, _, rfl, _, _, rfl, _, _, rfl, rfl, _, _, rfl, ?_⟩
      have em : (fun i j : Int => V.int (i + j)) (if (d2 : Int) > (d1 : Int) then (d2 : Int) else (d1 : Int)) 1 = V.int ((max d1 d2 + 1 : Nat) : Int) := congrArg V.int (max_nat d1 d2)
      rw [em]
      refine ⟨_, rfl, _, _, rfl, rfl, _, rfl, ?_⟩
      rcases rest with ⟨hdeep, ref⟩ | ⟨hdp, hnext⟩
      · refine iteY (by omega) ?_
        exact refused ⟨dx, hR⟩ (off2.trans off5) ⟨_, hR5⟩ ref
      refine iteN (fun z => by omega) ?_
      refine ⟨_, rfl, r, dx4, _, rfl, hR5, rfl, r, z, p4, g, rfl, ⟨dx4, hR5⟩, hp4, ?_⟩
      rw [hd4]
      refine ⟨.ref t5, .op o e1 e2, max d1 d2 + 1, l4, p4, _, _, _, ?_, rfl, off2.trans off5, ⟨dx4, hR5⟩, hp4, hd4, .op upd_same ?_ ?_, hnext⟩
      · rw [List.length_append]
        omega
      · exact rep2.off ⟨dx2, hR2⟩ off5
      · exact rep4.same (same_upd ht5)
end
end Lg

namespace Lg
open PySem PySem.Spec PyProof.Rows L2
theorem scInit : FnScope ["self", "text"] ["self", "text"] (defScope sInit) := ⟨rfl, rfl, rfl, by decide +kernel, rfl, by decide +kernel, by decide +kernel⟩
theorem scExpr : FnScope ["text", "reader", "expression", "_"] ["text"] (defScope sExpr) := ⟨rfl, rfl, rfl, by decide +kernel, rfl, by decide +kernel, by decide +kernel⟩
theorem scParse : FnScope ["text"] ["text"] (defScope sParse) := ⟨rfl, rfl, rfl, by decide +kernel, rfl, by decide +kernel, by decide +kernel⟩
def spInit (C : Addr) : Sp := fun vs H Q _ => ∃ (r dx : Addr) (z : Str), vs = [.ref r, .str z] ∧ H r = some (.ins C dx []) ∧ ∀ H', Off r H H' → H' r = some (RdO C z 0 0 dx) → Q .non H'
/-- what may be asked of a text -/
def spRead (C0 : Addr) (n : Nat) : Sp := fun vs H Q E => ∃ z : Str, vs = [.str z] ∧ z.length ≤ 40000 ∧
  ((∃ e d, Rd n 0 (.ops 1) z.cps.toList e d [] ∧ ∀ H' v, Same H H' → Rep H' v e → Q v H') ∨
    ((Bad n 0 (.ops 1) z.cps.toList ∨ ∃ e d l', Rd n 0 (.ops 1) z.cps.toList e d l' ∧ l' ≠ []) ∧ Fails C0 H E))
/-- and of any value -/
def spParse (C0 : Addr) (n : Nat) (K : PySem.W.Frag) : Sp := fun vs H Q E => spRead C0 n vs H Q E ∨ ∃ (x : V) (t : Value), vs = [x] ∧ TyX K H x t ∧ PySem.W.kitOne K t (.type "str") = some false ∧ Fails C0 H E
theorem rd_zero {g least l e d l'} (r : Rd 0 g (.ops least) l e d l') : False := by
  cases r
theorem bad_zero {g least l} (r : Bad 0 g (.ops least) l) : False := by
  cases r
/-- the reader's class and its methods -/
structure Rdr (K : PySem.W.Frag) (mg : Str → Option Value) (C : Addr) (f : Nat → Addr) (fd : Nat → FuncData) : Prop where
  R : Rx K C
  cmg : mg "Reader" = some (.ref C)
  makes : Mk K C (f 0)
  iF : Fun K "__init__" "Reader.__init__" sInit (f 0) (fd 0)
  ib : Binds K (fd 0) ["self", "text"] []
  ops : MethX K C "operations" "Reader.operations" sOps ["self", "least"] (f 1) (fd 1)
  sign : MethX K C "sign_here" "Reader.sign_here" sSign ["self"] (f 2) (fd 2)
  opd : MethX K C "operand" "Reader.operand" sOpd ["self"] (f 3) (fd 3)
  par : MethX K C "parentheses" "Reader.parentheses" sPar ["self"] (f 4) (fd 4)
  taken : MethX K C "taken" "Reader.taken" sTaken ["self", "allowed"] (f 5) (fd 5)
  before : MethX K C "is_before_word" "Reader.is_before_word" sBefore ["self"] (f 6) (fd 6)
  made : DefX K mg "is_made_of" sMade ["text", "allowed"] (f 7) (fd 7)
  isw : DefX K mg "is_word" sIsWord ["value"] (f 8) (fd 8)
  num : DefX K mg "read_number" sNumber ["text"] (f 9) (fd 9)
  word : DefX K mg "read_word" sWord ["text"] (f 10) (fd 10)
  expr : DefX K mg "read_expression" sExpr ["text"] (f 11) (fd 11)
  parse : DefX K mg "parse_expression" sParse ["text"] (f 12) (fd 12)
section
variable {P : Program} {w : World} {K : PySem.W.Frag} {mg : Str → Option Value} {base : Heap} {C : Addr} {f : Nat → Addr} {fd : Nat → FuncData}
theorem ok_init (F : Fun K "__init__" "Reader.__init__" sInit (f 0) (fd 0)) (R : Rx K C) : FnOk P w K mg base CX0 1 (f 0) (fd 0) ["self", "text"] (spInit C) := by
  refine F.ok scInit (fun vs H Q E h => ?_) (fun cdv A outer s H vs Q E hr h => ?_)
  · obtain ⟨r, dx, z, rfl, _⟩ := h
    rfl
  · obtain ⟨r, dx, z, rfl, hR, k⟩ := h
    refine ⟨_, pss_cons (ps_fld (pv 0) (pv 1) rfl) (pss_cons (ps_fld (pv 0) pe_int rfl) (pss_one (ps_fld (pv 0) pe_int rfl))), ?_⟩
    refine ⟨_, rfl, _, rfl, r, C, dx, [], rfl, hR, R.cls, R.nT, by decide, ?_⟩
    refine ⟨_, rfl, r, C, dx, _, rfl, upd_same, R.cls, R.nA, (show 1 < 1000 by decide), ?_⟩
    refine ⟨_, rfl, r, C, dx, _, rfl, upd_same, R.cls, R.nR, (show 2 < 1000 by decide), ?_⟩
    exact k _ ((off_at.trans off_at).trans off_at) upd_same
theorem ok_all {W0 fI C0 : Addr} {fdI : FuncData} (T : Gx K w mg) (X : ErX K mg C0 W0 fI fdI) (D : Rdr K mg C f fd) : ∀ h : Nat, FnOk P w K mg base (L2.CX P w) (2 * h + 4) (f 3) (fd 3) ["self"] (spOpd C C0 h) ∧ FnOk P w K mg base (L2.CX P w) (2 * h + 4) (f 1) (fd 1) ["self", "least"] (spOps C C0 h) := by
  have GT : FnOk P w K mg base CX0 1 (f 5) (fd 5) ["self", "allowed"] (spTaken C) := ok_taken D.taken.F T D.R
  have GB : FnOk P w K mg base CX0 1 (f 6) (fd 6) ["self"] (spBefore C) := ok_before D.before.F T D.R
  have GS : FnOk P w K mg base CX0 1 (f 2) (fd 2) ["self"] (spSign C) := ok_sign D.sign.F T D.R
  have GN : FnOk P w K mg base (L2.CX P w) 3 (f 9) (fd 9) ["text"] (spNumber C0) := ok_number D.num.F T X D.made
  have GI : FnOk P w K mg base CX0 2 (f 8) (fd 8) ["value"] spIsWord := ok_isWord D.isw.F T D.made
  have GW : FnOk P w K mg base (L2.CX P w) 3 (f 10) (fd 10) ["text"] (spWord C0) := ok_word D.word.F X D.isw GI
  intro h
  induction h with
  | zero =>
    have G0 : FnOk P w K mg base (L2.CX P w) 2 (f 1) (fd 1) ["self", "least"] (spOpsP C C0 0) := fnNever fun vs H Q E z => z
    have GO : FnOk P w K mg base (L2.CX P w) 3 (f 4) (fd 4) ["self"] (spPar C C0 0) := ok_par D.par.F T X D.R D.ops (by omega) G0
    refine ⟨ok_opd D.opd.F T X D.R (by omega) D.par GO D.taken GT D.before GB D.num GN D.word GW, fnNever fun vs H Q E z => ?_⟩
    obtain ⟨_, _, _, _, _, _, _, _, _, _, _, _, z⟩ := z
    rcases z with ⟨_, _, _, z, _⟩ | ⟨z, _⟩
    · exact rd_zero z
    · exact bad_zero z
  | succ h ih =>
    have G1 : FnOk P w K mg base (L2.CX P w) (2 * h + 4) (f 1) (fd 1) ["self", "least"] (spOpsP C C0 (h + 1)) := ih.2
    have GP : FnOk P w K mg base (L2.CX P w) (2 * h + 5) (f 4) (fd 4) ["self"] (spPar C C0 (h + 1)) := ok_par D.par.F T X D.R D.ops (by omega) G1
    exact ⟨ok_opd D.opd.F T X D.R (by omega) D.par GP D.taken GT D.before GB D.num GN D.word GW, (ok_ops D.ops.F T X D.R (by omega) D.opd ih.1 D.sign GS D.ops ih.2).mono (by omega)⟩
theorem ok_read {W0 fI C0 : Addr} {fdI : FuncData} (T : Gx K w mg) (X : ErX K mg C0 W0 fI fdI) (D : Rdr K mg C f fd) (n : Nat) : FnOk P w K mg base (L2.CX P w) (2 * n + 5) (f 11) (fd 11) ["text"] (spRead C0 n) := by
  have GO : FnOk P w K mg base (L2.CX P w) (2 * n + 4) (f 1) (fd 1) ["self", "least"] (spOps C C0 n) := (ok_all T X D n).2
  have GI : FnOk P w K mg base CX0 1 (f 0) (fd 0) ["self", "text"] (spInit C) := ok_init D.iF D.R
  have GE : FnOk P w K mg base CX0 1 fI fdI ["self", "line"] (spErr C0 "line" fun y _ => y = .non) := ok_textInit X
  refine D.expr.F.okX scExpr (fun vs H Q E h => ?_) (fun cdv A outer s H vs Q E hr h => ?_)
  · obtain ⟨z, rfl, _⟩ := h
    rfl
  · obtain ⟨z, rfl, hz, kk⟩ := h
    have hr2 : Room 2 _ := hr.mono (by omega)
    have hsz : z.length ≤ sizeLine := by rw [sizeLine_eq]; omega
    refine ⟨_, pss_cons (ps_set (i := 1) scExpr.nd rfl (Or.inl rfl) (pe_make D.makes GI hr2 (by rfl) D.cmg D.ib .nil pass0 (pa_cons (pv 0) pa_nil)))
      (pss_cons (ps_asg (pe_meth (pv 1) D.R.cls D.ops.M GO hr D.ops.b .nil (passes_call (takes_of rfl rfl rfl rfl) fun _ _ _ _ h => h) (pa_cons pe_int pa_nil)) (pg_tup (by rfl) (pgs_cons (pg_name (i := 2) scExpr.nd rfl (Or.inl rfl)) (pgs_cons (pg_name (i := 3) scExpr.nd rfl (Or.inl rfl)) pgs_nil))))
      (pss_cons (ps_if (pt_cmpR op_ne (pe_fld (pv 1) rfl) (pe_callB call_len_str (by rfl) T.len (by decide +kernel) (pa_cons (pv 0) pa_nil)) (nomark _))
        (pss_one (ps_raise rfl (takes_of rfl rfl rfl rfl) (pmk_err X.er X.ty PySem.F.excBase_ValueError abVE X.iC X.tI GE hr2 X.b (by rfl) X.mgC (pa_cons pe_non pa_nil)))) pss_nil)
      (pss_one (ps_ret (pv 2))))), ?_⟩
    refine ⟨_, rfl, fun r dx hr0 hd0 ne => ?_⟩
    refine ⟨r, dx, z, rfl, upd_same, fun H1 off1 hR => ⟨rfl, ?_⟩⟩
    have s1 : Same H H1 := fun b o e => off1 b o (ne_of_none e hr0) (by
      rw [upd_ne (ne_of_none e hr0), upd_ne (ne_of_none e hd0)]
      exact e)
    refine ⟨_, rfl, r, dx, _, rfl, hR, rfl, r, 1, z, 0, 0, _, rfl, ⟨dx, hR⟩, hz, by omega, rfl, by omega, ?_⟩
    have split : (Bad n 0 (.ops 1) z.cps.toList ∧ Fails C0 H E) ∨ ∃ e d l', Rd n 0 (.ops 1) z.cps.toList e d l' ∧ ((l' = [] ∧ ∀ H' v, Same H H' → Rep H' v e → Q v H') ∨ (l' ≠ [] ∧ Fails C0 H E)) := by
      rcases kk with ⟨e, d, hrd, k⟩ | ⟨b | ⟨e, d, l', hrd, hne⟩, fl⟩
      · exact .inr ⟨e, d, [], hrd, .inl ⟨rfl, k⟩⟩
      · exact .inl ⟨b, fl⟩
      · exact .inr ⟨e, d, l', hrd, .inr ⟨hne, fl⟩⟩
    rcases split with ⟨b, fl⟩ | ⟨e, d, l', hrd, res⟩
    · exact .inr ⟨b, fun H' dd off hn he => fl H' dd (fun b o q => off b o (ne_of_none q hr0) (s1 b o q)) (back_none s1 hn) he⟩
    refine .inl ⟨e, d, l', hrd, fun H2 t v p2 off2 ⟨dx2, hR2⟩ hp2 hd2 ht rep => ?_⟩
    have s2 : Same H H2 := fun b o q => off2 b o (ne_of_none q hr0) (s1 b o q)
    have hlen := drop_len hd2 hp2
    refine ⟨t, _, rfl, .inl (.inl ht), rfl, _, _, rfl, _, _, rfl, rfl, ?_⟩
    refine ⟨_, rfl, r, C, dx2, _, .int (p2 : Int), rfl, hR2, D.R.cls, D.R.nA, rfl, _, rfl, _, rfl, hsz, rfl, _, rfl, ?_⟩
    rcases res with ⟨rfl, k⟩ | ⟨hne, fl⟩
    · have e2 : p2 = z.length := by simpa using hlen.symm
      refine iteNS (by rw [e2]) ?_
      exact ⟨_, rfl, k H2 v s2 rep⟩
    · refine iteNN (fun q => ?_) ?_
      · injection q with q
        have := List.length_pos_iff.mpr hne
        omega
      · exact ⟨_, rfl, fun a ha => rfl, fun dd hd => fl _ dd (s2.trans (same_upd hd)) (back_none s2 hd) upd_same⟩
theorem ok_parse {W0 fI C0 : Addr} {fdI : FuncData} (T : Gx K w mg) (X : ErX K mg C0 W0 fI fdI) (D : Rdr K mg C f fd) (n : Nat) : FnOk P w K mg base (L2.CX P w) (2 * n + 6) (f 12) (fd 12) ["text"] (spParse C0 n K) := by
  have GR : FnOk P w K mg base (L2.CX P w) (2 * n + 5) (f 11) (fd 11) ["text"] (spRead C0 n) := ok_read T X D n
  have GE : FnOk P w K mg base CX0 1 fI fdI ["self", "line"] (spErr C0 "line" fun y _ => y = .non) := ok_textInit X
  refine D.parse.F.okX scParse (fun vs H Q E h => ?_) (fun cdv A outer s H vs Q E hr h => ?_)
  · rcases h with ⟨z, rfl, _⟩ | ⟨x, t, rfl, _⟩ <;> rfl
  · have hr2 : Room 2 _ := hr.mono (by omega)
    refine ⟨_, pss_cons (ps_if (pt_not (pt_val (pe_callB call_isi (by rfl) T.isi (by decide +kernel) (pa_cons (pv 0) (pa_cons (pe_bltn (v := .ty "str") (by rfl) T.str (by decide +kernel) rfl) pa_nil)))))
        (pss_one (ps_raise rfl (takes_of rfl rfl rfl rfl) (pmk_err X.er X.ty PySem.F.excBase_ValueError abVE X.iC X.tI GE hr2 X.b (by rfl) X.mgC (pa_cons pe_non pa_nil)))) pss_nil)
      (pss_one (ps_ret (pe_call GR hr (by rfl) D.expr.mg D.expr.F.kp D.expr.b .nil (passes_call (takes_of rfl rfl rfl rfl) fun _ _ _ _ h => h) (pa_cons (pv 0) pa_nil)))), ?_⟩
    rcases h with ⟨z, rfl, k⟩ | ⟨x, t, rfl, ty, kt, fl⟩
    · refine ⟨_, rfl, _, _, _, _, true, rfl, .ty "str", .base (.str _), kit_ty (by decide +kernel), ?_⟩
      refine ⟨true, rfl, iteF ?_⟩
      exact ⟨_, rfl, z, rfl, k⟩
    · refine ⟨_, rfl, _, _, t, _, false, rfl, .ty "str", ty, kt, ?_⟩
      refine ⟨false, rfl, iteT ?_⟩
      exact ⟨_, rfl, fun a ha => rfl, fun dd hd => fl _ dd (same_upd hd) hd upd_same⟩
end
end Lg

namespace Lg
open PySem PySem.Spec PyProof.Rows L2
theorem shw_len {e : E} {s : List Nat} (S : Shw e s) : e.Ok → s.length + 8 ≤ 13 * 2 ^ e.dep := by
  induction S with
  | @word z =>
    intro ok
    have := WordOk.len ok
    show _ ≤ 13 * 2 ^ 1
    omega
  | @num n =>
    intro ok
    have := NumOk.len ok
    show _ ≤ 13 * 2 ^ 1
    omega
  | @ask q z =>
    intro ok
    have h1 := ok.1.word.len
    have h2 := ok.2.len
    show _ ≤ 13 * 2 ^ 1
    simp
    omega
  | @op o a b sa sb xa xb _ _ ha hb ia ib =>
    intro ok
    have h1 := ia ok.1
    have h2 := ib ok.2
    have h3 : xa.length ≤ sa.length + 2 := by
      rcases ha with rfl | ⟨rfl, _⟩
      · simp [paren]
      · omega
    have h4 : xb.length ≤ sb.length + 2 := by
      rcases hb with rfl | ⟨rfl, _⟩
      · simp [paren]
      · omega
    have h5 := sign_len o
    have e1 : 2 ^ a.dep ≤ 2 ^ (max a.dep b.dep) := Nat.pow_le_pow_right (by decide) (Nat.le_max_left _ _)
    have e2 : 2 ^ b.dep ≤ 2 ^ (max a.dep b.dep) := Nat.pow_le_pow_right (by decide) (Nat.le_max_right _ _)
    show _ ≤ 13 * 2 ^ (max a.dep b.dep + 1)
    rw [Nat.pow_succ]
    simp only [List.length_append]
    omega
theorem shw_small {e : E} {s : List Nat} (S : Shw e s) (ok : e.Ok) (d : e.dep ≤ 6) : s.length ≤ 824 := by
  have h := shw_len S ok
  have e1 : 2 ^ e.dep ≤ 2 ^ 6 := Nat.pow_le_pow_right (by decide) d
  have e2 : (2 : Nat) ^ 6 = 64 := by decide
  omega
def Op.mark : Op → Str
  | .plus => "+"
  | .minus => "-"
  | .times => "*"
  | .less => "<"
  | .same => "=="
theorem mark_list (o : Op) : 32 :: (o.mark.cps.toList ++ [32]) = o.sign := by cases o <;> decide +kernel
theorem mark_len (o : Op) : o.mark.cps.toList.length ≤ 2 := by cases o <;> decide +kernel
/-- e's text among operations at least so strong -/
def wr (e : E) (least : Nat) : List Nat := if e.str < least then paren (fmt e) else fmt e
theorem wr_len {e : E} {least : Nat} (ok : e.Ok) (d : e.dep ≤ 6) : (wr e least).length ≤ 826 := by
  have h := shw_small (shw_fmt e) ok d
  unfold wr
  split
  · simp [paren]
    omega
  · omega
theorem sl {s : Str} (h : s.cps.toList.length ≤ 5000) : s.length ≤ sizeLine := by
  rw [len_list] at h
  rw [sizeLine_eq]
  omega
theorem empty_list : Str.empty.cps.toList = [] := rfl
section
variable {X : Cx}
/-- str(x), x a text or an int -/
theorem call_str_ev : CallR X (.type "str") (fun xs H Q => (∃ a, xs = [.str a] ∧ Q (.str a) H) ∨ ∃ i : Int, xs = [.int i] ∧ i.natAbs.log2 < 1920 ∧ Q (.str (Str.ofString (toString i))) H) := by
  intro pins s σ H xs us Q I r h
  rcases h with h | h
  · exact SkE.call_str_str pins s σ H xs us Q I r h
  · exact call_str_int pins s σ H xs us Q I r h
end
theorem scFormat : FnScope ["expression"] ["expression"] (defScope sFormat) := ⟨rfl, rfl, rfl, by decide +kernel, rfl, by decide +kernel, by decide +kernel⟩
theorem scWritten : FnScope ["expression", "least", "operation", "first", "second", "strength", "text"] ["expression", "least"] (defScope sWritten) := ⟨rfl, rfl, rfl, by decide +kernel, rfl, by decide +kernel, by decide +kernel⟩
def spWritten (n : Nat) : Sp := fun vs H Q _ => ∃ (v : V) (e : E) (least : Nat), vs = [v, .int least] ∧ Rep H v e ∧ e.Ok ∧ e.dep ≤ n ∧ n ≤ 6 ∧ least ≤ 4 ∧ Q (.str (st (wr e least))) H
def spFormat : Sp := fun vs H Q _ => ∃ (v : V) (e : E), vs = [v] ∧ Rep H v e ∧ e.Ok ∧ e.dep ≤ 6 ∧ Q (.str (st (fmt e))) H
theorem log_small {n : Nat} (h : n < 1000000007) : ((n : Int)).natAbs.log2 < 1920 := by
  have e : ((n : Int)).natAbs = n := Int.natAbs_natCast n
  rw [e]
  have h1 : n.log2 < 30 := by
    rcases Nat.eq_zero_or_pos n with rfl | hp
    · decide
    · exact (Nat.log2_lt (by omega)).mpr (by omega)
  omega
theorem ntx_str (n : Nat) : Str.ofString (toString (n : Int)) = st (ntx n) := strExt (by simp [ntx])
structure Wx (K : PySem.W.Frag) (w : World) (mg : Str → Option Value) (f1 f2 : Addr) (fd1 fd2 : FuncData) : Prop where
  written : DefX K mg "_written" sWritten ["expression", "least"] f1 fd1
  format : DefX K mg "format_expression" sFormat ["expression"] f2 fd2
  marks : ∃ d, mg "SIGNS" = some (.ref d) ∧ ∀ o : Op, KDct K w d o.name (.str o.mark)
theorem join_two (q z : List Nat) : Txt.join (Str.ofString " ") [st q, st z] = st (q ++ 32 :: z) := by
  apply strExt
  show ((st q).cps ++ (Str.ofString " ").cps ++ (st z).cps).toList = _
  rw [Array.toList_append, Array.toList_append, blank_list]
  simp
theorem st_list (z : List Nat) : (st z).cps.toList = z := by simp
theorem open1 : (Str.ofString "(").cps.toList = [40] := open_list
theorem shut1 : (Str.ofString ")").cps.toList = [41] := shut_list
section
variable {P : Program} {w : World} {K : PySem.W.Frag} {mg : Str → Option Value} {base : Heap} {f1 f2 : Addr} {fd1 fd2 : FuncData}
theorem ok_written (T : Gx K w mg) (D : Wx K w mg f1 f2 fd1 fd2) : ∀ n : Nat, FnOk P w K mg base CX0 (n + 1) f1 fd1 ["expression", "least"] (spWritten n) := by
  obtain ⟨dS, hmS, hS⟩ := T.strengths
  obtain ⟨dG, hmG, hG⟩ := D.marks
  intro n
  induction n with
  | zero =>
    refine fnNever fun vs H Q E h => ?_
    obtain ⟨v, e, least, _, _, _, h, _⟩ := h
    have := e.dep_pos
    omega
  | succ n ih =>
    refine D.written.F.ok scWritten (fun vs H Q E h => ?_) (fun cdv A outer s H vs Q E hr h => ?_)
    · obtain ⟨v, e, least, rfl, _⟩ := h
      rfl
    · obtain ⟨v, e, least, rfl, rep, ok, hd, hn, h4, k⟩ := h
      refine ⟨_, pss_cons (ps_if (pt_not (pt_val (pe_callB call_isi (by rfl) T.isi (by decide +kernel) (pa_cons (pv 0) (pa_cons (pe_bltn (v := .ty "tuple") (by rfl) T.tuple (by decide +kernel) rfl) pa_nil)))))
          (pss_one (ps_ret (pe_callTy call_str_ev (by rfl) T.str (by decide +kernel) (pa_cons (pv 0) pa_nil)))) pss_nil)
        (pss_cons (ps_if (pt_cmpR op_eq (pe_callB call_len_seq (by rfl) T.len (by decide +kernel) (pa_cons (pv 0) pa_nil)) pe_int (nomark _)) (pss_one (ps_ret (pe_join pe_str (pv 0)))) pss_nil)
        (pss_cons (ps_asg (pv 0) (pg_tup (by rfl) (pgs_cons (pg_name (i := 2) scWritten.nd rfl (Or.inl rfl)) (pgs_cons (pg_name (i := 3) scWritten.nd rfl (Or.inl rfl)) (pgs_cons (pg_name (i := 4) scWritten.nd rfl (Or.inl rfl)) pgs_nil)))))
        (pss_cons (ps_set (i := 5) scWritten.nd rfl (Or.inl rfl) (pe_ix ix_kdict (pe_glob (v := .ref dS) rfl hmS rfl) (pv 2) (fun _ _ => rfl)))
        (pss_cons (ps_set (i := 6) scWritten.nd rfl (Or.inl rfl) (pe_joined (PJ.cons (pe_fmt (pe_call ih hr (by rfl) D.written.mg D.written.F.kp D.written.b .nil pass0 (pa_cons (pv 3) (pa_cons (pv 5) pa_nil))))
            (PJ.cons pe_str (PJ.cons (pe_fmt (pe_ix ix_kdict (pe_glob (v := .ref dG) rfl hmG rfl) (pv 2) (fun _ _ => rfl))) (PJ.cons pe_str (PJ.cons (pe_fmt (pe_call ih hr (by rfl) D.written.mg D.written.F.kp D.written.b .nil pass0 (pa_cons (pv 4) (pa_cons (pe_op op_add (pv 5) pe_int) pa_nil)))) PJ.nil)))))))
        (pss_one (ps_ret (pe_ifExp (pt_cmpR op_lt (pv 5) (pv 1) (nomark _)) (pe_joined (PJ.cons pe_str (PJ.cons (pe_fmt (pv 6)) (PJ.cons pe_str PJ.nil)))) (pv 6)))))))), ?_⟩
      cases rep with
      | @word z =>
        refine ⟨_, rfl, _, _, _, _, false, rfl, .ty "tuple", .base (.str _), kit_ty (by decide +kernel), ?_⟩
        refine ⟨false, rfl, iteT ?_⟩
        refine ⟨_, rfl, .inl ⟨_, rfl, ?_⟩⟩
        have e : wr (.word z) least = z := if_neg (by show ¬ 4 < least; omega)
        rw [e] at k
        exact k
      | @num m =>
        refine ⟨_, rfl, _, _, _, _, false, rfl, .ty "tuple", .base (.int _), kit_ty (by decide +kernel), ?_⟩
        refine ⟨false, rfl, iteT ?_⟩
        refine ⟨_, rfl, .inr ⟨_, rfl, log_small ok.lt, ?_⟩⟩
        have e : wr (.num m) least = ntx m := if_neg (by show ¬ 4 < least; omega)
        rw [e] at k
        rw [ntx_str]
        exact k
      | @ask a q z ha =>
        refine ⟨_, rfl, _, _, _, _, true, rfl, .ty "tuple", .base (.tup ha), kit_ty (by decide +kernel), ?_⟩
        refine ⟨true, rfl, iteF ?_⟩
        refine ⟨_, rfl, a, _, rfl, .inr (.inl (.inl ha)), rfl, _, rfl, ?_⟩
        refine iteY rfl ?_
        refine ⟨⟨_, rfl⟩, _, rfl, Str.ofString " ", a, [st q, st z], rfl, rfl, .inr (.inl (.inl ha)), ?_, ?_⟩
        · have h1 := ok.1.word.len
          have h2 := ok.2.len
          have h3 : (Str.ofString " ").length = 1 := by decide +kernel
          simp only [List.map_cons, List.map_nil, List.sum_cons, List.sum_nil, st_len, h3, List.length_cons, List.length_nil]
          omega
        · have e : wr (.ask q z) least = q ++ 32 :: z := if_neg (by show ¬ 4 < least; omega)
          rw [e] at k
          rw [join_two]
          exact k
      | @op t o va vb a b ha ra rb =>
        refine ⟨_, rfl, _, _, _, _, true, rfl, .ty "tuple", .base (.tup ha), kit_ty (by decide +kernel), ?_⟩
        refine ⟨true, rfl, iteF ?_⟩
        refine ⟨_, rfl, t, _, rfl, .inr (.inl (.inl ha)), rfl, _, rfl, ?_⟩
        refine iteN (fun z => by injection z with z; simp at z) ?_
        refine ⟨_, rfl, t, _, rfl, .inl (.inl ha), rfl, _, _, rfl, _, _, rfl, _, _, rfl, rfl, ?_⟩
        refine ⟨_, rfl, dS, o.name, .int o.str, rfl, rfl, hS o, ?_⟩
        have d1 : a.dep ≤ max a.dep b.dep := Nat.le_max_left _ _
        have d2 : b.dep ≤ max a.dep b.dep := Nat.le_max_right _ _
        have dm : (Lg.E.op o a b).dep = max a.dep b.dep + 1 := rfl
        have hs4 := o.str_le
        have hA := wr_len (e := a) (least := o.str) ok.1 (by omega)
        have hB := wr_len (e := b) (least := o.str + 1) ok.2 (by omega)
        have hm := mark_len o
        refine ⟨_, rfl, _, rfl, va, a, o.str, rfl, ra, ok.1, by omega, by omega, by omega, .inl ⟨_, rfl, by (apply sl; (try simp only [app_list, empty_list, blank_list, open1, shut1, List.length_append, List.length_nil, List.length_cons, st_list]); omega), _, rfl, by (apply sl; (try simp only [app_list, empty_list, blank_list, open1, shut1, List.length_append, List.length_nil, List.length_cons, st_list]); omega), _, rfl, by (apply sl; (try simp only [app_list, empty_list, blank_list, open1, shut1, List.length_append, List.length_nil, List.length_cons, st_list]); omega), _, rfl, dG, o.name, .str o.mark, rfl, rfl, hG o, .inl ⟨_, rfl, by (apply sl; (try simp only [app_list, empty_list, blank_list, open1, shut1, List.length_append, List.length_nil, List.length_cons, st_list]); omega), _, rfl, by (apply sl; (try simp only [app_list, empty_list, blank_list, open1, shut1, List.length_append, List.length_nil, List.length_cons, st_list]); omega), _, rfl, by (apply sl; (try simp only [app_list, empty_list, blank_list, open1, shut1, List.length_append, List.length_nil, List.length_cons, st_list]); omega),
          _, rfl, _, rfl, _, _, rfl, rfl, vb, b, o.str + 1, rfl, rb, ok.2, by omega, by omega, by omega, .inl ⟨_, rfl, by (apply sl; (try simp only [app_list, empty_list, blank_list, open1, shut1, List.length_append, List.length_nil, List.length_cons, st_list]); omega), _, rfl, by (apply sl; (try simp only [app_list, empty_list, blank_list, open1, shut1, List.length_append, List.length_nil, List.length_cons, st_list]); omega), ?_⟩⟩⟩⟩
        have hacc : Str.empty ++ st (wr a o.str) ++ Str.ofString " " ++ o.mark ++ Str.ofString " " ++ st (wr b (o.str + 1)) = st (fmt (.op o a b)) := by
          apply strExt
          show _ = (st (wr a o.str ++ o.sign ++ wr b (o.str + 1))).cps.toList
          rw [st_list, ← mark_list]
          simp only [app_list, empty_list, blank_list, st_list]
          simp
        rw [hacc]
        have hF : (fmt (.op o a b)).length ≤ 824 := shw_small (shw_fmt _) ok (by omega)
        refine ⟨_, rfl, _, rfl, _, _, rfl, rfl, _, rfl, ?_⟩
        refine ite2 (fun c => ?_) (fun c => ?_)
        · refine ⟨_, rfl, by (apply sl; (try simp only [app_list, empty_list, blank_list, open1, shut1, List.length_append, List.length_nil, List.length_cons, st_list]); omega), _, rfl, .inl ⟨_, rfl, by (apply sl; (try simp only [app_list, empty_list, blank_list, open1, shut1, List.length_append, List.length_nil, List.length_cons, st_list]); omega), _, rfl, by (apply sl; (try simp only [app_list, empty_list, blank_list, open1, shut1, List.length_append, List.length_nil, List.length_cons, st_list]); omega), _, rfl, by (apply sl; (try simp only [app_list, empty_list, blank_list, open1, shut1, List.length_append, List.length_nil, List.length_cons, st_list]); omega), ?_⟩⟩
          have e : wr (.op o a b) least = paren (fmt (.op o a b)) := if_pos (by have := of_decide_eq_true c; show o.str < least; omega)
          rw [e] at k
          have h2 : Str.empty ++ Str.ofString "(" ++ st (fmt (.op o a b)) ++ Str.ofString ")" = st (paren (fmt (.op o a b))) := by
            apply strExt
            simp only [app_list, empty_list, open1, shut1, st_list]
            simp [paren]
          rw [h2]
          exact k
        · have e : wr (.op o a b) least = fmt (.op o a b) := if_neg (by simp only [decide_eq_true_eq] at c; show ¬ o.str < least; omega)
          rw [e] at k
          exact ⟨_, rfl, k⟩
theorem ok_format (T : Gx K w mg) (D : Wx K w mg f1 f2 fd1 fd2) : FnOk P w K mg base CX0 8 f2 fd2 ["expression"] spFormat := by
  have GW : FnOk P w K mg base CX0 7 f1 fd1 ["expression", "least"] (spWritten 6) := ok_written T D 6
  refine D.format.F.ok scFormat (fun vs H Q E h => ?_) (fun cdv A outer s H vs Q E hr h => ?_)
  · obtain ⟨v, e, rfl, _⟩ := h
    rfl
  · obtain ⟨v, e, rfl, rep, ok, hd, k⟩ := h
    refine ⟨_, pss_one (ps_ret (pe_call GW hr (by rfl) D.written.mg D.written.F.kp D.written.b .nil pass0 (pa_cons (pv 0) (pa_cons pe_int pa_nil)))), ?_⟩
    have e1 : wr e 1 = fmt e := if_neg (by have := e.str_pos; omega)
    refine ⟨_, rfl, v, e, 1, rfl, rep, ok, hd, by omega, by omega, ?_⟩
    rw [e1]
    exact k
end
end Lg

namespace Lg
open PySem PySem.Spec PyProof.Rows L2
/-- the tape: its cells, its place, what is left of a great cell, its seed -/
def tp (b : Addr) (i r s : Int) : List V := [.ref b, .int i, .int r, .int s]
def TapeOk (H : Hp) (t : Addr) : Prop := ∃ (b : Addr) (ns : List Int) (i r s : Int), H t = some (.lst (tp b i r s)) ∧ H b = some (.lst (ns.map V.int)) ∧ ns.length ≤ 1000 ∧ 0 ≤ i ∧ 0 ≤ r ∧ 0 ≤ s ∧ s < 2147483647
def spTape (K : PySem.W.Frag) : Sp := fun vs H Q _ => ∃ (a : Addr) (ns : List Int), vs = [.ref a] ∧ SqL K H a (ns.map V.int) ∧ ns.length ≤ 63 ∧
  ∀ H' t, Same H H' → TapeOk H' t → H t = none → Q (.ref t) H'
def spDraw : Sp := fun vs H Q _ => ∃ (t : Addr) (m : Int), vs = [.ref t, .int m] ∧ 1 ≤ m ∧ m < 1073741824 ∧ TapeOk H t ∧
  ∀ H' d, TapeOk H' t → (∀ b, b ≠ t → H' b = H b) → 0 ≤ d → d < m → Q (.int d) H'
theorem scT : FnScope ["_law_script"] ["_law_script"] (defScope sTape) := ⟨rfl, rfl, rfl, by decide +kernel, rfl, by decide +kernel, by decide +kernel⟩
theorem scD : FnScope ["_law_tape_here", "_law_many", "_law_digit", "_law_cell", "_law_near"] ["_law_tape_here", "_law_many"] (defScope sDraw) := ⟨rfl, rfl, rfl, by decide +kernel, rfl, by decide +kernel, by decide +kernel⟩
structure TxtD (mg : Str → Option Value) : Prop where
  list : mg "list" = none
  len : mg "len" = none
  int : mg "int" = none
theorem four_size (a b c d : V) : [a, b, c, d].length ≤ sizeLine := by
  rw [sizeLine_eq]
  exact (by decide : 4 ≤ 16777216)
theorem tp_ne {b : Addr} {i r s : Int} {ns : List Int} (h : tp b i r s = ns.map V.int) : False := by
  cases ns with
  | nil => cases h
  | cons n ns =>
    injection h with h1 _
    cases h1
theorem mod_bounds {x m : Int} (h : 1 ≤ m) : 0 ≤ x.fmod m ∧ x.fmod m < m := by
  rw [Int.fmod_eq_emod_of_nonneg _ (by omega)]
  exact ⟨Int.emod_nonneg _ (by omega), Int.emod_lt_of_pos _ (by omega)⟩
theorem seed_small (x : Int) : (x.fmod 2147483647).natAbs < 2 ^ 64 := by
  have z := mod_bounds (x := x) (m := 2147483647) (by decide)
  have e : (2 : Nat) ^ 64 = 18446744073709551616 := by decide
  rw [e]
  omega
theorem big_ne : (2147483647 : Int) ≠ 0 := by decide
theorem div_nonneg {x m : Int} (hx : 0 ≤ x) (h : 1 ≤ m) : 0 ≤ x.fdiv m := by
  rw [Int.fdiv_eq_ediv_of_nonneg _ (by omega)]
  exact Int.ediv_nonneg hx (by omega)
theorem cut_ints (ns : List Int) (lo hi : Option Int) : ∃ ms : List Int, cutV (ns.map V.int) lo hi = ms.map V.int ∧ ms.length ≤ ns.length := by
  unfold cutV
  refine ⟨(ns.drop _).take _, by rw [List.map_take, List.map_drop], ?_⟩
  rw [List.length_take, List.length_drop]
  omega
section
variable {P : Program} {w : World} {K : PySem.W.Frag} {mg : Str → Option Value} {base : Heap} {f : Addr} {fd : FuncData}
theorem ok_tape (F : Fun K "_law_tape" "_law_tape" sTape f fd) (T : TxtD mg) : FnOk P w K mg base CX0 1 f fd ["_law_script"] (spTape K) := by
  refine F.ok scT (fun vs H Q E h => ?_) (fun cdv A outer s H vs Q E hr h => ?_)
  · obtain ⟨a, ns, rfl, _⟩ := h
    rfl
  · obtain ⟨a, ns, rfl, hS, hl, k⟩ := h
    refine ⟨_, pss_one (ps_ret (pe_lst (pa_cons (pe_callTy call_list_of (by rfl) T.list (by decide +kernel) (pa_cons (pe_slice sl_list (pv 0) po_none (po_some pe_int)) pa_nil))
      (pa_cons pe_int (pa_cons pe_int (pa_cons pe_int pa_nil)))))), ?_⟩
    refine ⟨_, rfl, 63, rfl, a, _, rfl, hS, fun p hp => ?_⟩
    obtain ⟨ms, e1, e2⟩ := cut_ints ns none (some 63)
    refine ⟨p, _, rfl, .inl (SqL.of upd_same), fun l hl' => ?_⟩
    refine ⟨four_size _ _ _ _, fun t ht => ?_⟩
    have nlt : l ≠ t := fun z => by
      rw [← z, upd_same] at ht
      cases ht
    have hl0 : H l = none := by
      by_cases z : l = p
      · rw [z]; exact hp
      · rw [upd_ne z] at hl'; exact hl'
    have ht0 : upd H p (.lst (cutV (List.map V.int ns) none (some 63))) t = none := by
      rw [upd_ne nlt.symm] at ht
      exact ht
    have ht1 : H t = none := by
      by_cases z : t = p
      · rw [z]; exact hp
      · rw [upd_ne z] at ht0; exact ht0
    refine k _ t (fun b o e => ?_) ⟨l, ms, 0, 0, 17, upd_same, ?_, by omega, by decide, by decide, by decide, by decide⟩ ht1
    · rw [upd_ne (ne_of_none e ht1), upd_ne (ne_of_none e hl0), upd_ne (ne_of_none e hp)]
      exact e
    · rw [upd_ne nlt, upd_same, e1]
theorem ok_draw (F : Fun K "_law_draw" "_law_draw" sDraw f fd) (T : TxtD mg) : FnOk P w K mg base CX0 1 f fd ["_law_tape_here", "_law_many"] spDraw := by
  refine F.ok scD (fun vs H Q E h => ?_) (fun cdv A outer s H vs Q E hr h => ?_)
  · obtain ⟨t, m, rfl, _⟩ := h
    rfl
  · obtain ⟨t, m, rfl, m1, m2, ⟨b, ns, i, r, sd, ht, hb, hn, hi, hr0, hs0, hs1⟩, k⟩ := h
    have nbt : b ≠ t := fun z => by
      subst z
      rw [ht] at hb
      exact tp_ne (HO.lst.inj (Option.some.inj hb))
    refine ⟨_, pss_cons (ps_if (pt_cmpR op_gt (pe_ix ix_list (pv 0) pe_int (fun _ _ => rfl)) pe_int (nomark _))
        (pss_cons (ps_set (i := 2) scD.nd rfl (Or.inl rfl) (pe_op op_modN (pe_callTy call_int1 (by rfl) T.int (by decide +kernel) (pa_cons (pe_ix ix_list (pv 0) pe_int (fun _ _ => rfl)) pa_nil)) (pv 1)))
        (pss_cons (ps_asg (pe_op op_fdivN (pe_ix ix_list (pv 0) pe_int (fun _ _ => rfl)) (pv 1)) (pg_sub (pv 0) pe_int set_list))
        (pss_one (ps_ret (pv 2))))) pss_nil)
      (pss_cons (ps_set (i := 3) scD.nd rfl (Or.inl rfl) pe_int)
      (pss_cons (ps_if (pt_cmpR op_lt (pe_ix ix_list (pv 0) pe_int (fun _ _ => rfl)) (pe_callB call_len_seq (by rfl) T.len PySem.boot_len (pa_cons (pe_ix ix_list (pv 0) pe_int (fun _ _ => rfl)) pa_nil)) (nomark _))
        (pss_one (ps_set (i := 3) scD.nd rfl (Or.inl rfl) (pe_ix ix_list (pe_ix ix_list (pv 0) pe_int (fun _ _ => rfl)) (pe_ix ix_list (pv 0) pe_int (fun _ _ => rfl)) (fun _ _ => rfl)))) pss_nil)
      (pss_cons (ps_asg (pe_op op_add (pe_ix ix_list (pv 0) pe_int (fun _ _ => rfl)) pe_int) (pg_sub (pv 0) pe_int set_list))
      (pss_cons (ps_if (pt_cmpR op_ge (pv 3) (pe_op op_pow pe_int pe_int) (nomark _))
        (pss_cons (ps_asg (pe_op op_fdivN (pv 3) (pv 1)) (pg_sub (pv 0) pe_int set_list))
        (pss_one (ps_ret (pe_op op_modN (pe_callTy call_int1 (by rfl) T.int (by decide +kernel) (pa_cons (pv 3) pa_nil)) (pv 1))))) pss_nil)
      (pss_cons (ps_set (i := 4) scD.nd rfl (Or.inl rfl) (pe_op op_add (pe_op op_add (pe_op op_modN (pe_callTy call_int1 (by rfl) T.int (by decide +kernel) (pa_cons (pv 3) pa_nil)) pe_int)
          (pe_op op_mul pe_int (pe_ix ix_list (pv 0) pe_int (fun _ _ => rfl)))) pe_int))
      (pss_cons (ps_asg (pe_op op_modN (pe_callTy call_int1 (by rfl) T.int (by decide +kernel) (pa_cons (pe_op op_add (pe_op op_mul (pe_ix ix_list (pv 0) pe_int (fun _ _ => rfl)) pe_int) (pv 4)) pa_nil)) pe_int) (pg_sub (pv 0) pe_int set_list))
      (pss_one (ps_ret (pe_op op_modN (pe_op op_modN (pe_callTy call_int1 (by rfl) T.int (by decide +kernel) (pa_cons (pe_op op_pow (pe_ix ix_list (pv 0) pe_int (fun _ _ => rfl)) pe_int) pa_nil)) pe_int) (pv 1)))))))))), ?_⟩
    refine ⟨_, rfl, t, _, _, .int r, rfl, rfl, SqL.of ht, rfl, _, _, rfl, rfl, _, rfl, ?_⟩
    have oth : ∀ {H0 : Hp} {o : HO}, (∀ b, b ≠ t → H0 b = H b) → ∀ b, b ≠ t → upd H0 t o b = H b := fun e b nb => by
      rw [upd_ne nb]
      exact e b nb
    have hm := mod_bounds (x := r) m1
    refine ite2 (fun c => ?_) (fun c => ?_)
    · refine ⟨_, rfl, t, _, _, .int r, rfl, rfl, SqL.of ht, rfl, .inl ⟨_, rfl, ?_⟩⟩
      refine ⟨_, rfl, _, _, rfl, rfl, (by omega), ?_⟩
      refine ⟨_, rfl, t, _, _, .int r, rfl, rfl, SqL.of ht, rfl, _, rfl, _, _, rfl, rfl, ⟨by omega, by omega⟩, ?_⟩
      refine ⟨_, rfl, t, _, _, 2, rfl, rfl, ht, rfl, ?_⟩
      refine ⟨_, rfl, k _ _ ⟨b, ns, i, r.fdiv m, sd, upd_same, by rw [upd_ne nbt]; exact hb, hn, hi, div_nonneg hr0 m1, hs0, hs1⟩ (oth fun _ _ => rfl) hm.1 hm.2⟩
    · refine ⟨_, rfl, t, _, _, .int i, rfl, rfl, SqL.of ht, rfl, _, rfl, t, _, _, .ref b, rfl, rfl, SqL.of ht, rfl, b, _, rfl, .inl (SqL.of hb), _, _, rfl, rfl, _, rfl, ?_⟩
      rw [List.length_map]
      refine ite2 (fun c2 => ?_) (fun c2 => ?_)
      · have c3 : i < ns.length := by simpa using c2
        obtain ⟨j, rfl⟩ : ∃ j : Nat, i = j := ⟨i.toNat, by omega⟩
        have hj : j < ns.length := by omega
        refine ⟨_, rfl, t, _, _, .ref b, rfl, rfl, SqL.of ht, rfl, _, rfl, t, _, _, .int j, rfl, rfl, SqL.of ht, rfl, b, _, _, .int ns[j], rfl, rfl, SqL.of hb, atI_nat ?_, ?_⟩
        · rw [List.getElem?_map, List.getElem?_eq_getElem hj]
          rfl
        refine ⟨_, rfl, t, _, _, .int _, rfl, rfl, SqL.of ht, rfl, _, _, rfl, rfl, _, rfl, t, _, _, 1, rfl, rfl, ht, rfl, ?_⟩
        refine ⟨_, rfl, _, _, rfl, rfl, ⟨by decide, by decide, by decide⟩, _, _, rfl, rfl, _, rfl, ?_⟩
        refine ite2 (fun c5 => ?_) (fun c5 => ?_)
        · have cpos : 0 ≤ ns[j] := by
            have z := of_decide_eq_true c5
            exact Int.le_trans (by decide) z
          have hmc := mod_bounds (x := ns[j]) m1
          refine ⟨_, rfl, _, rfl, _, _, rfl, rfl, ⟨by omega, by omega⟩, _, rfl, t, _, _, 2, rfl, rfl, upd_same, rfl, ?_⟩
          refine ⟨_, rfl, .inl ⟨_, rfl, _, rfl, _, _, rfl, rfl, by omega, ?_⟩⟩
          exact k _ _ ⟨b, ns, _, _, sd, upd_same, by rw [upd_ne nbt, upd_ne nbt]; exact hb, hn, by omega, div_nonneg cpos m1, hs0, hs1⟩ (oth (oth fun _ _ => rfl)) hmc.1 hmc.2
        · refine ⟨_, rfl, .inl ⟨_, rfl, _, _, rfl, rfl, big_ne, _, rfl, t, _, _, .int _, rfl, rfl, SqL.of upd_same, rfl, _, _, rfl, rfl, .inl ⟨by decide, by decide⟩, _, _, rfl, rfl, _, _, rfl, rfl, ?_⟩⟩
          refine ⟨_, rfl, t, _, _, .int sd, rfl, rfl, SqL.of upd_same, rfl, _, _, rfl, rfl, .inl ⟨by omega, by omega⟩, _, rfl, _, _, rfl, rfl, .inl ⟨_, rfl, _, _, rfl, rfl, big_ne, _, rfl, t, _, _, 3, rfl, rfl, upd_same, rfl, ?_⟩⟩
          refine ⟨_, rfl, t, _, _, .int _, rfl, rfl, SqL.of upd_same, rfl, _, _, rfl, rfl, ⟨by decide, by decide, ?_⟩, .inl ⟨_, rfl, _, _, rfl, rfl, big_ne, _, rfl, _, _, rfl, rfl, by omega, ?_⟩⟩
          · exact seed_small _
          · exact k _ _ ⟨b, ns, _, _, _, upd_same, by rw [upd_ne nbt, upd_ne nbt]; exact hb, hn, by omega, hr0, (mod_bounds (by decide)).1, (mod_bounds (by decide)).2⟩ (oth (oth fun _ _ => rfl)) (mod_bounds m1).1 (mod_bounds m1).2
      · refine ⟨_, rfl, t, _, _, .int _, rfl, rfl, SqL.of ht, rfl, _, _, rfl, rfl, _, rfl, t, _, _, 1, rfl, rfl, ht, rfl, ?_⟩
        refine ⟨_, rfl, _, _, rfl, rfl, ⟨by decide, by decide, by decide⟩, _, _, rfl, rfl, _, rfl, ?_⟩
        refine ite2 (fun c5 => ?_) (fun c5 => ?_)
        · have cpos : 0 ≤ (0 : Int) := by
            have z := of_decide_eq_true c5
            exact Int.le_trans (by decide) z
          have hmc := mod_bounds (x := (0 : Int)) m1
          refine ⟨_, rfl, _, rfl, _, _, rfl, rfl, ⟨by omega, by omega⟩, _, rfl, t, _, _, 2, rfl, rfl, upd_same, rfl, ?_⟩
          refine ⟨_, rfl, .inl ⟨_, rfl, _, rfl, _, _, rfl, rfl, by omega, ?_⟩⟩
          exact k _ _ ⟨b, ns, _, _, sd, upd_same, by rw [upd_ne nbt, upd_ne nbt]; exact hb, hn, by omega, div_nonneg cpos m1, hs0, hs1⟩ (oth (oth fun _ _ => rfl)) hmc.1 hmc.2
        · refine ⟨_, rfl, .inl ⟨_, rfl, _, _, rfl, rfl, big_ne, _, rfl, t, _, _, .int _, rfl, rfl, SqL.of upd_same, rfl, _, _, rfl, rfl, .inl ⟨by decide, by decide⟩, _, _, rfl, rfl, _, _, rfl, rfl, ?_⟩⟩
          refine ⟨_, rfl, t, _, _, .int sd, rfl, rfl, SqL.of upd_same, rfl, _, _, rfl, rfl, .inl ⟨by omega, by omega⟩, _, rfl, _, _, rfl, rfl, .inl ⟨_, rfl, _, _, rfl, rfl, big_ne, _, rfl, t, _, _, 3, rfl, rfl, upd_same, rfl, ?_⟩⟩
          refine ⟨_, rfl, t, _, _, .int _, rfl, rfl, SqL.of upd_same, rfl, _, _, rfl, rfl, ⟨by decide, by decide, ?_⟩, .inl ⟨_, rfl, _, _, rfl, rfl, big_ne, _, rfl, _, _, rfl, rfl, by omega, ?_⟩⟩
          · exact seed_small _
          · exact k _ _ ⟨b, ns, _, _, _, upd_same, by rw [upd_ne nbt, upd_ne nbt]; exact hb, hn, by omega, hr0, (mod_bounds (by decide)).1, (mod_bounds (by decide)).2⟩ (oth (oth fun _ _ => rfl)) (mod_bounds m1).1 (mod_bounds m1).2
end
end Lg

namespace L2
open PySem PySem.Spec PyProof.Rows
/-- isinstance(e, c), e the exception that the suite holds, with its own dict -/
def rIsE2 (K : PySem.W.Frag) (cls : Value) (d : Option Addr) (a : Addr) : List V → Hp → VK → Prop := fun xs H Q => ∃ (c : V) (u : Value) (b : Bool) (D dd : Addr) (fs : List (Str × V)) (B nw : String) (bo : List Value), xs = [.ref a, c] ∧ cls = .ref D ∧ d = some dd ∧
  ErC K D B nw bo ∧ H dd = some (.xd fs) ∧ ClsV c u ∧ PySem.W.kitOne K (.ref D) u = some b ∧ Q (.bl b) H
theorem call_isE2 {X : Cx} {a : Addr} {cls : Value} {d : Option Addr} {oe : Obj} {pn : List (Addr × Obj)} (hz : Zc cls d oe) (hf : ∃ vs, oe.data = .fields vs) : CallR (X.suite a ((a, oe) :: pn)) (.builtin "isinstance") (rIsE2 X.K cls d a) := by
  intro pins s σ H xs us Q I r h
  obtain ⟨c, u, b, D, dd, fs, B, nw, bo, rfl, ec, ed, T, hd, k, e, q⟩ := h
  subst ec ed
  obtain ⟨u1, u2, rfl, r1, r2⟩ := vals2 r
  have e2 := k.eq r2
  subst e2
  obtain rfl : u1 = Value.ref a := r1
  obtain ⟨hget, _⟩ := I.pin (a, oe) (List.mem_append.mpr (.inl List.mem_cons_self))
  obtain ⟨vs, hv⟩ := hf
  have hx : ObjOk X.prog X.w H s.heap dd (.xd fs) := I.hok dd _ hd
  obtain ⟨mA, hns, hr⟩ := hx
  obtain ⟨od, ho, hl⟩ := lookIn_ns hns
  have J : PySem.W.InstAt s.heap a oe D (some od) := ⟨hget, hz.1, by unfold PySem.W.notCls; rw [hv] <;> rfl, by rw [hz.2]; exact ho⟩
  obtain ⟨cd, hcd, _⟩ := PySem.W.any_some T.hd
  exact PySem.W.kia_one (PySem.W.kitx_exc (gt := none) (ox := oe) (od := some od) (by rw [hcd]; rfl) T.ga T.gg T.exC T.ca T.cn T.ct T.mo) I.kIn J e (fun z => nomatch z) fun tk => ⟨.bl b, H, I.tok tk, rfl, q⟩
end L2
namespace Lg
open PySem PySem.Spec PyProof.Rows L2
theorem scRead : FnScope ["_law_text_here", "e"] ["_law_text_here"] (defScope sRead) := ⟨rfl, rfl, rfl, by decide +kernel, rfl, by decide +kernel, by decide +kernel⟩
/-- what _law_read tells -/
def spReadL (n : Nat) (K : PySem.W.Frag) : Sp := fun vs H Q _ => ∃ x : V, vs = [x] ∧
  ((∃ (z : Str) (e : E) (d : Nat), x = .str z ∧ z.length ≤ 40000 ∧ Rd n 0 (.ops 1) z.cps.toList e d [] ∧ ∀ H' l v, Same H H' → H l = none → H' l = some (.lst [v]) → Rep H' v e → Q (.ref l) H') ∨
   (((∃ z : Str, x = .str z ∧ z.length ≤ 40000 ∧ (Bad n 0 (.ops 1) z.cps.toList ∨ ∃ e d l', Rd n 0 (.ops 1) z.cps.toList e d l' ∧ l' ≠ [])) ∨ ∃ t, TyX K H x t ∧ PySem.W.kitOne K t (.type "str") = some false) ∧
     ∀ H' l, Same H H' → H l = none → H' l = some (.lst []) → Q (.ref l) H'))
structure ErY (K : PySem.W.Frag) (C W0 : Addr) : Prop where
  te : PySem.W.exmOne K (.ref C) (.ref C) = some true
  isW : PySem.W.kitOne K (.ref C) (.ref W0) = some true
  noL : PySem.W.findIn K (.ref C) "line" = some none
section
variable {P : Program} {w : World} {K : PySem.W.Frag} {mg : Str → Option Value} {base : Heap} {C C0 W0 fI fr : Addr} {fdI fdr : FuncData} {f : Nat → Addr} {fd : Nat → FuncData}
theorem ok_lawRead (F : Fun K "_law_read" "_law_read" sRead fr fdr) (T : Gx K w mg) (X : ErX K mg C0 W0 fI fdI) (Y : ErY K C0 W0) (D : Rdr K mg C f fd) (n : Nat) : FnOk P w K mg base CX0 (2 * n + 7) fr fdr ["_law_text_here"] (spReadL n K) := by
  have GP : FnOk P w K mg base (L2.CX P w) (2 * n + 6) (f 12) (fd 12) ["text"] (spParse C0 n K) := ok_parse T X D n
  have XF : XfC K C0 := ⟨X.er.ga, X.er.gg, X.er.exC, X.er.hd⟩
  refine F.ok scRead (fun vs H Q E h => ?_) (fun cdv A outer s H vs Q E hr h => ?_)
  · obtain ⟨x, rfl, _⟩ := h
    rfl
  · obtain ⟨x, rfl, k⟩ := h
    refine ⟨_, pss_one (ps_try_as (i := 1) (tb := fun W => tRet (tLst (tCons (tCallS (spParse C0 n K) (WE W) (tCons (tVar 0) tNil)) tNil)))
        (ts := fun a cls d => tRet (tIf (tAnd (tTest (tOp (fun x y H Q => y = V.non ∧ Q (V.bl (decide (x = V.non))) H) (tXf a cls d C0 "line" (tVar 1)) (tC V.non))) (tB (tCB (rIsE2 K cls d a) (tCons (tVar 1) (tCons (tC (.ref W0)) tNil))))) (tLst tNil) (tLst (tCons (tTup (tCons (tC (.str "odd")) tNil)) tNil))))
        (Wout := fun _ _ _ _ => False) rfl rfl scRead.nd rfl rfl ⟨rfl, by decide, Or.inl X.mgC⟩ takes0
      (fun W pn xe tk _ => pss_one (ps_ret (by exact (pe_lst (pa_cons (pe_callS GP hr (by rfl) D.parse.mg D.parse.F.kp D.parse.b (fun σ => passAt tk σ) (by exact (pa_cons (pv 0) pa_nil))) pa_nil)))))
      (fun a oe cls d pn hz hf => pss_one (ps_ret (by exact (pe_ifExp (PW.pt (pw_and (pt_cmpR op_isN (pe_xf XF Y.noL hz hf (pv 1)) pe_non (nomark _)) (pw_and1 (pt_val (pe_callB (call_isE2 hz hf) (by rfl) T.isi (by decide +kernel) (pa_cons (pv 1) (pa_cons (pe_glob (v := .ref W0) rfl X.wk.mg rfl) pa_nil)))))))
        (pe_lst pa_nil) (pe_lst (pa_cons (pe_tup (pa_cons pe_str pa_nil)) pa_nil))))))), ?_⟩
    have one_sz : ∀ v : V, [v].length ≤ sizeLine := fun v => by
      rw [sizeLine_eq]
      exact (by decide : 1 ≤ 16777216)
    have nil_sz : ([] : List V).length ≤ sizeLine := Nat.zero_le _
    rcases k with ⟨z, e, d, rfl, hz, hrd, k⟩ | ⟨why, k⟩
    · refine ⟨_, rfl, .inl ⟨z, rfl, hz, .inl ⟨e, d, hrd, fun H' v sm rep => ⟨one_sz _, fun l hl => ?_⟩⟩⟩⟩
      exact k _ l v (sm.trans (same_upd hl)) (back_none sm hl) upd_same (rep.same (same_upd hl))
    · have fails : Fails C0 H (WE (wAs K (.ref C0) 1 (fun a cls d => tRet (tIf (tAnd (tTest (tOp (fun x y H Q => y = V.non ∧ Q (V.bl (decide (x = V.non))) H) (tXf a cls d C0 "line" (tVar 1)) (tC V.non))) (tB (tCB (rIsE2 K cls d a) (tCons (tVar 1) (tCons (tC (.ref W0)) tNil))))) (tLst tNil) (tLst (tCons (tTup (tCons (tC (.str "odd")) tNil)) tNil))))
            (fun x x_1 x_2 x_3 => False) { nx := fun x H' => Q V.non H', rt := Q }) (L2.start ["_law_text_here", "e"] [x])) := by
        intro H' dd sm hn hd
        refine ⟨true, Y.te, fun _ a ha => ?_, fun q => Bool.noConfusion q⟩
        refine ⟨_, rfl, rfl, rfl, dd, _, .non, rfl, hd, rfl, rfl, _, rfl, ?_⟩
        refine iteT ?_
        refine ⟨_, rfl, _, _, true, C0, dd, _, _, _, _, rfl, rfl, rfl, X.er, hd, .own W0, Y.isW, ?_⟩
        refine ⟨true, rfl, iteT ?_⟩
        exact ⟨nil_sz, fun l hl => k _ l (sm.trans (same_upd hl)) (back_none sm hl) upd_same⟩
      rcases why with ⟨z, rfl, hz, w1⟩ | ⟨t, ty, kt⟩
      · exact ⟨_, rfl, .inl ⟨z, rfl, hz, .inr ⟨w1, fails⟩⟩⟩
      · exact ⟨_, rfl, .inr ⟨x, t, rfl, ty, kt, fails⟩⟩
end
end Lg

namespace L2
open PySem PySem.Spec PyProof.Rows
/-- s * n, by a name that is not unfolded -/
@[irreducible] def mulT (a : Str) (n : Int) : Str := PySem.Txt.mul a n
theorem mulT_eq (a : Str) (n : Int) : mulT a n = PySem.Txt.mul a n := by unfold mulT; rfl
theorem op_mul_str {X : Cx} : OpR X (binaryOp .Mult) (fun x y H Q => ∃ (a : Str) (n : Int), x = .str a ∧ y = .int n ∧ PySem.MulOk a n ∧ Q (.str (mulT a n)) H) := by
  intro pins s σ H x y v u Q I rx ry h
  obtain ⟨a, n, rfl, rfl, hok, q⟩ := h
  obtain ⟨t, rfl⟩ := rx
  obtain ⟨t2, rfl⟩ := ry
  rw [mulT_eq] at q
  exact PySem.SB.mul hok fun t' k => ⟨.str _, H, I.tok k, ⟨t', rfl⟩, q⟩
end L2
namespace Lg
open PySem PySem.Spec PyProof.Rows L2
theorem scOne : FnScope ["_law_tape_here", "_law_some"] ["_law_tape_here", "_law_some"] (defScope sOne) := ⟨rfl, rfl, rfl, by decide +kernel, rfl, by decide +kernel, by decide +kernel⟩
theorem scText : FnScope ["_law_tape_here", "_law_words", "_law_text_here", "_law_turn", "_law_mark", "_law_other", "_law_inner"] ["_law_tape_here"] (defScope sText) := ⟨rfl, rfl, rfl, by decide +kernel, rfl, by decide +kernel, by decide +kernel⟩
def spOne : Sp := fun vs H Q _ => ∃ (t l : Addr) (xs : List V), vs = [.ref t, .ref l] ∧ TapeOk H t ∧ H l = some (.lst xs) ∧ l ≠ t ∧ 1 ≤ xs.length ∧ xs.length ≤ 1000 ∧
  ∀ H' x, x ∈ xs → TapeOk H' t → (∀ b, b ≠ t → H' b = H b) → Q x H'
def spText : Sp := fun vs H Q _ => ∃ t : Addr, vs = [.ref t] ∧ TapeOk H t ∧ ∀ H' z w p, Off t H H' → TapeOk H' t → FlatTx w p z → w ≤ 6 → p ≤ 20 → z.length ≤ 200 → Q (.str (st z)) H'
structure Lx (K : PySem.W.Frag) (mg : Str → Option Value) (f : Nat → Addr) (fd : Nat → FuncData) : Prop where
  tape : DefX K mg "_law_tape" sTape ["_law_script"] (f 20) (fd 20)
  draw : DefX K mg "_law_draw" sDraw ["_law_tape_here", "_law_many"] (f 21) (fd 21)
  one : DefX K mg "_law_one" sOne ["_law_tape_here", "_law_some"] (f 22) (fd 22)
  read : DefX K mg "_law_read" sRead ["_law_text_here"] (f 23) (fd 23)
  text : DefX K mg "_law_text" sText ["_law_tape_here"] (f 24) (fd 24)
  bare : DefX K mg "_law_bare" sBare ["_law_text_here"] (f 25) (fd 25)
theorem st_wd (s : String) : Str.ofString s = st (wd s) := strExt (by simp [wd])
theorem TxtD.of {K : PySem.W.Frag} {w : World} {mg : Str → Option Value} (T : Gx K w mg) : TxtD mg := ⟨T.list, T.len, T.int⟩
theorem ne_tape {H : Hp} {t l : Addr} (h : TapeOk H t) (e : H l = none) : l ≠ t := fun z => by
  obtain ⟨b, ns, i, r, s, hx, _⟩ := h
  rw [z, hx] at e
  cases e
theorem TapeOk.same {H H' : Hp} {t : Addr} (h : TapeOk H t) (s : Same H H') : TapeOk H' t := by
  obtain ⟨b, ns, i, r, sd, h1, h2, h3⟩ := h
  exact ⟨b, ns, i, r, sd, s _ _ h1, s _ _ h2, h3⟩
theorem off_of {t : Addr} {H H' : Hp} (h : ∀ b, b ≠ t → H' b = H b) : Off t H H' := fun b o n e => by
  rw [h b n]
  exact e
theorem small_list {xs : List V} (h : Nat.ble xs.length 1000 = true) : xs.length ≤ sizeLine := by
  rw [sizeLine_eq]
  exact Nat.le_trans (Nat.le_of_ble_eq_true h) (by decide)
/-- one of the law's parts -/
def PartV (x : V) : Prop := ∃ z, x = .str (st z) ∧ Flat .part 1 0 z ∧ z.length ≤ 8
abbrev six : List V := [V.str (Str.ofString "n"), V.str (Str.ofString "x"), V.str (Str.ofString "known x"), V.str (Str.ofString "reason v"), V.str (Str.ofString "12"), V.str (Str.ofString "0")]
theorem wordW (s : String) (h : (decide (wd s ≠ []) && decide ((wd s).length ≤ 8) && (wd s).all isLet) = true) : WordOk (wd s) := by
  rw [Bool.and_eq_true, Bool.and_eq_true] at h
  exact ⟨of_decide_eq_true h.1.1, of_decide_eq_true h.1.2, fun c hc => of_decide_eq_true (List.all_eq_true.mp h.2 c hc)⟩
theorem six_of {x : V} (h : x ∈ six) : PartV x := by
  simp only [List.mem_cons, List.not_mem_nil, or_false] at h
  rcases h with rfl | rfl | rfl | rfl | rfl | rfl
  · exact ⟨wd "n", congrArg V.str (st_wd _), .word (wordW _ (by decide +kernel)), by decide +kernel⟩
  · exact ⟨wd "x", congrArg V.str (st_wd _), .word (wordW _ (by decide +kernel)), by decide +kernel⟩
  · exact ⟨wd "known" ++ 32 :: wd "x", congrArg V.str (strExt (by decide +kernel)), .ask (.inl rfl) (wordW _ (by decide +kernel)), by decide +kernel⟩
  · exact ⟨wd "reason" ++ 32 :: wd "v", congrArg V.str (strExt (by decide +kernel)), .ask (.inr rfl) (wordW _ (by decide +kernel)), by decide +kernel⟩
  · exact ⟨ntx 12, congrArg V.str (strExt (by decide +kernel)), .num (num_ok (by decide)), by decide +kernel⟩
  · exact ⟨ntx 0, congrArg V.str (strExt (by decide +kernel)), .num (num_ok (by decide)), by decide +kernel⟩
theorem five_of {x : V} (h : x ∈ [V.str (Str.ofString " + "), V.str (Str.ofString " - "), V.str (Str.ofString " * "), V.str (Str.ofString " < "), V.str (Str.ofString " == ")]) : ∃ o : Op, x = .str (st o.sign) := by
  simp only [List.mem_cons, List.not_mem_nil, or_false] at h
  rcases h with rfl | rfl | rfl | rfl | rfl
  · exact ⟨.plus, congrArg V.str (strExt (by decide +kernel))⟩
  · exact ⟨.minus, congrArg V.str (strExt (by decide +kernel))⟩
  · exact ⟨.times, congrArg V.str (strExt (by decide +kernel))⟩
  · exact ⟨.less, congrArg V.str (strExt (by decide +kernel))⟩
  · exact ⟨.same, congrArg V.str (strExt (by decide +kernel))⟩
section
variable {P : Program} {w : World} {K : PySem.W.Frag} {mg : Str → Option Value} {base : Heap} {f : Nat → Addr} {fd : Nat → FuncData}
theorem ok_one (T : Gx K w mg) (D : Lx K mg f fd) : FnOk P w K mg base CX0 2 (f 22) (fd 22) ["_law_tape_here", "_law_some"] spOne := by
  have GD : FnOk P w K mg base CX0 1 _ _ ["_law_tape_here", "_law_many"] spDraw := ok_draw D.draw.F (TxtD.of T)
  refine D.one.F.ok scOne (fun vs H Q E h => ?_) (fun cdv A outer s H vs Q E hr h => ?_)
  · obtain ⟨t, l, xs, rfl, _⟩ := h
    rfl
  · obtain ⟨t, l, xs, rfl, tk, hl, ne, h1, h2, k⟩ := h
    refine ⟨_, pss_one (ps_ret (pe_ix ix_list (pv 1) (pe_call GD hr (by rfl) D.draw.mg D.draw.F.kp D.draw.b .nil pass0 (pa_cons (pv 0) (pa_cons (pe_callB call_len_seq (by rfl) T.len (by decide +kernel) (pa_cons (pv 1) pa_nil)) pa_nil))) (fun _ _ => rfl))), ?_⟩
    refine ⟨_, rfl, _, rfl, _, rfl, l, _, rfl, .inl (SqL.of hl), t, (xs.length : Int), rfl, by omega, by omega, tk, fun H' d tk' oth d0 d1 => ?_⟩
    obtain ⟨j, rfl⟩ : ∃ j : Nat, d = (j : Int) := ⟨d.toNat, by omega⟩
    have hj : j < xs.length := by omega
    have hl' : H' l = some (.lst xs) := by rw [oth l ne]; exact hl
    exact ⟨l, _, _, xs[j], rfl, rfl, SqL.of hl', atI_nat (List.getElem?_eq_getElem hj), k H' _ (List.getElem_mem hj) tk' oth⟩
theorem ok_text (T : Gx K w mg) (D : Lx K mg f fd) : FnOk P w K mg base CX0 3 (f 24) (fd 24) ["_law_tape_here"] spText := by
  have GD : FnOk P w K mg base CX0 1 _ _ ["_law_tape_here", "_law_many"] spDraw := ok_draw D.draw.F (TxtD.of T)
  have GO : FnOk P w K mg base CX0 2 _ _ ["_law_tape_here", "_law_some"] spOne := ok_one T D
  refine D.text.F.ok scText (fun vs H Q E h => ?_) (fun cdv A outer s H vs Q E hr h => ?_)
  · obtain ⟨t, rfl, _⟩ := h
    rfl
  · obtain ⟨t, rfl, tk, k⟩ := h
    have hr1 : Room 1 _ := hr.mono (by omega)
    refine ⟨_, pss_cons (ps_set (i := 1) scText.nd rfl (Or.inl rfl) (pe_lst (pa_cons pe_str (pa_cons pe_str (pa_cons pe_str (pa_cons pe_str (pa_cons pe_str (pa_cons pe_str pa_nil))))))))
      (pss_cons (ps_set (i := 2) scText.nd rfl (Or.inl rfl) (pe_call GO hr (by rfl) D.one.mg D.one.F.kp D.one.b .nil pass0 (pa_cons (pv 0) (pa_cons (pv 1) pa_nil))))
      (pss_cons (ps_for PassesOwn.never rfl (pi_range1 rfl T.range (pa_cons (pe_call GD hr1 (by rfl) D.draw.mg D.draw.F.kp D.draw.b .nil pass0 (pa_cons (pv 0) (pa_cons pe_int pa_nil))) pa_nil)) (pg_name (i := 3) scText.nd rfl (Or.inl rfl))
        (pss_cons (ps_set (i := 4) scText.nd rfl (Or.inl rfl) (pe_call GO hr (by rfl) D.one.mg D.one.F.kp D.one.b .nil pass0 (pa_cons (pv 0) (pa_cons (pe_lst (pa_cons pe_str (pa_cons pe_str (pa_cons pe_str (pa_cons pe_str (pa_cons pe_str pa_nil)))))) pa_nil))))
        (pss_cons (ps_set (i := 5) scText.nd rfl (Or.inl rfl) (pe_call GO hr (by rfl) D.one.mg D.one.F.kp D.one.b .nil pass0 (pa_cons (pv 0) (pa_cons (pv 1) pa_nil))))
        (pss_cons (ps_set (i := 6) scText.nd rfl (Or.inl rfl) (pe_op op_add_str (pe_op op_add_str pe_str (pv 2)) pe_str))
        (pss_one (ps_set (i := 2) scText.nd rfl (Or.inl rfl) (pe_ix ix_list (pe_lst (pa_cons (pe_op op_add_str (pe_op op_add_str (pv 2) (pv 4)) (pv 5)) (pa_cons (pe_op op_add_str (pe_op op_add_str (pv 6) (pv 4)) (pv 5)) (pa_cons (pe_op op_add_str (pe_op op_add_str (pv 5) (pv 4)) (pv 6)) pa_nil))))
          (pe_call GD hr1 (by rfl) D.draw.mg D.draw.F.kp D.draw.b .nil pass0 (pa_cons (pv 0) (pa_cons pe_int pa_nil))) (fun _ _ => rfl))))))))
      (pss_one (ps_ret (pv 2))))), ?_⟩
    refine ⟨small_list rfl, fun L hL => ?_⟩
    have tk0 := tk.same (same_upd (o := .lst six) hL)
    have nLt : L ≠ t := ne_tape tk hL
    refine ⟨_, rfl, _, rfl, t, L, _, rfl, tk0, upd_same, nLt, by simp, by simp, fun H1 x hx tk1 oth1 => ?_⟩
    obtain ⟨z0, rfl, P0, l0⟩ := six_of hx
    have hL1 : H1 L = some (.lst six) := by rw [oth1 L nLt]; exact upd_same
    have off1 : Off t H H1 := (off_new hL).trans (off_of oth1)
    refine ⟨_, rfl, t, 4, rfl, by decide, by decide, tk1, fun H2 n tk2 oth2 n0 n1 => ?_⟩
    refine ⟨n, rfl, by omega, by omega, for_range (n := n.toNat) (fun i σ H' => ∃ (z : List Nat) (v3 v4 v5 v6 : Option V), σ = [some (.ref t), some (.ref L), some (.str (st z)), v3, v4, v5, v6] ∧ Off t H H' ∧ TapeOk H' t ∧ H' L = some (.lst six) ∧ FlatTx (i + 1) i z ∧ z.length ≤ 8 + 20 * i)
      ⟨z0, _, _, _, _, rfl, off1.trans (off_of oth2), tk2, by rw [oth2 L nLt]; exact hL1, FlatTx.one P0, by omega⟩ ?_ ?_⟩
    · rintro i σ H3 hi ⟨z, v3, v4, v5, v6, rfl, off3, tk3, hL3, F, lz⟩
      have hi4 : i < 4 := by omega
      refine ⟨_, rfl, small_list rfl, fun M hM => ⟨t, M, _, rfl, tk3.same (same_upd hM), upd_same, ne_tape tk3 hM, by simp, by simp, fun H4 xm hxm tk4 oth4 => ?_⟩⟩
      obtain ⟨o, rfl⟩ := five_of hxm
      have hL4 : H4 L = some (.lst six) := by rw [oth4 L nLt, upd_ne (ne_of_none hL3 hM)]; exact hL3
      refine ⟨_, rfl, _, rfl, t, L, _, rfl, tk4, hL4, nLt, by simp, by simp, fun H5 xo hxo tk5 oth5 => ?_⟩
      obtain ⟨zo, rfl, Po, lo⟩ := six_of hxo
      have so := sign_len o
      have hL5 : H5 L = some (.lst six) := by rw [oth5 L nLt]; exact hL4
      have off5 : Off t H H5 := ((off3.trans (off_new hM)).trans (off_of oth4)).trans (off_of oth5)
      have hin : Str.ofString "(" ++ st z ++ Str.ofString ")" = st (Lg.paren z) := strExt (by simp only [app_list, open1, shut1, st_list]; simp [Lg.paren])
      have lp : (Lg.paren z).length = z.length + 2 := by simp [Lg.paren]
      refine ⟨_, rfl, _, _, rfl, rfl, by rw [← strLen_append]; (apply sl; (try simp only [app_list, empty_list, blank_list, open1, shut1, List.length_append, List.length_nil, List.length_cons, st_list]); omega), _, _, rfl, rfl, by rw [← strLen_append]; (apply sl; (try simp only [app_list, empty_list, blank_list, open1, shut1, List.length_append, List.length_nil, List.length_cons, st_list]); omega), ?_⟩
      rw [hin]
      refine ⟨_, rfl, _, rfl, _, _, rfl, rfl, by rw [← strLen_append]; (apply sl; (try simp only [app_list, empty_list, blank_list, open1, shut1, List.length_append, List.length_nil, List.length_cons, st_list]); omega), _, rfl, _, _, rfl, rfl, by rw [← strLen_append]; (apply sl; (try simp only [app_list, empty_list, blank_list, open1, shut1, List.length_append, List.length_nil, List.length_cons, st_list]); omega), _, rfl, _, rfl, _, _, rfl, rfl, by rw [← strLen_append]; (apply sl; (try simp only [app_list, empty_list, blank_list, open1, shut1, List.length_append, List.length_nil, List.length_cons, st_list]); omega), _, rfl, _, _, rfl, rfl, by rw [← strLen_append]; (apply sl; (try simp only [app_list, empty_list, blank_list, open1, shut1, List.length_append, List.length_nil, List.length_cons, st_list]); omega),
        _, rfl, _, rfl, _, _, rfl, rfl, by rw [← strLen_append]; (apply sl; (try simp only [app_list, empty_list, blank_list, open1, shut1, List.length_append, List.length_nil, List.length_cons, st_list]); omega), _, rfl, _, _, rfl, rfl, by rw [← strLen_append]; (apply sl; (try simp only [app_list, empty_list, blank_list, open1, shut1, List.length_append, List.length_nil, List.length_cons, st_list]); omega), small_list rfl, fun N hN => ?_⟩
      have app3 : ∀ a b c : List Nat, st a ++ st b ++ st c = st (a ++ (b ++ c)) := fun a b c => strExt (by simp only [app_list, st_list]; simp)
      rw [app3, app3, app3]
      refine ⟨_, rfl, t, 3, rfl, by decide, by decide, tk5.same (same_upd hN), fun H6 d tk6 oth6 d0 d1 => ?_⟩
      have hN6 : H6 N = some (.lst [.str (st (z ++ (o.sign ++ zo))), .str (st (Lg.paren z ++ (o.sign ++ zo))), .str (st (zo ++ (o.sign ++ Lg.paren z)))]) := by
        rw [oth6 N (ne_tape tk5 hN)]; exact upd_same
      have hL6 : H6 L = some (.lst six) := by rw [oth6 L nLt, upd_ne (ne_of_none hL5 hN)]; exact hL5
      have off6 : Off t H H6 := (off5.trans (off_new hN)).trans (off_of oth6)
      obtain ⟨j, rfl⟩ : ∃ j : Nat, d = (j : Int) := ⟨d.toNat, by omega⟩
      have hj : j = 0 ∨ j = 1 ∨ j = 2 := by omega
      rcases hj with rfl | rfl | rfl
      · exact ⟨N, _, _, _, rfl, rfl, SqL.of hN6, atI_nat (j := 0) rfl, _, _, _, _, _, rfl, off6, tk6, hL6, (F.snoc o Po).up (Nat.le_succ _), by simp only [List.length_append]; omega⟩
      · exact ⟨N, _, _, _, rfl, rfl, SqL.of hN6, atI_nat (j := 1) rfl, _, _, _, _, _, rfl, off6, tk6, hL6, F.inSnoc o Po, by simp only [List.length_append, lp]; omega⟩
      · exact ⟨N, _, _, _, rfl, rfl, SqL.of hN6, atI_nat (j := 2) rfl, _, _, _, _, _, rfl, off6, tk6, hL6, F.snocIn o Po, by simp only [List.length_append, lp]; omega⟩
    · rintro σ H3 ⟨z, v3, v4, v5, v6, rfl, off3, tk3, hL3, F, lz⟩
      exact ⟨_, rfl, k H3 z _ _ off3 tk3 F (by omega) (by omega) (by omega)⟩
end
end Lg

namespace Lg
open PySem PySem.Spec PyProof.Rows L2
theorem scBare : FnScope ["_law_text_here", "_law_sign"] ["_law_text_here"] (defScope sBare) := ⟨rfl, rfl, rfl, by decide +kernel, rfl, by decide +kernel, by decide +kernel⟩
def spBare : Sp := fun vs H Q _ => ∃ z : Str, vs = [.str z] ∧ z.length ≤ 40000 ∧ ∀ H', Same H H' → Q (.str (st (bare z.cps.toList))) H'
abbrev sgn (c : Nat) : Str := ⟨#[c]⟩
theorem join_signs (l : List Nat) : Txt.join (Str.ofString "") (l.map sgn) = st l := by
  have e0 : (Str.ofString "").cps = #[] := by
    have := empty_eq
    injection this with h
    exact (congrArg Str.cps h).symm
  have key : ∀ (l : List Nat) (acc : Array Nat), ((l.map sgn).foldl (fun acc p => acc ++ (Str.ofString "").cps ++ p.cps) acc).toList = acc.toList ++ l := by
    intro l
    induction l with
    | nil => intro acc; simp
    | cons c l ih =>
      intro acc
      rw [List.map_cons, List.foldl_cons, ih, e0]
      simp
  cases l with
  | nil =>
    apply strExt
    rfl
  | cons c l =>
    apply strExt
    show ((l.map sgn).foldl (fun acc p => acc ++ (Str.ofString "").cps ++ p.cps) (sgn c).cps).toList = _
    rw [key]
    simp
theorem paren_list : (Str.ofString "()").cps.toList = [40, 41] := by decide +kernel
theorem bare_snoc (l : List Nat) (c : Nat) : bare (l ++ [c]) = if c ∈ (Str.ofString "()").cps.toList then bare l else bare l ++ [c] := by
  rw [bare_app, paren_list]
  unfold bare
  by_cases h : c = 40 ∨ c = 41
  · rcases h with rfl | rfl <;> simp
  · have h1 : ¬ c = 40 := fun z => h (.inl z)
    have h2 : ¬ c = 41 := fun z => h (.inr z)
    simp [h1, h2]
theorem bare_len (l : List Nat) : (bare l).length ≤ l.length := List.length_filter_le ..
section
variable {P : Program} {w : World} {K : PySem.W.Frag} {mg : Str → Option Value} {base : Heap} {f : Nat → Addr} {fd : Nat → FuncData}
theorem ok_bare (D : Lx K mg f fd) : FnOk P w K mg base CX0 1 (f 25) (fd 25) ["_law_text_here"] spBare := by
  refine D.bare.F.ok scBare (fun vs H Q E h => ?_) (fun cdv A outer s H vs Q E hr h => ?_)
  · obtain ⟨z, rfl, _⟩ := h
    rfl
  · obtain ⟨z, rfl, hz, k⟩ := h
    refine ⟨_, pss_one (ps_ret (pe_join pe_str (pe_lc (own := [("_law_sign", 1)]) (g := gName 1) (tt := _) (by rfl) scBare.nd (pi_str (pv 0)) (blkOk_by (own := [("_law_sign", 1)]) (N := ["_law_text_here", "_law_sign"]) (sc := defScope sBare) (by decide +kernel))
        (fun _ _ _ _ _ => pg_name (i := 1) scBare.nd rfl (Or.inl rfl)) (fun _ _ _ _ _ => pts_one (pt_cmpR op_notIn_sign (pv 1) pe_str rfl)) (fun _ _ _ _ _ => pv 1)))), ?_⟩
    have hlz := len_list z
    refine ⟨⟨_, rfl⟩, _, rfl, z, rfl, fun D hD => lc_str (z := z) (fun i H' => Same H H' ∧ H' D = some (.lst ((bare (z.cps.toList.take i)).map fun c => V.str (sgn c)))) ⟨same_upd hD, upd_same⟩ ?_ ?_⟩
    · rintro i c H' hc ⟨q1, q2⟩
      have hi : i < z.cps.toList.length := by
        rcases Nat.lt_or_ge i z.cps.toList.length with h | h
        · exact h
        · rw [List.getElem?_eq_none h] at hc; cases hc
      have ht : z.cps.toList.take (i + 1) = z.cps.toList.take i ++ [c] := by
        rw [List.take_succ, hc]
        rfl
      refine ⟨rfl, ?_⟩
      refine ⟨_, rfl, c, _, rfl, rfl, _, rfl, ?_⟩
      refine ite_n (fun cc => ?_) (fun cc => ?_)
      · have hn := of_decide_eq_false cc
        refine ⟨_, rfl, _, q2, ?_, ?_, ?_⟩
        · rw [List.length_map, sizeLine_eq]
          have h1 := bare_len (z.cps.toList.take i)
          rw [List.length_take] at h1
          omega
        · intro b o e
          rw [upd_ne (ne_of_none e hD)]
          exact q1 b o e
        · rw [upd_same, ht, bare_snoc, if_neg hn, List.map_append]
          rfl
      · have hy := of_decide_eq_true cc
        refine ⟨q1, ?_⟩
        rw [q2, ht, bare_snoc, if_pos hy]
    · rintro H' ⟨q1, q2⟩
      have e : z.cps.toList.take z.cps.size = z.cps.toList := List.take_of_length_le (by simp)
      rw [e] at q2
      have e2 : (bare z.cps.toList).map (fun c => V.str (sgn c)) = ((bare z.cps.toList).map sgn).map V.str := by rw [List.map_map]; rfl
      rw [e2] at q2
      refine ⟨Str.ofString "", D, (bare z.cps.toList).map sgn, rfl, rfl, .inl (SqL.of q2), ?_, ?_⟩
      · have l0 : (Str.ofString "").length = 0 := by decide +kernel
        have h1 := bare_len z.cps.toList
        have h2 : ∀ l : List Nat, ((l.map sgn).map fun x => x.length).sum = l.length := by
          intro l
          induction l with
          | nil => rfl
          | cons c l ih =>
            rw [List.map_cons, List.map_cons, List.sum_cons, ih, List.length_cons]
            show 1 + _ = _
            omega
        rw [h2, l0]
        omega
      · rw [join_signs]
        exact k H' q1
end
end Lg

namespace Lg
open PySem PySem.Spec PyProof.Rows L2
abbrev names : List Str := ["_law_script", "_law_tape_here", "_law_wrong", "_law_text_here", "_law_turn", "_law_at", "_law_sign", "_law_found", "_law_odd"]
theorem scLaw : FnScope names ["_law_script"] (defScope sLaw) := ⟨rfl, rfl, rfl, by decide +kernel, rfl, by decide +kernel, by decide +kernel⟩
theorem str_ok {z : List Nat} (h : ∀ c ∈ z, Let c) (hl : z.length ≤ 8) : PyData.strOk (st z) = true := by
  unfold PyData.strOk
  rw [List.all_toArray, List.all_eq_true]
  intro c hc
  obtain ⟨h1, h2⟩ := h c hc
  exact decide_eq_true (by omega)
theorem name_let (o : Op) : ∀ c ∈ nm o, Let c := nm_let o
theorem dat_lay : ∀ e : E, e.Ok → (dat e).canLay0 = true
  | .word z, ok => str_ok ok.all ok.len
  | .num n, ok => rfl
  | .ask q z, ok => by
    show (PyData.canLay0 (.str (st q)) && (PyData.canLay0 (.str (st z)) && true)) = true
    rw [show PyData.canLay0 (.str (st q)) = true from str_ok ok.1.word.all ok.1.word.len, show PyData.canLay0 (.str (st z)) = true from str_ok ok.2.all ok.2.len]
    rfl
  | .op o a b, ok => by
    show (PyData.canLay0 (.str o.name) && (PyData.canLay0 (dat a) && (PyData.canLay0 (dat b) && true))) = true
    rw [dat_lay a ok.1, dat_lay b ok.2, ← name_list, show PyData.canLay0 (.str (st (nm o))) = true from str_ok (nm_let o) (by cases o <;> decide +kernel)]
    rfl
theorem dat_depth : ∀ e : E, (dat e).depth ≤ e.dep
  | .word z => by show 0 ≤ 1; decide
  | .num n => by show 0 ≤ 1; decide
  | .ask q z => by show max 0 (max 0 0) + 1 ≤ 1; decide
  | .op o a b => by
    show max 0 (max (dat a).depth (max (dat b).depth 0)) + 1 ≤ max a.dep b.dep + 1
    have h1 := dat_depth a
    have h2 := dat_depth b
    omega
theorem dat_shaped {e : E} (ok : e.Ok) (d : e.dep ≤ 6) : SeqAt.shaped (dat e) = true := by
  unfold SeqAt.shaped
  rw [dat_lay e ok, decide_eq_true (by have := dat_depth e; omega)]
  rfl
theorem shaped_one {e : E} (ok : e.Ok) (d : e.dep ≤ 6) : SeqAt.shaped (.list [dat e]) = true := by
  unfold SeqAt.shaped
  have h1 : PyData.canLay0 (.list [dat e]) = true := by
    show ((dat e).canLay0 && true) = true
    rw [dat_lay e ok]
    rfl
  have h2 : PyData.depth (.list [dat e]) ≤ 64 := by
    show max (dat e).depth 0 + 1 ≤ 64
    have := dat_depth e
    omega
  rw [h1, decide_eq_true h2]
  rfl
theorem shaped_nil : SeqAt.shaped (.list []) = true := rfl
theorem eqv_one_nil (d : PyData) : (PyData.list [d]).eqv (.list []) = false := rfl
theorem eqv_nil_nil : (PyData.list []).eqv (.list []) = true := rfl
theorem cut_len (z : Str) (lo hi : Option Int) : (cutS z lo hi).length ≤ z.length := by
  rw [← len_list, ← len_list]
  unfold cutS
  simp only [List.length_take, List.length_drop]
  omega
/-- the wrong texts -/
def wrongs : List String := ["", " ", "+", "a +", "a + ", " a", "a ", "a+b", "a  + b", "a +  b", "a b", "01", "00"]
def spLaw (K : PySem.W.Frag) : Sp := fun vs H Q _ => ∃ (a : Addr) (ns : List Int), vs = [.ref a] ∧ SqL K H a (ns.map V.int) ∧ ns.length ≤ 63 ∧ ∀ H', Q (.bl true) H'
/-- a value that _law_read tells nothing of -/
def NoTx (K : PySem.W.Frag) (H : Hp) (x : V) : Prop := (∃ z : Str, x = .str z ∧ z.length ≤ 40000 ∧ (Bad 106 0 (.ops 1) z.cps.toList ∨ ∃ e d l', Rd 106 0 (.ops 1) z.cps.toList e d l' ∧ l' ≠ [])) ∨ ∃ t, TyX K H x t ∧ PySem.W.kitOne K t (.type "str") = some false
theorem NoTx.wrong {K : PySem.W.Frag} {H : Hp} {z : Str} (hl : z.length ≤ 40000) (h : isWrong z.cps.toList = true) : NoTx K H (.str z) := .inl ⟨z, rfl, hl, wrong_ok h⟩
end Lg

namespace Lg
open PySem PySem.Spec PyProof.Rows L2
abbrev w1 : List V := [V.str (Str.ofString ""), V.str (Str.ofString " "), V.str (Str.ofString "+"), V.str (Str.ofString "a +"), V.str (Str.ofString "a + "), V.str (Str.ofString " a"), V.str (Str.ofString "a "), V.str (Str.ofString "a+b"), V.str (Str.ofString "a  + b"), V.str (Str.ofString "a +  b"), V.str (Str.ofString "a b"), V.str (Str.ofString "01"), V.str (Str.ofString "00")]
abbrev w2 : List V := [V.str (Str.ofString "-1"), V.str (Str.ofString "1000000007"), V.str (Str.ofString "A"), V.str (Str.ofString "a_b")]
abbrev w3 : List V := [V.str (Str.ofString "abcdefghi"), V.str (Str.ofString "()"), V.str (Str.ofString "(a"), V.str (Str.ofString "a)"), V.str (Str.ofString "( a)"), V.str (Str.ofString "(a )"), V.str (Str.ofString "a ( + b)"), V.str (Str.ofString "(a) (b)"), V.str (Str.ofString "(a)b")]
abbrev w4 : List V := [V.str (Str.ofString "known(x)"), V.str (Str.ofString "known  x"), V.str (Str.ofString "known (x)")]
abbrev w5 : List V := [V.str (Str.ofString "reason 1"), V.str (Str.ofString "a = b"), V.str (Str.ofString "a === b"), V.str (Str.ofString "a > b"), V.str (Str.ofString "a <b"), V.str (Str.ofString "a / b"), V.str (Str.ofString "a ** b"), V.str (Str.ofString "a, b"), V.str (Str.ofString "1a")]
abbrev w6 : List V := [V.str (Str.ofString "a1"), V.str (Str.ofString "known abcdefghi"), V.str (Str.ofString "a\n")]
abbrev w7 : List V := [V.str (Str.ofString "12345678901"), V.str (Str.ofString "a + (b"), V.str (Str.ofString "a + b)"), V.str (mulT (Str.ofString "(") 21 ++ Str.ofString "a" ++ mulT (Str.ofString ")") 21)]
abbrev w8 : List V := [V.str (Str.ofString "1 + 1 + 1 + 1 + 1 + 1 + 1"), V.str (Str.ofString "a * * b"), V.str (Str.ofString "((a)")]
abbrev w9 : List V := [V.str (mulT (Str.ofString "a + ") 4000 ++ Str.ofString "a"), V.str (mulT (Str.ofString "(") 9000), V.str (mulT (Str.ofString "1") 9000)]
abbrev signsV : List V := [V.str (Str.ofString ""), V.str (Str.ofString " "), V.str (Str.ofString "("), V.str (Str.ofString ")"), V.str (Str.ofString "+"), V.str (Str.ofString "n"), V.str (Str.ofString "0"), V.str (Str.ofString "k"), V.str (Str.ofString "<"), V.str (Str.ofString "="), V.str (Str.ofString "A"), V.str (Str.ofString ".")]
theorem mul_list (z : Str) (n : Nat) (h : 1 ≤ n) : (mulT z (n : Int)).cps.toList = (List.replicate n z.cps.toList).flatten := by
  have key : ∀ (m : Nat) (acc : Array Nat), ((List.replicate m z.cps).foldl (· ++ ·) acc).toList = acc.toList ++ (List.replicate m z.cps.toList).flatten := by
    intro m
    induction m with
    | zero => intro acc; simp
    | succ m ih =>
      intro acc
      rw [List.replicate_succ, List.foldl_cons, ih, List.replicate_succ, List.flatten_cons]
      simp
  rw [mulT_eq]
  unfold Txt.mul
  rw [if_neg (by omega)]
  split
  · rename_i hc
    rw [Bool.or_eq_true] at hc
    rcases hc with hc | hc
    · have e : n = 1 := by
        have := eq_of_beq hc
        omega
      subst e
      simp
    · have e : z.cps.toList = [] := by
        have h0 := eq_of_beq hc
        rw [← len_list] at h0
        exact List.eq_nil_of_length_eq_zero h0
      rw [e]
      clear h key
      induction n with
      | zero => rfl
      | succ m ih => simp
  · show ((List.replicate (n : Int).toNat z.cps).foldl (· ++ ·) #[]).toList = _
    rw [Int.toNat_natCast, key]
    simp
theorem item (K : PySem.W.Frag) (H : Hp) (s : String) (h : (isWrong (wd s) && decide ((wd s).length ≤ 100)) = true) : NoTx K H (V.str (Str.ofString s)) := by
  rw [Bool.and_eq_true] at h
  exact NoTx.wrong (by have := of_decide_eq_true h.2; unfold wd at this; rw [len_list] at this; omega) h.1
theorem tx_open : (Str.ofString "(").cps.toList = [40] := open_list
theorem tx_shut : (Str.ofString ")").cps.toList = [41] := shut_list
theorem tx_a : (Str.ofString "a").cps.toList = [97] := by decide +kernel
theorem tx_one : (Str.ofString "1").cps.toList = [49] := by decide +kernel
theorem tx_ap : (Str.ofString "a + ").cps.toList = [97, 32, 43, 32] := by decide +kernel
theorem sand_list (n : Nat) (h : 1 ≤ n) : (mulT (Str.ofString "(") (n : Int) ++ Str.ofString "a" ++ mulT (Str.ofString ")") (n : Int)).cps.toList = (List.replicate n [40]).flatten ++ [97] ++ (List.replicate n [41]).flatten := by
  rw [app_list, app_list, mul_list _ n h, mul_list _ n h, tx_open, tx_shut, tx_a]
theorem flat_len (n : Nat) (l : List Nat) : ((List.replicate n l).flatten).length = n * l.length := by
  induction n with
  | zero => simp
  | succ n ih => rw [List.replicate_succ, List.flatten_cons, List.length_append, ih, Nat.succ_mul]; omega
theorem sand_len (n : Nat) (h : 1 ≤ n) : (mulT (Str.ofString "(") (n : Int) ++ Str.ofString "a" ++ mulT (Str.ofString ")") (n : Int)).length = 2 * n + 1 := by
  rw [← len_list, sand_list n h]
  simp only [List.length_append, flat_len, List.length_cons, List.length_nil]
  omega
theorem all1 (K : PySem.W.Frag) (H : Hp) : ∀ x ∈ w1, NoTx K H x := by
  intro x hx
  simp only [List.mem_cons, List.not_mem_nil, or_false] at hx
  rcases hx with rfl | rfl | rfl | rfl | rfl | rfl | rfl | rfl | rfl | rfl | rfl | rfl | rfl
  · exact item K H _ (by decide +kernel)
  · exact item K H _ (by decide +kernel)
  · exact item K H _ (by decide +kernel)
  · exact item K H _ (by decide +kernel)
  · exact item K H _ (by decide +kernel)
  · exact item K H _ (by decide +kernel)
  · exact item K H _ (by decide +kernel)
  · exact item K H _ (by decide +kernel)
  · exact item K H _ (by decide +kernel)
  · exact item K H _ (by decide +kernel)
  · exact item K H _ (by decide +kernel)
  · exact item K H _ (by decide +kernel)
  · exact item K H _ (by decide +kernel)
theorem all2 (K : PySem.W.Frag) (H : Hp) : ∀ x ∈ w2, NoTx K H x := by
  intro x hx
  simp only [List.mem_cons, List.not_mem_nil, or_false] at hx
  rcases hx with rfl | rfl | rfl | rfl
  · exact item K H _ (by decide +kernel)
  · exact item K H _ (by decide +kernel)
  · exact item K H _ (by decide +kernel)
  · exact item K H _ (by decide +kernel)
theorem all3 (K : PySem.W.Frag) (H : Hp) : ∀ x ∈ w3, NoTx K H x := by
  intro x hx
  simp only [List.mem_cons, List.not_mem_nil, or_false] at hx
  rcases hx with rfl | rfl | rfl | rfl | rfl | rfl | rfl | rfl | rfl
  · exact item K H _ (by decide +kernel)
  · exact item K H _ (by decide +kernel)
  · exact item K H _ (by decide +kernel)
  · exact item K H _ (by decide +kernel)
  · exact item K H _ (by decide +kernel)
  · exact item K H _ (by decide +kernel)
  · exact item K H _ (by decide +kernel)
  · exact item K H _ (by decide +kernel)
  · exact item K H _ (by decide +kernel)
theorem all4 (K : PySem.W.Frag) (H : Hp) : ∀ x ∈ w4, NoTx K H x := by
  intro x hx
  simp only [List.mem_cons, List.not_mem_nil, or_false] at hx
  rcases hx with rfl | rfl | rfl
  · exact item K H _ (by decide +kernel)
  · exact item K H _ (by decide +kernel)
  · exact item K H _ (by decide +kernel)
theorem all5 (K : PySem.W.Frag) (H : Hp) : ∀ x ∈ w5, NoTx K H x := by
  intro x hx
  simp only [List.mem_cons, List.not_mem_nil, or_false] at hx
  rcases hx with rfl | rfl | rfl | rfl | rfl | rfl | rfl | rfl | rfl
  · exact item K H _ (by decide +kernel)
  · exact item K H _ (by decide +kernel)
  · exact item K H _ (by decide +kernel)
  · exact item K H _ (by decide +kernel)
  · exact item K H _ (by decide +kernel)
  · exact item K H _ (by decide +kernel)
  · exact item K H _ (by decide +kernel)
  · exact item K H _ (by decide +kernel)
  · exact item K H _ (by decide +kernel)
theorem all6 (K : PySem.W.Frag) (H : Hp) : ∀ x ∈ w6, NoTx K H x := by
  intro x hx
  simp only [List.mem_cons, List.not_mem_nil, or_false] at hx
  rcases hx with rfl | rfl | rfl
  · exact item K H _ (by decide +kernel)
  · exact item K H _ (by decide +kernel)
  · exact item K H _ (by decide +kernel)
theorem all7 (K : PySem.W.Frag) (H : Hp) : ∀ x ∈ w7, NoTx K H x := by
  intro x hx
  simp only [List.mem_cons, List.not_mem_nil, or_false] at hx
  rcases hx with rfl | rfl | rfl | rfl
  · exact item K H _ (by decide +kernel)
  · exact item K H _ (by decide +kernel)
  · exact item K H _ (by decide +kernel)
  · exact NoTx.wrong (by rw [show (21 : Int) = ((21 : Nat) : Int) from rfl, sand_len 21 (by decide)]; decide) (by rw [show (21 : Int) = ((21 : Nat) : Int) from rfl, sand_list 21 (by decide)]; exact big4)
theorem all8 (K : PySem.W.Frag) (H : Hp) : ∀ x ∈ w8, NoTx K H x := by
  intro x hx
  simp only [List.mem_cons, List.not_mem_nil, or_false] at hx
  rcases hx with rfl | rfl | rfl
  · exact item K H _ (by decide +kernel)
  · exact item K H _ (by decide +kernel)
  · exact item K H _ (by decide +kernel)
theorem all9 (K : PySem.W.Frag) (H : Hp) : ∀ x ∈ w9, NoTx K H x := by
  intro x hx
  simp only [List.mem_cons, List.not_mem_nil, or_false] at hx
  rcases hx with rfl | rfl | rfl
  · have e : (mulT (Str.ofString "a + ") 4000 ++ Str.ofString "a").cps.toList = (List.replicate 4000 [97, 32, 43, 32]).flatten ++ [97] := by
      rw [app_list, show (4000 : Int) = ((4000 : Nat) : Int) from rfl, mul_list _ 4000 (by decide), tx_ap, tx_a]
    exact NoTx.wrong (by rw [← len_list, e, List.length_append, flat_len]; decide) (by rw [e]; exact big1)
  · have e : (mulT (Str.ofString "(") 9000).cps.toList = (List.replicate 9000 [40]).flatten := by
      rw [show (9000 : Int) = ((9000 : Nat) : Int) from rfl, mul_list _ 9000 (by decide), tx_open]
    exact NoTx.wrong (by rw [← len_list, e, flat_len]; decide) (by rw [e]; exact big2)
  · have e : (mulT (Str.ofString "1") 9000).cps.toList = (List.replicate 9000 [49]).flatten := by
      rw [show (9000 : Int) = ((9000 : Nat) : Int) from rfl, mul_list _ 9000 (by decide), tx_one]
    exact NoTx.wrong (by rw [← len_list, e, flat_len]; decide) (by rw [e]; exact big3)
end Lg

namespace Lg
open PySem PySem.Spec PyProof.Rows L2
theorem cat_small {a b : List V} (h : Nat.ble (a.length + b.length) 1000 = true) : a.length + b.length ≤ sizeLine := by
  rw [sizeLine_eq]
  exact Nat.le_trans (Nat.le_of_ble_eq_true h) (by decide)
theorem not_long {a b : Nat} (h : a * b ≤ 36000) : Builtin.Str.tooLong (a * b) = false := by
  unfold Builtin.Str.tooLong
  exact decide_eq_false (by rw [sizeLine_eq]; omega)
theorem mok {z : Str} {n : Int} (h1 : 1 ≤ n) (h2 : n ≤ 9000) (h3 : z.length ≤ 4) : PySem.MulOk z n := by
  refine ⟨?_, fun _ _ => ?_, fun _ _ => ?_⟩
  · rw [Bool.or_eq_false_iff]
    exact ⟨decide_eq_false (by omega), decide_eq_false (by omega)⟩
  · have e : (4 : Int) ≤ (2 ^ 63 - 1) / n := by
      rw [Int.le_ediv_iff_mul_le (by omega)]
      omega
    omega
  · refine not_long ?_
    have : z.length * n.toNat ≤ 4 * 9000 := Nat.mul_le_mul h3 (by omega)
    omega
theorem szA (n : Nat) (h : 1 ≤ n) (h2 : n ≤ 21) : (mulT (Str.ofString "(") (n : Int)).length + (Str.ofString "a").length ≤ sizeLine := by
  rw [← len_list, ← len_list, mul_list _ n h, tx_open, flat_len, sizeLine_eq, tx_a]
  simp only [List.length_cons, List.length_nil]
  omega
theorem szB (n : Nat) (h : 1 ≤ n) (h2 : n ≤ 21) : (mulT (Str.ofString "(") (n : Int) ++ Str.ofString "a").length + (mulT (Str.ofString ")") (n : Int)).length ≤ sizeLine := by
  rw [← len_list, ← len_list, app_list, mul_list _ n h, mul_list _ n h, tx_open, tx_shut, tx_a, List.length_append, flat_len, flat_len, sizeLine_eq]
  simp only [List.length_cons, List.length_nil]
  omega
theorem szC : (mulT (Str.ofString "a + ") 4000).length + (Str.ofString "a").length ≤ sizeLine := by
  rw [show (4000 : Int) = ((4000 : Nat) : Int) from rfl, ← len_list, ← len_list, mul_list _ 4000 (by decide), tx_ap, flat_len, sizeLine_eq, tx_a]
  decide
theorem rd20 : Rd 106 0 (.ops 1) (mulT (Str.ofString "(") 20 ++ Str.ofString "a" ++ mulT (Str.ofString ")") 20).cps.toList (.word [97]) 1 [] := by
  have g := ops_good 53 0 1 ((List.replicate 20 [40]).flatten ++ [97] ++ (List.replicate 20 [41]).flatten) (by omega)
  rw [right20] at g
  rw [show (20 : Int) = ((20 : Nat) : Int) from rfl, sand_list 20 (by decide)]
  exact g
end Lg

namespace Lg
open PySem PySem.Spec PyProof.Rows L2
theorem rd_fmt {z : Str} {e : E} (h : z.cps.toList = fmt e) (ok : e.Ok) (d : e.dep ≤ 6) : Rd 106 0 (.ops 1) z.cps.toList e e.dep [] := by
  rw [h]
  have r := reads_all (ar := 0) (shw_fmt e) ok d (by omega) (r := []) (.inl rfl)
  rw [List.append_nil] at r
  exact r.mono (by omega)
theorem ok_of {n : Nat} {l : List Nat} {e : E} {d : Nat} {l' : List Nat} (r : Rd n 0 (.ops 1) l e d l') : e.Ok ∧ e.dep ≤ 6 := by
  have h := rd_ok r (fun _ _ _ z => by cases z)
  exact ⟨h.1, by omega⟩
theorem bare_of {n : Nat} {l : List Nat} {e : E} {d : Nat} (r : Rd n 0 (.ops 1) l e d []) : bare (fmt e) = bare l := by
  have h := rd_bare r
  have h0 : bare [] = [] := rfl
  rw [h0, List.append_nil] at h
  exact h.symm
theorem dat_a : dat (.word [97]) = .str (Str.ofString "a") := by
  have : Str.ofString "a" = st [97] := strExt (by decide +kernel)
  rw [this]
  rfl
theorem ok_a : (E.word [97]).Ok := ⟨by decide, by decide, by decide⟩
theorem sz20 : (mulT (Str.ofString "(") 20 ++ Str.ofString "a" ++ mulT (Str.ofString ")") 20).length ≤ 40000 := by
  rw [show (20 : Int) = ((20 : Nat) : Int) from rfl, sand_len 20 (by decide)]
  decide
theorem st_self (z : Str) : st z.cps.toList = z := strExt (by simp)
theorem odd_no {K : PySem.W.Frag} {H : Hp} {A B : Addr} {s : V} {a b c : V} (hA : H A = some (.lst [s])) (hB : H B = some (.tup [a, b, c])) : ∀ x ∈ [V.non, V.int 5, V.ref A, V.ref B, V.bl true], NoTx K H x := by
  intro x hx
  simp only [List.mem_cons, List.not_mem_nil, or_false] at hx
  rcases hx with rfl | rfl | rfl | rfl | rfl
  · exact .inr ⟨_, .base .non, kit_ty (by decide +kernel)⟩
  · exact .inr ⟨_, .base (.int _), kit_ty (by decide +kernel)⟩
  · exact .inr ⟨_, .base (.lst hA), kit_ty (by decide +kernel)⟩
  · exact .inr ⟨_, .base (.tup hB), kit_ty (by decide +kernel)⟩
  · exact .inr ⟨_, .base (.bl _), kit_ty (by decide +kernel)⟩
theorem signs_ok : ∀ x ∈ signsV, ∃ s : Str, x = .str s ∧ s.length ≤ 1 := by
  intro x hx
  simp only [List.mem_cons, List.not_mem_nil, or_false] at hx
  rcases hx with rfl | rfl | rfl | rfl | rfl | rfl | rfl | rfl | rfl | rfl | rfl | rfl <;> exact ⟨_, rfl, by rw [← len_list]; decide +kernel⟩
end Lg

namespace Lg
open PySem PySem.Spec PyProof.Rows L2
section
variable {P : Program} {w : World} {K : PySem.W.Frag} {mg : Str → Option Value} {base : Heap} {C C0 W0 fI fl f1 f2 : Addr} {fdI fdl fd1 fd2 : FuncData} {f : Nat → Addr} {fd : Nat → FuncData}
theorem ok_law (F : Fun K "law" "law" sLaw fl fdl) (T : Gx K w mg) (X : ErX K mg C0 W0 fI fdI) (Y : ErY K C0 W0) (R : Rdr K mg C f fd) (W : Wx K w mg f1 f2 fd1 fd2) (D : Lx K mg f fd) : FnOk P w K mg base CX0 220 fl fdl ["_law_script"] (spLaw K) := by
  have GT : FnOk P w K mg base CX0 1 _ _ ["_law_script"] (spTape K) := ok_tape D.tape.F (TxtD.of T)
  have GD : FnOk P w K mg base CX0 1 _ _ ["_law_tape_here", "_law_many"] spDraw := ok_draw D.draw.F (TxtD.of T)
  have GO : FnOk P w K mg base CX0 2 _ _ ["_law_tape_here", "_law_some"] spOne := ok_one T D
  have GX : FnOk P w K mg base CX0 3 _ _ ["_law_tape_here"] spText := ok_text T D
  have GB : FnOk P w K mg base CX0 1 _ _ ["_law_text_here"] spBare := ok_bare D
  have GF : FnOk P w K mg base CX0 8 f2 fd2 ["expression"] spFormat := ok_format T W
  have GR : FnOk P w K mg base CX0 219 _ _ ["_law_text_here"] (spReadL 106 K) := ok_lawRead D.read.F T X Y R 106
  refine F.ok scLaw (fun vs H Q E h => ?_) (fun cdv A outer s H vs Q E hr h => ?_)
  · obtain ⟨a, ns, rfl, _⟩ := h
    rfl
  · obtain ⟨a, ns, rfl, hSq, hlen, k⟩ := h
    have hr1 : Room 1 _ := hr.mono (by decide)
    have hr2 : Room 2 _ := hr.mono (by decide)
    have hr3 : Room 3 _ := hr.mono (by decide)
    have hr8 : Room 8 _ := hr.mono (by decide)
    refine ⟨_, (pss_cons (ps_set (i := 1) scLaw.nd rfl (Or.inl rfl) (pe_call GT hr1 (by rfl) D.tape.mg D.tape.F.kp D.tape.b .nil pass0 (pa_cons (pv 0) pa_nil)))
      (pss_cons (ps_set (i := 2) scLaw.nd rfl (Or.inl rfl) (pe_lst (pa_cons pe_str (pa_cons pe_str (pa_cons pe_str (pa_cons pe_str (pa_cons pe_str (pa_cons pe_str (pa_cons pe_str (pa_cons pe_str (pa_cons pe_str (pa_cons pe_str (pa_cons pe_str (pa_cons pe_str (pa_cons pe_str pa_nil)))))))))))))))
      (pss_cons (ps_set (i := 2) scLaw.nd rfl (Or.inl rfl) (pe_op op_cat (pv 2) (pe_lst (pa_cons pe_str (pa_cons pe_str (pa_cons pe_str (pa_cons pe_str pa_nil)))))))
      (pss_cons (ps_set (i := 2) scLaw.nd rfl (Or.inl rfl) (pe_op op_cat (pv 2) (pe_lst (pa_cons pe_str (pa_cons pe_str (pa_cons pe_str (pa_cons pe_str (pa_cons pe_str (pa_cons pe_str (pa_cons pe_str (pa_cons pe_str (pa_cons pe_str pa_nil))))))))))))
      (pss_cons (ps_set (i := 2) scLaw.nd rfl (Or.inl rfl) (pe_op op_cat (pv 2) (pe_lst (pa_cons pe_str (pa_cons pe_str (pa_cons pe_str pa_nil))))))
      (pss_cons (ps_set (i := 2) scLaw.nd rfl (Or.inl rfl) (pe_op op_cat (pv 2) (pe_lst (pa_cons pe_str (pa_cons pe_str (pa_cons pe_str (pa_cons pe_str (pa_cons pe_str (pa_cons pe_str (pa_cons pe_str (pa_cons pe_str (pa_cons pe_str pa_nil))))))))))))
      (pss_cons (ps_set (i := 2) scLaw.nd rfl (Or.inl rfl) (pe_op op_cat (pv 2) (pe_lst (pa_cons pe_str (pa_cons pe_str (pa_cons pe_str pa_nil))))))
      (pss_cons (ps_set (i := 2) scLaw.nd rfl (Or.inl rfl) (pe_op op_cat (pv 2) (pe_lst (pa_cons pe_str (pa_cons pe_str (pa_cons pe_str (pa_cons (pe_op op_add_str (pe_op op_add_str (pe_op op_mul_str pe_str pe_int) pe_str) (pe_op op_mul_str pe_str pe_int)) pa_nil)))))))
      (pss_cons (ps_set (i := 2) scLaw.nd rfl (Or.inl rfl) (pe_op op_cat (pv 2) (pe_lst (pa_cons pe_str (pa_cons pe_str (pa_cons pe_str pa_nil))))))
      (pss_cons (ps_set (i := 2) scLaw.nd rfl (Or.inl rfl) (pe_op op_cat (pv 2) (pe_lst (pa_cons (pe_op op_add_str (pe_op op_mul_str pe_str pe_int) pe_str) (pa_cons (pe_op op_mul_str pe_str pe_int) (pa_cons (pe_op op_mul_str pe_str pe_int) pa_nil))))))
      (pss_cons (ps_if (pt_cmpR (op_neD hr.units) (pe_lc (own := [("_law_text_here", 3)]) (g := gName 3) (tt := _) (by rfl) scLaw.nd (pi_list (pv 2)) (blkOk_by (own := [("_law_text_here", 3)]) (N := names) (sc := defScope sLaw) (by decide +kernel)) (fun _ _ _ _ _ => pg_name (i := 3) scLaw.nd rfl (Or.inl rfl)) (fun _ _ _ _ _ => pts_one (pt_cmpR (r := rNeD K) (by exact op_neD (by exact hr.units)) (pe_call GR hr (by rfl) D.read.mg D.read.F.kp D.read.b .nil pass0 (pa_cons (pv 3) pa_nil)) (pe_lst pa_nil) (nomark _))) (fun _ _ _ _ _ => pv 3)) (pe_lst pa_nil) (nomark _)) (pss_one (ps_ret pe_bl)) pss_nil)
      (pss_cons (ps_if (pt_cmpR (op_neD hr.units) (pe_lc (own := [("_law_odd", 8)]) (g := gName 8) (tt := _) (by rfl) scLaw.nd (pi_list (pe_lst (pa_cons pe_non (pa_cons pe_int (pa_cons (pe_lst (pa_cons pe_str pa_nil)) (pa_cons (pe_tup (pa_cons pe_str (pa_cons pe_int (pa_cons pe_int pa_nil)))) (pa_cons pe_bl pa_nil))))))) (blkOk_by (own := [("_law_odd", 8)]) (N := names) (sc := defScope sLaw) (by decide +kernel)) (fun _ _ _ _ _ => pg_name (i := 8) scLaw.nd rfl (Or.inl rfl)) (fun _ _ _ _ _ => pts_one (pt_cmpR (r := rNeD K) (by exact op_neD (by exact hr.units)) (pe_call GR hr (by rfl) D.read.mg D.read.F.kp D.read.b .nil pass0 (pa_cons (pv 8) pa_nil)) (pe_lst pa_nil) (nomark _))) (fun _ _ _ _ _ => pv 8)) (pe_lst pa_nil) (nomark _)) (pss_one (ps_ret pe_bl)) pss_nil)
      (pss_cons (ps_if (PW.pt (pw_or (pt_cmpR (op_neD hr.units) (pe_call GR hr (by rfl) D.read.mg D.read.F.kp D.read.b .nil pass0 (pa_cons (pe_op op_add_str (pe_op op_add_str (pe_op op_mul_str pe_str pe_int) pe_str) (pe_op op_mul_str pe_str pe_int)) pa_nil)) (pe_lst (pa_cons pe_str pa_nil)) (nomark _)) (pw_or1 (pt_cmpR (op_eqD hr.units) (pe_call GR hr (by rfl) D.read.mg D.read.F.kp D.read.b .nil pass0 (pa_cons pe_str pa_nil)) (pe_lst pa_nil) (nomark _))))) (pss_one (ps_ret pe_bl)) pss_nil)
      (pss_cons (ps_for PassesOwn.never rfl (pi_range1 rfl T.range (pa_cons pe_int pa_nil)) (pg_name (i := 4) scLaw.nd rfl (Or.inl rfl)) (pss_cons (ps_set (i := 3) scLaw.nd rfl (Or.inl rfl) (pe_call GX hr3 (by rfl) D.text.mg D.text.F.kp D.text.b .nil pass0 (pa_cons (pv 1) pa_nil)))
      (pss_cons (ps_if (pt_cmpR (op_eqD hr.units) (pe_call GR hr (by rfl) D.read.mg D.read.F.kp D.read.b .nil pass0 (pa_cons (pv 3) pa_nil)) (pe_lst pa_nil) (nomark _)) (pss_one (ps_ret pe_bl)) pss_nil)
      (pss_cons (ps_set (i := 5) scLaw.nd rfl (Or.inl rfl) (pe_call GD hr1 (by rfl) D.draw.mg D.draw.F.kp D.draw.b .nil pass0 (pa_cons (pv 1) (pa_cons (pe_op op_add (pe_callB call_len_str (by rfl) T.len (by decide +kernel) (pa_cons (pv 3) pa_nil)) pe_int) pa_nil))))
      (pss_cons (ps_set (i := 6) scLaw.nd rfl (Or.inl rfl) (pe_call GO hr2 (by rfl) D.one.mg D.one.F.kp D.one.b .nil pass0 (pa_cons (pv 1) (pa_cons (pe_lst (pa_cons pe_str (pa_cons pe_str (pa_cons pe_str (pa_cons pe_str (pa_cons pe_str (pa_cons pe_str (pa_cons pe_str (pa_cons pe_str (pa_cons pe_str (pa_cons pe_str (pa_cons pe_str (pa_cons pe_str pa_nil))))))))))))) pa_nil))))
      (pss_cons (ps_set (i := 3) scLaw.nd rfl (Or.inl rfl) (pe_op op_add_str (pe_op op_add_str (pe_slice sl_str (pv 3) po_none (po_some (pv 5))) (pv 6)) (pe_slice sl_str (pv 3) (po_some (pe_op op_add (pv 5) (pe_call GD hr1 (by rfl) D.draw.mg D.draw.F.kp D.draw.b .nil pass0 (pa_cons (pv 1) (pa_cons pe_int pa_nil))))) po_none)))
      (pss_one (ps_for PassesOwn.never rfl (pi_list (pe_call GR hr (by rfl) D.read.mg D.read.F.kp D.read.b .nil pass0 (pa_cons (pv 3) pa_nil))) (pg_name (i := 7) scLaw.nd rfl (Or.inl rfl)) (pss_one (ps_if (PW.pt (pw_or (pt_cmpR op_ne (pe_call GB hr1 (by rfl) D.bare.mg D.bare.F.kp D.bare.b .nil pass0 (pa_cons (pe_call GF hr8 (by rfl) W.format.mg W.format.F.kp W.format.b .nil pass0 (pa_cons (pv 7) pa_nil)) pa_nil)) (pe_call GB hr1 (by rfl) D.bare.mg D.bare.F.kp D.bare.b .nil pass0 (pa_cons (pv 3) pa_nil)) (nomark _)) (pw_or1 (pt_cmpR (op_neD hr.units) (pe_call GR hr (by rfl) D.read.mg D.read.F.kp D.read.b .nil pass0 (pa_cons (pe_call GF hr8 (by rfl) W.format.mg W.format.F.kp W.format.b .nil pass0 (pa_cons (pv 7) pa_nil)) pa_nil)) (pe_lst (pa_cons (pv 7) pa_nil)) (nomark _))))) (pss_one (ps_ret pe_bl)) pss_nil))))))))))
      (pss_one (ps_ret pe_bl)))))))))))))))), ?_⟩
    refine ⟨_, rfl, a, ns, rfl, hSq, hlen, fun H0 t s0 tk0 nt => ?_⟩
    refine ⟨small_list rfl, fun W1 hW1 => ?_⟩
    have hL1 : upd H0 W1 (.lst w1) W1 = some (.lst w1) := upd_same
    have tk1 : TapeOk (upd H0 W1 (.lst w1)) t := tk0.same (same_upd hW1)
    generalize upd H0 W1 _ = H1 at hL1 tk1 ⊢
    refine ⟨_, rfl, small_list rfl, fun p2 hp2 => ⟨W1, p2, _, _, rfl, rfl, (by rw [upd_ne (ne_of_none hL1 hp2)]; exact hL1), upd_same, cat_small rfl, fun W2 hW2 => ?_⟩⟩
    have hL2 : upd (upd H1 p2 (.lst w2)) W2 (.lst ((w1) ++ w2)) W2 = some (.lst ((w1) ++ w2)) := upd_same
    have tk2 : TapeOk (upd (upd H1 p2 (.lst w2)) W2 (.lst ((w1) ++ w2))) t := (tk1.same (same_upd hp2)).same (same_upd hW2)
    generalize upd (upd H1 p2 _) W2 _ = H2 at hL2 tk2 ⊢
    refine ⟨_, rfl, small_list rfl, fun p3 hp3 => ⟨W2, p3, _, _, rfl, rfl, (by rw [upd_ne (ne_of_none hL2 hp3)]; exact hL2), upd_same, cat_small rfl, fun W3 hW3 => ?_⟩⟩
    have hL3 : upd (upd H2 p3 (.lst w3)) W3 (.lst (((w1) ++ w2) ++ w3)) W3 = some (.lst (((w1) ++ w2) ++ w3)) := upd_same
    have tk3 : TapeOk (upd (upd H2 p3 (.lst w3)) W3 (.lst (((w1) ++ w2) ++ w3))) t := (tk2.same (same_upd hp3)).same (same_upd hW3)
    generalize upd (upd H2 p3 _) W3 _ = H3 at hL3 tk3 ⊢
    refine ⟨_, rfl, small_list rfl, fun p4 hp4 => ⟨W3, p4, _, _, rfl, rfl, (by rw [upd_ne (ne_of_none hL3 hp4)]; exact hL3), upd_same, cat_small rfl, fun W4 hW4 => ?_⟩⟩
    have hL4 : upd (upd H3 p4 (.lst w4)) W4 (.lst ((((w1) ++ w2) ++ w3) ++ w4)) W4 = some (.lst ((((w1) ++ w2) ++ w3) ++ w4)) := upd_same
    have tk4 : TapeOk (upd (upd H3 p4 (.lst w4)) W4 (.lst ((((w1) ++ w2) ++ w3) ++ w4))) t := (tk3.same (same_upd hp4)).same (same_upd hW4)
    generalize upd (upd H3 p4 _) W4 _ = H4 at hL4 tk4 ⊢
    refine ⟨_, rfl, small_list rfl, fun p5 hp5 => ⟨W4, p5, _, _, rfl, rfl, (by rw [upd_ne (ne_of_none hL4 hp5)]; exact hL4), upd_same, cat_small rfl, fun W5 hW5 => ?_⟩⟩
    have hL5 : upd (upd H4 p5 (.lst w5)) W5 (.lst (((((w1) ++ w2) ++ w3) ++ w4) ++ w5)) W5 = some (.lst (((((w1) ++ w2) ++ w3) ++ w4) ++ w5)) := upd_same
    have tk5 : TapeOk (upd (upd H4 p5 (.lst w5)) W5 (.lst (((((w1) ++ w2) ++ w3) ++ w4) ++ w5))) t := (tk4.same (same_upd hp5)).same (same_upd hW5)
    generalize upd (upd H4 p5 _) W5 _ = H5 at hL5 tk5 ⊢
    refine ⟨_, rfl, small_list rfl, fun p6 hp6 => ⟨W5, p6, _, _, rfl, rfl, (by rw [upd_ne (ne_of_none hL5 hp6)]; exact hL5), upd_same, cat_small rfl, fun W6 hW6 => ?_⟩⟩
    have hL6 : upd (upd H5 p6 (.lst w6)) W6 (.lst ((((((w1) ++ w2) ++ w3) ++ w4) ++ w5) ++ w6)) W6 = some (.lst ((((((w1) ++ w2) ++ w3) ++ w4) ++ w5) ++ w6)) := upd_same
    have tk6 : TapeOk (upd (upd H5 p6 (.lst w6)) W6 (.lst ((((((w1) ++ w2) ++ w3) ++ w4) ++ w5) ++ w6))) t := (tk5.same (same_upd hp6)).same (same_upd hW6)
    generalize upd (upd H5 p6 _) W6 _ = H6 at hL6 tk6 ⊢
    refine ⟨_, rfl, _, _, rfl, rfl, mok (n := 21) (by decide) (by decide) (by decide +kernel), _, _, rfl, rfl, szA 21 (by decide) (by decide), _, _, rfl, rfl, mok (n := 21) (by decide) (by decide) (by decide +kernel), _, _, rfl, rfl, szB 21 (by decide) (by decide), small_list rfl, fun p7 hp7 => ⟨W6, p7, _, _, rfl, rfl, (by rw [upd_ne (ne_of_none hL6 hp7)]; exact hL6), upd_same, cat_small rfl, fun W7 hW7 => ?_⟩⟩
    have hL7 : upd (upd H6 p7 (.lst w7)) W7 (.lst (((((((w1) ++ w2) ++ w3) ++ w4) ++ w5) ++ w6) ++ w7)) W7 = some (.lst (((((((w1) ++ w2) ++ w3) ++ w4) ++ w5) ++ w6) ++ w7)) := upd_same
    have tk7 : TapeOk (upd (upd H6 p7 (.lst w7)) W7 (.lst (((((((w1) ++ w2) ++ w3) ++ w4) ++ w5) ++ w6) ++ w7))) t := (tk6.same (same_upd hp7)).same (same_upd hW7)
    generalize upd (upd H6 p7 _) W7 _ = H7 at hL7 tk7 ⊢
    refine ⟨_, rfl, small_list rfl, fun p8 hp8 => ⟨W7, p8, _, _, rfl, rfl, (by rw [upd_ne (ne_of_none hL7 hp8)]; exact hL7), upd_same, cat_small rfl, fun W8 hW8 => ?_⟩⟩
    have hL8 : upd (upd H7 p8 (.lst w8)) W8 (.lst ((((((((w1) ++ w2) ++ w3) ++ w4) ++ w5) ++ w6) ++ w7) ++ w8)) W8 = some (.lst ((((((((w1) ++ w2) ++ w3) ++ w4) ++ w5) ++ w6) ++ w7) ++ w8)) := upd_same
    have tk8 : TapeOk (upd (upd H7 p8 (.lst w8)) W8 (.lst ((((((((w1) ++ w2) ++ w3) ++ w4) ++ w5) ++ w6) ++ w7) ++ w8))) t := (tk7.same (same_upd hp8)).same (same_upd hW8)
    generalize upd (upd H7 p8 _) W8 _ = H8 at hL8 tk8 ⊢
    refine ⟨_, rfl, _, _, rfl, rfl, mok (n := 4000) (by decide) (by decide) (by decide +kernel), _, _, rfl, rfl, szC, _, _, rfl, rfl, mok (n := 9000) (by decide) (by decide) (by decide +kernel), _, _, rfl, rfl, mok (n := 9000) (by decide) (by decide) (by decide +kernel), small_list rfl, fun p9 hp9 => ⟨W8, p9, _, _, rfl, rfl, (by rw [upd_ne (ne_of_none hL8 hp9)]; exact hL8), upd_same, cat_small rfl, fun W9 hW9 => ?_⟩⟩
    have hL9 : upd (upd H8 p9 (.lst w9)) W9 (.lst (((((((((w1) ++ w2) ++ w3) ++ w4) ++ w5) ++ w6) ++ w7) ++ w8) ++ w9)) W9 = some (.lst (((((((((w1) ++ w2) ++ w3) ++ w4) ++ w5) ++ w6) ++ w7) ++ w8) ++ w9)) := upd_same
    have tk9 : TapeOk (upd (upd H8 p9 (.lst w9)) W9 (.lst (((((((((w1) ++ w2) ++ w3) ++ w4) ++ w5) ++ w6) ++ w7) ++ w8) ++ w9))) t := (tk8.same (same_upd hp9)).same (same_upd hW9)
    generalize upd (upd H8 p9 _) W9 _ = H9 at hL9 tk9 ⊢
    have hbig : ∀ (H : Hp) (x : V), x ∈ ((((((((w1) ++ w2) ++ w3) ++ w4) ++ w5) ++ w6) ++ w7) ++ w8) ++ w9 → NoTx K H x := fun H x hx => by
      simp only [List.mem_append] at hx
      rcases hx with (((((((hx | hx) | hx) | hx) | hx) | hx) | hx) | hx) | hx
      · exact all1 K H x hx
      · exact all2 K H x hx
      · exact all3 K H x hx
      · exact all4 K H x hx
      · exact all5 K H x hx
      · exact all6 K H x hx
      · exact all7 K H x hx
      · exact all8 K H x hx
      · exact all9 K H x hx
    generalize ((((((((w1) ++ w2) ++ w3) ++ w4) ++ w5) ++ w6) ++ w7) ++ w8) ++ w9 = big at hL9 hbig ⊢
    -- none of them is told
    refine ⟨_, rfl, W9, rfl, ⟨_, SqL.of hL9⟩, fun D0 hD => lc_list (xs := big) (fun i H' => Same H9 H' ∧ H' D0 = some (.lst [])) ⟨same_upd hD, upd_same⟩ (fun i H' _ q => SqL.of (q.1 _ _ hL9)) ?_ ?_⟩
    · rintro i x H' hx ⟨q1, q2⟩
      refine ⟨rfl, ?_⟩
      refine ⟨_, rfl, x, rfl, .inr ⟨hbig H' x (List.mem_of_getElem? hx), fun H'' l sm hn hl => ?_⟩⟩
      refine ⟨Nat.zero_le _, fun N hN => ?_⟩
      refine ⟨.list [], .list [], .lst (SqL.of (by rw [upd_ne (ne_of_none hl hN)]; exact hl)) .nil, .lst (SqL.of upd_same) .nil, shaped_nil, shaped_nil, _, rfl, ?_⟩
      rw [eqv_nil_nil]
      refine iteF ?_
      exact ⟨(q1.trans sm).trans (same_upd hN), by rw [upd_ne (ne_of_none (sm _ _ q2) hN)]; exact sm _ _ q2⟩
    · rintro H10 ⟨q1, q2⟩
      refine ⟨Nat.zero_le _, fun N hN => ?_⟩
      refine ⟨.list [], .list [], .lst (SqL.of (by rw [upd_ne (ne_of_none q2 hN)]; exact q2)) .nil, .lst (SqL.of upd_same) .nil, shaped_nil, shaped_nil, _, rfl, ?_⟩
      rw [eqv_nil_nil]
      refine iteF ?_
      have tk10 : TapeOk (upd H10 N (.lst [])) t := (tk9.same q1).same (same_upd hN)
      generalize upd H10 N _ = H11 at tk10 ⊢
      clear q1 q2 hD hL9 hbig
      -- the odd values
      refine ⟨small_list rfl, fun A1 hA => ⟨three_size _ _ _, fun B1 hB => ⟨small_list rfl, fun O1 hO => ⟨O1, rfl, ⟨_, SqL.of upd_same⟩, fun D2 hD2 => ?_⟩⟩⟩⟩
      have nAB : A1 ≠ B1 := ne_of_none upd_same hB
      have hB2 := upd_same (H := upd H11 A1 (.lst [V.str (Str.ofString "a")])) (a := B1) (o := HO.tup [V.str (Str.ofString "plus"), V.int 1, V.int 2])
      have hA2 : upd (upd H11 A1 (.lst [V.str (Str.ofString "a")])) B1 (.tup [V.str (Str.ofString "plus"), V.int 1, V.int 2]) A1 = some (.lst [V.str (Str.ofString "a")]) := by rw [upd_ne nAB]; exact upd_same
      have tk12 := ((tk10.same (same_upd hA)).same (same_upd hB)).same (same_upd (o := HO.lst [V.non, V.int 5, V.ref A1, V.ref B1, V.bl true]) hO)
      have hA3 := same_upd (o := HO.lst [V.non, V.int 5, V.ref A1, V.ref B1, V.bl true]) hO _ _ hA2
      have hB3 := same_upd (o := HO.lst [V.non, V.int 5, V.ref A1, V.ref B1, V.bl true]) hO _ _ hB2
      have hO3 := upd_same (H := upd (upd H11 A1 (.lst [V.str (Str.ofString "a")])) B1 (.tup [V.str (Str.ofString "plus"), V.int 1, V.int 2])) (a := O1) (o := HO.lst [V.non, V.int 5, V.ref A1, V.ref B1, V.bl true])
      generalize upd (upd (upd H11 A1 _) B1 _) O1 _ = H12 at hD2 tk12 hA3 hB3 hO3 ⊢
      refine lc_list (xs := [V.non, V.int 5, V.ref A1, V.ref B1, V.bl true]) (fun i H' => Same H12 H' ∧ H' D2 = some (.lst [])) ⟨same_upd hD2, upd_same⟩ (fun i H' _ q => SqL.of (q.1 _ _ hO3)) ?_ ?_
      · rintro i x H' hx ⟨q1, q2⟩
        refine ⟨rfl, ?_⟩
        refine ⟨_, rfl, x, rfl, .inr ⟨odd_no (q1 _ _ hA3) (q1 _ _ hB3) x (List.mem_of_getElem? hx), fun H'' l sm hn hl => ?_⟩⟩
        refine ⟨Nat.zero_le _, fun N hN => ?_⟩
        refine ⟨.list [], .list [], .lst (SqL.of (by rw [upd_ne (ne_of_none hl hN)]; exact hl)) .nil, .lst (SqL.of upd_same) .nil, shaped_nil, shaped_nil, _, rfl, ?_⟩
        rw [eqv_nil_nil]
        refine iteF ?_
        exact ⟨(q1.trans sm).trans (same_upd hN), by rw [upd_ne (ne_of_none (sm _ _ q2) hN)]; exact sm _ _ q2⟩
      · rintro H13 ⟨q1, q2⟩
        refine ⟨Nat.zero_le _, fun N2 hN2 => ?_⟩
        refine ⟨.list [], .list [], .lst (SqL.of (by rw [upd_ne (ne_of_none q2 hN2)]; exact q2)) .nil, .lst (SqL.of upd_same) .nil, shaped_nil, shaped_nil, _, rfl, ?_⟩
        rw [eqv_nil_nil]
        refine iteF ?_
        have tk13 : TapeOk (upd H13 N2 (.lst [])) t := (tk12.same q1).same (same_upd hN2)
        generalize upd H13 N2 _ = H14 at tk13 ⊢
        clear q1 q2 hD2 hA3 hB3 hO3
        -- the fixed texts
        refine ⟨_, _, rfl, rfl, mok (n := 20) (by decide) (by decide) (by decide +kernel), _, _, rfl, rfl, szA 20 (by decide) (by decide), _, _, rfl, rfl, mok (n := 20) (by decide) (by decide) (by decide +kernel), _, _, rfl, rfl, szB 20 (by decide) (by decide), ?_⟩
        refine ⟨_, rfl, .inl ⟨_, _, _, rfl, sz20, rd20, fun H15 l15 v15 s15 n15 hl15 rep15 => ?_⟩⟩
        refine ⟨small_list rfl, fun M hM => ?_⟩
        refine ⟨.list [dat (.word [97])], .list [dat (.word [97])], .lst (SqL.of (by rw [upd_ne (ne_of_none hl15 hM)]; exact hl15)) (.cons ((rep15.same (same_upd hM)).dp) .nil), .lst (SqL.of upd_same) (.cons (by rw [dat_a]; exact .str _) .nil), shaped_one ok_a (by decide), shaped_one ok_a (by decide), _, rfl, ?_⟩
        rw [SeqAt.eqv_refl _ (SeqAt.canLay_of_shaped (shaped_one ok_a (by decide)))]
        refine iteF ?_
        obtain ⟨e6, d6, r6⟩ := right_ok right6
        obtain ⟨ok6, dep6⟩ := ok_of r6
        refine ⟨_, rfl, .inl ⟨_, e6, d6, rfl, (by rw [← len_list]; decide +kernel), r6, fun H16 l16 v16 s16 n16 hl16 rep16 => ?_⟩⟩
        refine ⟨Nat.zero_le _, fun N3 hN3 => ?_⟩
        refine ⟨.list [dat e6], .list [], .lst (SqL.of (by rw [upd_ne (ne_of_none hl16 hN3)]; exact hl16)) (.cons ((rep16.same (same_upd hN3)).dp) .nil), .lst (SqL.of upd_same) .nil, shaped_one ok6 dep6, shaped_nil, _, rfl, ?_⟩
        rw [eqv_one_nil]
        refine iteF ?_
        have tk16 : TapeOk (upd H16 N3 (.lst [])) t := (((tk13.same s15).same (same_upd hM)).same s16).same (same_upd hN3)
        generalize upd H16 N3 _ = H17 at tk16 ⊢
        -- sixteen turns
        refine ⟨16, rfl, by decide, by decide, for_range (n := 16) (fun i σ H' => ∃ v2 v3 v4 v5 v6 v7 v8 : Option V, σ = [some (.ref a), some (.ref t), v2, v3, v4, v5, v6, v7, v8] ∧ TapeOk H' t) ⟨_, _, _, _, _, _, _, rfl, tk16⟩ ?_ ?_⟩
        · rintro i σ Ha hi ⟨v2, v3, v4, v5, v6, v7, v8, rfl, tka⟩
          refine ⟨_, rfl, t, rfl, tka, fun Hb z wt pt offb tkb fl hwt hpt hzl => ?_⟩
          obtain ⟨ez, dz, rz⟩ := fl.read hpt hwt
          obtain ⟨okz, depz⟩ := ok_of rz
          have lz : (st z).length ≤ 40000 := by rw [st_len]; omega
          have lzL : (st z).length ≤ sizeLine := sl (by rw [st_list]; omega)
          refine ⟨_, rfl, _, rfl, .inl ⟨st z, ez, dz, rfl, lz, by rw [st_list]; exact rz, fun Hc lc vc sc nc hlc repc => ?_⟩⟩
          refine ⟨Nat.zero_le _, fun N4 hN4 => ?_⟩
          refine ⟨.list [dat ez], .list [], .lst (SqL.of (by rw [upd_ne (ne_of_none hlc hN4)]; exact hlc)) (.cons ((repc.same (same_upd hN4)).dp) .nil), .lst (SqL.of upd_same) .nil, shaped_one okz depz, shaped_nil, _, rfl, ?_⟩
          rw [eqv_one_nil]
          refine iteF ?_
          have tkd : TapeOk (upd Hc N4 (.lst [])) t := (tkb.same sc).same (same_upd hN4)
          generalize upd Hc N4 _ = Hd at tkd ⊢
          refine ⟨_, rfl, _, rfl, _, rfl, lzL, _, _, rfl, rfl, t, ((st z).length : Int) + 1, rfl, by omega, by rw [st_len]; omega, tkd, fun He at5 tke othe a0 a1 => ?_⟩
          refine ⟨_, rfl, small_list rfl, fun Ls hLs => ⟨t, Ls, signsV, rfl, tke.same (same_upd hLs), upd_same, ne_tape tke hLs, by simp, by simp, fun Hf xs hxs tkf othf => ?_⟩⟩
          obtain ⟨sg, rfl, hsg⟩ := signs_ok xs hxs
          refine ⟨_, rfl, _, rfl, _, rfl, st z, rfl, lzL, ?_⟩
          have c1 : (cutS (st z) none (some at5)).length ≤ 200 := Nat.le_trans (cut_len _ _ _) (by rw [st_len]; exact hzl)
          refine ⟨_, rfl, _, _, rfl, rfl, by rw [sizeLine_eq]; omega, ?_⟩
          refine ⟨_, rfl, _, rfl, _, rfl, t, 2, rfl, by decide, by decide, tkf, fun Hg d7 tkg othg e0 e1 => ?_⟩
          have c2 : (cutS (st z) (some (at5 + d7)) none).length ≤ 200 := Nat.le_trans (cut_len _ _ _) (by rw [st_len]; exact hzl)
          have c3 : (cutS (st z) none (some at5) ++ sg).length = (cutS (st z) none (some at5)).length + sg.length := strLen_append _ _
          refine ⟨_, _, rfl, rfl, _, rfl, st z, rfl, lzL, _, _, rfl, rfl, by rw [sizeLine_eq]; omega, ?_⟩
          have c4 : (cutS (st z) none (some at5) ++ sg ++ cutS (st z) (some (at5 + d7)) none).length ≤ 1000 := by
            rw [strLen_append, c3]
            omega
          generalize cutS (st z) none (some at5) ++ sg ++ cutS (st z) (some (at5 + d7)) none = y at c4 ⊢
          have ly : y.length ≤ 40000 := by omega
          have dec : (∃ e d, Rd 106 0 (.ops 1) y.cps.toList e d []) ∨ NoTx K Hg (.str y) := by
            rcases read_or_bad y.cps.toList with ⟨e, d, l', r⟩ | b
            · by_cases hl' : l' = []
              · subst hl'
                exact .inl ⟨e, d, r⟩
              · exact .inr (.inl ⟨y, rfl, ly, .inr ⟨e, d, l', r, hl'⟩⟩)
            · exact .inr (.inl ⟨y, rfl, ly, .inl b⟩)
          rcases dec with ⟨e, d, r⟩ | bad
          · obtain ⟨ok, dep⟩ := ok_of r
            refine ⟨_, rfl, _, rfl, .inl ⟨y, e, d, rfl, ly, r, fun Hh lh vh sh nh hlh reph => ?_⟩⟩
            refine ⟨lh, rfl, ⟨_, SqL.of hlh⟩, for_list (K := K) (xs := [vh]) (fun i σ H' => ∃ v2 v4 v5 v6 v7 v8 : Option V, σ = [some (.ref a), some (.ref t), v2, some (.str y), v4, v5, v6, v7, v8] ∧ TapeOk H' t ∧ Same Hh H') ⟨_, _, _, _, _, _, rfl, tkg.same sh, fun _ _ q => q⟩ (fun i σ H' _ q => ?_) ?_ ?_⟩
            · obtain ⟨_, _, _, _, _, _, _, _, q⟩ := q
              exact SqL.of (q _ _ hlh)
            · rintro i x σ Hi hx ⟨u2, u4, u5, u6, u7, u8, rfl, tki, smi⟩
              have ex : x = vh := by
                have := List.mem_of_getElem? hx
                simpa using this
              subst ex
              have repi := reph.same smi
              have lf := shw_small (shw_fmt e) ok dep
              have lfs : (st (fmt e)).length ≤ 40000 := by rw [st_len]; omega
              refine ⟨_, rfl, x, e, rfl, repi, ok, dep, _, rfl, lfs, fun Hj smj => ?_⟩
              refine ⟨_, rfl, y, rfl, ly, fun Hk smk => ?_⟩
              refine ⟨rfl, _, rfl, ?_⟩
              refine iteNS (by rw [st_list, bare_of r]) ?_
              have repk := (repi.same smj).same smk
              refine ⟨_, rfl, x, e, rfl, repk, ok, dep, _, rfl, .inl ⟨st (fmt e), e, e.dep, rfl, lfs, rd_fmt (st_list _) ok dep, fun Hl ll vl sml nl hll repl => ?_⟩⟩
              refine ⟨_, rfl, small_list rfl, fun M2 hM2 => ?_⟩
              refine ⟨.list [dat e], .list [dat e], .lst (SqL.of (by rw [upd_ne (ne_of_none hll hM2)]; exact hll)) (.cons ((repl.same (same_upd hM2)).dp) .nil), .lst (SqL.of upd_same) (.cons (((repk.same sml).same (same_upd hM2)).dp) .nil), shaped_one ok dep, shaped_one ok dep, _, rfl, ?_⟩
              rw [SeqAt.eqv_refl _ (SeqAt.canLay_of_shaped (shaped_one ok dep))]
              refine iteF ?_
              exact ⟨_, _, _, _, _, _, rfl, (((tki.same smj).same smk).same sml).same (same_upd hM2), (((smi.trans smj).trans smk).trans sml).trans (same_upd hM2)⟩
            · rintro σ Hi ⟨u2, u4, u5, u6, u7, u8, rfl, tki, _⟩
              exact ⟨_, _, _, _, _, _, _, rfl, tki⟩
          · refine ⟨_, rfl, _, rfl, .inr ⟨bad, fun Hh lh sh nh hlh => ?_⟩⟩
            refine ⟨lh, rfl, ⟨_, SqL.of hlh⟩, for_list (K := K) (xs := []) (fun i σ H' => ∃ v2 v4 v5 v6 v7 v8 : Option V, σ = [some (.ref a), some (.ref t), v2, some (.str y), v4, v5, v6, v7, v8] ∧ TapeOk H' t ∧ Same Hh H') ⟨_, _, _, _, _, _, rfl, tkg.same sh, fun _ _ q => q⟩ (fun i σ H' _ q => ?_) ?_ ?_⟩
            · obtain ⟨_, _, _, _, _, _, _, _, q⟩ := q
              exact SqL.of (q _ _ hlh)
            · rintro i x σ Hi hx _
              simp at hx
            · rintro σ Hi ⟨u2, u4, u5, u6, u7, u8, rfl, tki, _⟩
              exact ⟨_, _, _, _, _, _, _, rfl, tki⟩
        · rintro σ Ha ⟨v2, v3, v4, v5, v6, v7, v8, rfl, tka⟩
          exact k _
end
end Lg

namespace Lg
open PySem PySem.Spec PyProof.Rows L2
theorem key_str : ∀ o : Op, o.key = (match o with | .plus => " + " | .minus => " - " | .times => " * " | .less => " < " | .same => " == " : Str)
  | .plus => strExt (by decide +kernel)
  | .minus => strExt (by decide +kernel)
  | .times => strExt (by decide +kernel)
  | .less => strExt (by decide +kernel)
  | .same => strExt (by decide +kernel)
theorem all_mk {l : PySem.W.OpenLaw} {w : World} {K : PySem.W.Frag} {h : Heap} {mg : Str → Option Value} {fa : Addr} (X : K.In h) (G : h.Ns mainGlobals mg) (hfa : mg "law" = some (.ref fa))
    {f7 f8 f9 f10 f11 f12 f13 f14 f20 f21 f22 f23 f24 f25 f26 f0 f1 f2 f3 f4 f5 f6 f30 C C0 W0 dO dS dG qa : Addr} {od7 an7 od8 an8 od9 an9 od10 an10 od11 an11 od12 an12 od13 an13 od14 an14 od20 an20 od21 an21 od22 an22 od23 an23 od24 an24 od25 an25 od26 an26 od0 an0 od1 an1 od2 an2 od3 an3 od4 an4 od5 an5 od6 an6 od30 an30 odq : Option Addr} {sl7 sl8 sl9 sl10 sl11 sl12 sl13 sl14 sl20 sl21 sl22 sl23 sl24 sl25 sl26 sl0 sl1 sl2 sl3 sl4 sl5 sl6 sl30 slq : Array (Option Value)} {oc7 kV7 dc7 pm7 cd7 ct7 oc8 kV8 dc8 pm8 cd8 ct8 oc9 kV9 dc9 pm9 cd9 ct9 oc10 kV10 dc10 pm10 cd10 ct10 oc11 kV11 dc11 pm11 cd11 ct11 oc12 kV12 dc12 pm12 cd12 ct12 oc13 kV13 dc13 pm13 cd13 ct13 oc14 kV14 dc14 pm14 cd14 ct14 oc20 kV20 dc20 pm20 cd20 ct20 oc21 kV21 dc21 pm21 cd21 ct21 oc22 kV22 dc22 pm22 cd22 ct22 oc23 kV23 dc23 pm23 cd23 ct23 oc24 kV24 dc24 pm24 cd24 ct24 oc25 kV25 dc25 pm25 cd25 ct25 oc26 kV26 dc26 pm26 cd26 ct26 oc0 kV0 dc0 pm0 cd0 ct0 oc1 kV1 dc1 pm1 cd1 ct1 oc2 kV2 dc2 pm2 cd2 ct2 oc3 kV3 dc3 pm3 cd3 ct3 oc4 kV4 dc4 pm4 cd4 ct4 oc5 kV5 dc5 pm5 cd5 ct5 oc6 kV6 dc6 pm6 cd6 ct6 oc30 kV30 dc30 pm30 cd30 ct30 : Value} {tkL tkD tkM tkE tkP tkB tkO_plus tkO_minus tkO_times tkO_less tkO_same tkS_plus tkS_minus tkS_times tkS_less tkS_same tkG_plus tkG_minus tkG_times tkG_less tkG_same tkq1 tkq2 : Tok} {esO esS esG : Array DictEntry} {epO epS epG nq : Nat} {itsq : Array Value}
    (a7 : PySem.W.nsIn K mainGlobals "is_made_of" = some (some (.ref f7)))
    (l7 : K.lookup f7 = some ⟨oc7, od7, .func (PySem.W.fnOf "is_made_of" "is_made_of" (defArgs sMade) (defBody sMade) (defScope sMade) .none kV7 dc7 pm7 an7 cd7 ct7), sl7⟩)
    (g7 : PySem.W.codeIn K cd7 "is_made_of" = true)
    (k7 : PySem.W.keepIn K (.ref f7) = true)
    (a8 : PySem.W.nsIn K mainGlobals "is_word" = some (some (.ref f8)))
    (l8 : K.lookup f8 = some ⟨oc8, od8, .func (PySem.W.fnOf "is_word" "is_word" (defArgs sIsWord) (defBody sIsWord) (defScope sIsWord) .none kV8 dc8 pm8 an8 cd8 ct8), sl8⟩)
    (g8 : PySem.W.codeIn K cd8 "is_word" = true)
    (k8 : PySem.W.keepIn K (.ref f8) = true)
    (a9 : PySem.W.nsIn K mainGlobals "read_number" = some (some (.ref f9)))
    (l9 : K.lookup f9 = some ⟨oc9, od9, .func (PySem.W.fnOf "read_number" "read_number" (defArgs sNumber) (defBody sNumber) (defScope sNumber) .none kV9 dc9 pm9 an9 cd9 ct9), sl9⟩)
    (g9 : PySem.W.codeIn K cd9 "read_number" = true)
    (k9 : PySem.W.keepIn K (.ref f9) = true)
    (a10 : PySem.W.nsIn K mainGlobals "read_word" = some (some (.ref f10)))
    (l10 : K.lookup f10 = some ⟨oc10, od10, .func (PySem.W.fnOf "read_word" "read_word" (defArgs sWord) (defBody sWord) (defScope sWord) .none kV10 dc10 pm10 an10 cd10 ct10), sl10⟩)
    (g10 : PySem.W.codeIn K cd10 "read_word" = true)
    (k10 : PySem.W.keepIn K (.ref f10) = true)
    (a11 : PySem.W.nsIn K mainGlobals "read_expression" = some (some (.ref f11)))
    (l11 : K.lookup f11 = some ⟨oc11, od11, .func (PySem.W.fnOf "read_expression" "read_expression" (defArgs sExpr) (defBody sExpr) (defScope sExpr) .none kV11 dc11 pm11 an11 cd11 ct11), sl11⟩)
    (g11 : PySem.W.codeIn K cd11 "read_expression" = true)
    (k11 : PySem.W.keepIn K (.ref f11) = true)
    (a12 : PySem.W.nsIn K mainGlobals "parse_expression" = some (some (.ref f12)))
    (l12 : K.lookup f12 = some ⟨oc12, od12, .func (PySem.W.fnOf "parse_expression" "parse_expression" (defArgs sParse) (defBody sParse) (defScope sParse) .none kV12 dc12 pm12 an12 cd12 ct12), sl12⟩)
    (g12 : PySem.W.codeIn K cd12 "parse_expression" = true)
    (k12 : PySem.W.keepIn K (.ref f12) = true)
    (a13 : PySem.W.nsIn K mainGlobals "_written" = some (some (.ref f13)))
    (l13 : K.lookup f13 = some ⟨oc13, od13, .func (PySem.W.fnOf "_written" "_written" (defArgs sWritten) (defBody sWritten) (defScope sWritten) .none kV13 dc13 pm13 an13 cd13 ct13), sl13⟩)
    (g13 : PySem.W.codeIn K cd13 "_written" = true)
    (k13 : PySem.W.keepIn K (.ref f13) = true)
    (a14 : PySem.W.nsIn K mainGlobals "format_expression" = some (some (.ref f14)))
    (l14 : K.lookup f14 = some ⟨oc14, od14, .func (PySem.W.fnOf "format_expression" "format_expression" (defArgs sFormat) (defBody sFormat) (defScope sFormat) .none kV14 dc14 pm14 an14 cd14 ct14), sl14⟩)
    (g14 : PySem.W.codeIn K cd14 "format_expression" = true)
    (k14 : PySem.W.keepIn K (.ref f14) = true)
    (a20 : PySem.W.nsIn K mainGlobals "_law_tape" = some (some (.ref f20)))
    (l20 : K.lookup f20 = some ⟨oc20, od20, .func (PySem.W.fnOf "_law_tape" "_law_tape" (defArgs sTape) (defBody sTape) (defScope sTape) .none kV20 dc20 pm20 an20 cd20 ct20), sl20⟩)
    (g20 : PySem.W.codeIn K cd20 "_law_tape" = true)
    (k20 : PySem.W.keepIn K (.ref f20) = true)
    (a21 : PySem.W.nsIn K mainGlobals "_law_draw" = some (some (.ref f21)))
    (l21 : K.lookup f21 = some ⟨oc21, od21, .func (PySem.W.fnOf "_law_draw" "_law_draw" (defArgs sDraw) (defBody sDraw) (defScope sDraw) .none kV21 dc21 pm21 an21 cd21 ct21), sl21⟩)
    (g21 : PySem.W.codeIn K cd21 "_law_draw" = true)
    (k21 : PySem.W.keepIn K (.ref f21) = true)
    (a22 : PySem.W.nsIn K mainGlobals "_law_one" = some (some (.ref f22)))
    (l22 : K.lookup f22 = some ⟨oc22, od22, .func (PySem.W.fnOf "_law_one" "_law_one" (defArgs sOne) (defBody sOne) (defScope sOne) .none kV22 dc22 pm22 an22 cd22 ct22), sl22⟩)
    (g22 : PySem.W.codeIn K cd22 "_law_one" = true)
    (k22 : PySem.W.keepIn K (.ref f22) = true)
    (a23 : PySem.W.nsIn K mainGlobals "_law_read" = some (some (.ref f23)))
    (l23 : K.lookup f23 = some ⟨oc23, od23, .func (PySem.W.fnOf "_law_read" "_law_read" (defArgs sRead) (defBody sRead) (defScope sRead) .none kV23 dc23 pm23 an23 cd23 ct23), sl23⟩)
    (g23 : PySem.W.codeIn K cd23 "_law_read" = true)
    (k23 : PySem.W.keepIn K (.ref f23) = true)
    (a24 : PySem.W.nsIn K mainGlobals "_law_text" = some (some (.ref f24)))
    (l24 : K.lookup f24 = some ⟨oc24, od24, .func (PySem.W.fnOf "_law_text" "_law_text" (defArgs sText) (defBody sText) (defScope sText) .none kV24 dc24 pm24 an24 cd24 ct24), sl24⟩)
    (g24 : PySem.W.codeIn K cd24 "_law_text" = true)
    (k24 : PySem.W.keepIn K (.ref f24) = true)
    (a25 : PySem.W.nsIn K mainGlobals "_law_bare" = some (some (.ref f25)))
    (l25 : K.lookup f25 = some ⟨oc25, od25, .func (PySem.W.fnOf "_law_bare" "_law_bare" (defArgs sBare) (defBody sBare) (defScope sBare) .none kV25 dc25 pm25 an25 cd25 ct25), sl25⟩)
    (g25 : PySem.W.codeIn K cd25 "_law_bare" = true)
    (k25 : PySem.W.keepIn K (.ref f25) = true)
    (a26 : PySem.W.nsIn K mainGlobals "law" = some (some (.ref f26)))
    (l26 : K.lookup f26 = some ⟨oc26, od26, .func (PySem.W.fnOf "law" "law" (defArgs sLaw) (defBody sLaw) (defScope sLaw) .none kV26 dc26 pm26 an26 cd26 ct26), sl26⟩)
    (g26 : PySem.W.codeIn K cd26 "law" = true)
    (k26 : PySem.W.keepIn K (.ref f26) = true)
    (aW : PySem.W.nsIn K mainGlobals "WorkError" = some (some (.ref W0)))
    (a30 : PySem.W.nsIn K mainGlobals "InvalidText" = some (some (.ref C0)))
    (i30 : PySem.W.findIn K (.ref C0) "__init__" = some (some (.ref f30)))
    (l30 : K.lookup f30 = some ⟨oc30, od30, .func (PySem.W.fnOf "__init__" "InvalidText.__init__" (defArgs sTextInit) (defBody sTextInit) (defScope sTextInit) .none kV30 dc30 pm30 an30 cd30 ct30), sl30⟩)
    (g30 : PySem.W.codeIn K cd30 "InvalidText.__init__" = true)
    (k30 : PySem.W.keepIn K (.ref f30) = true)
    (t30 : PySem.W.typeIn K (.ref f30) = some (.type "function"))
    (ht30 : PySem.W.takerIn K C0 "line" = some none)
    (hn30 : PySem.W.findIn K (.ref C0) "line" = some none)
    (isn30 : PySem.W.excInitIn K C0 veT "ValueError.__new__" = true)
    (ovr30 : PySem.W.excOver K C0 veT = true)
    (sa30 : PySem.W.findIn K (.ref C0) "__setattr__" = some (some (.builtin "object.__setattr__")))
    (hd30 : PySem.W.hasDictIn K C0 = true)
    (kc30 : PySem.W.keepIn K (.ref C0) = true)
    (ga30 : PySem.W.findIn K (.ref C0) "__getattribute__" = some (some (.builtin "BaseException.__getattribute__")))
    (gg30 : PySem.W.findIn K (.ref C0) "__getattr__" = some none)
    (ex30 : PySem.W.subIn K (.ref C0) (.type "BaseException") = some true)
    (ca30 : PySem.W.findIn K (.ref C0) "__class__" = some (some (.builtin "object.__class__")))
    (mo30 : PySem.W.mroIn K C0 (.type "object") = some true)
    (ty30 : PySem.W.typeIn K (.ref C0) = some (.type "type"))
    (te30 : PySem.W.exmOne K (.ref C0) (.ref C0) = some true)
    (kw30 : PySem.W.kitOne K (.ref C0) (.ref W0) = some true)
    (cn : PySem.W.specialIn K (.builtin "object.__class__") "__get__" = some (some (.builtin "getset_descriptor.__get__")))
    (ct : PySem.W.takesIn K (.builtin "object.__class__") = some true)
    (wsp : PySem.W.specialIn K (.ref W0) "__getattribute__" = some (some (.builtin "type.__getattribute__")))
    (wrd : PySem.W.readsIn K W0 (.type "type") = true)
    (wfc : PySem.W.findCls K (.ref W0) (.type "type") "__init__" = some (.val (.builtin "ValueError.__init__")))
    (aC : PySem.W.nsIn K mainGlobals "Reader" = some (some (.ref C)))
    (am0 : PySem.W.findIn K (.ref C) "__init__" = some (some (.ref f0)))
    (lm0 : K.lookup f0 = some ⟨oc0, od0, .func (PySem.W.fnOf "__init__" "Reader.__init__" (defArgs sInit) (defBody sInit) (defScope sInit) .none kV0 dc0 pm0 an0 cd0 ct0), sl0⟩)
    (gm0 : PySem.W.codeIn K cd0 "Reader.__init__" = true)
    (km0 : PySem.W.keepIn K (.ref f0) = true)
    (nm0 : PySem.W.isFn K (.ref f0) = true)
    (am1 : PySem.W.findIn K (.ref C) "operations" = some (some (.ref f1)))
    (lm1 : K.lookup f1 = some ⟨oc1, od1, .func (PySem.W.fnOf "operations" "Reader.operations" (defArgs sOps) (defBody sOps) (defScope sOps) .none kV1 dc1 pm1 an1 cd1 ct1), sl1⟩)
    (gm1 : PySem.W.codeIn K cd1 "Reader.operations" = true)
    (km1 : PySem.W.keepIn K (.ref f1) = true)
    (nm1 : PySem.W.isFn K (.ref f1) = true)
    (am2 : PySem.W.findIn K (.ref C) "sign_here" = some (some (.ref f2)))
    (lm2 : K.lookup f2 = some ⟨oc2, od2, .func (PySem.W.fnOf "sign_here" "Reader.sign_here" (defArgs sSign) (defBody sSign) (defScope sSign) .none kV2 dc2 pm2 an2 cd2 ct2), sl2⟩)
    (gm2 : PySem.W.codeIn K cd2 "Reader.sign_here" = true)
    (km2 : PySem.W.keepIn K (.ref f2) = true)
    (nm2 : PySem.W.isFn K (.ref f2) = true)
    (am3 : PySem.W.findIn K (.ref C) "operand" = some (some (.ref f3)))
    (lm3 : K.lookup f3 = some ⟨oc3, od3, .func (PySem.W.fnOf "operand" "Reader.operand" (defArgs sOpd) (defBody sOpd) (defScope sOpd) .none kV3 dc3 pm3 an3 cd3 ct3), sl3⟩)
    (gm3 : PySem.W.codeIn K cd3 "Reader.operand" = true)
    (km3 : PySem.W.keepIn K (.ref f3) = true)
    (nm3 : PySem.W.isFn K (.ref f3) = true)
    (am4 : PySem.W.findIn K (.ref C) "parentheses" = some (some (.ref f4)))
    (lm4 : K.lookup f4 = some ⟨oc4, od4, .func (PySem.W.fnOf "parentheses" "Reader.parentheses" (defArgs sPar) (defBody sPar) (defScope sPar) .none kV4 dc4 pm4 an4 cd4 ct4), sl4⟩)
    (gm4 : PySem.W.codeIn K cd4 "Reader.parentheses" = true)
    (km4 : PySem.W.keepIn K (.ref f4) = true)
    (nm4 : PySem.W.isFn K (.ref f4) = true)
    (am5 : PySem.W.findIn K (.ref C) "taken" = some (some (.ref f5)))
    (lm5 : K.lookup f5 = some ⟨oc5, od5, .func (PySem.W.fnOf "taken" "Reader.taken" (defArgs sTaken) (defBody sTaken) (defScope sTaken) .none kV5 dc5 pm5 an5 cd5 ct5), sl5⟩)
    (gm5 : PySem.W.codeIn K cd5 "Reader.taken" = true)
    (km5 : PySem.W.keepIn K (.ref f5) = true)
    (nm5 : PySem.W.isFn K (.ref f5) = true)
    (am6 : PySem.W.findIn K (.ref C) "is_before_word" = some (some (.ref f6)))
    (lm6 : K.lookup f6 = some ⟨oc6, od6, .func (PySem.W.fnOf "is_before_word" "Reader.is_before_word" (defArgs sBefore) (defBody sBefore) (defScope sBefore) .none kV6 dc6 pm6 an6 cd6 ct6), sl6⟩)
    (gm6 : PySem.W.codeIn K cd6 "Reader.is_before_word" = true)
    (km6 : PySem.W.keepIn K (.ref f6) = true)
    (nm6 : PySem.W.isFn K (.ref f6) = true)
    (pg : PySem.W.plainGet K C Str.empty = true)
    (hd : PySem.W.hasDictIn K C = true)
    (po : PySem.W.plainOver K C = true)
    (sa : PySem.W.findIn K (.ref C) "__setattr__" = some (some (.builtin "object.__setattr__")))
    (kc : PySem.W.keepIn K (.ref C) = true)
    (mkc : PySem.W.makesIn K C = true)
    (nT : PySem.W.findIn K (.ref C) "text" = some none)
    (nA : PySem.W.findIn K (.ref C) "at" = some none)
    (nR : PySem.W.findIn K (.ref C) "around" = some none)
    (z_all : PySem.W.nsIn K mainGlobals "all" = some none)
    (z_len : PySem.W.nsIn K mainGlobals "len" = some none)
    (z_int : PySem.W.nsIn K mainGlobals "int" = some none)
    (z_isinstance : PySem.W.nsIn K mainGlobals "isinstance" = some none)
    (z_str : PySem.W.nsIn K mainGlobals "str" = some none)
    (z_max : PySem.W.nsIn K mainGlobals "max" = some none)
    (z_tuple : PySem.W.nsIn K mainGlobals "tuple" = some none)
    (z_list : PySem.W.nsIn K mainGlobals "list" = some none)
    (z_range : PySem.W.nsIn K mainGlobals "range" = some none)
    (z_repr : PySem.W.nsIn K mainGlobals "repr" = some none)
    (cL : PySem.W.nsIn K mainGlobals "LETTERS" = some (some (.str sLetters tkL)))
    (cD : PySem.W.nsIn K mainGlobals "DIGITS" = some (some (.str sDigits tkD)))
    (cM : PySem.W.nsIn K mainGlobals "MODULUS" = some (some (.int 1000000007 tkM)))
    (cE : PySem.W.nsIn K mainGlobals "DEEPEST" = some (some (.int 6 tkE)))
    (cP : PySem.W.nsIn K mainGlobals "MOST_PARENTHESES" = some (some (.int 20 tkP)))
    (cB : PySem.W.nsIn K mainGlobals "MOST_DIGITS" = some (some (.int 10 tkB)))
    (dOa : PySem.W.nsIn K mainGlobals "OPERATIONS_OF_SIGNS" = some (some (.ref dO)))
    (dOl : K.lookup dO = some ⟨.type "dict", none, .dict esO epO, #[]⟩)
    (dOk : PySem.W.KeysLit w.params esO.toList)
    (dO_plus : PySem.W.nsIn K dO " + " = some (some (.str "plus" tkO_plus)))
    (dO_minus : PySem.W.nsIn K dO " - " = some (some (.str "minus" tkO_minus)))
    (dO_times : PySem.W.nsIn K dO " * " = some (some (.str "times" tkO_times)))
    (dO_less : PySem.W.nsIn K dO " < " = some (some (.str "less" tkO_less)))
    (dO_same : PySem.W.nsIn K dO " == " = some (some (.str "same" tkO_same)))
    (dSa : PySem.W.nsIn K mainGlobals "STRENGTHS" = some (some (.ref dS)))
    (dSl : K.lookup dS = some ⟨.type "dict", none, .dict esS epS, #[]⟩)
    (dSk : PySem.W.KeysLit w.params esS.toList)
    (dS_plus : PySem.W.nsIn K dS "plus" = some (some (.int 2 tkS_plus)))
    (dS_minus : PySem.W.nsIn K dS "minus" = some (some (.int 2 tkS_minus)))
    (dS_times : PySem.W.nsIn K dS "times" = some (some (.int 3 tkS_times)))
    (dS_less : PySem.W.nsIn K dS "less" = some (some (.int 1 tkS_less)))
    (dS_same : PySem.W.nsIn K dS "same" = some (some (.int 1 tkS_same)))
    (dGa : PySem.W.nsIn K mainGlobals "SIGNS" = some (some (.ref dG)))
    (dGl : K.lookup dG = some ⟨.type "dict", none, .dict esG epG, #[]⟩)
    (dGk : PySem.W.KeysLit w.params esG.toList)
    (dG_plus : PySem.W.nsIn K dG "plus" = some (some (.str "+" tkG_plus)))
    (dG_minus : PySem.W.nsIn K dG "minus" = some (some (.str "-" tkG_minus)))
    (dG_times : PySem.W.nsIn K dG "times" = some (some (.str "*" tkG_times)))
    (dG_less : PySem.W.nsIn K dG "less" = some (some (.str "<" tkG_less)))
    (dG_same : PySem.W.nsIn K dG "same" = some (some (.str "==" tkG_same)))
    (dOm : esO.toList.map (fun en => match en.key with | .str x _ => some x | _ => none) = [some (" + " : Str), some (" - " : Str), some (" * " : Str), some (" < " : Str), some (" == " : Str)])
    (dOn : (dO == sysModules) = false)
    (qa1 : PySem.W.nsIn K mainGlobals "QUESTIONS" = some (some (.ref qa)))
    (ql : K.lookup qa = some ⟨.type "tuple", odq, .seq itsq nq, slq⟩)
    (qi : itsq.toList = [.str "known" tkq1, .str "reason" tkq2])
    : ∃ fd : FuncData, (∀ (s : Shared) (v : Value), BindsTo s fd ⟨[v], []⟩ [("_law_script", v)]) ∧ ∀ base : Heap, K.In base → base.Ns mainGlobals mg → FnOk l.prog w K mg base CX0 220 fa fd ["_law_script"] (spLaw K) := by
  have e := hfa.symm.trans (PySem.W.mg_of X G a26)
  cases e
  have F7 := fun_mk (st := sMade) l7 g7 k7
  have D7 : DefX K mg "is_made_of" sMade ["text", "allowed"] f7 (PySem.W.fnOf "is_made_of" "is_made_of" (defArgs sMade) (defBody sMade) (defScope sMade) .none kV7 dc7 pm7 an7 cd7 ct7) :=
    ⟨PySem.W.mg_of X G a7, F7, F7.binds fun _ _ _ _ _ _ us hl => match us, hl with | [_, _], _ => rfl⟩
  have F8 := fun_mk (st := sIsWord) l8 g8 k8
  have D8 : DefX K mg "is_word" sIsWord ["value"] f8 (PySem.W.fnOf "is_word" "is_word" (defArgs sIsWord) (defBody sIsWord) (defScope sIsWord) .none kV8 dc8 pm8 an8 cd8 ct8) :=
    ⟨PySem.W.mg_of X G a8, F8, F8.binds fun _ _ _ _ _ _ us hl => match us, hl with | [_], _ => rfl⟩
  have F9 := fun_mk (st := sNumber) l9 g9 k9
  have D9 : DefX K mg "read_number" sNumber ["text"] f9 (PySem.W.fnOf "read_number" "read_number" (defArgs sNumber) (defBody sNumber) (defScope sNumber) .none kV9 dc9 pm9 an9 cd9 ct9) :=
    ⟨PySem.W.mg_of X G a9, F9, F9.binds fun _ _ _ _ _ _ us hl => match us, hl with | [_], _ => rfl⟩
  have F10 := fun_mk (st := sWord) l10 g10 k10
  have D10 : DefX K mg "read_word" sWord ["text"] f10 (PySem.W.fnOf "read_word" "read_word" (defArgs sWord) (defBody sWord) (defScope sWord) .none kV10 dc10 pm10 an10 cd10 ct10) :=
    ⟨PySem.W.mg_of X G a10, F10, F10.binds fun _ _ _ _ _ _ us hl => match us, hl with | [_], _ => rfl⟩
  have F11 := fun_mk (st := sExpr) l11 g11 k11
  have D11 : DefX K mg "read_expression" sExpr ["text"] f11 (PySem.W.fnOf "read_expression" "read_expression" (defArgs sExpr) (defBody sExpr) (defScope sExpr) .none kV11 dc11 pm11 an11 cd11 ct11) :=
    ⟨PySem.W.mg_of X G a11, F11, F11.binds fun _ _ _ _ _ _ us hl => match us, hl with | [_], _ => rfl⟩
  have F12 := fun_mk (st := sParse) l12 g12 k12
  have D12 : DefX K mg "parse_expression" sParse ["text"] f12 (PySem.W.fnOf "parse_expression" "parse_expression" (defArgs sParse) (defBody sParse) (defScope sParse) .none kV12 dc12 pm12 an12 cd12 ct12) :=
    ⟨PySem.W.mg_of X G a12, F12, F12.binds fun _ _ _ _ _ _ us hl => match us, hl with | [_], _ => rfl⟩
  have F13 := fun_mk (st := sWritten) l13 g13 k13
  have D13 : DefX K mg "_written" sWritten ["expression", "least"] f13 (PySem.W.fnOf "_written" "_written" (defArgs sWritten) (defBody sWritten) (defScope sWritten) .none kV13 dc13 pm13 an13 cd13 ct13) :=
    ⟨PySem.W.mg_of X G a13, F13, F13.binds fun _ _ _ _ _ _ us hl => match us, hl with | [_, _], _ => rfl⟩
  have F14 := fun_mk (st := sFormat) l14 g14 k14
  have D14 : DefX K mg "format_expression" sFormat ["expression"] f14 (PySem.W.fnOf "format_expression" "format_expression" (defArgs sFormat) (defBody sFormat) (defScope sFormat) .none kV14 dc14 pm14 an14 cd14 ct14) :=
    ⟨PySem.W.mg_of X G a14, F14, F14.binds fun _ _ _ _ _ _ us hl => match us, hl with | [_], _ => rfl⟩
  have F20 := fun_mk (st := sTape) l20 g20 k20
  have D20 : DefX K mg "_law_tape" sTape ["_law_script"] f20 (PySem.W.fnOf "_law_tape" "_law_tape" (defArgs sTape) (defBody sTape) (defScope sTape) .none kV20 dc20 pm20 an20 cd20 ct20) :=
    ⟨PySem.W.mg_of X G a20, F20, F20.binds fun _ _ _ _ _ _ us hl => match us, hl with | [_], _ => rfl⟩
  have F21 := fun_mk (st := sDraw) l21 g21 k21
  have D21 : DefX K mg "_law_draw" sDraw ["_law_tape_here", "_law_many"] f21 (PySem.W.fnOf "_law_draw" "_law_draw" (defArgs sDraw) (defBody sDraw) (defScope sDraw) .none kV21 dc21 pm21 an21 cd21 ct21) :=
    ⟨PySem.W.mg_of X G a21, F21, F21.binds fun _ _ _ _ _ _ us hl => match us, hl with | [_, _], _ => rfl⟩
  have F22 := fun_mk (st := sOne) l22 g22 k22
  have D22 : DefX K mg "_law_one" sOne ["_law_tape_here", "_law_some"] f22 (PySem.W.fnOf "_law_one" "_law_one" (defArgs sOne) (defBody sOne) (defScope sOne) .none kV22 dc22 pm22 an22 cd22 ct22) :=
    ⟨PySem.W.mg_of X G a22, F22, F22.binds fun _ _ _ _ _ _ us hl => match us, hl with | [_, _], _ => rfl⟩
  have F23 := fun_mk (st := sRead) l23 g23 k23
  have D23 : DefX K mg "_law_read" sRead ["_law_text_here"] f23 (PySem.W.fnOf "_law_read" "_law_read" (defArgs sRead) (defBody sRead) (defScope sRead) .none kV23 dc23 pm23 an23 cd23 ct23) :=
    ⟨PySem.W.mg_of X G a23, F23, F23.binds fun _ _ _ _ _ _ us hl => match us, hl with | [_], _ => rfl⟩
  have F24 := fun_mk (st := sText) l24 g24 k24
  have D24 : DefX K mg "_law_text" sText ["_law_tape_here"] f24 (PySem.W.fnOf "_law_text" "_law_text" (defArgs sText) (defBody sText) (defScope sText) .none kV24 dc24 pm24 an24 cd24 ct24) :=
    ⟨PySem.W.mg_of X G a24, F24, F24.binds fun _ _ _ _ _ _ us hl => match us, hl with | [_], _ => rfl⟩
  have F25 := fun_mk (st := sBare) l25 g25 k25
  have D25 : DefX K mg "_law_bare" sBare ["_law_text_here"] f25 (PySem.W.fnOf "_law_bare" "_law_bare" (defArgs sBare) (defBody sBare) (defScope sBare) .none kV25 dc25 pm25 an25 cd25 ct25) :=
    ⟨PySem.W.mg_of X G a25, F25, F25.binds fun _ _ _ _ _ _ us hl => match us, hl with | [_], _ => rfl⟩
  have F26 := fun_mk (st := sLaw) l26 g26 k26
  have F0 := fun_mk (st := sInit) lm0 gm0 km0
  have M0 : MethX K C "__init__" "Reader.__init__" sInit ["self", "text"] f0 (PySem.W.fnOf "__init__" "Reader.__init__" (defArgs sInit) (defBody sInit) (defScope sInit) .none kV0 dc0 pm0 an0 cd0 ct0) :=
    ⟨⟨am0, nm0, km0⟩, F0, F0.binds fun _ _ _ _ _ _ us hl => match us, hl with | [_, _], _ => rfl⟩
  have F1 := fun_mk (st := sOps) lm1 gm1 km1
  have M1 : MethX K C "operations" "Reader.operations" sOps ["self", "least"] f1 (PySem.W.fnOf "operations" "Reader.operations" (defArgs sOps) (defBody sOps) (defScope sOps) .none kV1 dc1 pm1 an1 cd1 ct1) :=
    ⟨⟨am1, nm1, km1⟩, F1, F1.binds fun _ _ _ _ _ _ us hl => match us, hl with | [_, _], _ => rfl⟩
  have F2 := fun_mk (st := sSign) lm2 gm2 km2
  have M2 : MethX K C "sign_here" "Reader.sign_here" sSign ["self"] f2 (PySem.W.fnOf "sign_here" "Reader.sign_here" (defArgs sSign) (defBody sSign) (defScope sSign) .none kV2 dc2 pm2 an2 cd2 ct2) :=
    ⟨⟨am2, nm2, km2⟩, F2, F2.binds fun _ _ _ _ _ _ us hl => match us, hl with | [_], _ => rfl⟩
  have F3 := fun_mk (st := sOpd) lm3 gm3 km3
  have M3 : MethX K C "operand" "Reader.operand" sOpd ["self"] f3 (PySem.W.fnOf "operand" "Reader.operand" (defArgs sOpd) (defBody sOpd) (defScope sOpd) .none kV3 dc3 pm3 an3 cd3 ct3) :=
    ⟨⟨am3, nm3, km3⟩, F3, F3.binds fun _ _ _ _ _ _ us hl => match us, hl with | [_], _ => rfl⟩
  have F4 := fun_mk (st := sPar) lm4 gm4 km4
  have M4 : MethX K C "parentheses" "Reader.parentheses" sPar ["self"] f4 (PySem.W.fnOf "parentheses" "Reader.parentheses" (defArgs sPar) (defBody sPar) (defScope sPar) .none kV4 dc4 pm4 an4 cd4 ct4) :=
    ⟨⟨am4, nm4, km4⟩, F4, F4.binds fun _ _ _ _ _ _ us hl => match us, hl with | [_], _ => rfl⟩
  have F5 := fun_mk (st := sTaken) lm5 gm5 km5
  have M5 : MethX K C "taken" "Reader.taken" sTaken ["self", "allowed"] f5 (PySem.W.fnOf "taken" "Reader.taken" (defArgs sTaken) (defBody sTaken) (defScope sTaken) .none kV5 dc5 pm5 an5 cd5 ct5) :=
    ⟨⟨am5, nm5, km5⟩, F5, F5.binds fun _ _ _ _ _ _ us hl => match us, hl with | [_, _], _ => rfl⟩
  have F6 := fun_mk (st := sBefore) lm6 gm6 km6
  have M6 : MethX K C "is_before_word" "Reader.is_before_word" sBefore ["self"] f6 (PySem.W.fnOf "is_before_word" "Reader.is_before_word" (defArgs sBefore) (defBody sBefore) (defScope sBefore) .none kV6 dc6 pm6 an6 cd6 ct6) :=
    ⟨⟨am6, nm6, km6⟩, F6, F6.binds fun _ _ _ _ _ _ us hl => match us, hl with | [_], _ => rfl⟩
  have cl : Rx K C := ⟨⟨pg, hd, po, sa⟩, nT, nA, nR⟩
  have kO : ∀ o : Op, KDct K w dO o.key (.str o.name)
    | .plus => by rw [key_str]; exact ⟨_, _, _, dOl, dOk, dO_plus, ⟨_, rfl⟩⟩
    | .minus => by rw [key_str]; exact ⟨_, _, _, dOl, dOk, dO_minus, ⟨_, rfl⟩⟩
    | .times => by rw [key_str]; exact ⟨_, _, _, dOl, dOk, dO_times, ⟨_, rfl⟩⟩
    | .less => by rw [key_str]; exact ⟨_, _, _, dOl, dOk, dO_less, ⟨_, rfl⟩⟩
    | .same => by rw [key_str]; exact ⟨_, _, _, dOl, dOk, dO_same, ⟨_, rfl⟩⟩
  have kS : ∀ o : Op, KDct K w dS o.name (.int o.str)
    | .plus => ⟨_, _, _, dSl, dSk, dS_plus, ⟨_, rfl⟩⟩
    | .minus => ⟨_, _, _, dSl, dSk, dS_minus, ⟨_, rfl⟩⟩
    | .times => ⟨_, _, _, dSl, dSk, dS_times, ⟨_, rfl⟩⟩
    | .less => ⟨_, _, _, dSl, dSk, dS_less, ⟨_, rfl⟩⟩
    | .same => ⟨_, _, _, dSl, dSk, dS_same, ⟨_, rfl⟩⟩
  have kG : ∀ o : Op, KDct K w dG o.name (.str o.mark)
    | .plus => ⟨_, _, _, dGl, dGk, dG_plus, ⟨_, rfl⟩⟩
    | .minus => ⟨_, _, _, dGl, dGk, dG_minus, ⟨_, rfl⟩⟩
    | .times => ⟨_, _, _, dGl, dGk, dG_times, ⟨_, rfl⟩⟩
    | .less => ⟨_, _, _, dGl, dGk, dG_less, ⟨_, rfl⟩⟩
    | .same => ⟨_, _, _, dGl, dGk, dG_same, ⟨_, rfl⟩⟩
  have kk : KKeys K dO (opAll.map Op.key) := ⟨⟨_, _, dOl, by
    refine Eq.trans dOm ?_
    show _ = [some (Op.key .plus), some (Op.key .minus), some (Op.key .times), some (Op.key .less), some (Op.key .same)]
    rw [key_str, key_str, key_str, key_str, key_str]⟩, dOn⟩
  have kq : ∀ H, SqT K H qa [.str (st (wd "known")), .str (st (wd "reason"))] := fun H => .inr ⟨_, itsq, nq, ql, rfl, rfl, by
      rw [← Array.length_toList, qi, sizeLine_eq]
      exact (by decide : 2 ≤ 16777216), by
      rw [qi, ← st_wd, ← st_wd]
      exact .cons ⟨_, rfl⟩ (.cons ⟨_, rfl⟩ .nil)⟩
  have T : Gx K w mg := ⟨PySem.W.mg_none_of X G z_all, PySem.W.mg_none_of X G z_len, PySem.W.mg_none_of X G z_int, PySem.W.mg_none_of X G z_isinstance, PySem.W.mg_none_of X G z_str, PySem.W.mg_none_of X G z_max, PySem.W.mg_none_of X G z_tuple, PySem.W.mg_none_of X G z_list, PySem.W.mg_none_of X G z_range, PySem.W.mg_none_of X G z_repr, ⟨_, PySem.W.mg_of X G cL⟩, ⟨_, PySem.W.mg_of X G cD⟩, ⟨_, PySem.W.mg_of X G cM⟩, ⟨_, PySem.W.mg_of X G cE⟩, ⟨_, PySem.W.mg_of X G cP⟩, ⟨_, PySem.W.mg_of X G cB⟩,
    ⟨dO, PySem.W.mg_of X G dOa, kk, kO⟩, ⟨dS, PySem.W.mg_of X G dSa, kS⟩, ⟨qa, PySem.W.mg_of X G qa1, kq⟩⟩
  let ff : Nat → Addr := fun n => match n with | 0 => f0 | 1 => f1 | 2 => f2 | 3 => f3 | 4 => f4 | 5 => f5 | 6 => f6 | 7 => f7 | 8 => f8 | 9 => f9 | 10 => f10 | 11 => f11 | 12 => f12 | 20 => f20 | 21 => f21 | 22 => f22 | 23 => f23 | 24 => f24 | 25 => f25 | _ => 0
  let gg : Nat → FuncData := fun n => match n with | 0 => (PySem.W.fnOf "__init__" "Reader.__init__" (defArgs sInit) (defBody sInit) (defScope sInit) .none kV0 dc0 pm0 an0 cd0 ct0) | 1 => (PySem.W.fnOf "operations" "Reader.operations" (defArgs sOps) (defBody sOps) (defScope sOps) .none kV1 dc1 pm1 an1 cd1 ct1) | 2 => (PySem.W.fnOf "sign_here" "Reader.sign_here" (defArgs sSign) (defBody sSign) (defScope sSign) .none kV2 dc2 pm2 an2 cd2 ct2) | 3 => (PySem.W.fnOf "operand" "Reader.operand" (defArgs sOpd) (defBody sOpd) (defScope sOpd) .none kV3 dc3 pm3 an3 cd3 ct3) | 4 => (PySem.W.fnOf "parentheses" "Reader.parentheses" (defArgs sPar) (defBody sPar) (defScope sPar) .none kV4 dc4 pm4 an4 cd4 ct4) | 5 => (PySem.W.fnOf "taken" "Reader.taken" (defArgs sTaken) (defBody sTaken) (defScope sTaken) .none kV5 dc5 pm5 an5 cd5 ct5) | 6 => (PySem.W.fnOf "is_before_word" "Reader.is_before_word" (defArgs sBefore) (defBody sBefore) (defScope sBefore) .none kV6 dc6 pm6 an6 cd6 ct6) | 7 => (PySem.W.fnOf "is_made_of" "is_made_of" (defArgs sMade) (defBody sMade) (defScope sMade) .none kV7 dc7 pm7 an7 cd7 ct7) | 8 => (PySem.W.fnOf "is_word" "is_word" (defArgs sIsWord) (defBody sIsWord) (defScope sIsWord) .none kV8 dc8 pm8 an8 cd8 ct8) | 9 => (PySem.W.fnOf "read_number" "read_number" (defArgs sNumber) (defBody sNumber) (defScope sNumber) .none kV9 dc9 pm9 an9 cd9 ct9) | 10 => (PySem.W.fnOf "read_word" "read_word" (defArgs sWord) (defBody sWord) (defScope sWord) .none kV10 dc10 pm10 an10 cd10 ct10) | 11 => (PySem.W.fnOf "read_expression" "read_expression" (defArgs sExpr) (defBody sExpr) (defScope sExpr) .none kV11 dc11 pm11 an11 cd11 ct11) | 12 => (PySem.W.fnOf "parse_expression" "parse_expression" (defArgs sParse) (defBody sParse) (defScope sParse) .none kV12 dc12 pm12 an12 cd12 ct12) | 20 => (PySem.W.fnOf "_law_tape" "_law_tape" (defArgs sTape) (defBody sTape) (defScope sTape) .none kV20 dc20 pm20 an20 cd20 ct20) | 21 => (PySem.W.fnOf "_law_draw" "_law_draw" (defArgs sDraw) (defBody sDraw) (defScope sDraw) .none kV21 dc21 pm21 an21 cd21 ct21) | 22 => (PySem.W.fnOf "_law_one" "_law_one" (defArgs sOne) (defBody sOne) (defScope sOne) .none kV22 dc22 pm22 an22 cd22 ct22) | 23 => (PySem.W.fnOf "_law_read" "_law_read" (defArgs sRead) (defBody sRead) (defScope sRead) .none kV23 dc23 pm23 an23 cd23 ct23) | 24 => (PySem.W.fnOf "_law_text" "_law_text" (defArgs sText) (defBody sText) (defScope sText) .none kV24 dc24 pm24 an24 cd24 ct24) | 25 => (PySem.W.fnOf "_law_bare" "_law_bare" (defArgs sBare) (defBody sBare) (defScope sBare) .none kV25 dc25 pm25 an25 cd25 ct25) | _ => (PySem.W.fnOf "__init__" "Reader.__init__" (defArgs sInit) (defBody sInit) (defScope sInit) .none kV0 dc0 pm0 an0 cd0 ct0)
  have R : Rdr K mg C ff gg := ⟨cl, PySem.W.mg_of X G aC, ⟨mkc, am0, nm0, kc⟩, F0, M0.b, M1, M2, M3, M4, M5, M6, D7, D8, D9, D10, D11, D12⟩
  have W : Wx K w mg f13 f14 _ _ := ⟨D13, D14, ⟨dG, PySem.W.mg_of X G dGa, kG⟩⟩
  have L : Lx K mg ff gg := ⟨D20, D21, D22, D23, D24, D25⟩
  have F30 := fun_mk (st := sTextInit) l30 g30 k30
  have B30 := F30.binds (ps := ["self", "line"]) fun _ _ _ _ _ _ us hl => match us, hl with | [_, _], _ => rfl
  have Wk : WorkC K mg W0 := ⟨PySem.W.mg_of X G aW, wsp, wrd, wfc⟩
  have E30 : ErC K C0 "ValueError" "ValueError.__new__" veT := ⟨isn30, ovr30, sa30, hd30, kc30, ga30, gg30, ex30, ca30, cn, ct, mo30, by decide +kernel⟩
  have X30 : ErX K mg C0 W0 f30 _ := ⟨E30, ty30, PySem.W.mg_of X G a30, i30, t30, F30, B30, ht30, Wk⟩
  have Y30 : ErY K C0 W0 := ⟨te30, kw30, hn30⟩
  exact ⟨_, fun s v => .of_eq rfl, fun base _ _ => ok_law F26 T X30 Y30 R W L⟩
theorem walk {l : PySem.W.OpenLaw} {q : Program} {loose : List Str} {XP : (Str → Option Value) → Heap → Prop} {YP : World → Heap → Prop} {d : DefRec} {K : Params → PySem.W.Frag} (hn : l.most = some 63) (hdf : d.params.defaults = []) 
    (hY : ∀ (w : World) (h : Heap), YP w h → (K w.params).In h)
    (F : ∀ (w : World) (mg : Str → Option Value) (fa : Addr) (h : Heap), (K w.params).In h → h.Ns mainGlobals mg → mg d.name = some (.ref fa) →
      ∃ fd : FuncData, (∀ (s : Shared) (u : Value), BindsTo s fd ⟨[u], []⟩ [("_law_script", u)]) ∧
        ∀ base : Heap, (K w.params).In base → base.Ns mainGlobals mg → FnOk l.prog w (K w.params) mg base CX0 220 fa fd ["_law_script"] (spLaw (K w.params))) :
    PySem.W.WalkO q loose XP YP l.row.toRowW d [] (fun f vs => PySem.call f vs) :=
  walk_ofK (n := 63) (k := 220) (x := "_law_script") (sp := spLaw) hn (by decide) hdf ⟨rfl, by decide, by decide⟩ hY F (fun K H a ns hl _ hS => ⟨a, ns, rfl, hS, hl, fun _ => rfl⟩) (fun H s e s' h => h)
end Lg

open PySem PySem.W PyProof.Rows in
set_option maxRecDepth 100000 in
set_option maxHeartbeats 0 in
theorem PySem.Challenge.cw_wantedwork_k11_texts_of_no_expression_holds : PySem.Challenge.rw_wantedwork_k11_texts_of_no_expression.Holds := by
  w_on; o_law; k_head; (case hw => w_witness2)
  k_fill
  refine Lg.walk (l := PySem.Challenge.rw_wantedwork_k11_texts_of_no_expression) rfl rfl (fun w h Y => PySem.W.kIn_of Y) ?F
  case F =>
    intro w mg fa h KX G hmg
    refine' Lg.all_mk KX G hmg ?a7 ?l7 ?g7 ?k7 ?a8 ?l8 ?g8 ?k8 ?a9 ?l9 ?g9 ?k9 ?a10 ?l10 ?g10 ?k10 ?a11 ?l11 ?g11 ?k11 ?a12 ?l12 ?g12 ?k12 ?a13 ?l13 ?g13 ?k13 ?a14 ?l14 ?g14 ?k14 ?a20 ?l20 ?g20 ?k20 ?a21 ?l21 ?g21 ?k21 ?a22 ?l22 ?g22 ?k22 ?a23 ?l23 ?g23 ?k23 ?a24 ?l24 ?g24 ?k24 ?a25 ?l25 ?g25 ?k25 ?a26 ?l26 ?g26 ?k26 ?aW ?a30 ?i30 ?l30 ?g30 ?k30 ?t30 ?ht30 ?hn30 ?isn30 ?ovr30 ?sa30 ?hd30 ?kc30 ?ga30 ?gg30 ?ex30 ?ca30 ?mo30 ?ty30 ?te30 ?kw30 ?cn ?ct ?wsp ?wrd ?wfc ?aC ?am0 ?lm0 ?gm0 ?km0 ?nm0 ?am1 ?lm1 ?gm1 ?km1 ?nm1 ?am2 ?lm2 ?gm2 ?km2 ?nm2 ?am3 ?lm3 ?gm3 ?km3 ?nm3 ?am4 ?lm4 ?gm4 ?km4 ?nm4 ?am5 ?lm5 ?gm5 ?km5 ?nm5 ?am6 ?lm6 ?gm6 ?km6 ?nm6 ?pg ?hd ?po ?sa ?kc ?mkc ?nT ?nA ?nR ?z_all ?z_len ?z_int ?z_isinstance ?z_str ?z_max ?z_tuple ?z_list ?z_range ?z_repr ?cL ?cD ?cM ?cE ?cP ?cB ?dOa ?dOl ?dOk ?dO_plus ?dO_minus ?dO_times ?dO_less ?dO_same ?dSa ?dSl ?dSk ?dS_plus ?dS_minus ?dS_times ?dS_less ?dS_same ?dGa ?dGl ?dGk ?dG_plus ?dG_minus ?dG_times ?dG_less ?dG_same ?dOm ?dOn ?qa1 ?ql ?qi
    (case a7 => k_is)
    (case l7 => k_is)
    (case g7 => k_is)
    (case k7 => k_is)
    (case a8 => k_is)
    (case l8 => k_is)
    (case g8 => k_is)
    (case k8 => k_is)
    (case a9 => k_is)
    (case l9 => k_is)
    (case g9 => k_is)
    (case k9 => k_is)
    (case a10 => k_is)
    (case l10 => k_is)
    (case g10 => k_is)
    (case k10 => k_is)
    (case a11 => k_is)
    (case l11 => k_is)
    (case g11 => k_is)
    (case k11 => k_is)
    (case a12 => k_is)
    (case l12 => k_is)
    (case g12 => k_is)
    (case k12 => k_is)
    (case a13 => k_is)
    (case l13 => k_is)
    (case g13 => k_is)
    (case k13 => k_is)
    (case a14 => k_is)
    (case l14 => k_is)
    (case g14 => k_is)
    (case k14 => k_is)
    (case a20 => k_is)
    (case l20 => k_is)
    (case g20 => k_is)
    (case k20 => k_is)
    (case a21 => k_is)
    (case l21 => k_is)
    (case g21 => k_is)
    (case k21 => k_is)
    (case a22 => k_is)
    (case l22 => k_is)
    (case g22 => k_is)
    (case k22 => k_is)
    (case a23 => k_is)
    (case l23 => k_is)
    (case g23 => k_is)
    (case k23 => k_is)
    (case a24 => k_is)
    (case l24 => k_is)
    (case g24 => k_is)
    (case k24 => k_is)
    (case a25 => k_is)
    (case l25 => k_is)
    (case g25 => k_is)
    (case k25 => k_is)
    (case a26 => k_is)
    (case l26 => k_is)
    (case g26 => k_is)
    (case k26 => k_is)
    (case aW => k_is)
    (case a30 => k_is)
    (case i30 => k_is)
    (case l30 => k_is)
    (case g30 => k_is)
    (case k30 => k_is)
    (case t30 => k_is)
    (case ht30 => k_is)
    (case hn30 => k_is)
    (case isn30 => kernel_rfl)
    (case ovr30 => kernel_rfl)
    (case sa30 => k_is)
    (case hd30 => k_is)
    (case kc30 => k_is)
    (case ga30 => k_is)
    (case gg30 => k_is)
    (case ex30 => k_is)
    (case ca30 => k_is)
    (case mo30 => k_is)
    (case ty30 => k_is)
    (case te30 => kernel_rfl)
    (case kw30 => kernel_rfl)
    (case cn => k_is)
    (case ct => k_is)
    (case wsp => k_is)
    (case wrd => k_is)
    (case wfc => kernel_rfl)
    (case aC => k_is)
    (case am0 => k_is)
    (case lm0 => k_is)
    (case gm0 => k_is)
    (case km0 => k_is)
    (case nm0 => k_is)
    (case am1 => k_is)
    (case lm1 => k_is)
    (case gm1 => k_is)
    (case km1 => k_is)
    (case nm1 => k_is)
    (case am2 => k_is)
    (case lm2 => k_is)
    (case gm2 => k_is)
    (case km2 => k_is)
    (case nm2 => k_is)
    (case am3 => k_is)
    (case lm3 => k_is)
    (case gm3 => k_is)
    (case km3 => k_is)
    (case nm3 => k_is)
    (case am4 => k_is)
    (case lm4 => k_is)
    (case gm4 => k_is)
    (case km4 => k_is)
    (case nm4 => k_is)
    (case am5 => k_is)
    (case lm5 => k_is)
    (case gm5 => k_is)
    (case km5 => k_is)
    (case nm5 => k_is)
    (case am6 => k_is)
    (case lm6 => k_is)
    (case gm6 => k_is)
    (case km6 => k_is)
    (case nm6 => k_is)
    (case pg => k_is)
    (case hd => k_is)
    (case po => k_is)
    (case sa => k_is)
    (case kc => k_is)
    (case mkc => k_is)
    (case nT => k_is)
    (case nA => k_is)
    (case nR => k_is)
    (case z_all => k_is)
    (case z_len => k_is)
    (case z_int => k_is)
    (case z_isinstance => k_is)
    (case z_str => k_is)
    (case z_max => k_is)
    (case z_tuple => k_is)
    (case z_list => k_is)
    (case z_range => k_is)
    (case z_repr => k_is)
    (case cL => k_is)
    (case cD => k_is)
    (case cM => k_is)
    (case cE => k_is)
    (case cP => k_is)
    (case cB => k_is)
    (case dOa => k_is)
    (case dOl => k_is)
    (case dOk => (show PySem.W.KeysLit _ [_, _, _, _, _]; exact ⟨⟨_, _, rfl, rfl⟩, ⟨_, _, rfl, rfl⟩, ⟨_, _, rfl, rfl⟩, ⟨_, _, rfl, rfl⟩, ⟨_, _, rfl, rfl⟩, trivial⟩))
    (case dO_plus => k_is)
    (case dO_minus => k_is)
    (case dO_times => k_is)
    (case dO_less => k_is)
    (case dO_same => k_is)
    (case dSa => k_is)
    (case dSl => k_is)
    (case dSk => (show PySem.W.KeysLit _ [_, _, _, _, _]; exact ⟨⟨_, _, rfl, rfl⟩, ⟨_, _, rfl, rfl⟩, ⟨_, _, rfl, rfl⟩, ⟨_, _, rfl, rfl⟩, ⟨_, _, rfl, rfl⟩, trivial⟩))
    (case dS_plus => k_is)
    (case dS_minus => k_is)
    (case dS_times => k_is)
    (case dS_less => k_is)
    (case dS_same => k_is)
    (case dGa => k_is)
    (case dGl => k_is)
    (case dGk => (show PySem.W.KeysLit _ [_, _, _, _, _]; exact ⟨⟨_, _, rfl, rfl⟩, ⟨_, _, rfl, rfl⟩, ⟨_, _, rfl, rfl⟩, ⟨_, _, rfl, rfl⟩, ⟨_, _, rfl, rfl⟩, trivial⟩))
    (case dG_plus => k_is)
    (case dG_minus => k_is)
    (case dG_times => k_is)
    (case dG_less => k_is)
    (case dG_same => k_is)
    (case dOm => rfl)
    (case dOn => rfl)
    (case qa1 => k_is)
    (case ql => k_is)
    (case qi => rfl)
#print axioms PySem.Challenge.cw_wantedwork_k11_texts_of_no_expression_holds
