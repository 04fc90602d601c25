import PyProof.Rows.All
import Wide.All
import OpenK.AllK
import Wide.FinOn
import HandS.ForMost
import HandS.Conv
import HandS.Gcd
import HandS.ListItems
import HandS.MapObj
import KE.GoesEnum
import HandS.Zip
import HandS.More
import HandS.TupAny
import HandS.Style
import HandS.Text
import HandS.NoneIn
import HandS.WideBits
import HandS.TupSets
import PySem.Challenge.RW_nightslates_k05_whole_sights
import HandS.Walk
import KE.SortKeyHeap
import KE.KSortKey
import HandS.Lambda
import HandS.EndTab
import HandS.IsInst
import HandS.SortInts
set_option Elab.async false
set_option linter.all false
set_option maxRecDepth 100000
set_option maxHeartbeats 2000000
/-! combinations of a range, listed -/
namespace Cb
open PySem PySem.Spec PyProof.Rows
abbrev TC : String := "itertools.combinations"
theorem mroC : mroOf (.type TC) = pure [.type TC, .type "object"] := by rw [mroOf_type]; kernel_rfl
theorem newC : typeLookup (.type TC) "__new__" = pure (some (.builtin "itertools.combinations.__new__")) := by rw [typeLookup_type, builtinLookup_eq_fast]; kernel_rfl
theorem initC : Slot TC "__init__" "object.__init__" :=
  .of (owner := "object") (n := "__init__") (by rw [typeLookup_type, builtinLookup_eq_fast]; kernel_rfl) (by decide +kernel) (by decide +kernel) (by decide +kernel)
    (by first | exact .inl (by decide +kernel) | exact .inr (by decide +kernel)) (by rw [isSubtype_type]; kernel_rfl)
theorem subC : isSubtype (.type TC) (.type TC) = pure true := by rw [isSubtype_type]; kernel_rfl
theorem calledC : TypeCalled TC "itertools.combinations.__new__" "object.__init__" :=
  ⟨by decide +kernel, by decide +kernel, ⟨_, _, mroC⟩, madeBy_type mroC newC (by decide +kernel), by decide +kernel, subC, initC⟩
theorem typeCallC (a b : Value) : checkTypeCall TC ⟨[a, b], []⟩ = pure () := by kernel_rfl
theorem newCallC (a b : Value) : checkBuiltinCall "itertools.combinations.__new__" ⟨[.type TC, a, b], []⟩ = pure () := by kernel_rfl
theorem entryNewC : entryFor table "itertools.combinations.__new__" = some Builtin.«itertools.combinations.__new__» := entryFor_of_tree (by kernel_rfl)
theorem slotIterC : Slot TC "__iter__" "itertools.combinations.__iter__" :=
  .of (owner := TC) (n := "__iter__") (by rw [typeLookup_type, builtinLookup_eq_fast]; kernel_rfl) (by decide +kernel) (by decide +kernel) (by decide +kernel)
    (by first | exact .inl (by decide +kernel) | exact .inr (by decide +kernel)) subC
theorem slotNextC : Slot TC "__next__" "itertools.combinations.__next__" :=
  .of (owner := TC) (n := "__next__") (by rw [typeLookup_type, builtinLookup_eq_fast]; kernel_rfl) (by decide +kernel) (by decide +kernel) (by decide +kernel)
    (by first | exact .inl (by decide +kernel) | exact .inr (by decide +kernel)) subC
theorem entryIterC : entryFor table "itertools.combinations.__iter__" = some Builtin.«dict_keyiterator.__iter__» :=
  entryFor_alias (id' := "dict_keyiterator.__iter__") (by kernel_rfl) (by first | rfl | decide +kernel | (unfold String.splitOn; simp +decide [String.splitOnAux])) (by decide +kernel) (by kernel_rfl)
theorem entryNextC : entryFor table "itertools.combinations.__next__" = some Builtin.«itertools.combinations.__next__» := entryFor_of_tree (by kernel_rfl)
theorem ownerC : Manifest.owners.lookup (String.ofList ['s', 'n', 'o', 'i', 't', 'a', 'n', 'i', 'b', 'm', 'o', 'c', '.', 's', 'l', 'o', 'o', 't', 'r', 'e', 't', 'i'].reverse) = some Manifest.sig_itertools_combinations := by kernel_rfl
theorem argsIterC (a : Value) : argsOk "itertools.combinations.__iter__" ⟨[a], []⟩ := by
  unfold argsOk
  rw [signature?_of (id := "itertools.combinations.__iter__") (n := ['_', '_', 'r', 'e', 't', 'i', '_', '_']) (o := ['s', 'n', 'o', 'i', 't', 'a', 'n', 'i', 'b', 'm', 'o', 'c', '.', 's', 'l', 'o', 'o', 't', 'r', 'e', 't', 'i']) (by kernel_rfl) ownerC]
  kernel_rfl
theorem argsNextC (a : Value) : argsOk "itertools.combinations.__next__" ⟨[a], []⟩ := by
  unfold argsOk
  rw [signature?_of (id := "itertools.combinations.__next__") (n := ['_', '_', 't', 'x', 'e', 'n', '_', '_']) (o := ['s', 'n', 'o', 'i', 't', 'a', 'n', 'i', 'b', 'm', 'o', 'c', '.', 's', 'l', 'o', 'o', 't', 'r', 'e', 't', 'i']) (by kernel_rfl) ownerC]
  kernel_rfl
theorem noDictC : typeHasDict (.type TC) = false := by decide +kernel
theorem noLenC : typeLookup (.type TC) "__len__" = pure none := by rw [typeLookup_type, builtinLookup_eq_fast]; kernel_rfl
theorem noHintC : typeLookup (.type TC) "__length_hint__" = pure none := by rw [typeLookup_type, builtinLookup_eq_fast]; kernel_rfl

/-- the next row of places -/
def nxt (n : Nat) (l : List Nat) : Option (List Nat) :=
  match (List.range l.length).reverse.find? (fun i => l.getD i 0 != i + n - l.length) with
  | none => none
  | some i => some (l.take i ++ (List.range (l.length - i)).map (l.getD i 0 + 1 + ·))
/-- the object: its pool, how it stands, what it gave last, its places -/
abbrev IsC (h : Heap) (it : Addr) (pool last : Value) (st : Int) (ix : List Nat) : Prop :=
  h.get? it = some { cls := .type TC, dict := none, data := .fields (#[pool, rawInt st, last] ++ (ix.map fun (i : Nat) => rawInt i).toArray), slots := #[] }
section
variable {prog : Program} {w : World} {A : Around} {E : Value → Shared → Prop} {s : Shared}
theorem bindC (a b : Value) : Builtin.Itertools.itBindNamed "combinations" ["iterable", "r"] 2 2 [a, b] [] = pure [some a, some b] := by kernel_rfl
theorem clsC (a b : Value) : Builtin.Itertools.itClassAndRest "combinations" ⟨[.type TC, a, b], []⟩ = pure (.type TC, [a, b]) := by
  unfold Builtin.Itertools.itClassAndRest
  simp only [isType, subC, pure_bind]
  rw [show ("itertools." ++ "combinations" : String) = TC from by decide]
  simp only [isType, subC, pure_bind, Bool.not_true, Bool.false_eq_true, if_false]
end
end Cb

set_option Elab.async false
set_option linter.all false
set_option maxRecDepth 100000
set_option maxHeartbeats 2000000
namespace Cb
open PySem PySem.Spec PyProof.Rows L2
abbrev tupObj (acc : Array Value) : Obj := { cls := .type "tuple", data := .seq acc }
abbrev cObj (pool last : Value) (st : Int) (ix : List Nat) : Obj := { cls := .type TC, dict := none, data := .fields (#[pool, rawInt st, last] ++ (ix.map fun (i : Nat) => rawInt i).toArray), slots := #[] }
section
variable {prog : Program} {w : World}
theorem ssizeC (r : Nat) (t : Tok) (hr : r ≤ 7) : Builtin.Itertools.itSsizeArg (.int (r : Int) t) = pure (r : Int) := by
  unfold Builtin.Itertools.itSsizeArg
  have e : asIndex (Value.int (r : Int) t) = pure (r : Int) := by first | rfl | kernel_rfl
  rw [e, pure_bind]
  have h1 : ((decide ((r : Int) < -(2 ^ 63 : Int)) || decide ((r : Int) ≥ 2 ^ 63)) = true) = False := by
    simp only [Bool.or_eq_true, decide_eq_true_eq, eq_iff_iff, iff_false]
    omega
  simp only [h1, if_false, pure_bind]
theorem new_c (R : Addr) (vs : List Value) (r : Nat) (t : Tok) (hr : r ≤ vs.length) (hn : vs.length ≤ 7) : MeetsIn prog w (Builtin.«itertools.combinations.__new__» ⟨[.type TC, .ref R, .int r t], []⟩)
    (fun A G s => s.heap.IsList R vs.toArray ∧ ∀ (h' : Heap), (∀ b o, s.heap.get? b = some o → h'.get? b = some o) →
      G (.ok (.ret (.ref (h'.push (tupObj vs.toArray)).objs.size))) { s with heap := (h'.push (tupObj vs.toArray)).push (cObj (.ref h'.objs.size) .none 0 (List.range r)) }) :=
  .of_wp fun A G s h => by
    obtain ⟨hR, h⟩ := h
    show wpAny _ _ (((Builtin.Itertools.itClassAndRest "combinations" _) >>= _) >>= _) _ _ _
    refine wpAny_bind (wpAny_bind (wpAny_of_eq (clsC _ _) ?_))
    try dsimp only
    refine wpAny_bind (wpAny_of_eq (bindC _ _) ?_)
    try dsimp only
    refine wpAny_bind (wpAny_of_eq (ssizeC r t (by omega)) ?_)
    refine wpAny_bind (collect_list hR ?_ (by rw [sizeLine_eq]; omega))
    rw [if_neg (by omega)]
    rw [if_neg (show ¬ (Builtin.Itertools.itTooMany (r : Int) = true) by
      unfold Builtin.Itertools.itTooMany
      simp only [decide_eq_true_eq]
      omega)]
    refine wpAny_bind (wpAny_newTuple ?_ (by rw [sizeLine_eq]; omega))
    refine wpAny_pure ?_
    dsimp only
    rw [Int.toNat_natCast, if_neg (by omega)]
    refine wpAny_bind ?_
    unfold Builtin.Itertools.itNewRecord
    rw [noDictC]
    simp only [Bool.not_false, if_true]
    have hlr : (((List.range r).map fun (i : Nat) => rawInt i)).length = r := by rw [List.length_map, List.length_range]
    refine wpAny_newObj_type ?_ (by
      show _ ≤ _
      simp only [List.size_toArray, List.length_append, List.length_cons, List.length_nil, hlr, sizeLine_eq]
      omega)
    refine wpAny_pure ⟨_, rfl, ?_⟩
    have kk : ∀ b o, s.heap.get? b = some o → ((s.heap.push (seqObj "list" #[] 0)).update s.heap.objs.size (Obj.mapSeq (· ++ vs.toArray))).get? b = some o := fun b o e => by
      rw [Heap.get?_update_other _ _ (Ne.symm (Nat.ne_of_lt (Heap.lt_size e)))]
      exact Heap.get?_push_of_some _ e
    have q := h _ kk
    rw [Heap.size_update] at q ⊢
    have e3 : ∀ hs : Nat, ([Value.ref hs, rawInt 0, Value.none] ++ (List.range r).map fun (i : Nat) => rawInt i).toArray = #[Value.ref hs, rawInt 0, Value.none] ++ ((List.range r).map fun (i : Nat) => rawInt i).toArray := fun hs => by simp
    rw [e3]
    exact q
end
section
variable {prog : Program} {w : World} {A : Around} {E : Value → Shared → Prop} {s : Shared}
/-- combinations(list, r) -/
theorem call_c {R : Addr} {vs : List Value} {r : Nat} {t : Tok} {Q : Value → Shared → Prop} (hr : r ≤ vs.length) (hn : vs.length ≤ 7) (hR : s.heap.IsList R vs.toArray)
    (h : ∀ (h' : Heap), (∀ b o, s.heap.get? b = some o → h'.get? b = some o) →
      Q (.ref (h'.push (tupObj vs.toArray)).objs.size) { s with heap := (h'.push (tupObj vs.toArray)).push (cObj (.ref h'.objs.size) .none 0 (List.range r)) }) :
    wpAny (model prog w) A (call (.type TC) [.ref R, .int r t]) Q E s := by
  refine callType_newIn calledC (by decide +kernel) (typeCallC _ _) (newCallC _ _) (fun obj => F.args_object_init_3 obj _ _) entryNewC (new_c R vs r t hr hn) ?_
  refine ⟨hR, fun h' hk => ?_⟩
  exact ⟨⟨_, Heap.get?_push_size _ rfl, rfl⟩, h h' hk⟩
/-! ### what comes next -/
theorem getC {h : Heap} {it : Addr} {pool last : Value} {st : Int} {ix : List Nat} (e : h.get? it = some (cObj pool last st ix)) {Q : List Nat → Shared → Prop} {g d tk os} (hQ : Q ix ⟨h, g, d, tk, os⟩) :
    wpAny (model prog w) A (Builtin.Itertools.itNumbersFrom (.ref it) 3) Q E ⟨h, g, d, tk, os⟩ := by
  unfold Builtin.Itertools.itNumbersFrom
  refine wpAny_bind (wpAny_load e ?_)
  dsimp only
  refine wpAny_pure ?_
  have e2 : ((#[pool, rawInt st, last] ++ (ix.map fun (i : Nat) => rawInt i).toArray).toList.drop 3).map (fun | Value.int n _ => n.toNat | _ => 0) = ix := by
    have z : (#[pool, rawInt st, last] ++ (ix.map fun (i : Nat) => rawInt i).toArray).toList.drop 3 = ix.map fun (i : Nat) => rawInt i := by simp
    rw [z, List.map_map]
    conv => rhs; rw [← List.map_id ix]
    refine List.map_congr_left fun i _ => ?_
    simp [rawInt]
  exact Eq.mpr (congrArg (fun l => Q l _) e2) hQ
end
end Cb

set_option Elab.async false
set_option linter.all false
set_option maxRecDepth 100000
set_option maxHeartbeats 2000000
namespace Cb
open PySem PySem.Spec PyProof.Rows L2
theorem set1 (a b c y : Value) (xs : List Value) : (#[a, b, c] ++ xs.toArray).setIfInBounds 1 y = #[a, y, c] ++ xs.toArray := by
  apply Array.ext'
  simp [Array.toList_setIfInBounds]
theorem set2 (a b c y : Value) (xs : List Value) : (#[a, b, c] ++ xs.toArray).setIfInBounds 2 y = #[a, b, y] ++ xs.toArray := by
  apply Array.ext'
  simp [Array.toList_setIfInBounds]
theorem ext3 (a b c : Value) (xs ys : List Value) : (#[a, b, c] ++ xs.toArray).extract 0 3 ++ ys.toArray = #[a, b, c] ++ ys.toArray := by
  apply Array.ext'
  simp
section
variable {prog : Program} {w : World} {A : Around} {E : Value → Shared → Prop} {s : Shared}
def pick1 (pool : Value) (ix : List Nat) : Sem Value := do
  let items ← Builtin.Itertools.itPoolItems pool
  newTuple (ix.map fun i => items.getD i .none)
def hand1 (it pool : Value) (ix : List Nat) : Sem Fin := do
  let result ← pick1 pool ix
  let before ← field it 2
  setField it 2 result
  letGo [before] [result]
  ret result
theorem wp_pool {T : Addr} {items : Array Value} {Q : Array Value → Shared → Prop} (hT : s.heap.get? T = some (tupObj items)) (h : Q items s) : wpAny (model prog w) A (Builtin.Itertools.itPoolItems (.ref T)) Q E s := by
  unfold Builtin.Itertools.itPoolItems
  refine wpAny_bind (wpAny_seqItems hT rfl ?_)
  exact wpAny_pure h
/-- the tuple of the pool's items at some places -/
abbrev picked (items : Array Value) (ix : List Nat) : Obj := tupObj (ix.map fun i => items.getD i .none).toArray
theorem wp_hand {it T : Addr} {last : Value} {st : Int} {ix : List Nat} {items : Array Value} {Q : Fin → Shared → Prop} (hit : s.heap.get? it = some (cObj (.ref T) last st ix)) (hT : s.heap.get? T = some (tupObj items)) (hz : ix.length ≤ 7)
    (hQ : ∀ h', h'.get? it = some (cObj (.ref T) (.ref s.heap.objs.size) st ix) → h'.get? s.heap.objs.size = some (picked items ix) → h'.objs.size = s.heap.objs.size + 1 → (∀ b o, b ≠ it → s.heap.get? b = some o → h'.get? b = some o) → Q (.done (.ret (.ref s.heap.objs.size))) { s with heap := h' }) :
    wpAny (model prog w) A (hand1 (.ref it) (.ref T) ix) Q E s := by
  unfold hand1
  refine wpAny_bind ?_
  unfold pick1
  refine wpAny_bind (wp_pool hT ?_)
  refine wpAny_newTuple ?_ (by rw [List.length_map, sizeLine_eq]; omega)
  have hl : it < s.heap.objs.size := Heap.lt_size hit
  have h1 : (s.heap.push (picked items ix)).get? it = some (cObj (.ref T) last st ix) := Heap.get?_push_of_some _ hit
  have h2 : (s.heap.push (picked items ix)).get? s.heap.objs.size = some (picked items ix) := Heap.get?_push_size _ rfl
  have hz1 : (s.heap.push (picked items ix)).objs.size = s.heap.objs.size + 1 := Heap.size_push ..
  show wpAny _ _ (field (.ref it) 2 >>= _) _ _ _
  refine wpAny_bind (wpAny_field h1 rfl (x := last) (by simp) ?_)
  refine wpAny_bind (wpAny_setField h1 rfl (by simp) ?_)
  refine wpAny_bind (wpAny_letGo ?_)
  refine wpAny_pure ?_
  refine hQ _ ?_ ?_ ?_ ?_
  · rw [Heap.get?_update_self _ h1 rfl]
    simp only [Obj.mapFields, set2]
  · rw [Heap.get?_update_other _ _ (Nat.ne_of_lt hl)]
    exact h2
  · rw [Heap.size_update, hz1]
  · intro b o hb e
    rw [Heap.get?_update_other _ _ (Ne.symm hb)]
    exact Heap.get?_push_of_some _ e
theorem wp_int {it : Addr} {pool last : Value} {st : Int} {ix : List Nat} {Q : Int → Shared → Prop} (hit : s.heap.get? it = some (cObj pool last st ix)) (h : Q st s) : wpAny (model prog w) A (Builtin.Itertools.itIntField (.ref it) 1) Q E s := by
  unfold Builtin.Itertools.itIntField
  refine wpAny_bind (wpAny_field hit rfl (x := rawInt st) (by simp) ?_)
  exact wpAny_pure h
theorem next_first {it T : Addr} {last : Value} {ix : List Nat} {items : Array Value} {Q : Option Value → Shared → Prop} (hit : s.heap.get? it = some (cObj (.ref T) last 0 ix)) (hT : s.heap.get? T = some (tupObj items)) (hne : T ≠ it) (hz : ix.length ≤ 7)
    (hQ : ∀ h', h'.get? it = some (cObj (.ref T) (.ref s.heap.objs.size) 1 ix) → h'.get? s.heap.objs.size = some (picked items ix) → h'.objs.size = s.heap.objs.size + 1 → (∀ b o, b ≠ it → s.heap.get? b = some o → h'.get? b = some o) → Q (some (.ref s.heap.objs.size)) { s with heap := h' }) :
    wpAny (model prog w) A (pyNext (.ref it)) Q E s := by
  have hTy : s.TypeIs (.ref it) TC := ⟨_, hit, rfl⟩
  obtain ⟨hp, g, d, tk, os⟩ := s
  unfold pyNext
  refine wpAny_bind (wpAny_attempt (wpAny_callSpecial?_slot (name := Str.ofString "__next__") hTy slotNextC
    (wpAny_call_entry slotNextC hTy entryNextC ?_ (argsNextC _))))
  show wpAny _ _ (field (.ref it) 0 >>= _) _ _ _
  refine wpAny_bind (wpAny_field hit rfl (x := .ref T) (by simp) ?_)
  show wpAny _ _ (Builtin.Itertools.itNumbersFrom (.ref it) 3 >>= _) _ _ _
  refine wpAny_bind (getC hit ?_)
  show wpAny _ _ (Builtin.Itertools.itIntField (.ref it) 1 >>= _) _ _ _
  refine wpAny_bind (wp_int hit ?_)
  show wpAny _ _ (setField (.ref it) 1 (rawInt 1) >>= fun _ => hand1 (.ref it) (.ref T) ix) _ _ _
  refine wpAny_bind (wpAny_setField hit rfl (by simp) ?_)
  have h1 : (hp.update it (Obj.mapFields fun x => x.setIfInBounds 1 (rawInt 1))).get? it = some (cObj (.ref T) last 1 ix) := by
    rw [Heap.get?_update_self _ hit rfl]
    simp only [Obj.mapFields, set1]
  have h2 : (hp.update it (Obj.mapFields fun x => x.setIfInBounds 1 (rawInt 1))).get? T = some (tupObj items) := by
    rw [Heap.get?_update_other _ _ (Ne.symm hne)]
    exact hT
  have hz1 : (hp.update it (Obj.mapFields fun x => x.setIfInBounds 1 (rawInt 1))).objs.size = hp.objs.size := Heap.size_update ..
  refine wp_hand h1 h2 hz fun h' a1 a2 a3 a4 => ⟨_, rfl, ?_⟩
  dsimp only at a1 a2 a3 a4 ⊢
  rw [hz1] at a1 a2 a3 ⊢
  refine wpAny_pure (hQ h' a1 a2 a3 fun b o hb e => a4 b o hb ?_)
  rw [Heap.get?_update_other _ _ (Ne.symm hb)]
  exact e
theorem next_more {it T : Addr} {last : Value} {ix iy : List Nat} {items : Array Value} {Q : Option Value → Shared → Prop} (hit : s.heap.get? it = some (cObj (.ref T) last 1 ix)) (hT : s.heap.get? T = some (tupObj items)) (hne : T ≠ it) (hz : iy.length ≤ 7)
    (hn : nxt items.size ix = some iy)
    (hQ : ∀ h', h'.get? it = some (cObj (.ref T) (.ref s.heap.objs.size) 1 iy) → h'.get? s.heap.objs.size = some (picked items iy) → h'.objs.size = s.heap.objs.size + 1 → (∀ b o, b ≠ it → s.heap.get? b = some o → h'.get? b = some o) → Q (some (.ref s.heap.objs.size)) { s with heap := h' }) :
    wpAny (model prog w) A (pyNext (.ref it)) Q E s := by
  have hTy : s.TypeIs (.ref it) TC := ⟨_, hit, rfl⟩
  obtain ⟨hp, g, d, tk, os⟩ := s
  unfold pyNext
  refine wpAny_bind (wpAny_attempt (wpAny_callSpecial?_slot (name := Str.ofString "__next__") hTy slotNextC
    (wpAny_call_entry slotNextC hTy entryNextC ?_ (argsNextC _))))
  show wpAny _ _ (field (.ref it) 0 >>= _) _ _ _
  refine wpAny_bind (wpAny_field hit rfl (x := .ref T) (by simp) ?_)
  show wpAny _ _ (Builtin.Itertools.itNumbersFrom (.ref it) 3 >>= _) _ _ _
  refine wpAny_bind (getC hit ?_)
  show wpAny _ _ (Builtin.Itertools.itIntField (.ref it) 1 >>= _) _ _ _
  refine wpAny_bind (wp_int hit ?_)
  show wpAny _ _ (Builtin.Itertools.itPoolItems (.ref T) >>= _) _ _ _
  refine wpAny_bind (wp_pool hT ?_)
  show wpAny _ _ (match nxt items.size ix with | some next => (Builtin.Itertools.itSetNumbersFrom (.ref it) 3 next >>= fun _ => hand1 (.ref it) (.ref T) next) | none => _) _ _ _
  rw [hn]
  dsimp only
  refine wpAny_bind ?_
  unfold Builtin.Itertools.itSetNumbersFrom
  refine wpAny_updateFields hit rfl ?_ (by
    have z := ext3 (.ref T) (rawInt 1) last (ix.map fun (i : Nat) => rawInt i) (iy.map fun (i : Nat) => rawInt i)
    rw [z]
    simp only [Array.size_append, List.size_toArray, List.length_map, sizeLine_eq]
    simp
    omega)
  have h1 : (hp.update it (Obj.mapFields fun fs => fs.extract 0 3 ++ (iy.map fun (n : Nat) => rawInt n).toArray)).get? it = some (cObj (.ref T) last 1 iy) := by
    rw [Heap.get?_update_self _ hit rfl]
    simp only [Obj.mapFields, ext3]
  have h2 : (hp.update it (Obj.mapFields fun fs => fs.extract 0 3 ++ (iy.map fun (n : Nat) => rawInt n).toArray)).get? T = some (tupObj items) := by
    rw [Heap.get?_update_other _ _ (Ne.symm hne)]
    exact hT
  have hz1 : (hp.update it (Obj.mapFields fun fs => fs.extract 0 3 ++ (iy.map fun (n : Nat) => rawInt n).toArray)).objs.size = hp.objs.size := Heap.size_update ..
  refine wp_hand h1 h2 hz fun h' a1 a2 a3 a4 => ⟨_, rfl, ?_⟩
  dsimp only at a1 a2 a3 a4 ⊢
  rw [hz1] at a1 a2 a3 ⊢
  refine wpAny_pure (hQ h' a1 a2 a3 fun b o hb e => a4 b o hb ?_)
  rw [Heap.get?_update_other _ _ (Ne.symm hb)]
  exact e
theorem next_end {it T : Addr} {last : Value} {ix : List Nat} {items : Array Value} {Q : Option Value → Shared → Prop} (hh : A.handled = none) (hit : s.heap.get? it = some (cObj (.ref T) last 1 ix)) (hT : s.heap.get? T = some (tupObj items))
    (hn : nxt items.size ix = none) (hQ : ∀ h', Heap.ExtBut it s.heap h' → Q none { s with heap := h' }) :
    wpAny (model prog w) A (pyNext (.ref it)) Q E s := by
  have hTy : s.TypeIs (.ref it) TC := ⟨_, hit, rfl⟩
  obtain ⟨hp, g, d, tk, os⟩ := s
  unfold pyNext
  refine wpAny_bind (wpAny_attempt (wpAny_callSpecial?_slot (name := Str.ofString "__next__") hTy slotNextC
    (wpAny_call_entry slotNextC hTy entryNextC ?_ (argsNextC _))))
  show wpAny _ _ (field (.ref it) 0 >>= _) _ _ _
  refine wpAny_bind (wpAny_field hit rfl (x := .ref T) (by simp) ?_)
  show wpAny _ _ (Builtin.Itertools.itNumbersFrom (.ref it) 3 >>= _) _ _ _
  refine wpAny_bind (getC hit ?_)
  show wpAny _ _ (Builtin.Itertools.itIntField (.ref it) 1 >>= _) _ _ _
  refine wpAny_bind (wp_int hit ?_)
  show wpAny _ _ (Builtin.Itertools.itPoolItems (.ref T) >>= _) _ _ _
  refine wpAny_bind (wp_pool hT ?_)
  show wpAny _ _ (match nxt items.size ix with | some next => (Builtin.Itertools.itSetNumbersFrom (.ref it) 3 next >>= fun _ => hand1 (.ref it) (.ref T) next) | none => (setField (.ref it) 1 (rawInt 2) >>= fun _ => Builtin.Itertools.itStop)) _ _ _
  rw [hn]
  dsimp only
  refine wpAny_bind (wpAny_setField hit rfl (by simp) ?_)
  show wpAny _ _ (newExc (.type "StopIteration") [] >>= _) _ _ _
  refine wpAny_bind ?_
  simp only [newExc, newTuple]
  refine wpAny_bind (wpAny_newObj_type ?_ (by size_fits))
  refine wpAny_bind (m := firstArgMember _ _) (wpAny_of_eq (a := Value.none) (by first | rfl | (simp only [firstArgMember]; rfl)) ?_)
  refine wpAny_newObj_type ?_ (by size_fits)
  simp only [raiseNew]
  refine wpAny_bind (wpAny_handled ?_)
  rw [show A.in1.handled = none from hh]
  refine wpAny_bind (wpAny_pure (wpAny_throw ?_))
  refine wpAny_bind (wpAny_isInstance (T := "StopIteration") (b := true) ⟨_, Heap.get?_push_size _ rfl, rfl⟩ isSubtype_stop ?_)
  exact wpAny_pure (hQ _ (((Heap.SameBut.update ..).extBut.push _).push _))
theorem iter_c {it : Addr} {pool last : Value} {st : Int} {ix : List Nat} {Q : Value → Shared → Prop} (hit : s.heap.get? it = some (cObj pool last st ix)) (h : Q (.ref it) s) : wpAny (model prog w) A (pyIter (.ref it)) Q E s := by
  have hTy : s.TypeIs (.ref it) TC := ⟨_, hit, rfl⟩
  refine wpAny_pyIter_slot hTy slotIterC (wpAny_call_entry slotIterC hTy entryIterC ?_ (argsIterC _))
  show wpAny _ _ (ret (.ref it)) _ _ s
  exact wpAny_pure ⟨_, rfl, TC, _, hTy, slotNextC.lookup, h⟩
end
end Cb

set_option Elab.async false
set_option linter.all false
set_option maxRecDepth 100000
set_option maxHeartbeats 2000000
namespace Cb
open PySem PySem.Spec PyProof.Rows L2
/-- what rows of places come behind one -/
inductive Seq (n : Nat) : List Nat → List (List Nat) → Prop
  | stop {ix : List Nat} : nxt n ix = none → Seq n ix []
  | step {ix iy : List Nat} {rest : List (List Nat)} : nxt n ix = some iy → Seq n iy rest → Seq n ix (iy :: rest)
/-- how the object stands: these rows are to come -/
def St (h : Heap) (it T : Addr) (n : Nat) (rows : List (List Nat)) : Prop :=
  ∃ last ix, (h.get? it = some (cObj (.ref T) last 0 ix) ∧ ∃ rest, rows = ix :: rest ∧ Seq n ix rest) ∨ (h.get? it = some (cObj (.ref T) last 1 ix) ∧ Seq n ix rows)
theorem St.typed {s : Shared} {it T : Addr} {n : Nat} {rows : List (List Nat)} (x : St s.heap it T n rows) : s.TypeIs (.ref it) TC := by
  obtain ⟨last, ix, ⟨e, _⟩ | ⟨e, _⟩⟩ := x
  · exact ⟨_, e, rfl⟩
  · exact ⟨_, e, rfl⟩
theorem St.at' {h h' : Heap} {it T : Addr} {n : Nat} {rows : List (List Nat)} (x : St h it T n rows) (k : ∀ o, h.get? it = some o → h'.get? it = some o) : St h' it T n rows := by
  obtain ⟨last, ix, ⟨e, r⟩ | ⟨e, r⟩⟩ := x
  · exact ⟨last, ix, .inl ⟨k _ e, r⟩⟩
  · exact ⟨last, ix, .inr ⟨k _ e, r⟩⟩
theorem St.lt {h : Heap} {it T : Addr} {n : Nat} {rows : List (List Nat)} (x : St h it T n rows) : it < h.objs.size := by
  obtain ⟨last, ix, ⟨e, _⟩ | ⟨e, _⟩⟩ := x
  · exact Heap.lt_size e
  · exact Heap.lt_size e
section
variable {prog : Program} {w : World} {A : Around} {E : Value → Shared → Prop} {s : Shared}
theorem st_next {it T : Addr} {row : List Nat} {rows : List (List Nat)} {items : Array Value} {Q : Option Value → Shared → Prop} (x : St s.heap it T items.size (row :: rows)) (hT : s.heap.get? T = some (tupObj items)) (hne : T ≠ it) (hz : row.length ≤ 7)
    (hQ : ∀ h', St h' it T items.size rows → h'.get? s.heap.objs.size = some (picked items row) → h'.objs.size = s.heap.objs.size + 1 → (∀ b o, b ≠ it → s.heap.get? b = some o → h'.get? b = some o) → Q (some (.ref s.heap.objs.size)) { s with heap := h' }) :
    wpAny (model prog w) A (pyNext (.ref it)) Q E s := by
  obtain ⟨last, ix, ⟨e, rest, er, sq⟩ | ⟨e, sq⟩⟩ := x
  · cases er
    exact next_first e hT hne hz fun h' a1 a2 a3 a4 => hQ h' ⟨_, _, .inr ⟨a1, sq⟩⟩ a2 a3 a4
  · cases sq with
    | step hn sq => exact next_more e hT hne hz hn fun h' a1 a2 a3 a4 => hQ h' ⟨_, _, .inr ⟨a1, sq⟩⟩ a2 a3 a4
theorem st_end {it T : Addr} {items : Array Value} {Q : Option Value → Shared → Prop} (hh : A.handled = none) (x : St s.heap it T items.size []) (hT : s.heap.get? T = some (tupObj items))
    (hQ : ∀ h', Heap.ExtBut it s.heap h' → Q none { s with heap := h' }) : wpAny (model prog w) A (pyNext (.ref it)) Q E s := by
  obtain ⟨last, ix, ⟨e, rest, er, sq⟩ | ⟨e, sq⟩⟩ := x
  · cases er
  · cases sq with
    | stop hn => exact next_end hh e hT hn hQ
theorem st_iter {it T : Addr} {n : Nat} {rows : List (List Nat)} {Q : Value → Shared → Prop} (x : St s.heap it T n rows) (h : Q (.ref it) s) : wpAny (model prog w) A (pyIter (.ref it)) Q E s := by
  obtain ⟨last, ix, ⟨e, _⟩ | ⟨e, _⟩⟩ := x
  · exact iter_c e h
  · exact iter_c e h
end
/-- the tuples made so far -/
structure Made (items : Array Value) (lo : Addr) (h : Heap) (as : List Addr) (rows : List (List Nat)) : Prop where
  rise : as.Pairwise (· < ·)
  above : ∀ a ∈ as, lo ≤ a
  pairs : Paired (fun (a : Addr) (row : List Nat) => h.get? a = some (picked items row)) as rows
theorem paired_snoc {α β : Type} {F : α → β → Prop} {a : α} {b : β} (h : F a b) : ∀ {as : List α} {bs : List β}, Paired F as bs → Paired F (as ++ [a]) (bs ++ [b])
  | _, _, .nil => .cons h .nil
  | _, _, .cons r t => .cons r (paired_snoc h t)
theorem paired_of_mem {α β : Type} {F G : α → β → Prop} : ∀ {as : List α} {bs : List β}, Paired F as bs → (∀ a ∈ as, ∀ b, F a b → G a b) → Paired G as bs
  | _, _, .nil, _ => .nil
  | _, _, .cons r t, f => .cons (f _ List.mem_cons_self _ r) (paired_of_mem t fun a ha => f a (List.mem_cons_of_mem _ ha))
theorem Made.there {items : Array Value} {lo : Addr} {h : Heap} {as : List Addr} {rows : List (List Nat)} (m : Made items lo h as rows) : ∀ a ∈ as, a < h.objs.size := fun a ha => by
  obtain ⟨j, y, _, _, e⟩ := LiI.paired_ix m.pairs ha
  exact Heap.lt_size e
theorem Made.keep {items : Array Value} {lo : Addr} {h h' : Heap} {as : List Addr} {rows : List (List Nat)} (m : Made items lo h as rows) (k : ∀ a ∈ as, ∀ o, h.get? a = some o → h'.get? a = some o) : Made items lo h' as rows :=
  ⟨m.rise, m.above, paired_of_mem m.pairs fun a ha b e => k a ha _ e⟩
abbrev lstObj (acc : Array Value) (c : Nat) : Obj := { cls := .type "list", dict := none, data := .seq acc c, slots := #[] }
section
variable {prog : Program} {w : World} {A : Around} {s : Shared} {G : Result → Shared → Prop} {items : Array Value}
theorem loop_c {S I T : Addr} {lo : Addr} (hh : A.handled = none) (hSI : S ≠ I) (hTS : T ≠ S) (hTI : T ≠ I) (hlo : S < lo) (hloI : I < lo) (res : Value) {h₁ : Heap} {all : List (List Nat)} (hall : all.length ≤ sizeLine) (hr : ∀ row ∈ all, row.length ≤ 7)
    (hG : ∀ h' tk acc c as, (∀ b o, b ≠ S → b ≠ I → h₁.get? b = some o → h'.get? b = some o) → h'.get? S = some (lstObj acc c) → Made items lo h' as all → acc.toList = as.map Value.ref → G (.ok (.ret res)) { s with heap := h', toks := tk }) :
    ∀ (rows done : List (List Nat)) (h : Heap) (tk c : Nat) (acc : Array Value) (as : List Addr), all = done ++ rows → St h I T items.size rows → h.get? T = some (tupObj items) → (∀ b o, b ≠ S → b ≠ I → h₁.get? b = some o → h.get? b = some o) →
      h.get? S = some (lstObj acc c) → acc.toList = as.map Value.ref → Made items lo h as done → lo ≤ h.objs.size →
      codeAny (model prog w) A (.builtin "list.extend.loop" ⟨[.ref S, .ref I, res], []⟩) G { s with heap := h, toks := tk } := by
  intro rows
  induction rows with
  | nil =>
    intro done h tk c acc as ha x hT hk hS hacc m hl
    rw [List.append_nil] at ha
    refine codeAny_builtin F.entry_extend_loop ?_
    rw [Around.under_plainId F.plain_extend_loop _]
    show wpAny _ A.in1 (pyNext (.ref I) >>= _) _ _ _
    refine wpAny_bind (st_end (s := { s with heap := h, toks := tk }) (A := A.in1) hh x hT fun h' he => ?_)
    refine wpAny_pure (hG h' tk acc c as (fun b o h1 h2 e => he b o h2 (hk b o h1 h2 e)) (he S _ hSI hS) ?_ hacc)
    rw [ha]
    exact m.keep fun a hm o e => he a o (Nat.ne_of_gt (Nat.lt_of_lt_of_le hloI (m.above a hm))) e
  | cons row rows ih =>
    intro done h tk c acc as ha x hT hk hS hacc m hl
    have hrow : row.length ≤ 7 := hr row (by rw [ha]; simp)
    have hlen : acc.size = done.length := by
      rw [← Array.length_toList, hacc, List.length_map]
      exact Paired.length m.pairs
    have hlt : done.length < sizeLine := by
      have z : all.length = done.length + (rows.length + 1) := by rw [ha, List.length_append, List.length_cons]
      omega
    refine codeAny_builtin F.entry_extend_loop ?_
    rw [Around.under_plainId F.plain_extend_loop _]
    show wpAny _ A.in1 (pyNext (.ref I) >>= _) _ _ _
    refine wpAny_bind (st_next (s := { s with heap := h, toks := tk }) x hT hTI hrow fun h' x' ht hz hkp => ?_)
    dsimp only at ht hz hkp ⊢
    have hS' := hkp S _ hSI hS
    have up : ∀ b o, b ≠ S → h'.get? b = some o → (h'.update S (Obj.mapSeq (·.push (Value.ref h.objs.size)))).get? b = some o := fun b o hb e => (Heap.get?_update_other _ _ (Ne.symm hb)).trans e
    have hSl : S < h.objs.size := Heap.lt_size hS
    have hnS : h.objs.size ≠ S := Nat.ne_of_gt hSl
    show wpAny _ A.in1 (updateSeq S (·.push (Value.ref h.objs.size)) >>= _) _ _ _
    refine wpAny_bind ?_
    refine wpAny_updateSeq hS' rfl (wpAny_pure ⟨plainId_quiet F.plain_extend_loop _, ih (done ++ [row]) _ tk _ (acc.push (Value.ref h.objs.size)) (as ++ [h.objs.size]) (by rw [ha, List.append_assoc]; rfl) (x'.at' fun o e => up I o (Ne.symm hSI) e)
      (up T _ hTS (hkp T _ hTI hT)) (fun b o h1 h2 e => up b o h1 (hkp b o h2 (hk b o h1 h2 e))) (Heap.get?_update_self _ hS' rfl) (by rw [Array.toList_push, hacc, List.map_append]; rfl) ⟨?_, ?_, ?_⟩ ?_⟩) (by omega) (by show (acc.push (Value.ref h.objs.size)).size ≤ sizeLine + 1; rw [Array.size_push]; omega)
    · refine List.pairwise_append.mpr ⟨m.rise, List.pairwise_singleton _ _, fun a ha' b hb => ?_⟩
      rw [List.mem_singleton.mp hb]
      exact m.there a ha'
    · intro a ha'
      rcases List.mem_append.mp ha' with z | z
      · exact m.above a z
      · rw [List.mem_singleton.mp z]
        exact hl
    · refine paired_snoc (F := fun (a : Addr) (row : List Nat) => (h'.update S (Obj.mapSeq (·.push (Value.ref h.objs.size)))).get? a = some (picked items row)) (up _ _ hnS ht) (paired_of_mem (F := fun (a : Addr) (row : List Nat) => h.get? a = some (picked items row)) m.pairs fun a hm b e => ?_)
      have hab := m.above a hm
      exact up a _ (Nat.ne_of_gt (Nat.lt_of_lt_of_le hlo hab)) (hkp a _ (Nat.ne_of_gt (Nat.lt_of_lt_of_le hloI hab)) e)
    · rw [Heap.size_update, hz]
      exact Nat.le_succ_of_le hl
end
section
variable {prog : Program} {w : World} {A : Around} {s : Shared} {G : Result → Shared → Prop} {items : Array Value}
theorem extend_c {S I T : Addr} (hh : A.handled = none) (hSI : S ≠ I) (hTS : T ≠ S) (hTI : T ≠ I) (res : Value) (c₀ : Nat) {all : List (List Nat)} (hall : all.length ≤ sizeLine) (hr : ∀ row ∈ all, row.length ≤ 7)
    (x : St s.heap I T items.size all) (hT : s.heap.get? T = some (tupObj items)) (hS : s.heap.get? S = some (lstObj #[] c₀))
    (hG : ∀ h' tk acc c as, (∀ b o, b ≠ S → b ≠ I → s.heap.get? b = some o → h'.get? b = some o) → h'.get? S = some (lstObj acc c) → Made items s.heap.objs.size h' as all → acc.toList = as.map Value.ref → G (.ok (.ret res)) { s with heap := h', toks := tk }) :
    wpAny (model prog w) A.in1 (Builtin.List.listExtendWith (.ref S) (.ref I) res)
      (fun fin s' => match fin with | .done f => G (.ok f) s' | .again c' => c'.quiet = true ∧ codeAny (model prog w) A c' G s') (fun e s' => G (.error e) s') s := by
  unfold Builtin.List.listExtendWith
  refine wpAny_bind (wpAny_typeOf x.typed ?_)
  have h1 : Builtin.List.listSameRef (.ref S) (.ref I) = false := by simp [Builtin.List.listSameRef, hSI]
  have h2 : (Value.type TC == Value.type "list") = false := by decide
  have h3 : (Value.type TC == Value.type "tuple") = false := by decide
  simp only [h1, h2, h3, Bool.or_false, Bool.false_eq_true, if_false]
  refine wpAny_bind (st_iter x ?_)
  refine wpAny_bind (wpAny_holding ?_)
  unfold Builtin.List.listLengthHint
  refine wpAny_bind (wpAny_specialOf x.typed noLenC ?_)
  show wpAny _ A.in1 (specialOf (Value.ref I) (Str.ofString "__length_hint__") >>= _) _ _ _
  refine wpAny_bind (wpAny_specialOf x.typed noHintC ?_)
  refine wpAny_pure ?_
  show wpAny _ A.in1 (rule "list.extend.makes-room" >>= fun _ => Builtin.List.listTouch (.ref S) >>= fun _ => again (.builtin "list.extend.loop" ⟨[.ref S, .ref I, res], []⟩)) _ _ _
  refine wpAny_bind (wpAny_rule ?_)
  refine wpAny_bind ?_
  show wpAny _ A.in1 (updateSeq S (·.push .none) >>= fun _ => updateSeq S (·.pop)) _ _ _
  refine wpAny_bind (wpAny_updateSeq hS rfl ?_)
  have hS₂ := Heap.get?_update_self (Obj.mapSeq (·.push Value.none)) hS rfl
  refine wpAny_updateSeq (hz := by seq_fits) hS₂ rfl ?_
  have hS₃ := Heap.get?_update_self (Obj.mapSeq (·.pop)) hS₂ rfl
  have oth : ∀ b o, b ≠ S → s.heap.get? b = some o → ((s.heap.update S (Obj.mapSeq (·.push Value.none))).update S (Obj.mapSeq (·.pop))).get? b = some o :=
    fun b o hb e => (Heap.get?_update_other _ _ (Ne.symm hb)).trans ((Heap.get?_update_other _ _ (Ne.symm hb)).trans e)
  refine wpAny_pure ⟨plainId_quiet F.plain_extend_loop _, loop_c (lo := s.heap.objs.size) hh hSI hTS hTI (Heap.lt_size hS) x.lt res hall hr (h₁ := s.heap) hG all [] _ s.toks _ #[] [] rfl (x.at' fun o e => oth I o (Ne.symm hSI) e) (oth T _ hTS hT) (fun b o h1 _ e => oth b o h1 e) hS₃ rfl ⟨List.Pairwise.nil, (fun a ha => by cases ha), Paired.nil⟩ ?_⟩
  rw [Heap.size_update, Heap.size_update]
  exact Nat.le_refl _
end
section
variable {prog : Program} {w : World} {A : Around} {E : Value → Shared → Prop} {s : Shared} {items : Array Value}
/-- list(it) -/
theorem list_c {I T : Addr} {all : List (List Nat)} {Q : Value → Shared → Prop} (hh : A.handled = none) (hTI : T ≠ I) (hall : all.length ≤ sizeLine) (hr : ∀ row ∈ all, row.length ≤ 7)
    (x : St s.heap I T items.size all) (hT : s.heap.get? T = some (tupObj items))
    (hQ : ∀ h' tk acc c as, (∀ b o, b ≠ I → s.heap.get? b = some o → h'.get? b = some o) → h'.get? s.heap.objs.size = some (lstObj acc c) → Made items (s.heap.objs.size + 1) h' as all → acc.toList = as.map Value.ref → Q (.ref s.heap.objs.size) { s with heap := h', toks := tk }) :
    wpAny (model prog w) A (call (.type "list") [.ref I]) Q E s := by
  refine callType_codes (Q₁ := fun obj s₁ => obj = .ref s.heap.objs.size ∧ s₁ = { s with heap := s.heap.push { cls := .type "list", data := .seq #[] } }) F.called_list (F.typeCall_list_1 _) F.entry_list_init
    (code_list_new _ ⟨rfl, rfl⟩) fun obj s₁ h₁ => ?_
  obtain ⟨rfl, rfl⟩ := h₁
  have hS : (s.heap.push { cls := .type "list", data := .seq #[] }).get? s.heap.objs.size = some { cls := .type "list", data := .seq #[] } := Heap.get?_push_size _ rfl
  have hz : (s.heap.push { cls := .type "list", data := .seq #[] }).objs.size = s.heap.objs.size + 1 := Heap.size_push ..
  have nI : s.heap.objs.size ≠ I := Nat.ne_of_gt x.lt
  have nT : T ≠ s.heap.objs.size := Nat.ne_of_lt (Heap.lt_size hT)
  refine ⟨⟨_, hS, rfl⟩, F.args_list_init_2 _ _, ?_⟩
  show wpAny _ A.in1.in1 (do let old ← Builtin.List.listItems (.ref s.heap.objs.size); Builtin.List.listUpdate (.ref s.heap.objs.size) (fun _ => #[]); letGo old.toList.reverse; Builtin.List.listExtendWith (.ref s.heap.objs.size) (.ref I) .none) _ _ _
  refine wpAny_bind ?_
  unfold Builtin.List.listItems
  refine wpAny_bind (wpAny_seqItems hS rfl (wpAny_pure ?_))
  show wpAny _ A.in1.in1 (updateSeq s.heap.objs.size (fun _ => #[]) >>= fun _ => letGo (#[] : Array Value).toList.reverse >>= fun _ => Builtin.List.listExtendWith (.ref s.heap.objs.size) (.ref I) .none) _ _ _
  refine wpAny_bind (wpAny_updateSeq hS rfl ?_)
  have hS₂ := Heap.get?_update_self (Obj.mapSeq (fun _ => (#[] : Array Value))) hS rfl
  have oth : ∀ b o, b ≠ s.heap.objs.size → s.heap.get? b = some o → ((s.heap.push { cls := .type "list", data := .seq #[] }).update s.heap.objs.size (Obj.mapSeq (fun _ => (#[] : Array Value)))).get? b = some o :=
    fun b o hb e => (Heap.get?_update_other _ _ (Ne.symm hb)).trans (Heap.get?_push_of_some _ e)
  have hz2 : ((s.heap.push { cls := .type "list", data := .seq #[] }).update s.heap.objs.size (Obj.mapSeq (fun _ => (#[] : Array Value)))).objs.size = s.heap.objs.size + 1 := by rw [Heap.size_update, hz]
  refine wpAny_bind (wpAny_letGo ?_)
  refine extend_c (A := A.in1) (s := { s with heap := (s.heap.push { cls := .type "list", data := .seq #[] }).update s.heap.objs.size (Obj.mapSeq (fun _ => (#[] : Array Value))) }) hh nI nT hTI .none _ hall hr (x.at' fun o e => oth I o (Ne.symm nI) e) (oth T _ nT hT) hS₂ fun h' tk acc c as a1 a2 a3 a4 => ⟨rfl, ?_⟩
  rw [show ({ s with heap := (s.heap.push { cls := .type "list", data := .seq #[] }).update s.heap.objs.size (Obj.mapSeq (fun _ => (#[] : Array Value))) } : Shared).heap.objs.size = s.heap.objs.size + 1 from hz2] at a3
  exact hQ h' tk acc c as (fun b o hb e => a1 b o (Nat.ne_of_lt (Heap.lt_size e)) hb (oth b o (Nat.ne_of_lt (Heap.lt_size e)) e)) a2 a3 a4
end
end Cb

set_option Elab.async false
set_option linter.all false
set_option maxRecDepth 100000
set_option maxHeartbeats 2000000
namespace Cb
open PySem PySem.Spec PyProof.Rows L2
/-- the rows of r places of a pool, ascending -/
def combsOf : List Nat → Nat → List (List Nat)
  | _, 0 => [[]]
  | [], _ + 1 => []
  | x :: xs, r + 1 => (combsOf xs r).map (x :: ·) ++ combsOf xs (r + 1)
def combs (n r : Nat) : List (List Nat) := combsOf (List.range n) r
def seqB (n : Nat) : List Nat → List (List Nat) → Bool
  | ix, [] => nxt n ix == none
  | ix, iy :: rest => nxt n ix == some iy && seqB n iy rest
theorem seq_of : ∀ {n : Nat} {rest : List (List Nat)} {ix : List Nat}, seqB n ix rest = true → Seq n ix rest
  | n, [], ix, h => .stop (by simpa [seqB] using h)
  | n, iy :: rest, ix, h => by
    unfold seqB at h
    rw [Bool.and_eq_true] at h
    exact .step (by simpa using h.1) (seq_of h.2)
def combsB (n r : Nat) : Bool := match combs n r with
  | [] => false
  | ix :: rest => ix == List.range r && seqB n ix rest && decide ((ix :: rest).length ≤ 128) && (ix :: rest).all fun l => decide (l.length ≤ 7)
theorem combs_all : ((List.range 8).all fun n => (List.range (n + 1)).all fun r => combsB n r) = true := by decide +kernel
theorem combs_ok {n r : Nat} (hr : r ≤ n) (hn : n ≤ 7) : ∃ rest, combs n r = List.range r :: rest ∧ Seq n (List.range r) rest ∧ (combs n r).length ≤ 128 ∧ ∀ l ∈ combs n r, l.length ≤ 7 := by
  have h1 := List.all_eq_true.mp combs_all n (List.mem_range.mpr (by omega))
  have h2 := List.all_eq_true.mp h1 r (List.mem_range.mpr (by omega))
  unfold combsB at h2
  cases e : combs n r with
  | nil => rw [e] at h2; cases h2
  | cons ix rest =>
    rw [e] at h2
    dsimp only at h2
    rw [Bool.and_eq_true, Bool.and_eq_true, Bool.and_eq_true] at h2
    obtain ⟨⟨⟨a1, a2⟩, a3⟩, a4⟩ := h2
    have e1 : ix = List.range r := by simpa using a1
    subst e1
    exact ⟨rest, rfl, seq_of a2, of_decide_eq_true a3, fun l hl => of_decide_eq_true (List.all_eq_true.mp a4 l hl)⟩
theorem combsOf_sub : ∀ {pool : List Nat} {r : Nat} {l : List Nat}, l ∈ combsOf pool r ↔ l.Sublist pool ∧ l.length = r
  | pool, 0, l => by
    have e : combsOf pool 0 = [[]] := by cases pool <;> rfl
    rw [e]
    constructor
    · intro h
      rw [List.mem_singleton.mp h]
      exact ⟨List.nil_sublist _, rfl⟩
    · intro h
      rw [List.eq_nil_of_length_eq_zero h.2]
      exact List.mem_singleton.mpr rfl
  | [], r + 1, l => by
    show l ∈ ([] : List (List Nat)) ↔ _
    constructor
    · intro h; cases h
    · intro h
      have := List.sublist_nil.mp h.1
      subst this
      cases h.2
  | x :: xs, r + 1, l => by
    show l ∈ (combsOf xs r).map (x :: ·) ++ combsOf xs (r + 1) ↔ _
    rw [List.mem_append, List.mem_map, combsOf_sub (pool := xs) (r := r + 1)]
    constructor
    · rintro (⟨m, hm, rfl⟩ | h)
      · have q := combsOf_sub.mp hm
        exact ⟨q.1.cons_cons x, by rw [List.length_cons, q.2]⟩
      · exact ⟨h.1.cons x, h.2⟩
    · rintro ⟨h, hl⟩
      cases h with
      | cons _ h => exact .inr ⟨h, hl⟩
      | cons_cons _ h => exact .inl ⟨_, combsOf_sub.mpr ⟨h, by simpa using hl⟩, rfl⟩
/-- a lot as values -/
abbrev lotV (l : List Nat) : List V := l.map fun (i : Nat) => V.int i
/-- rows of places of a pool, by what stands there -/
theorem combsOf_map (f : Nat → Nat) : ∀ (pool : List Nat) (r : Nat), combsOf (pool.map f) r = (combsOf pool r).map (·.map f)
  | pool, 0 => by
    cases pool <;> rfl
  | [], r + 1 => rfl
  | x :: xs, r + 1 => by
    show (combsOf (xs.map f) r).map (f x :: ·) ++ combsOf (xs.map f) (r + 1) = ((combsOf xs r).map (x :: ·) ++ combsOf xs (r + 1)).map (·.map f)
    rw [combsOf_map f xs r, combsOf_map f xs (r + 1), List.map_append, List.map_map, List.map_map]
    rfl
theorem pool_map (pool : List Nat) : (List.range pool.length).map (pool.getD · 0) = pool := by
  apply List.ext_getElem?
  intro i
  rw [List.getElem?_map]
  by_cases h : i < pool.length
  · rw [List.getElem?_range h, List.getElem?_eq_getElem h]
    simp [List.getD_eq_getElem?_getD, List.getElem?_eq_getElem h]
  · rw [List.getElem?_eq_none (by rw [List.length_range]; omega), List.getElem?_eq_none (by omega)]
    rfl
theorem combsOf_pool (pool : List Nat) (r : Nat) : combsOf pool r = (combs pool.length r).map (·.map (pool.getD · 0)) := by
  unfold combs
  rw [← combsOf_map, pool_map]
theorem paired_map_right {α β γ : Type} {F : α → γ → Prop} (f : β → γ) : ∀ {as : List α} {bs : List β}, Paired (fun a b => F a (f b)) as bs → Paired F as (bs.map f)
  | _, _, .nil => .nil
  | _, _, .cons r t => .cons r (paired_map_right f t)
theorem picked_vals {pool : List Nat} {acc : List Value} (hi : Vals (lotV pool) acc) : ∀ {l : List Nat}, (∀ i ∈ l, i < pool.length) → Vals (lotV (l.map (pool.getD · 0))) (l.map fun i => acc.toArray.getD i .none)
  | [], _ => .nil
  | i :: l, h => by
    have hip : i < pool.length := h i List.mem_cons_self
    refine Paired.cons ?_ (picked_vals hi fun j hj => h j (List.mem_cons_of_mem _ hj))
    have e1 : (lotV pool)[i]? = some (.int (pool[i] : Nat)) := by rw [List.getElem?_map, List.getElem?_eq_getElem hip]; rfl
    obtain ⟨v, hv, rv⟩ := LiI.paired_get hi e1
    have e2 : acc.toArray.getD i .none = v := by
      rw [Array.getD_eq_getD_getElem?, List.getElem?_toArray, hv]
      rfl
    have e3 : pool.getD i 0 = pool[i] := by rw [List.getD_eq_getElem?_getD, List.getElem?_eq_getElem hip]; rfl
    show RelV (V.int ((pool.getD i 0 : Nat) : Int)) (acc.toArray.getD i .none)
    rw [e2, e3]
    exact rv
theorem mem_lt_of_sub {n : Nat} {l : List Nat} (h : l.Sublist (List.range n)) : ∀ i ∈ l, i < n := fun i hi => List.mem_range.mp (h.subset hi)
/-- lots tracked at their addresses -/
def putL : Hp → List Addr → List (List Nat) → Hp
  | H, a :: as, l :: ls => putL (upd H a (.tup (lotV l))) as ls
  | H, _, _ => H
theorem putL_off {b : Addr} : ∀ (as : List Addr) (ls : List (List Nat)) (H : Hp), b ∉ as → putL H as ls b = H b
  | [], _, _, _ => rfl
  | _ :: _, [], _, _ => rfl
  | a :: as, l :: ls, H, h => by
    show putL (upd H a (.tup (lotV l))) as ls b = H b
    rw [putL_off as ls _ (fun z => h (List.mem_cons_of_mem _ z)), upd_ne (fun z => h (by rw [z]; exact List.mem_cons_self))]
theorem putL_at : ∀ (as : List Addr) (ls : List (List Nat)) (H : Hp), as.length = ls.length → as.Nodup → Paired (fun (t : Addr) (l : List Nat) => putL H as ls t = some (.tup (lotV l))) as ls
  | [], [], _, _, _ => .nil
  | [], _ :: _, _, h, _ => by cases h
  | _ :: _, [], _, h, _ => by cases h
  | a :: as, l :: ls, H, h, hn => by
    have hn' := List.nodup_cons.mp hn
    refine .cons ?_ (putL_at as ls (upd H a (.tup (lotV l))) (Nat.succ.inj h) hn'.2)
    show putL (upd H a (.tup (lotV l))) as ls a = some (.tup (lotV l))
    rw [putL_off as ls _ hn'.1, upd_same]
def tListComb (K : PySem.W.Frag) (ta tb : TE) : TE := fun σ H Q => ta σ H fun x H1 => tb σ H1 fun y H2 => ∃ (R : Addr) (pool : List Nat) (r : Nat), x = .ref R ∧ y = .int r ∧ H2 R = some (.lst (lotV pool)) ∧ r ≤ pool.length ∧ pool.length ≤ 7 ∧
  ∀ (H' : Hp) (p : Addr) (ts : List Addr), Same H2 H' → H2 p = none → (∀ t ∈ ts, H2 t = none) → p ∉ ts → H' p = some (.lst (ts.map V.ref)) → Paired (fun (t : Addr) (l : List Nat) => H' t = some (.tup (lotV l))) ts (combsOf pool r) → Q (.ref p) H'
section
variable {X : Cx} {a b : Expr} {ta tb : TE} {p0 p1 p2 pr pos : Pos}
theorem combs_laid {pins : List (Addr × Obj)} {σ : L2.St} {H : Hp} {s : Shared} {h' : Heap} {tk : Nat} {its : List Value} {acc : Array Value} {c r : Nat} {pool : List Nat} {as : List Addr} (I : Inv X pins σ H s) (hr : r ≤ pool.length) (hn : pool.length ≤ 7) (hi : Vals (lotV pool) its) (p : Addr) (hp : s.heap.objs.size ≤ p)
    (hk : ∀ b o, s.heap.get? b = some o → h'.get? b = some o) (hS : h'.get? p = some (lstObj acc c)) (hM : Made its.toArray (p + 1) h' as (combs pool.length r)) (hacc : acc.toList = as.map Value.ref) :
    ∃ H' : Hp, Same H H' ∧ H p = none ∧ (∀ t ∈ as, H t = none) ∧ p ∉ as ∧ H' p = some (.lst (as.map V.ref)) ∧ Paired (fun (t : Addr) (l : List Nat) => H' t = some (.tup (lotV l))) as (combsOf pool r) ∧ Inv X pins σ H' { s with heap := h', toks := tk } := by
  obtain ⟨rest, _, _, hlen, hrow⟩ := combs_ok hr hn
  have lk : as.length = (combs pool.length r).length := Paired.length hM.pairs
  have lkp : as.length = (combsOf pool r).length := by rw [combsOf_pool, List.length_map]; exact lk
  have hSn : p ∉ as := fun z => Nat.lt_irrefl _ (hM.above _ z)
  have nd : as.Nodup := List.Pairwise.imp (fun {a b} (h : a < b) => Nat.ne_of_lt h) hM.rise
  have new : ∀ t ∈ as, H t = none := fun t ht => I.hok.fresh (Nat.le_trans hp (Nat.le_of_succ_le (hM.above t ht)))
  have newS : H p = none := I.hok.fresh hp
  have atP := putL_at as (combsOf pool r) (upd H p (.lst (as.map V.ref))) lkp nd
  have off : ∀ b, b ∉ as → b ≠ p → putL (upd H p (.lst (as.map V.ref))) as (combsOf pool r) b = H b := fun b h1 h2 => by rw [putL_off as _ _ h1, upd_ne h2]
  have low : ∀ b o, s.heap.get? b = some o → b ∉ as ∧ b ≠ p := fun b o e => by
    have hl := Nat.lt_of_lt_of_le (Heap.lt_size e) hp
    exact ⟨fun z => Nat.lt_irrefl _ (Nat.lt_trans hl (hM.above b z)), Nat.ne_of_lt hl⟩
  have kp : ∀ b u, H b = some u → (putL (upd H p (.lst (as.map V.ref))) as (combsOf pool r)) b = some u := fun b u e => by
    rw [off b (fun z => by rw [new b z] at e; cases e) (fun z => by rw [z, newS] at e; cases e)]
    exact e
  have eS : putL (upd H p (.lst (as.map V.ref))) as (combsOf pool r) p = some (.lst (as.map V.ref)) := by rw [putL_off as _ _ hSn, upd_same]
  have hit : its.length = pool.length := by rw [← Paired.length hi, List.length_map]
  refine ⟨putL (upd H p (.lst (as.map V.ref))) as (combsOf pool r), kp, newS, new, hSn, eS, atP, ?_⟩
  refine I.call' (ch := []) rfl ⟨fun b o q _ _ _ => hk b o q, fun b o q _ _ _ => ⟨o.slots, hk b o q⟩, fun b o q n _ => ?_, fun b o q _ => ⟨o, hk b o q⟩, fun b xs q => kp b _ q, fun b o u q => kp b _ q, fun b ps q => ⟨#[], by rw [kp b _ q]; simp⟩⟩ (fun b u q => ?_) I.bare fun b z => by simp at z
  · obtain ⟨z1, z2⟩ := low b o q
    rw [off b z1 z2]
    exact n
  · by_cases hb : b ∈ as
    · obtain ⟨j, l, e1, e2, e3⟩ := LiI.paired_ix atP hb
      rw [e3] at q
      cases q
      obtain ⟨l', g1, g2⟩ := LiI.paired_get hM.pairs e1
      rw [combsOf_pool, List.getElem?_map, g1] at e2
      have e2' := Option.some.inj e2
      subst e2'
      have hm := List.mem_of_getElem? g1
      have hsub := (combsOf_sub.mp hm).1
      refine ⟨by rw [List.length_map, List.length_map]; have := hrow l' hm; rw [sizeLine_eq]; omega, (l'.map fun i => its.toArray.getD i .none), picked_vals hi (mem_lt_of_sub hsub), ?_⟩
      exact ⟨_, g2, rfl, _, rfl⟩
    · by_cases hb2 : b = p
      · rw [hb2] at q ⊢
        rw [eS] at q
        cases q
        refine ⟨by rw [List.length_map, sizeLine_eq]; omega, acc.toList, c, by rw [hacc]; exact LiI.vals_refs as, ?_⟩
        rw [Array.toArray_toList]
        exact hS
      · rw [off b hb hb2] at q
        exact (I.hok b u q).stay (fun d v _ y => hk d v y) (fun d y => kp d _ y) fun d xs y => kp d _ y
/-- list(combinations(l, b)), l a list -/
theorem pe_listComb (hc : X.calm = true) (ha : PE X a ta) (hb : PE X b tb) (hgl : Gl X "list") (hml : X.mg "list" = none) (hgc : Gl X "combinations") (hmc : X.mg "combinations" = some (.type TC))
    (n1 : starEach [.Call (.Name "combinations" p1) [a, b] [] p0] X.env = (false, eval (.Call (.Name "combinations" p1) [a, b] [] p0) X.env) :: starEach [] X.env := by rfl)
    (n2 : starEach [a, b] X.env = (false, eval a X.env) :: starEach [b] X.env := by rfl)
    (n4 : starEach [b] X.env = (false, eval b X.env) :: starEach [] X.env := by rfl) (n5 : (backTo p0 (starEach [b] X.env)).any (·.1) = false := by rfl) {pl : Pos} :
    PE X (.Call (.Name "list" pl) [.Call (.Name "combinations" p1) [a, b] [] p0] [] pos) (tListComb X.K ta tb) := by
  refine ⟨fun pins s σ H Q I h => ?_⟩
  refine Call_ (ld_blt I hgl hml boot_list (PyProof.Rows.callWith_type1 (args_cons ?_ n1) n1))
  refine Call_ (ld_glob I hgc hmc (PyProof.Rows.callWith_type1 (args_cons ?_ n2) n2 n5))
  refine thn (ha.run pins s σ H _ I h) fun v s1 ⟨x, H1, I1, r, q⟩ => ?_
  refine one_arg hb I1 q (fun v2 s2 y H2 I3 r2 q => ?_) n4
  obtain ⟨R, pool, r', rfl, rfl, hRt, hr, hn, q⟩ := q
  obtain ⟨t', rfl⟩ := r2
  cases r
  obtain ⟨hle, its, nn, hi, hR2⟩ := I3.hok _ _ hRt
  have hit : its.length = pool.length := by rw [← Paired.length hi, List.length_map]
  refine call_c (by rw [hit]; exact hr) (by rw [hit]; exact hn) ⟨_, hR2, rfl, _, rfl⟩ fun h1 hk => ?_
  refine args_nil ?_
  obtain ⟨rest, hcs, hsq, hlen, hrow⟩ := combs_ok hr hn
  have hz1 : (h1.push (tupObj its.toArray)).objs.size = h1.objs.size + 1 := Heap.size_push ..
  have gT : ((h1.push (tupObj its.toArray)).push (cObj (.ref h1.objs.size) .none 0 (List.range r'))).get? h1.objs.size = some (tupObj its.toArray) := Heap.get?_push_of_some _ (Heap.get?_push_size _ rfl)
  have gC : ((h1.push (tupObj its.toArray)).push (cObj (.ref h1.objs.size) .none 0 (List.range r'))).get? (h1.push (tupObj its.toArray)).objs.size = some (cObj (.ref h1.objs.size) .none 0 (List.range r')) := Heap.get?_push_size _ rfl
  have hz2 : ((h1.push (tupObj its.toArray)).push (cObj (.ref h1.objs.size) .none 0 (List.range r'))).objs.size = h1.objs.size + 2 := by rw [Heap.size_push, hz1]
  have hac : its.toArray.size = pool.length := by rw [List.size_toArray, hit]
  have I4 : Inv X pins σ H2 { s2 with heap := h1 } := I3.kept hk
  refine list_c (s := { s2 with heap := (h1.push (tupObj its.toArray)).push (cObj (.ref h1.objs.size) .none 0 (List.range r')) }) (items := its.toArray) (T := h1.objs.size) (all := combs pool.length r') (I3.ok.hd hc) (by rw [hz1]; exact Nat.ne_of_lt (Nat.lt_succ_self _)) (by rw [sizeLine_eq]; omega) hrow
    ⟨_, _, .inl ⟨gC, rest, hcs, by rw [hac]; exact hsq⟩⟩ gT fun h2 tk2 acc2 c as b1 b2 b3 b4 => ?_
  dsimp only at b1 b2 b3 ⊢
  have kk : ∀ b o, h1.get? b = some o → h2.get? b = some o := fun b o e => by
    have hl := Heap.lt_size e
    exact b1 b o (by rw [hz1]; exact Nat.ne_of_lt (Nat.lt_succ_of_lt hl)) (Heap.get?_push_of_some _ (Heap.get?_push_of_some _ e))
  obtain ⟨H', k1, k2, k3, k4, k5, k6, J⟩ := combs_laid (tk := tk2) I4 hr hn hi ((h1.push (tupObj its.toArray)).push (cObj (.ref h1.objs.size) .none 0 (List.range r'))).objs.size (by show h1.objs.size ≤ _; rw [hz2]; exact Nat.le_add_right _ _) kk b2 b3 b4
  exact ⟨.ref _, H', J, rfl, q H' _ as k1 k2 k3 k4 k5 k6⟩
end
end Cb

set_option Elab.async false
set_option linter.all false
set_option maxRecDepth 100000
set_option maxHeartbeats 2000000
/-! enumerate of a tuple, walked -/
namespace En
open PySem PySem.Spec PyProof.Rows L2
abbrev tIt (t : Addr) : Obj := { cls := .type "tuple_iterator", data := .fields #[.ref t, .int 0 0] }
abbrev eIt (it : Addr) : Obj := { cls := .type "enumerate", data := .fields #[.none, .bool false, .ref it, rawInt 0, .none, .none] }
theorem new_t (t : Addr) (items : Array Value) :
    Meets (Builtin.«enumerate.__new__» ⟨[.type "enumerate", .ref t], []⟩) (fun _ R s => s.heap.IsTuple t items ∧
      R (.ok (.ret (.ref (s.heap.push (tIt t)).objs.size))) { s with heap := (s.heap.push (tIt t)).push (eIt s.heap.objs.size) }) :=
  .of_wp fun prog w A R s h => by
    obtain ⟨hp, g, d, tk, os⟩ := s
    obtain ⟨h1, h⟩ := h
    have hsub := sub_enumerate
    have q1 : ∀ {A' : Around} {E : Value → Shared → Prop} {Q : Value → Shared → Prop}, Q (.ref hp.objs.size) ⟨hp.push (tIt t), g, d, tk, os⟩ → wpAny (model prog w) A' (pyIter (.ref t)) Q E ⟨hp, g, d, tk, os⟩ :=
      fun q => wpAny_pyIter_tuple (s := ⟨hp, g, d, tk, os⟩) h1 q
    wp_walk using q1
    refine wpAny_stack_any fun st => wpAny_pure ?_
    split
    · rename_i c _ _ _ _ _
      cases (c == Value.type "enumerate")
      · wp_walk using q1
        exact ⟨_, rfl, h⟩
      · wp_walk using q1
        exact ⟨_, rfl, h⟩
    · wp_walk using q1
      exact ⟨_, rfl, h⟩
section
variable {prog : Program} {w : World} {A : Around} {E : Value → Shared → Prop} {s : Shared}
theorem call_enum_tup {t : Addr} {items : Array Value} {Q : Value → Shared → Prop} (hT : s.heap.IsTuple t items)
    (h : ∀ h', IsEnum h' (s.heap.objs.size + 1) s.heap.objs.size 0 .none → h'.IsTupleIter s.heap.objs.size t 0 → (∀ b o, s.heap.get? b = some o → h'.get? b = some o) → Q (.ref (s.heap.objs.size + 1)) { s with heap := h' }) :
    wpAny (model prog w) A (call (.type "enumerate") [.ref t]) Q E s := by
  refine callType_new F.called_enumerate (by decide) (F.typeCall_enumerate_1 _) (F.newCall_enumerate_1 _) (fun obj => F.args_object_init_2 obj _) F.entry_enumerate_new (new_t t items) ⟨hT, ?_⟩
  have hz : (s.heap.push (tIt t)).objs.size = s.heap.objs.size + 1 := Heap.size_push ..
  show _ ∧ _
  rw [hz]
  have he : IsEnum ((s.heap.push (tIt t)).push (eIt s.heap.objs.size)) (s.heap.objs.size + 1) s.heap.objs.size 0 .none := by
    have z := Heap.get?_push_size (s.heap.push (tIt t)) (o := eIt s.heap.objs.size) rfl
    rw [hz] at z
    exact z
  exact ⟨⟨_, he, rfl⟩, h _ he ⟨_, Heap.get?_push_of_some _ (Heap.get?_push_size _ rfl), rfl, rfl⟩ fun b o x => Heap.get?_push_of_some _ (Heap.get?_push_of_some _ x)⟩
end
/-- the tuple at a as it stands at each turn, each item in a new pair -/
def IteT (K : PySem.W.Frag) (a : Addr) : It :=
  ⟨fun i H => ∃ (xs : List V) (x : V), SqT K H a xs ∧ xs[i]? = some x, fun i H v H' => ∃ T x, v = .ref T ∧ H T = none ∧ H' = upd H T (.tup [.int (i : Nat), x]) ∧ ∀ xs, SqT K H a xs → xs[i]? = some x, fun i H => ∃ xs : List V, SqT K H a xs ∧ xs.length = i⟩
theorem turn_enumT {P : Program} {w : World} {K : PySem.W.Frag} {elts : List Expr} {kk : Nat} {tpos : Pos} (a e it : Addr) :
    Turn P w K (.Tuple elts kk tpos) (IteT K a) [e, it] e (fun i h => (∃ old, IsEnum h e it ((i : Nat) : Int) old) ∧ h.IsTupleIter it a i ∧ e ≠ it) where
  mem := by simp
  obj := fun i h st b hb => by
    obtain ⟨⟨old, he⟩, ⟨o, ho, hc, hd⟩, _⟩ := st
    have e' : b = e ∨ b = it := by simpa using hb
    rcases e' with z | z
    · rw [z]; exact ⟨_, he, fun v q => nomatch q⟩
    · rw [z]; exact ⟨o, ho, fun v q => by rw [hd] at q; cases q⟩
  keep := fun i h h' st k => let ⟨⟨old, he⟩, hi, hne⟩ := st; ⟨⟨old, k e (by simp) _ he⟩, hi.at fun o q => k it (by simp) o q, hne⟩
  item := by
    intro X hP hw hK hc i pins s σ H E I hf st hg
    subst hP hw hK
    obtain ⟨⟨old, he⟩, hit, hne⟩ := st
    obtain ⟨xs, x, hq, hx⟩ := hg
    obtain ⟨its, rv, p, hz⟩ := I.tuple hq
    obtain ⟨u, hu, ru⟩ := rv.get hx
    have hel : e < s.heap.objs.size := Heap.lt_size he
    have hil : it < s.heap.objs.size := by obtain ⟨_, q, _⟩ := hit; exact Heap.lt_size q
    have hnt : a ≠ it := by
      rintro rfl
      obtain ⟨_, q, c1, _⟩ := hit
      obtain ⟨_, q', c2, _⟩ := p
      rw [q] at q'
      cases q'
      rw [c1] at c2
      exact absurd c2 (by decide)
    have hea : e ≠ a := by
      rintro rfl
      obtain ⟨_, q', c2, _⟩ := p
      rw [he] at q'
      cases q'
      exact absurd (show Value.type "enumerate" = Value.type "tuple" from c2) (by decide)
    have hui : its.toArray[i]? = some u := by simpa using hu
    have hlt : i < its.toArray.size := by
      rcases Nat.lt_or_ge i its.toArray.size with z | z
      · exact z
      · rw [Array.getElem?_eq_none z] at hui; cases hui
    refine wpAny_pyNext_enum_itemD (Draws.tuple (A := X.A.in1) (I.ok.hd hc) it a hnt its.toArray) he ⟨hit, p⟩ hlt hne (by simp [hne, hea]) fun u' h' tk hpu ho hst' hT hsz hk => ?_
    have eu : u' = u := Option.some.inj (hpu.symm.trans hui)
    subst eu
    refine ⟨_, rfl, wpAny_letOwnedTupleGo_enum (s := { s with heap := h', toks := tk + 1 }) ho fun h'' he' sb => ?_⟩
    have hT2 : h''.get? s.heap.objs.size = some { cls := .type "tuple", data := .seq #[.int i tk, u'] } := (sb.2 _ (Nat.ne_of_gt hel)).trans hT
    have new : ObjOk X.prog X.w (upd H s.heap.objs.size (.tup [.int (i : Nat), x])) h'' s.heap.objs.size (.tup [.int (i : Nat), x]) :=
      ⟨by show 2 ≤ sizeLine; decide, [.int i tk, u'], .cons ⟨_, rfl⟩ (.cons ru .nil), ⟨_, hT2, rfl, _, rfl⟩⟩
    have I1 : Inv X pins σ (upd H s.heap.objs.size (.tup [.int (i : Nat), x])) { s with heap := h'', toks := tk + 1 } :=
      I.turnedNew (ch := [e, it]) (fun b ob hb q => (sb.2 b (fun z => hb (by simp [z]))).trans (hk b ob (fun z => hb (by simp [z])) (fun z => hb (by simp [z])) q)) hf (Nat.le_refl _) new
    refine ⟨.ref s.heap.objs.size, _, I1, rfl, ⟨_, x, rfl, I.hok.fresh (Nat.le_refl _), rfl, fun ys hy => by rw [I.tuple_inj hy hq]; exact hx⟩, ⟨⟨u', ?_⟩, hst'.1.at fun o q => (sb.2 it (Ne.symm hne)).trans q, hne⟩, fun b hb => ?_⟩
    · have e1 : ((i + 1 : Nat) : Int) = (i : Int) + 1 := by omega
      rw [e1]; exact he'
    · have hb' : b < s.heap.objs.size := by
        have e' : b = e ∨ b = it := by simpa using hb
        rcases e' with z | z
        · rw [z]; exact hel
        · rw [z]; exact hil
      rw [upd_ne (Nat.ne_of_lt hb')]
      exact (hf b hb).1
  done := by
    intro X hP hw hK hc i pins s σ H E I hf st hg
    subst hP hw hK
    obtain ⟨⟨old, he⟩, hit, hne⟩ := st
    obtain ⟨xs, hq, hx⟩ := hg
    obtain ⟨its, rv, p, hz⟩ := I.tuple hq
    obtain ⟨f0, f1, f2, f3, f4, f5⟩ := hf it (by simp)
    have hl := rv.length
    have hnt : a ≠ it := by
      rintro rfl
      obtain ⟨_, q, c1, _⟩ := hit
      obtain ⟨_, q', c2, _⟩ := p
      rw [q] at q'
      cases q'
      rw [c1] at c2
      exact absurd c2 (by decide)
    have hi : i = its.toArray.size := by rw [List.size_toArray]; omega
    subst hi
    exact wpAny_pyNext_enum_endD (Draws.tuple (A := X.A.in1) (I.ok.hd hc) it a hnt its.toArray) he ⟨hit, p⟩ fun h' eb => ⟨rfl, I.turned (t' := s.toks) (fun b o hb q => eb b o hb q) f0 f1 f3 f4 f5⟩
  self := fun A i s Q E st h => let ⟨⟨_, he⟩, _⟩ := st; wpAny_pyIter_enum he h
def iEnumT (K : PySem.W.Frag) (ta : TA) : TI := fun σ H R => ta σ H fun vs H1 => ∃ a xs, vs = [.ref a] ∧ SqT K H1 a xs ∧ R (IteT K a) H1
theorem pi_enumT {X : Cx} {e : Expr} {ta : TA} {p pos tpos : Pos} {elts : List Expr} {kk : Nat} (hg : Gl X "enumerate") (hm : X.mg "enumerate" = none) (ha : PA X [e] ta) (hs : starEach [e] X.env = [(false, eval e X.env)] := by rfl) :
    PI X (.Tuple elts kk tpos) (.Call (.Name "enumerate" p) [e] [] pos) (iEnumT X.K ta) := by
  refine ⟨fun pins s σ H R I h => ?_⟩
  refine Call_ (ld_blt I hg hm boot_enumerate (PyProof.Rows.callWith_type1 (thn (ha.run pos pins s σ H _ I h) fun us s1 ⟨vs, H1, I1, r1, q1⟩ => ?_) hs rfl))
  obtain ⟨a, xs, ex, hq, q⟩ := q1
  subst ex
  cases r1 with
  | cons r rr =>
    cases rr
    cases r
    obtain ⟨its, rv, p', hz⟩ := I1.tuple hq
    refine call_enum_tup p' fun h' he hit hk => wpAny_pyIter_enum he ?_
    have I2 : Inv X pins σ H1 { s1 with heap := h' } := I1.kept (t' := s1.toks) hk
    refine ⟨s1.heap.objs.size + 1, [s1.heap.objs.size + 1, s1.heap.objs.size], _, _, H1, rfl, I2, turn_enumT a (s1.heap.objs.size + 1) s1.heap.objs.size, ⟨⟨.none, he⟩, hit, Nat.succ_ne_self _⟩, fun b hb => ?_, q⟩
    have e' : b = s1.heap.objs.size + 1 ∨ b = s1.heap.objs.size := by simpa using hb
    have hle : s1.heap.objs.size ≤ b := by
      rcases e' with z | z
      · rw [z]; exact Nat.le_add_right _ _
      · rw [z]; exact Nat.le_refl _
    exact I1.fpOk hle (I1.hok.fresh hle)
/-- a loop over enumerate(t) with a pair as target, by what holds between two turns -/
theorem for_enumT {K : PySem.W.Frag} {a : Addr} {xs : List V} {g : TG} {tb : TS} {D : Ends} {σ : L2.St} {H : Hp} (Pv : Nat → L2.St → Hp → Prop) (h0 : Pv 0 σ H) (hl : ∀ i σ H, i ≤ xs.length → Pv i σ H → SqT K H a xs)
    (hs : ∀ i x T σ H, xs[i]? = some x → Pv i σ H → H T = none → g (.ref T) σ (upd H T (.tup [.int (i : Nat), x])) fun σ2 H2 => tb { D with nx := Pv (i + 1), ct := Pv (i + 1), bk := D.nx } σ2 H2) (hd : ∀ σ H, Pv xs.length σ H → D.nx σ H) :
    ∃ W : Nat → Nat → L2.St → Hp → Prop, (∃ m, W 0 m σ H) ∧ ∀ i m σ H, W i m σ H →
      ((IteT K a).stop i H ∧ D.nx σ H) ∨ ((IteT K a).go i H ∧ ∃ N : L2.St → Hp → Prop, (∀ σ' H', N σ' H' → ∃ m', m' < m ∧ W (i + 1) m' σ' H') ∧ ∀ x H', (IteT K a).yld i H x H' → g x σ H' fun σ2 H2 => tb { D with nx := N, ct := N, bk := D.nx } σ2 H2) := by
  refine ⟨fun i m σ H => m = xs.length - i ∧ i ≤ xs.length ∧ Pv i σ H, ⟨xs.length, rfl, Nat.zero_le _, h0⟩, ?_⟩
  rintro i m σ H ⟨rfl, hi, p⟩
  have q := hl i σ H hi p
  by_cases hlt : i < xs.length
  · refine .inr ⟨⟨xs, xs[i], q, List.getElem?_eq_getElem hlt⟩, Pv (i + 1), fun σ' H' p' => ⟨xs.length - (i + 1), by omega, rfl, hlt, p'⟩, fun x H' y => ?_⟩
    obtain ⟨T, x, rfl, hT, rfl, hx⟩ := y
    exact hs i x T σ H (hx xs q) p hT
  · have e : i = xs.length := by omega
    subst e
    exact .inl ⟨⟨xs, q, rfl⟩, hd σ H p⟩
end En

set_option Elab.async false
set_option linter.all false
set_option maxRecDepth 100000
set_option maxHeartbeats 2000000
/-! what all the defs lean on -/
namespace N
open Cb (lotV combs combsOf combsOf_sub)
open PySem PySem.Spec PyProof.Rows L2
structure Def (K : PySem.W.Frag) (mg : Str → Option Value) (x : String) (st : Stmt) (ps : List Str) where
  f : Addr
  fd : FuncData
  F : Fun K x x st f fd
  g : mg x = some (.ref f)
  b : Binds K fd ps []
theorem Same.tup {K : PySem.W.Frag} {H H' : Hp} {a : Addr} {xs : List V} (e : Same H H') (h : SqT K H a xs) : SqT K H' a xs := by
  rcases h with (h | ⟨o, h⟩) | h
  · exact .inl (.inl (e _ _ h))
  · exact .inl (.inr ⟨o, e _ _ h⟩)
  · exact .inr h
theorem same_upd {H : Hp} {p : Addr} {o : HO} (h : H p = none) : Same H (upd H p o) := fun b x e => by
  rw [upd_ne (ne_of_none e h)]
  exact e
theorem SqT.up {K : PySem.W.Frag} {H : Hp} {a : Addr} {xs : List V} (h : H a = some (.tup xs)) : SqT K H a xs := .inl (.inl h)
theorem SqL.up {K : PySem.W.Frag} {H : Hp} {a : Addr} {xs : List V} (h : H a = some (.lst xs)) : SqL K H a xs := .inl (.inl h)
/-- a lot stands at a -/
def LotAt (K : PySem.W.Frag) (H : Hp) (a : Addr) (l : List Nat) : Prop := SqT K H a (lotV l)
theorem LotAt.same {K : PySem.W.Frag} {H H' : Hp} {a : Addr} {l : List Nat} (h : LotAt K H a l) (e : Same H H') : LotAt K H' a l := Same.tup e h
/-- a house stands at a -/
def HouseAt (K : PySem.W.Frag) (H : Hp) (a : Addr) (h : List (List Nat)) : Prop := ∃ rs : List Addr, SqT K H a (rs.map V.ref) ∧ Paired (fun r row => LotAt K H r row) rs h
theorem paired_mono {α β : Type} {F G : α → β → Prop} : ∀ {as : List α} {bs : List β}, Paired F as bs → (∀ a b, F a b → G a b) → Paired G as bs
  | _, _, .nil, _ => .nil
  | _, _, .cons r t, f => .cons (f _ _ r) (paired_mono t f)
theorem HouseAt.same {K : PySem.W.Frag} {H H' : Hp} {a : Addr} {h : List (List Nat)} (x : HouseAt K H a h) (e : Same H H') : HouseAt K H' a h := by
  obtain ⟨rs, h1, h2⟩ := x
  exact ⟨rs, Same.tup e h1, paired_mono h2 fun _ _ z => z.same e⟩
/-- a lot of n clerks -/
def LotOk (n : Nat) (l : List Nat) : Prop := l.Sublist (List.range n)
structure HouseOk (h : List (List Nat)) : Prop where
  lo : 1 ≤ h.length
  hi : h.length ≤ 7
  ok : ∀ row ∈ h, row ≠ [] ∧ LotOk h.length row
theorem LotOk.lt {n : Nat} {l : List Nat} (h : LotOk n l) : ∀ i ∈ l, i < n := fun i hi => List.mem_range.mp (h.subset hi)
theorem LotOk.len {n : Nat} {l : List Nat} (h : LotOk n l) : l.length ≤ n := by
  have := h.length_le
  rwa [List.length_range] at this
theorem LotOk.rise {n : Nat} {l : List Nat} (h : LotOk n l) : l.Pairwise (· < ·) := List.Pairwise.sublist h List.pairwise_lt_range
theorem get_lotV {l : List Nat} {i : Nat} {x : V} (h : (lotV l)[i]? = some x) : ∃ k, l[i]? = some k ∧ x = .int (k : Int) := by
  rw [List.getElem?_map] at h
  cases e : l[i]? with
  | none => rw [e] at h; cases h
  | some k => rw [e] at h; exact ⟨k, rfl, (Option.some.inj h).symm⟩
theorem get_refs {as : List Addr} {i : Nat} {x : V} (h : (as.map V.ref)[i]? = some x) : ∃ a, as[i]? = some a ∧ x = .ref a := by
  rw [List.getElem?_map] at h
  cases e : as[i]? with
  | none => rw [e] at h; cases h
  | some k => rw [e] at h; exact ⟨k, rfl, (Option.some.inj h).symm⟩
end N

set_option Elab.async false
set_option linter.all false
set_option maxRecDepth 100000
set_option maxHeartbeats 2000000
/-! more rules: bits of whole numbers, enumerate of a list -/
namespace N
open Cb (lotV combs combsOf combsOf_sub)
open PySem PySem.Spec PyProof.Rows L2
section
variable {X : Cx}
theorem ip_orN : PIp X .BitOr (fun x y H Q => ∃ m n : Nat, x = .int m ∧ y = .int n ∧ Q (.int ((m ||| n : Nat) : Int)) H) := by
  intro pins s σ H x y v u Q I r1 r2 h
  obtain ⟨m, n, e1, e2, q⟩ := h
  subst e1; subst e2
  obtain ⟨t, rfl⟩ := r1
  obtain ⟨t', rfl⟩ := r2
  have e : Builtin.bitOr (m : Int) (n : Int) = ((m ||| n : Nat) : Int) := by
    rw [bitOr_nn (Int.natCast_nonneg _) (Int.natCast_nonneg _), Int.toNat_natCast, Int.toNat_natCast]
  refine ior_int ?_
  rw [e]
  exact ⟨.int ((m ||| n : Nat) : Int), H, I.tok _, ⟨_, rfl⟩, q⟩
theorem op_orN : OpR X (binaryOp .BitOr) (fun x y H Q => ∃ m n : Nat, x = .int m ∧ y = .int n ∧ Q (.int ((m ||| n : Nat) : Int)) H) := by
  intro pins s σ H x y v u Q I r1 r2 h
  obtain ⟨m, n, e1, e2, q⟩ := h
  refine op_or pins s σ H x y v u Q I r1 r2 ⟨m, n, e1, e2, ?_⟩
  show Q (.int (Builtin.bitOr (m : Int) (n : Int))) H
  rw [bitOr_nn (Int.natCast_nonneg _) (Int.natCast_nonneg _), Int.toNat_natCast, Int.toNat_natCast]
  exact q
theorem op_andN : OpR X (binaryOp .BitAnd) (fun x y H Q => ∃ m n : Nat, x = .int m ∧ y = .int n ∧ Q (.int ((m &&& n : Nat) : Int)) H) := by
  intro pins s σ H x y v u Q I r1 r2 h
  obtain ⟨m, n, e1, e2, q⟩ := h
  refine op_and pins s σ H x y v u Q I r1 r2 ⟨m, n, e1, e2, ?_⟩
  show Q (.int (Builtin.bitAnd (m : Int) (n : Int))) H
  rw [show Builtin.bitAnd (m : Int) (n : Int) = ((m &&& n : Nat) : Int) by simp [Builtin.bitAnd]]
  exact q
theorem op_shl1 : OpR X (binaryOp .LShift) (fun x y H Q => ∃ n : Nat, x = .int 1 ∧ y = .int n ∧ n ≤ 1000 ∧ Q (.int ((2 ^ n : Nat) : Int)) H) := by
  intro pins s σ H x y v u Q I r1 r2 h
  obtain ⟨n, e1, e2, hn, q⟩ := h
  refine op_shl pins s σ H x y v u Q I r1 r2 ⟨1, n, e1, e2, ⟨Int.natCast_nonneg _, by omega, by decide⟩, ?_⟩
  show Q (.int (1 * 2 ^ (n : Int).toNat)) H
  rw [Int.toNat_natCast, Int.one_mul]
  have e : ((2 : Int) ^ n) = ((2 ^ n : Nat) : Int) := by rw [Int.natCast_pow]; rfl
  rw [e]
  exact q
end
/-- a loop over enumerate(l), l a list that stands still -/
theorem for_enumL {K : PySem.W.Frag} {a : Addr} {xs : List V} {g : TG} {tb : TS} {D : Ends} {σ : L2.St} {H : Hp} (Pv : Nat → L2.St → Hp → Prop) (h0 : Pv 0 σ H) (hl : ∀ i σ H, i ≤ xs.length → Pv i σ H → SqL K H a xs)
    (hs : ∀ i x T σ H, xs[i]? = some x → Pv i σ H → H T = none → g (.ref T) σ (upd H T (.tup [.int (i : Nat), x])) fun σ2 H2 => tb { D with nx := Pv (i + 1), ct := Pv (i + 1), bk := D.nx } σ2 H2) (hd : ∀ σ H, Pv xs.length σ H → D.nx σ H) :
    ∃ W : Nat → Nat → L2.St → Hp → Prop, (∃ m, W 0 m σ H) ∧ ∀ i m σ H, W i m σ H →
      ((Ite K a).stop i H ∧ D.nx σ H) ∨ ((Ite K a).go i H ∧ ∃ N : L2.St → Hp → Prop, (∀ σ' H', N σ' H' → ∃ m', m' < m ∧ W (i + 1) m' σ' H') ∧ ∀ x H', (Ite K a).yld i H x H' → g x σ H' fun σ2 H2 => tb { D with nx := N, ct := N, bk := D.nx } σ2 H2) := by
  refine ⟨fun i m σ H => m = xs.length - i ∧ i ≤ xs.length ∧ Pv i σ H, ⟨xs.length, rfl, Nat.zero_le _, h0⟩, ?_⟩
  rintro i m σ H ⟨rfl, hi, p⟩
  have q := hl i σ H hi p
  by_cases hlt : i < xs.length
  · refine .inr ⟨⟨xs, xs[i], q, List.getElem?_eq_getElem hlt⟩, Pv (i + 1), fun σ' H' p' => ⟨xs.length - (i + 1), by omega, rfl, hlt, p'⟩, fun x H' y => ?_⟩
    obtain ⟨T, x, rfl, hT, rfl, hx⟩ := y
    exact hs i x T σ H (hx xs q) p hT
  · have e : i = xs.length := by omega
    subst e
    exact .inl ⟨⟨xs, q, Nat.le_refl _⟩, hd σ H p⟩
theorem tt_if {A B : Hp → Prop} {H : Hp} (h : A H) : (fun (b : Bool) (H3 : Hp) => if b = true then A H3 else B H3) true H := by
  show (if true = true then A H else B H)
  rw [if_pos rfl]
  exact h
theorem ff_if {A B : Hp → Prop} {H : Hp} (h : B H) : (fun (b : Bool) (H3 : Hp) => if b = true then A H3 else B H3) false H := by
  show (if false = true then A H else B H)
  rw [if_neg Bool.false_ne_true]
  exact h
/-! ### rules with the written part named, for use within a comprehension -/
theorem c_len (K : PySem.W.Frag) {X : Cx} (hK : X.K = K := by rfl) : CallR X (.builtin "len") (fun xs H Q => ∃ p ys, xs = [.ref p] ∧ (SqL K H p ys ∨ SqT K H p ys) ∧ Q (.int ys.length) H) := by
  subst hK
  exact call_len_seq
theorem x_list (K : PySem.W.Frag) {X : Cx} (hK : X.K = K := by rfl) : IxR X (rIxL K) := by
  subst hK
  exact ix_list
theorem x_tup (K : PySem.W.Frag) {X : Cx} (hK : X.K = K := by rfl) : IxR X (rIxT K) := by
  subst hK
  exact ix_tup
/-! ### masks -/
def maskOf (l : List Nat) : Nat := l.foldl (fun m i => m ||| 2 ^ i) 0
def natsV (ms : List Nat) : List V := ms.map fun (m : Nat) => V.int m
def holdsB (m : Nat) (l : List Nat) : Bool := (m &&& maskOf l) == maskOf l
/-- the clerks from a place on whose sights are all held, above some already found -/
def nextFrom (held : Nat) : Nat → List Nat → Nat → Nat
  | _, [], acc => acc
  | i, s :: ss, acc => nextFrom held (i + 1) ss (if (s &&& held) = s then acc ||| 2 ^ i else acc)
def nextM (ss : List Nat) (held : Nat) : Nat := nextFrom held 0 ss 0
theorem maskOf_take {l : List Nat} {i k : Nat} (h : l[i]? = some k) : maskOf (l.take (i + 1)) = maskOf (l.take i) ||| 2 ^ k := by
  unfold maskOf
  rw [List.take_add_one, h, List.foldl_append]
  rfl
theorem natsV_take {l : List Nat} {i m : Nat} (h : l[i]? = some m) : natsV (l.take (i + 1)) = natsV (l.take i) ++ [V.int m] := by
  unfold natsV
  rw [List.take_add_one, h, List.map_append]
  rfl
/-- the masks of the lots within a lot that may bear coins -/
def coinMasks (lot : List Nat) (c : Nat) : List Nat := (combsOf lot (min c lot.length)).map maskOf
/-- .. by the day of an allowance -/
def cmsOf (lot alw : List Nat) : List (List Nat) := alw.map (coinMasks lot)
end N

set_option Elab.async false
set_option linter.all false
set_option maxRecDepth 100000
set_option maxHeartbeats 2000000
/-! what can be covered: the search by masks -/
namespace N
open Cb (lotV combs combsOf combsOf_sub)
open L2 (nat_nodup_len)
/-- where coins lead from a place: the mask covered, the day of the allowance -/
def nx (ss : List Nat) (n : Nat) (p : Nat × Nat) (cm : Nat) : Nat × Nat := (nextM ss (p.1 ||| cm), (p.2 + 1) % n)
/-- places that come on a day -/
def Rch (ss : List Nat) (cms : List (List Nat)) : Nat → Nat × Nat → Prop
  | 0, p => p = (0, 0)
  | t + 1, p => ∃ c cm, Rch ss cms t c ∧ cm ∈ cms.getD c.2 [] ∧ p = nx ss cms.length c cm
def FD (ss : List Nat) (cms : List (List Nat)) (m : Nat × Nat) (d : Nat) : Prop := Rch ss cms d m ∧ ∀ d', d' < d → ¬ Rch ss cms d' m
theorem FD.inj {ss : List Nat} {cms : List (List Nat)} {m : Nat × Nat} {d d' : Nat} (h : FD ss cms m d) (h' : FD ss cms m d') : d = d' := by
  rcases Nat.lt_trichotomy d d' with z | z | z
  · exact absurd h.1 (h'.2 d z)
  · exact z
  · exact absurd h'.1 (h.2 d' z)
theorem first_day {ss : List Nat} {cms : List (List Nat)} {m : Nat × Nat} : ∀ {t : Nat}, Rch ss cms t m → ∃ d, d ≤ t ∧ FD ss cms m d := by
  intro t
  induction t using Nat.strongRecOn with
  | ind t ih =>
    intro h
    by_cases c : ∃ d', d' < t ∧ Rch ss cms d' m
    · obtain ⟨d', h1, h2⟩ := c
      obtain ⟨d, h3, h4⟩ := ih d' h1 h2
      exact ⟨d, by omega, h4⟩
    · exact ⟨t, Nat.le_refl _, h, fun d' hd hr => c ⟨d', hd, hr⟩⟩
theorem FD.pred {ss : List Nat} {cms : List (List Nat)} {m : Nat × Nat} {d : Nat} (h : FD ss cms m (d + 1)) : ∃ c cm, FD ss cms c d ∧ cm ∈ cms.getD c.2 [] ∧ m = nx ss cms.length c cm := by
  obtain ⟨⟨c, cm, h1, h2, h3⟩, h4⟩ := h
  refine ⟨c, cm, ⟨h1, fun d' hd hr => h4 (d' + 1) (by omega) ⟨c, cm, hr, h2, h3⟩⟩, h2, h3⟩
theorem FD.below {ss : List Nat} {cms : List (List Nat)} : ∀ {d : Nat} {m : Nat × Nat} {k : Nat}, FD ss cms m d → k ≤ d → ∃ c, FD ss cms c k
  | 0, m, k, h, hk => by
    have : k = 0 := by omega
    subst this
    exact ⟨m, h⟩
  | d + 1, m, k, h, hk => by
    by_cases e : k = d + 1
    · subst e; exact ⟨m, h⟩
    · obtain ⟨c, _, hc, _⟩ := h.pred
      exact FD.below hc (by omega)
/-- an entry: a mask, its first day, where it comes from -/
structure Ent where
  p : Nat × Nat
  d : Nat
  b : Option ((Nat × Nat) × Nat)
abbrev Ent.m (e : Ent) : Nat := e.p.1
def BackOk (ss : List Nat) (cms : List (List Nat)) (e : Ent) : Prop := match e.b with
  | none => e.p = (0, 0) ∧ e.d = 0
  | some (c, cm) => ∃ d, e.d = d + 1 ∧ FD ss cms c d ∧ cm ∈ cms.getD c.2 [] ∧ e.p = nx ss cms.length c cm
structure BInv (ss : List Nat) (cms : List (List Nat)) (k : Nat) (es : List Ent) : Prop where
  fd : ∀ e ∈ es, FD ss cms e.p e.d ∧ e.d ≤ k
  all : ∀ m d, d ≤ k → FD ss cms m d → ∃ e ∈ es, e.p = m
  nd : (es.map (·.p)).Nodup
  mono : es.Pairwise (fun e f => e.d ≤ f.d)
  back : ∀ e ∈ es, BackOk ss cms e
def LatestOk (ss : List Nat) (cms : List (List Nat)) (k : Nat) (L : List (Nat × Nat)) : Prop := ∀ m, m ∈ L ↔ FD ss cms m k
theorem fd_zero {ss : List Nat} {cms : List (List Nat)} {m : Nat × Nat} : FD ss cms m 0 ↔ m = (0, 0) := by
  constructor
  · intro h; exact h.1
  · intro h; exact ⟨h, fun d' hd => by omega⟩
theorem binv_start (ss : List Nat) (cms : List (List Nat)) : BInv ss cms 0 [⟨(0, 0), 0, none⟩] ∧ LatestOk ss cms 0 [(0, 0)] := by
  refine ⟨⟨fun e he => ?_, fun m d hd h => ?_, by simp, by simp, fun e he => ?_⟩, fun m => ?_⟩
  · rw [List.mem_singleton.mp he]
    exact ⟨fd_zero.mpr rfl, Nat.le_refl _⟩
  · have : d = 0 := by omega
    subst this
    exact ⟨_, List.mem_singleton.mpr rfl, (fd_zero.mp h).symm⟩
  · rw [List.mem_singleton.mp he]
    exact ⟨rfl, rfl⟩
  · rw [List.mem_singleton, fd_zero]
/-- in the middle of a day's search: new entries behind the old ones; done says for which pairs the outcome is in -/
structure Mid (ss : List Nat) (cms : List (List Nat)) (k : Nat) (es new : List Ent) (Done : Nat × Nat → Nat → Prop) : Prop where
  nw : ∀ e ∈ new, e.d = k + 1 ∧ FD ss cms e.p (k + 1) ∧ BackOk ss cms e
  nd : ((es ++ new).map (·.p)).Nodup
  done : ∀ c cm, Done c cm → ∃ e ∈ es ++ new, e.p = nx ss cms.length c cm
theorem mid_start {ss : List Nat} {cms : List (List Nat)} {k : Nat} {es : List Ent} (B : BInv ss cms k es) : Mid ss cms k es [] (fun _ _ => False) :=
  ⟨(fun e he => by cases he), (by rw [List.append_nil]; exact B.nd), fun _ _ h => h.elim⟩
theorem Mid.weaken {ss : List Nat} {cms : List (List Nat)} {k : Nat} {es new : List Ent} {D D' : Nat × Nat → Nat → Prop} (M : Mid ss cms k es new D) (h : ∀ c cm, D' c cm → D c cm) : Mid ss cms k es new D' :=
  ⟨M.nw, M.nd, fun c cm hd => M.done c cm (h c cm hd)⟩
theorem Mid.skip {ss : List Nat} {cms : List (List Nat)} {k : Nat} {es new : List Ent} {D D' : Nat × Nat → Nat → Prop} (M : Mid ss cms k es new D) {c : Nat × Nat} {cm : Nat} (hin : ∃ e ∈ es ++ new, e.p = nx ss cms.length c cm) (h : ∀ c' cm', D' c' cm' → D c' cm' ∨ (c' = c ∧ cm' = cm)) : Mid ss cms k es new D' :=
  ⟨M.nw, M.nd, fun c' cm' hd => by
    rcases h c' cm' hd with z | ⟨rfl, rfl⟩
    · exact M.done _ _ z
    · exact hin⟩
theorem Mid.add {ss : List Nat} {cms : List (List Nat)} {k : Nat} {es new : List Ent} {D D' : Nat × Nat → Nat → Prop} (B : BInv ss cms k es) (M : Mid ss cms k es new D) {c : Nat × Nat} {cm : Nat} (hc : FD ss cms c k) (hcm : cm ∈ cms.getD c.2 []) (hout : ¬ ∃ e ∈ es ++ new, e.p = nx ss cms.length c cm)
    (h : ∀ c' cm', D' c' cm' → D c' cm' ∨ (c' = c ∧ cm' = cm)) : Mid ss cms k es (new ++ [⟨nx ss cms.length c cm, k + 1, some (c, cm)⟩]) D' := by
  have hfd : FD ss cms (nx ss cms.length c cm) (k + 1) := by
    refine ⟨⟨c, cm, hc.1, hcm, rfl⟩, fun d' hd hr => ?_⟩
    obtain ⟨d, hd2, hf⟩ := first_day hr
    obtain ⟨e, he, em⟩ := B.all _ d (by omega) hf
    exact hout ⟨e, List.mem_append_left _ he, em⟩
  refine ⟨fun e he => ?_, ?_, fun c' cm' hd => ?_⟩
  · rcases List.mem_append.mp he with z | z
    · exact M.nw e z
    · rw [List.mem_singleton.mp z]
      exact ⟨rfl, hfd, k, rfl, hc, hcm, rfl⟩
  · rw [← List.append_assoc, List.map_append]
    refine List.nodup_append.mpr ⟨M.nd, by simp, fun x hx y hy => ?_⟩
    obtain ⟨e, he, rfl⟩ := List.mem_map.mp hx
    have ey : y = nx ss cms.length c cm := by simpa using hy
    rw [ey]
    exact fun z => hout ⟨e, he, z⟩
  · rw [← List.append_assoc]
    rcases h c' cm' hd with z | ⟨rfl, rfl⟩
    · obtain ⟨e, he, em⟩ := M.done _ _ z
      exact ⟨e, List.mem_append_left _ he, em⟩
    · exact ⟨_, List.mem_append_right _ (List.mem_singleton.mpr rfl), rfl⟩
theorem mid_end {ss : List Nat} {cms : List (List Nat)} {k : Nat} {es new : List Ent} {L : List (Nat × Nat)} {D : Nat × Nat → Nat → Prop} (B : BInv ss cms k es) (hL : LatestOk ss cms k L) (M : Mid ss cms k es new D) (h : ∀ c ∈ L, ∀ cm ∈ cms.getD c.2 [], D c cm) :
    BInv ss cms (k + 1) (es ++ new) ∧ LatestOk ss cms (k + 1) (new.map (·.p)) := by
  have hall : ∀ m d, d ≤ k + 1 → FD ss cms m d → ∃ e ∈ es ++ new, e.p = m := by
    intro m d hd hf
    by_cases e : d = k + 1
    · subst e
      obtain ⟨c, cm, hc, hcm, rfl⟩ := hf.pred
      exact M.done c cm (h c ((hL c).mpr hc) cm hcm)
    · obtain ⟨e, he, em⟩ := B.all m d (by omega) hf
      exact ⟨e, List.mem_append_left _ he, em⟩
  refine ⟨⟨fun e he => ?_, hall, M.nd, ?_, fun e he => ?_⟩, fun m => ?_⟩
  · rcases List.mem_append.mp he with z | z
    · obtain ⟨h1, h2⟩ := B.fd e z
      exact ⟨h1, by omega⟩
    · obtain ⟨h1, h2, _⟩ := M.nw e z
      rw [h1]
      exact ⟨h2, Nat.le_refl _⟩
  · refine List.pairwise_append.mpr ⟨B.mono, ?_, fun e he f hf => ?_⟩
    · refine List.Pairwise.imp_of_mem (R := fun _ _ => True) (fun {a b} ha hb _ => ?_) (List.pairwise_of_forall fun _ _ => trivial)
      rw [(M.nw a ha).1, (M.nw b hb).1]
      exact Nat.le_refl _
    · have h1 := (B.fd e he).2
      have h2 := (M.nw f hf).1
      omega
  · rcases List.mem_append.mp he with z | z
    · exact B.back e z
    · exact (M.nw e z).2.2
  · constructor
    · intro hm
      obtain ⟨e, he, rfl⟩ := List.mem_map.mp hm
      exact (M.nw e he).2.1
    · intro hf
      obtain ⟨e, he, em⟩ := hall m (k + 1) (Nat.le_refl _) hf
      rcases List.mem_append.mp he with z | z
      · obtain ⟨h1, h2⟩ := B.fd e z
        rw [em] at h1
        have := h1.inj hf
        omega
      · exact List.mem_map.mpr ⟨e, z, em⟩
/-- the whole search -/
structure WaysOk (ss : List Nat) (cms : List (List Nat)) (es : List Ent) : Prop where
  fd : ∀ e ∈ es, FD ss cms e.p e.d
  all : ∀ m t, Rch ss cms t m → ∃ e ∈ es, e.p = m
  nd : (es.map (·.p)).Nodup
  mono : es.Pairwise (fun e f => e.d ≤ f.d)
  back : ∀ e ∈ es, BackOk ss cms e
theorem ways_end {ss : List Nat} {cms : List (List Nat)} {k : Nat} {es : List Ent} (B : BInv ss cms k es) (hL : LatestOk ss cms k []) : WaysOk ss cms es := by
  refine ⟨fun e he => (B.fd e he).1, fun m t h => ?_, B.nd, B.mono, B.back⟩
  obtain ⟨d, _, hf⟩ := first_day h
  rcases Nat.lt_or_ge k d with z | z
  · obtain ⟨c, hc⟩ := FD.below hf (Nat.le_of_lt z)
    exact absurd ((hL c).mpr hc) (by simp)
  · exact B.all m d z hf
theorem nextFrom_lt {held n : Nat} : ∀ {ss : List Nat} {i acc : Nat}, i + ss.length ≤ n → acc < 2 ^ n → nextFrom held i ss acc < 2 ^ n
  | [], _, _, _, h => h
  | s :: ss, i, acc, hi, h => by
    rw [List.length_cons] at hi
    have h2 : (if (s &&& held) = s then acc ||| 2 ^ i else acc) < 2 ^ n := by
      split
      · exact Nat.or_lt_two_pow h (Nat.pow_lt_pow_of_lt (by decide) (by omega))
      · exact h
    exact nextFrom_lt (ss := ss) (i := i + 1) (by omega) h2
theorem nextM_lt (ss : List Nat) (held : Nat) : nextM ss held < 2 ^ ss.length := nextFrom_lt (by omega) (Nat.two_pow_pos _)
theorem rch_lt {ss : List Nat} {cms : List (List Nat)} (hc : 1 ≤ cms.length) : ∀ {t : Nat} {m : Nat × Nat}, Rch ss cms t m → m.1 < 2 ^ ss.length ∧ m.2 < cms.length
  | 0, m, h => by
    rw [show m = (0, 0) from h]
    exact ⟨Nat.two_pow_pos _, hc⟩
  | t + 1, m, ⟨c, cm, _, _, e⟩ => by
    rw [e]
    exact ⟨nextM_lt _ _, Nat.mod_lt _ hc⟩
theorem nodup_le : ∀ (n : Nat) (l : List Nat), l.Nodup → (∀ x ∈ l, x < n) → l.length ≤ n := fun n l h1 h2 => by
  have z := nat_nodup_len l (List.range n) h1 (fun x hx => List.mem_range.mpr (h2 x hx))
  rwa [List.length_range] at z
theorem nodup_on {α β : Type} (f : α → β) : ∀ {l : List α}, l.Nodup → (∀ a ∈ l, ∀ b ∈ l, f a = f b → a = b) → (l.map f).Nodup
  | [], _, _ => List.nodup_nil
  | x :: l, nd, inj => by
    obtain ⟨h1, h2⟩ := List.nodup_cons.mp nd
    rw [List.map_cons]
    refine List.nodup_cons.mpr ⟨fun z => ?_, nodup_on f h2 fun a ha b hb => inj a (List.mem_cons_of_mem _ ha) b (List.mem_cons_of_mem _ hb)⟩
    obtain ⟨y, hy, e⟩ := List.mem_map.mp z
    have := inj y (List.mem_cons_of_mem _ hy) x List.mem_cons_self e
    rw [this] at hy
    exact h1 hy
/-- a place as a number -/
def plN (p : Nat × Nat) : Nat := p.1 * 6 + p.2
theorem binv_len {ss : List Nat} {cms : List (List Nat)} {k : Nat} {es new : List Ent} {D : Nat × Nat → Nat → Prop} (hs : ss.length ≤ 7) (hc : 1 ≤ cms.length) (hc6 : cms.length ≤ 6) (B : BInv ss cms k es) (M : Mid ss cms k es new D) : (es ++ new).length ≤ 768 := by
  have lt : ∀ e ∈ es ++ new, e.p.1 < 2 ^ ss.length ∧ e.p.2 < cms.length := fun e he => by
    rcases List.mem_append.mp he with z | z
    · exact rch_lt hc (B.fd e z).1.1
    · exact rch_lt hc (M.nw e z).2.1.1
  have h2 : 2 ^ ss.length ≤ 2 ^ 7 := Nat.pow_le_pow_right (by decide) hs
  have nd : (((es ++ new).map (·.p)).map plN).Nodup := nodup_on plN M.nd fun a ha b hb h => by
    obtain ⟨e, he, rfl⟩ := List.mem_map.mp ha
    obtain ⟨f, hf, rfl⟩ := List.mem_map.mp hb
    have h1 := lt e he
    have h3 := lt f hf
    unfold plN at h
    exact Prod.ext (by omega) (by omega)
  have h := nodup_le 768 _ nd (fun x hx => by
    obtain ⟨p, hp, rfl⟩ := List.mem_map.mp hx
    obtain ⟨e, he, rfl⟩ := List.mem_map.mp hp
    have := lt e he
    unfold plN
    omega)
  rw [List.length_map, List.length_map] at h
  exact h
end N

set_option Elab.async false
set_option linter.all false
set_option maxRecDepth 100000
set_option maxHeartbeats 2000000
/-! lots and masks -/
namespace N
open Cb (lotV combs combsOf combsOf_sub)
/-- the lot covered behind a day -/
def nextL (h : List (List Nat)) (S L : List Nat) : List Nat := (List.range h.length).filter fun i => (h.getD i []).all fun s => decide (s ∈ S) || decide (s ∈ L)
def RchL (h : List (List Nat)) (c : Nat) : Nat → List Nat → Prop
  | 0, S => S = []
  | t + 1, S => ∃ S' L, RchL h c t S' ∧ LotOk h.length L ∧ L.length ≤ c ∧ S = nextL h S' L
/-- so many coins can cover a goal in just so many days -/
def Cov (h : List (List Nat)) (c : Nat) (goal : List Nat) (t : Nat) : Prop := ∃ S, RchL h c t S ∧ ∀ i ∈ goal, i ∈ S
def IsDays (h : List (List Nat)) (c : Nat) (goal : List Nat) : Option Nat → Prop
  | some d => Cov h c goal d ∧ ∀ d', d' < d → ¬ Cov h c goal d'
  | none => ∀ d, ¬ Cov h c goal d
theorem IsDays.inj {h : List (List Nat)} {c : Nat} {goal : List Nat} {o o' : Option Nat} (x : IsDays h c goal o) (y : IsDays h c goal o') : o = o' := by
  cases o with
  | none =>
    cases o' with
    | none => rfl
    | some d => exact absurd y.1 (x d)
  | some d =>
    cases o' with
    | none => exact absurd x.1 (y d)
    | some d' =>
      rcases Nat.lt_trichotomy d d' with z | z | z
      · exact absurd x.1 (y.2 d z)
      · rw [z]
      · exact absurd y.1 (x.2 d' z)
def Can (h : List (List Nat)) (c : Nat) (goal : List Nat) : Prop := ∃ t, Cov h c goal t
def IsNum (h : List (List Nat)) (goal : List Nat) (c : Nat) : Prop := Can h c goal ∧ ∀ c', c' < c → ¬ Can h c' goal
theorem IsNum.inj {h : List (List Nat)} {goal : List Nat} {c c' : Nat} (x : IsNum h goal c) (y : IsNum h goal c') : c = c' := by
  rcases Nat.lt_trichotomy c c' with z | z | z
  · exact absurd x.1 (y.2 c z)
  · exact z
  · exact absurd y.1 (x.2 c' z)
theorem isDays_none {h : List (List Nat)} {c : Nat} {goal : List Nat} {o : Option Nat} (x : IsDays h c goal o) : o = none ↔ ¬ Can h c goal := by
  cases o with
  | none => exact ⟨fun _ ⟨t, z⟩ => x t z, fun _ => rfl⟩
  | some d => exact ⟨fun z => by (cases z), fun z => absurd ⟨d, x.1⟩ z⟩
theorem mem_nextL {h : List (List Nat)} {S L : List Nat} {i : Nat} : i ∈ nextL h S L ↔ i < h.length ∧ ∀ s ∈ h.getD i [], s ∈ S ∨ s ∈ L := by
  unfold nextL
  rw [List.mem_filter, List.mem_range, List.all_eq_true]
  simp
theorem nextL_ok (h : List (List Nat)) (S L : List Nat) : LotOk h.length (nextL h S L) := List.filter_sublist
theorem rchL_ok {h : List (List Nat)} {c : Nat} : ∀ {t : Nat} {S : List Nat}, RchL h c t S → LotOk h.length S
  | 0, S, e => by rw [show S = [] from e]; exact List.nil_sublist _
  | t + 1, S, ⟨_, _, _, _, _, e⟩ => by rw [e]; exact nextL_ok _ _ _
/-! ### bits -/
theorem testBit_maskFrom {l : List Nat} {i acc : Nat} : (l.foldl (fun m j => m ||| 2 ^ j) acc).testBit i = (acc.testBit i || decide (i ∈ l)) := by
  induction l generalizing acc with
  | nil => simp
  | cons x l ih =>
    rw [List.foldl_cons, ih, Nat.testBit_or, Nat.testBit_two_pow]
    by_cases e : x = i
    · subst e; simp
    · have e2 : ¬ i = x := fun z => e z.symm
      simp [e, e2]
theorem testBit_mask {l : List Nat} {i : Nat} : (maskOf l).testBit i = decide (i ∈ l) := by
  unfold maskOf
  rw [testBit_maskFrom]
  simp
theorem mask_sub {m : Nat} {l : List Nat} : (m &&& maskOf l) = maskOf l ↔ ∀ i ∈ l, m.testBit i = true := by
  constructor
  · intro h i hi
    have z : (m &&& maskOf l).testBit i = true := by rw [h, testBit_mask]; exact decide_eq_true hi
    rw [Nat.testBit_and, Bool.and_eq_true] at z
    exact z.1
  · intro h
    apply Nat.eq_of_testBit_eq
    intro i
    rw [Nat.testBit_and, testBit_mask]
    by_cases hi : i ∈ l
    · rw [h i hi]; rfl
    · simp [hi]
theorem sub_mask {m : Nat} {l : List Nat} : (maskOf l &&& m) = maskOf l ↔ ∀ i ∈ l, m.testBit i = true := by
  rw [Nat.and_comm]
  exact mask_sub
theorem holds_iff {m : Nat} {l : List Nat} : holdsB m l = true ↔ ∀ i ∈ l, m.testBit i = true := by
  unfold holdsB
  rw [beq_iff_eq]
  exact mask_sub
theorem holds_lot {S l : List Nat} : holdsB (maskOf S) l = true ↔ ∀ i ∈ l, i ∈ S := by
  rw [holds_iff]
  simp only [testBit_mask, decide_eq_true_eq]
theorem testBit_nextFrom {held : Nat} : ∀ {ss : List Nat} {i acc j : Nat}, (nextFrom held i ss acc).testBit j = (acc.testBit j || decide (i ≤ j ∧ j < i + ss.length ∧ (ss.getD (j - i) 0 &&& held) = ss.getD (j - i) 0))
  | [], i, acc, j => by
    have e : ¬ (i ≤ j ∧ j < i + ([] : List Nat).length ∧ (([] : List Nat).getD (j - i) 0 &&& held) = ([] : List Nat).getD (j - i) 0) := fun z => by
      have := z.1
      have := z.2.1
      simp at this
      omega
    rw [decide_eq_false e]
    show acc.testBit j = _
    simp
  | s :: ss, i, acc, j => by
    show (nextFrom held (i + 1) ss (if (s &&& held) = s then acc ||| 2 ^ i else acc)).testBit j = _
    rw [testBit_nextFrom]
    by_cases e : j = i
    · subst e
      have e1 : ¬ (j + 1 ≤ j ∧ j < j + 1 + ss.length ∧ (ss.getD (j - (j + 1)) 0 &&& held) = ss.getD (j - (j + 1)) 0) := fun z => by omega
      rw [decide_eq_false e1, Bool.or_false, Nat.sub_self]
      by_cases hb : (s &&& held) = s
      · rw [if_pos hb, Nat.testBit_or, Nat.testBit_two_pow]
        have e2 : j ≤ j ∧ j < j + (s :: ss).length ∧ ((s :: ss).getD 0 0 &&& held) = (s :: ss).getD 0 0 := ⟨Nat.le_refl _, by rw [List.length_cons]; omega, hb⟩
        rw [decide_eq_true e2]
        simp
      · rw [if_neg hb]
        have e2 : ¬ (j ≤ j ∧ j < j + (s :: ss).length ∧ ((s :: ss).getD 0 0 &&& held) = (s :: ss).getD 0 0) := fun z => hb z.2.2
        rw [decide_eq_false e2, Bool.or_false]
    · have ea : (if (s &&& held) = s then acc ||| 2 ^ i else acc).testBit j = acc.testBit j := by
        split
        · rw [Nat.testBit_or, Nat.testBit_two_pow]
          have : ¬ i = j := fun z => e z.symm
          simp [this]
        · rfl
      rw [ea]
      congr 1
      rw [decide_eq_decide]
      by_cases hl : i + 1 ≤ j
      · have ej : j - i = (j - (i + 1)) + 1 := by omega
        rw [ej, List.getD_cons_succ, List.length_cons]
        constructor
        · rintro ⟨h1, h2, h3⟩; exact ⟨by omega, by omega, h3⟩
        · rintro ⟨h1, h2, h3⟩; exact ⟨hl, by omega, h3⟩
      · constructor
        · rintro ⟨h1, _⟩; omega
        · rintro ⟨h1, _⟩; omega
theorem testBit_nextM {ss : List Nat} {held j : Nat} : (nextM ss held).testBit j = decide (j < ss.length ∧ (ss.getD j 0 &&& held) = ss.getD j 0) := by
  unfold nextM
  rw [testBit_nextFrom]
  simp
theorem next_mask (h : List (List Nat)) (S L : List Nat) : nextM (h.map maskOf) (maskOf S ||| maskOf L) = maskOf (nextL h S L) := by
  apply Nat.eq_of_testBit_eq
  intro i
  rw [testBit_nextM, testBit_mask, decide_eq_decide, mem_nextL, List.length_map]
  by_cases hi : i < h.length
  · have eg : (h.map maskOf).getD i 0 = maskOf (h.getD i []) := by
      rw [List.getD_eq_getElem?_getD, List.getElem?_map, List.getD_eq_getElem?_getD, List.getElem?_eq_getElem hi]
      rfl
    rw [eg, sub_mask]
    simp only [hi, true_and, Nat.testBit_or, testBit_mask, Bool.or_eq_true, decide_eq_true_eq]
  · simp [hi]
theorem nextL_mono {h : List (List Nat)} {S S' L L' : List Nat} (h1 : ∀ i ∈ S, i ∈ S') (h2 : ∀ i ∈ L, i ∈ L') : ∀ i ∈ nextL h S L, i ∈ nextL h S' L' := by
  intro i hi
  rw [mem_nextL] at hi ⊢
  exact ⟨hi.1, fun s hs => (hi.2 s hs).elim (fun z => .inl (h1 s z)) (fun z => .inr (h2 s z))⟩
/-- a lot within a pool can be made greater -/
theorem grow {pool : List Nat} (hp : pool.Nodup) : ∀ {l : List Nat}, l.Sublist pool → ∀ {r : Nat}, l.length ≤ r → r ≤ pool.length → ∃ l' : List Nat, l'.Sublist pool ∧ l'.length = r ∧ ∀ i ∈ l, i ∈ l' := by
  induction pool with
  | nil =>
    intro l hl r h1 h2
    exact ⟨l, hl, by have := List.sublist_nil.mp hl; subst this; simp at h1 h2 ⊢; omega, fun i hi => hi⟩
  | cons x pool ih =>
    have hp' := (List.nodup_cons.mp hp).2
    intro l hl r h1 h2
    rw [List.length_cons] at h2
    cases hl with
    | cons _ hl =>
      by_cases hr : r ≤ pool.length
      · obtain ⟨l', a, b, c⟩ := ih hp' hl h1 hr
        exact ⟨l', a.cons x, b, c⟩
      · exact ⟨x :: pool, List.Sublist.refl _, by rw [List.length_cons]; omega, fun i hi => List.mem_cons_of_mem _ (hl.subset hi)⟩
    | cons_cons _ hl =>
      rename_i l
      rw [List.length_cons] at h1
      obtain ⟨l', a, b, c⟩ := ih hp' hl (r := r - 1) (by omega) (by omega)
      refine ⟨x :: l', a.cons_cons x, by rw [List.length_cons]; omega, fun i hi => ?_⟩
      rcases List.mem_cons.mp hi with z | z
      · rw [z]; exact List.mem_cons_self
      · exact List.mem_cons_of_mem _ (c i z)
theorem lot_growA {lot L : List Nat} {c : Nat} (nd : lot.Nodup) (hL : L.Sublist lot) (hc : L.length ≤ c) : ∃ L', L' ∈ combsOf lot (min c lot.length) ∧ ∀ i ∈ L, i ∈ L' := by
  have hn := hL.length_le
  obtain ⟨L', a, b, d⟩ := grow nd hL (r := min c lot.length) (by omega) (by omega)
  exact ⟨L', combsOf_sub.mpr ⟨a, b⟩, d⟩
theorem lot_grow {n c : Nat} {L : List Nat} (hL : LotOk n L) (hc : L.length ≤ c) : ∃ L', L' ∈ combs n (min c n) ∧ ∀ i ∈ L, i ∈ L' := by
  obtain ⟨L', a, b⟩ := lot_growA (c := c) List.nodup_range hL hc
  rw [List.length_range] at a
  exact ⟨L', a, b⟩
/-! ### coins on slates of a lot, by an allowance -/
def RchA (h : List (List Nat)) (lot alw : List Nat) : Nat → List Nat → Prop
  | 0, S => S = []
  | t + 1, S => ∃ S' L, RchA h lot alw t S' ∧ L.Sublist lot ∧ L.length ≤ alw.getD (t % alw.length) 0 ∧ S = nextL h S' L
def CovA (h : List (List Nat)) (lot alw goal : List Nat) (t : Nat) : Prop := ∃ S, RchA h lot alw t S ∧ ∀ i ∈ goal, i ∈ S
def CanA (h : List (List Nat)) (lot alw goal : List Nat) : Prop := ∃ t, CovA h lot alw goal t
/-- the first day of those of which something holds -/
def IsFirst (C : Nat → Prop) : Option Nat → Prop
  | some d => C d ∧ ∀ d', d' < d → ¬ C d'
  | none => ∀ d, ¬ C d
theorem IsFirst.inj {C : Nat → Prop} {o o' : Option Nat} (x : IsFirst C o) (y : IsFirst C o') : o = o' := by
  cases o with
  | none =>
    cases o' with
    | none => rfl
    | some d => exact absurd y.1 (x d)
  | some d =>
    cases o' with
    | none => exact absurd x.1 (y d)
    | some d' =>
      rcases Nat.lt_trichotomy d d' with z | z | z
      · exact absurd x.1 (y.2 d z)
      · rw [z]
      · exact absurd y.1 (x.2 d' z)
theorem IsFirst.none_iff {C : Nat → Prop} {o : Option Nat} (x : IsFirst C o) : o = none ↔ ¬ ∃ t, C t := by
  cases o with
  | none => exact ⟨fun _ ⟨t, z⟩ => x t z, fun _ => rfl⟩
  | some d => exact ⟨fun z => by (cases z), fun z => absurd ⟨d, x.1⟩ z⟩
theorem IsFirst.iff {C D : Nat → Prop} (h : ∀ t, C t ↔ D t) {o : Option Nat} (x : IsFirst C o) : IsFirst D o := by
  have e : C = D := funext fun t => propext (h t)
  rw [← e]
  exact x
theorem isDays_first {h : List (List Nat)} {c : Nat} {goal : List Nat} {o : Option Nat} : IsDays h c goal o ↔ IsFirst (Cov h c goal) o := by
  cases o <;> exact Iff.rfl
theorem rchA_ok {h : List (List Nat)} {lot alw : List Nat} : ∀ {t : Nat} {S : List Nat}, RchA h lot alw t S → LotOk h.length S
  | 0, S, e => by rw [show S = [] from e]; exact List.nil_sublist _
  | t + 1, S, ⟨_, _, _, _, _, e⟩ => by rw [e]; exact nextL_ok _ _ _
/-- as many coins each day, on all slates -/
theorem rchA_one {h : List (List Nat)} {c : Nat} : ∀ {t : Nat} {S : List Nat}, RchA h (List.range h.length) [c] t S ↔ RchL h c t S
  | 0, S => Iff.rfl
  | t + 1, S => by
    have e : ([c] : List Nat).getD (t % ([c] : List Nat).length) 0 = c := by
      rw [show ([c] : List Nat).length = 1 from rfl, Nat.mod_one]
      rfl
    constructor
    · rintro ⟨S', L, h1, h2, h3, h4⟩
      rw [e] at h3
      exact ⟨S', L, rchA_one.mp h1, h2, h3, h4⟩
    · rintro ⟨S', L, h1, h2, h3, h4⟩
      rw [← e] at h3
      exact ⟨S', L, rchA_one.mpr h1, h2, h3, h4⟩
theorem covA_one {h : List (List Nat)} {c : Nat} {goal : List Nat} {t : Nat} : CovA h (List.range h.length) [c] goal t ↔ Cov h c goal t :=
  ⟨fun ⟨S, a, b⟩ => ⟨S, rchA_one.mp a, b⟩, fun ⟨S, a, b⟩ => ⟨S, rchA_one.mpr a, b⟩⟩
theorem canA_one {h : List (List Nat)} {c : Nat} {goal : List Nat} : CanA h (List.range h.length) [c] goal ↔ Can h c goal :=
  ⟨fun ⟨t, a⟩ => ⟨t, covA_one.mp a⟩, fun ⟨t, a⟩ => ⟨t, covA_one.mpr a⟩⟩
/-- no lot holds more than the lot of all its slates -/
theorem rchA_min {h : List (List Nat)} {lot : List Nat} {c : Nat} : ∀ {t : Nat} {S : List Nat}, RchA h lot [c] t S → RchA h lot [min c lot.length] t S
  | 0, S, e => e
  | t + 1, S, ⟨S', L, h1, h2, h3, h4⟩ => by
    have e : ∀ c : Nat, ([c] : List Nat).getD (t % ([c] : List Nat).length) 0 = c := fun c => by
      rw [show ([c] : List Nat).length = 1 from rfl, Nat.mod_one]
      rfl
    rw [e] at h3
    refine ⟨S', L, rchA_min h1, h2, ?_, h4⟩
    rw [e]
    have := h2.length_le
    omega
theorem canA_min {h : List (List Nat)} {lot goal : List Nat} {c : Nat} (x : CanA h lot [c] goal) : CanA h lot [min c lot.length] goal := by
  obtain ⟨t, S, a, b⟩ := x
  exact ⟨t, S, rchA_min a, b⟩
theorem cms_len (lot alw : List Nat) : (cmsOf lot alw).length = alw.length := List.length_map ..
theorem cms_get {lot alw : List Nat} {i : Nat} (hi : i < alw.length) : (cmsOf lot alw).getD i [] = coinMasks lot (alw.getD i 0) := by
  rw [List.getD_eq_getElem?_getD, List.getD_eq_getElem?_getD, cmsOf, List.getElem?_map, List.getElem?_eq_getElem hi]
  rfl
/-- the search by masks finds lots -/
theorem rch_lotA {h : List (List Nat)} {lot alw : List Nat} (ha : 1 ≤ alw.length) : ∀ {t : Nat} {p : Nat × Nat}, Rch (h.map maskOf) (cmsOf lot alw) t p → ∃ S, RchA h lot alw t S ∧ p = (maskOf S, t % alw.length)
  | 0, p, e => ⟨[], rfl, by rw [show p = (0, 0) from e, Nat.zero_mod]; rfl⟩
  | t + 1, p, ⟨c, cm, h1, h2, e⟩ => by
    obtain ⟨S, hS, rfl⟩ := rch_lotA ha h1
    dsimp only at h2
    rw [cms_get (Nat.mod_lt _ ha)] at h2
    obtain ⟨L, hL, rfl⟩ := List.mem_map.mp h2
    have hm := combsOf_sub.mp hL
    refine ⟨nextL h S L, ⟨S, L, hS, hm.1, by rw [hm.2]; exact Nat.min_le_left _ _, rfl⟩, ?_⟩
    rw [e, nx, cms_len, next_mask, Nat.mod_add_mod]
theorem lot_rchA {h : List (List Nat)} {lot alw : List Nat} (nd : lot.Nodup) (ha : 1 ≤ alw.length) : ∀ {t : Nat} {S : List Nat}, RchA h lot alw t S → ∃ S', Rch (h.map maskOf) (cmsOf lot alw) t (maskOf S', t % alw.length) ∧ ∀ i ∈ S, i ∈ S'
  | 0, S, e => ⟨[], by rw [Nat.zero_mod]; rfl, fun i hi => by rw [show S = [] from e] at hi; exact hi⟩
  | t + 1, S, ⟨S1, L, h1, h2, h3, e⟩ => by
    obtain ⟨S', hS', hsub⟩ := lot_rchA nd ha h1
    obtain ⟨L', hL', hsub2⟩ := lot_growA nd h2 h3
    refine ⟨nextL h S' L', ⟨_, maskOf L', hS', ?_, ?_⟩, ?_⟩
    · dsimp only
      rw [cms_get (Nat.mod_lt _ ha)]
      exact List.mem_map.mpr ⟨L', hL', rfl⟩
    · rw [nx, cms_len, next_mask, Nat.mod_add_mod]
    · rw [e]
      exact nextL_mono hsub hsub2
theorem covA_iff {h : List (List Nat)} {lot alw goal : List Nat} {t : Nat} (nd : lot.Nodup) (ha : 1 ≤ alw.length) : CovA h lot alw goal t ↔ ∃ p, Rch (h.map maskOf) (cmsOf lot alw) t p ∧ holdsB p.1 goal = true := by
  constructor
  · rintro ⟨S, h1, h2⟩
    obtain ⟨S', h3, h4⟩ := lot_rchA nd ha h1
    exact ⟨_, h3, holds_lot.mpr fun i hi => h4 i (h2 i hi)⟩
  · rintro ⟨p, h1, h2⟩
    obtain ⟨S, hS, rfl⟩ := rch_lotA ha h1
    exact ⟨S, hS, holds_lot.mp h2⟩
/-- the first entry that holds a goal -/
def firstOf (es : List Ent) (goal : List Nat) : Option Ent := es.find? fun e => holdsB e.p.1 goal
theorem first_daysA {h : List (List Nat)} {lot alw goal : List Nat} {es : List Ent} (nd : lot.Nodup) (ha : 1 ≤ alw.length) (W : WaysOk (h.map maskOf) (cmsOf lot alw) es) : IsFirst (CovA h lot alw goal) ((firstOf es goal).map (·.d)) := by
  unfold firstOf
  cases e : es.find? fun e => holdsB e.p.1 goal with
  | none =>
    intro d hc
    obtain ⟨m, h1, h2⟩ := (covA_iff nd ha).mp hc
    obtain ⟨x, hx, rfl⟩ := W.all m d h1
    have z := List.find?_eq_none.mp e x hx
    exact z h2
  | some x =>
    have hx := List.mem_of_find?_eq_some e
    have hh : holdsB x.p.1 goal = true := by have := List.find?_some e; exact this
    refine ⟨(covA_iff nd ha).mpr ⟨x.p, (W.fd x hx).1, hh⟩, fun d' hd hc => ?_⟩
    obtain ⟨m, h1, h2⟩ := (covA_iff nd ha).mp hc
    obtain ⟨d, hd2, hf⟩ := first_day h1
    obtain ⟨y, hy, rfl⟩ := W.all m d hf.1
    have ed : y.d = d := (W.fd y hy).inj hf
    have hd' : d' < x.d := hd
    obtain ⟨_, as, bs, rfl, hn⟩ := List.find?_eq_some_iff_append.mp e
    rcases List.mem_append.mp hy with z | z
    · have q := hn y z
      rw [h2] at q
      exact absurd q (by decide)
    · rcases List.mem_cons.mp z with z | z
      · have hdx : y.d = x.d := by rw [z]
        omega
      · have q := (List.pairwise_cons.mp (List.pairwise_append.mp W.mono).2.1).1 y z
        omega
theorem first_canA {h : List (List Nat)} {lot alw goal : List Nat} {es : List Ent} (nd : lot.Nodup) (ha : 1 ≤ alw.length) (W : WaysOk (h.map maskOf) (cmsOf lot alw) es) : firstOf es goal = none ↔ ¬ CanA h lot alw goal := by
  have q := (first_daysA (goal := goal) nd ha W).none_iff
  rw [Option.map_eq_none_iff] at q
  exact q
theorem first_days {h : List (List Nat)} {c : Nat} {goal : List Nat} {es : List Ent} (W : WaysOk (h.map maskOf) (cmsOf (List.range h.length) [c]) es) : IsDays h c goal ((firstOf es goal).map (·.d)) :=
  isDays_first.mpr ((first_daysA (alw := [c]) List.nodup_range (Nat.le_refl 1) W).iff fun _ => covA_one)
theorem LotOk.nodup {n : Nat} {l : List Nat} (h : LotOk n l) : l.Nodup := List.Pairwise.sublist h List.nodup_range
/-- the least number of coins on slates of a lot -/
def IsNumL (h : List (List Nat)) (goal lot : List Nat) : Option Nat → Prop
  | some c => CanA h lot [c] goal ∧ ∀ c', c' < c → ¬ CanA h lot [c'] goal
  | none => ∀ c, ¬ CanA h lot [c] goal
theorem isNumL_first {h : List (List Nat)} {goal lot : List Nat} {o : Option Nat} : IsNumL h goal lot o ↔ IsFirst (fun c => CanA h lot [c] goal) o := by
  cases o <;> exact Iff.rfl
theorem isNumL_le {h : List (List Nat)} {goal lot : List Nat} {c : Nat} (x : IsNumL h goal lot (some c)) : c ≤ lot.length := by
  rcases Nat.lt_or_ge lot.length c with z | z
  · have q := canA_min x.1
    rw [Nat.min_eq_right (Nat.le_of_lt z)] at q
    exact absurd q (x.2 _ z)
  · exact z
/-- as many coins as clerks cover all -/
theorem can_all {h : List (List Nat)} (ok : HouseOk h) {goal : List Nat} (hg : LotOk h.length goal) : Can h h.length goal := by
  refine ⟨1, nextL h [] (List.range h.length), ⟨[], List.range h.length, rfl, List.Sublist.refl _, by rw [List.length_range]; exact Nat.le_refl _, rfl⟩, fun i hi => ?_⟩
  rw [mem_nextL]
  have hlt := hg.lt i hi
  refine ⟨hlt, fun s hs => .inr ?_⟩
  have hm : h.getD i [] ∈ h := by
    rw [List.getD_eq_getElem?_getD, List.getElem?_eq_getElem hlt]
    exact List.getElem_mem hlt
  exact (ok.ok _ hm).2.subset hs
theorem isNumL_all {h : List (List Nat)} (ok : HouseOk h) {goal : List Nat} (hg : LotOk h.length goal) {o : Option Nat} (x : IsNumL h goal (List.range h.length) o) : ∃ c, o = some c ∧ IsNum h goal c ∧ c ≤ h.length := by
  cases o with
  | none => exact absurd (canA_one.mpr (can_all ok hg)) (x _)
  | some c =>
    have hl := isNumL_le x
    rw [List.length_range] at hl
    exact ⟨c, rfl, ⟨canA_one.mp x.1, fun c' hc z => x.2 c' hc (canA_one.mpr z)⟩, hl⟩
end N

set_option Elab.async false
set_option linter.all false
set_option maxRecDepth 100000
set_option maxHeartbeats 2000000
namespace N
open Cb (lotV combs combsOf combsOf_sub)
open PySem PySem.Spec PyProof.Rows L2
def topS (i : Nat) : Stmt := PySem.Challenge.pw_nightslates_k05_whole_sights.main.body.getD i (.Pass ⟨0, 0, 0, 0⟩)
abbrev s_is_number : Stmt := topS 9
abbrev s_is_lot : Stmt := topS 10
abbrev s_check_number : Stmt := topS 11
abbrev s_check_house : Stmt := topS 12
abbrev s_check_lot : Stmt := topS 13
abbrev s_check_goal : Stmt := topS 14
abbrev s_slate_number : Stmt := topS 16
abbrev s_days_to : Stmt := topS 17
abbrev s_cover_row : Stmt := topS 18
abbrev s_all_slates : Stmt := topS 19
abbrev s_lots_within : Stmt := topS 20
abbrev s_can_cover : Stmt := topS 21
abbrev s_least_coins : Stmt := topS 22
abbrev s_quickest_row : Stmt := topS 23
abbrev s__check_cover : Stmt := topS 24
abbrev s__mask_of : Stmt := topS 25
abbrev s__lot_of : Stmt := topS 26
abbrev s__holds : Stmt := topS 27
abbrev s__coin_masks : Stmt := topS 28
abbrev s__next_cover : Stmt := topS 29
abbrev s__ways : Stmt := topS 30
abbrev s__first_cover : Stmt := topS 31
abbrev s_beside : Stmt := topS 33
abbrev s_with_sight : Stmt := topS 34
abbrev s_best_sight : Stmt := topS 35
abbrev s_spare_sights : Stmt := topS 36
abbrev s__with_row : Stmt := topS 37
abbrev s__without : Stmt := topS 38
abbrev s__law_taken : Stmt := topS 40
abbrev s__law_house : Stmt := topS 41
abbrev s__law_alike : Stmt := topS 42
abbrev s__law_lots : Stmt := topS 43
abbrev s__law_next : Stmt := topS 44
abbrev s__law_covered : Stmt := topS 45
abbrev s__law_holds : Stmt := topS 46
abbrev s__law_days : Stmt := topS 47
abbrev s__law_number : Stmt := topS 48
abbrev s_law : Stmt := topS 49
structure Txt (K : PySem.W.Frag) (mg : Str → Option Value) where
  d_is_number : Def K mg "is_number" s_is_number ["value", "low", "high"]
  d_is_lot : Def K mg "is_lot" s_is_lot ["house", "value"]
  d_check_number : Def K mg "check_number" s_check_number ["value", "low", "high"]
  d_check_house : Def K mg "check_house" s_check_house ["house"]
  d_check_lot : Def K mg "check_lot" s_check_lot ["house", "lot"]
  d_check_goal : Def K mg "check_goal" s_check_goal ["house", "goal"]
  d_slate_number : Def K mg "slate_number" s_slate_number ["house"]
  d_days_to : Def K mg "days_to" s_days_to ["house", "coins", "goal"]
  d_cover_row : Def K mg "cover_row" s_cover_row ["house", "coins", "goal"]
  d_all_slates : Def K mg "all_slates" s_all_slates ["house"]
  d_lots_within : Def K mg "lots_within" s_lots_within ["lot", "size"]
  d_can_cover : Def K mg "can_cover" s_can_cover ["house", "coins", "goal", "lot"]
  d_least_coins : Def K mg "least_coins" s_least_coins ["house", "goal", "lot"]
  d_quickest_row : Def K mg "quickest_row" s_quickest_row ["house", "allowance", "goal"]
  d__check_cover : Def K mg "_check_cover" s__check_cover ["house", "coins", "goal"]
  d__mask_of : Def K mg "_mask_of" s__mask_of ["lot"]
  d__lot_of : Def K mg "_lot_of" s__lot_of ["mask"]
  d__holds : Def K mg "_holds" s__holds ["mask", "goal"]
  d__coin_masks : Def K mg "_coin_masks" s__coin_masks ["lot", "coins"]
  d__next_cover : Def K mg "_next_cover" s__next_cover ["sights", "held"]
  d__ways : Def K mg "_ways" s__ways ["house", "lot", "allowance"]
  d__first_cover : Def K mg "_first_cover" s__first_cover ["ways", "goal"]
  d_beside : Def K mg "beside" s_beside ["one", "other"]
  d_with_sight : Def K mg "with_sight" s_with_sight ["house", "clerk", "slate"]
  d_best_sight : Def K mg "best_sight" s_best_sight ["house"]
  d_spare_sights : Def K mg "spare_sights" s_spare_sights ["house"]
  d__with_row : Def K mg "_with_row" s__with_row ["house", "clerk", "row"]
  d__without : Def K mg "_without" s__without ["house", "clerk", "slate"]
  d__law_taken : Def K mg "_law_taken" s__law_taken ["row", "many"]
  d__law_house : Def K mg "_law_house" s__law_house ["row", "many", "most"]
  d__law_alike : Def K mg "_law_alike" s__law_alike ["found", "due"]
  d__law_lots : Def K mg "_law_lots" s__law_lots ["many"]
  d__law_next : Def K mg "_law_next" s__law_next ["house", "covered", "coins"]
  d__law_covered : Def K mg "_law_covered" s__law_covered ["house", "coins"]
  d__law_holds : Def K mg "_law_holds" s__law_holds ["lot", "part"]
  d__law_days : Def K mg "_law_days" s__law_days ["house", "coins", "goal"]
  d__law_number : Def K mg "_law_number" s__law_number ["house", "goal"]
  n_len : mg "len" = none
  n_range : mg "range" = none
  n_tuple : mg "tuple" = none
  n_list : mg "list" = none
  n_sorted : mg "sorted" = none
  n_enumerate : mg "enumerate" = none
  n_min : mg "min" = none
  n_max : mg "max" = none
  n_type : mg "type" = none
  n_int : mg "int" = none
  n_isinstance : mg "isinstance" = none
  n_bool : mg "bool" = none
  n_str : mg "str" = none
  g_MOST_CLERKS : ∃ t, mg "MOST_CLERKS" = some (.int 7 t)
  g_combinations : mg "combinations" = some (.type Cb.TC)
end N

set_option Elab.async false
set_option linter.all false
set_option maxRecDepth 100000
set_option maxHeartbeats 2000000
namespace N
open Cb (lotV combs combsOf combsOf_sub)
open PySem PySem.Spec PyProof.Rows L2
section
variable {P : Program} {w : World} {K : PySem.W.Frag} {mg : Str → Option Value} {base : Heap}
/-- is_number -/
def isNum (x : V) (lo hi : Int) : Bool := match x with
  | .int i => decide (lo ≤ i) && decide (i ≤ hi)
  | _ => false
theorem tyb_not {H : Hp} {x : V} {T : String} (t : TyB K H x T) (h : T ≠ "int") (lo hi : Int) : isNum x lo hi = false := by
  cases t <;> first | rfl | exact absurd rfl h
theorem tyb_int {H : Hp} {x : V} (t : TyB K H x "int") : ∃ i, x = .int i := by
  generalize e : ("int" : String) = T at t
  cases t <;> first | exact ⟨_, rfl⟩ | exact absurd e (by decide)
def sp_is_number (K : PySem.W.Frag) : Sp := fun vs H Q _ => ∃ (x : V) (T : String) (lo hi : Int), vs = [x, .int lo, .int hi] ∧ TyB K H x T ∧ Q (.bl (isNum x lo hi)) H
theorem sc_is_number : FnScope ["value", "low", "high"] ["value", "low", "high"] (defScope s_is_number) := ⟨rfl, rfl, rfl, by decide +kernel, rfl, by decide +kernel, by decide +kernel⟩
theorem ok_is_number (T : Txt K mg) : FnOk P w K mg base CX0 1 T.d_is_number.f T.d_is_number.fd ["value", "low", "high"] (sp_is_number K) := by
  refine T.d_is_number.F.ok sc_is_number (fun vs H Q E h => ?_) (fun cdv A outer s H vs Q E hr h => ?_)
  · obtain ⟨x, _, lo, hi, rfl, _⟩ := h
    rfl
  · obtain ⟨x, ty, lo, hi, rfl, ht, q⟩ := h
    refine ⟨_, pss_one (ps_ret (pe_and (pe_cmpR op_isTyB (pe_callTy call_type1 (by rfl) T.n_type (by decide +kernel) (pa_cons (pv 0) pa_nil)) (pe_bltn (v := .ty "int") (u := .type "int") (by rfl) T.n_int (by decide +kernel) rfl) (nomark _))
      (pe_one (pe_chain op_le op_le (pv 1) (pv 0) (pv 2))))), ?_⟩
    refine ⟨x, rfl, x, ty, rfl, ht, ty, "int", rfl, rfl, _, rfl, ?_⟩
    by_cases e : ty = "int"
    · subst e
      obtain ⟨i, rfl⟩ := tyb_int ht
      rw [decide_eq_true rfl]
      refine iteT ⟨.int lo, rfl, .int i, rfl, lo, i, rfl, rfl, _, rfl, ?_⟩
      by_cases h1 : lo ≤ i
      · rw [decide_eq_true h1]
        refine iteT ⟨.int hi, rfl, i, hi, rfl, rfl, ?_⟩
        have e2 : isNum (.int i) lo hi = decide (i ≤ hi) := by simp [isNum, h1]
        rw [e2] at q
        exact q
      · rw [decide_eq_false h1]
        refine iteF ?_
        have e2 : isNum (.int i) lo hi = false := by simp [isNum, h1]
        rw [e2] at q
        exact q
    · rw [decide_eq_false e]
      refine iteF ?_
      rw [tyb_not ht e] at q
      exact q
/-- is_lot, of any value -/
def lotB (n : Int) : Int → List V → Bool
  | _, [] => true
  | least, y :: ys => isNum y least (n - 1) && match y with
    | .int i => lotB n (i + 1) ys
    | _ => false
def sp_is_lot (K : PySem.W.Frag) : Sp := fun vs H Q _ => ∃ (hp : Addr) (hs : List V) (x : V), vs = [.ref hp, x] ∧ SqT K H hp hs ∧
  ((∃ ty, TyB K H x ty ∧ ty ≠ "tuple" ∧ Q (.bl false) H) ∨ ∃ (a : Addr) (xs : List V), x = .ref a ∧ SqT K H a xs ∧ (∀ y ∈ xs, ∃ ty, TyB K H y ty) ∧ Q (.bl (lotB hs.length 0 xs)) H)
theorem sc_is_lot : FnScope ["house", "value", "least", "clerk"] ["house", "value"] (defScope s_is_lot) := ⟨rfl, rfl, rfl, by decide +kernel, rfl, by decide +kernel, by decide +kernel⟩
theorem ok_is_lot (T : Txt K mg) : FnOk P w K mg base CX0 2 T.d_is_lot.f T.d_is_lot.fd ["house", "value"] (sp_is_lot K) := by
  have G := ok_is_number (P := P) (w := w) (base := base) T
  refine T.d_is_lot.F.ok sc_is_lot (fun vs H Q E h => ?_) (fun cdv A outer s H vs Q E hr h => ?_)
  · obtain ⟨hp, hs, x, rfl, _⟩ := h
    rfl
  · obtain ⟨hp, hs, x, rfl, hh, h⟩ := h
    refine ⟨_, pss_cons (ps_if (pt_cmpR op_notTyB (pe_callTy call_type1 (by rfl) T.n_type (by decide +kernel) (pa_cons (pv 1) pa_nil)) (pe_bltn (v := .ty "tuple") (u := .type "tuple") (by rfl) T.n_tuple (by decide +kernel) rfl) (nomark _)) (pss_one (ps_ret pe_bl)) pss_nil)
      (pss_cons (ps_set (i := 2) sc_is_lot.nd rfl (.inl rfl) pe_int)
      (pss_cons (ps_for PassesOwn.never rfl (pi_tup (pv 1)) (pg_name (i := 3) sc_is_lot.nd rfl (.inl rfl))
        (pss_cons (ps_if (pt_not (pt_val (pe_call G hr (by rfl) T.d_is_number.g T.d_is_number.F.kp T.d_is_number.b .nil pass0 (pa_cons (pv 3) (pa_cons (pv 2) (pa_cons (pe_op op_sub (pe_callB call_len_seq (by rfl) T.n_len PySem.boot_len (pa_cons (pv 0) pa_nil)) pe_int) pa_nil)))))) (pss_one (ps_ret pe_bl)) pss_nil)
        (pss_one (ps_set (i := 2) sc_is_lot.nd rfl (.inl rfl) (pe_op op_add (pv 3) pe_int)))))
      (pss_one (ps_ret pe_bl)))), ?_⟩
    rcases h with ⟨ty, ht, hne, q⟩ | ⟨a, xs, rfl, hx, hty, q⟩
    · refine ⟨x, rfl, x, ty, rfl, ht, ty, "tuple", rfl, rfl, _, rfl, ?_⟩
      rw [decide_eq_false hne]
      exact iteT q
    · refine ⟨.ref a, rfl, .ref a, "tuple", rfl, .tup hx, "tuple", "tuple", rfl, rfl, _, rfl, ?_⟩
      rw [decide_eq_true rfl]
      refine iteF ?_
      refine ⟨.ref a, rfl, a, rfl, ⟨_, hx⟩, for_tup (K := K) (a := a) (xs := xs) (fun i σ H2 => H2 = H ∧ ∃ (least : Int) (c : Option V), σ = [some (.ref hp), some (.ref a), some (.int least), c] ∧ lotB hs.length 0 xs = lotB hs.length least (xs.drop i))
        ⟨rfl, 0, none, rfl, rfl⟩ (fun i σ H2 _ h2 => by rw [h2.1]; exact hx) ?_ ?_⟩
      · rintro i y σ H2 hi ⟨rfl, least, c, rfl, e⟩
        have hlt : i < xs.length := (List.getElem?_eq_some_iff.mp hi).1
        have ey : xs.drop i = y :: xs.drop (i + 1) := by
          rw [List.drop_eq_getElem_cons hlt]
          congr 1
          exact (List.getElem?_eq_some_iff.mp hi).2
        rw [ey] at e
        obtain ⟨ty, ht⟩ := hty y (List.mem_of_getElem? hi)
        refine ⟨y, rfl, .int least, rfl, .ref hp, rfl, hp, hs, rfl, .inr hh, hs.length, 1, rfl, rfl, y, ty, least, (hs.length : Int) - 1, rfl, ht, isNum y least ((hs.length : Int) - 1), rfl, ?_⟩
        cases hb : isNum y least ((hs.length : Int) - 1) with
        | false =>
          refine iteT ?_
          have e2 : lotB hs.length 0 xs = false := by
            rw [e]
            show (isNum y least ((hs.length : Int) - 1) && _) = false
            rw [hb]
            rfl
          rw [e2] at q
          exact q
        | true =>
          refine iteF ?_
          obtain ⟨k, rfl⟩ : ∃ k, y = .int k := by
            cases y <;> first | exact ⟨_, rfl⟩ | (simp [isNum] at hb)
          refine ⟨.int k, rfl, k, 1, rfl, rfl, rfl, k + 1, _, rfl, ?_⟩
          rw [e]
          show (isNum (.int k) least ((hs.length : Int) - 1) && _) = _
          rw [hb]
          rfl
      · rintro σ H2 ⟨rfl, least, c, rfl, e⟩
        rw [List.drop_length] at e
        have e2 : lotB hs.length 0 xs = true := e
        rw [e2] at q
        exact q
theorem lotB_ok {n : Nat} : ∀ {l : List Nat} {least : Int}, (∀ i ∈ l, i < n) → l.Pairwise (· < ·) → (∀ i ∈ l, least ≤ i) → lotB n least (lotV l) = true
  | [], _, _, _, _ => rfl
  | i :: l, least, h1, h2, h3 => by
    have hi := h1 i List.mem_cons_self
    have hl := h3 i List.mem_cons_self
    obtain ⟨p1, p2⟩ := List.pairwise_cons.mp h2
    show (isNum (.int (i : Int)) least ((n : Int) - 1) && lotB n ((i : Int) + 1) (lotV l)) = true
    rw [lotB_ok (fun j hj => h1 j (List.mem_cons_of_mem _ hj)) p2 (fun j hj => by have := p1 j hj; omega), Bool.and_true]
    simp only [isNum, Bool.and_eq_true, decide_eq_true_eq]
    exact ⟨hl, by omega⟩
theorem LotOk.b {n : Nat} {l : List Nat} (h : LotOk n l) : lotB n 0 (lotV l) = true := lotB_ok h.lt h.rise fun i _ => by omega
theorem tyb_lot {H : Hp} {l : List Nat} : ∀ y ∈ lotV l, ∃ ty, TyB K H y ty := fun y hy => by
  obtain ⟨i, _, rfl⟩ := List.mem_map.mp hy
  exact ⟨"int", .int _⟩
end
end N

set_option Elab.async false
set_option linter.all false
set_option maxRecDepth 100000
set_option maxHeartbeats 2000000
namespace N
open Cb (lotV combs combsOf combsOf_sub)
open PySem PySem.Spec PyProof.Rows L2
section
variable {P : Program} {w : World} {K : PySem.W.Frag} {mg : Str → Option Value} {base : Heap}
def sp_check_number (K : PySem.W.Frag) : Sp := fun vs H Q _ => ∃ (i lo hi : Int), vs = [.int i, .int lo, .int hi] ∧ lo ≤ i ∧ i ≤ hi ∧ Q .non H
theorem sc_check_number : FnScope ["value", "low", "high"] ["value", "low", "high"] (defScope s_check_number) := ⟨rfl, rfl, rfl, by decide +kernel, rfl, by decide +kernel, by decide +kernel⟩
theorem ok_check_number (T : Txt K mg) : FnOk P w K mg base CX0 2 T.d_check_number.f T.d_check_number.fd ["value", "low", "high"] (sp_check_number K) := by
  have G := ok_is_number (P := P) (w := w) (base := base) T
  refine T.d_check_number.F.ok sc_check_number (fun vs H Q E h => ?_) (fun cdv A outer s H vs Q E hr h => ?_)
  · obtain ⟨i, lo, hi, rfl, _⟩ := h
    rfl
  · obtain ⟨i, lo, hi, rfl, h1, h2, q⟩ := h
    refine ⟨_, pss_one (ps_if (pt_not (pt_val (pe_call G hr (by rfl) T.d_is_number.g T.d_is_number.F.kp T.d_is_number.b .nil pass0 (pa_cons (pv 0) (pa_cons (pv 1) (pa_cons (pv 2) pa_nil)))))) (pss_one ps_never) pss_nil), ?_⟩
    refine ⟨.int i, rfl, .int lo, rfl, .int hi, rfl, .int i, "int", lo, hi, rfl, .int i, isNum (.int i) lo hi, rfl, ?_⟩
    rw [show isNum (.int i) lo hi = true by simp [isNum, h1, h2]]
    exact iteF q
def sp_check_house (K : PySem.W.Frag) : Sp := fun vs H Q _ => ∃ (a : Addr) (h : List (List Nat)), vs = [.ref a] ∧ HouseAt K H a h ∧ HouseOk h ∧ ∀ H', Same H H' → Q .non H'
theorem sc_check_house : FnScope ["house", "clerk", "row"] ["house"] (defScope s_check_house) := ⟨rfl, rfl, rfl, by decide +kernel, rfl, by decide +kernel, by decide +kernel⟩
theorem paired_at {α β : Type} {F : α → β → Prop} : ∀ {xs : List α} {ys : List β}, Paired F xs ys → ∀ {i : Nat} {x : α}, xs[i]? = some x → ∃ y, ys[i]? = some y ∧ F x y
  | _, _, .nil, i, x, h => by cases h
  | _, _, .cons r t, 0, x, h => by
    have e := Option.some.inj h
    subst e
    exact ⟨_, rfl, r⟩
  | _, _, .cons r t, i + 1, x, h => paired_at t h
theorem ok_check_house (T : Txt K mg) : FnOk P w K mg base CX0 3 T.d_check_house.f T.d_check_house.fd ["house"] (sp_check_house K) := by
  have G := ok_is_lot (P := P) (w := w) (base := base) T
  obtain ⟨tm, gm⟩ := T.g_MOST_CLERKS
  refine T.d_check_house.F.ok sc_check_house (fun vs H Q E h => ?_) (fun cdv A outer s H vs Q E hr h => ?_)
  · obtain ⟨a, h, rfl, _⟩ := h
    rfl
  · obtain ⟨a, hs, rfl, ⟨rs, hA, hP⟩, ok, q⟩ := h
    have hl : rs.length = hs.length := Paired.length hP
    have hlv : (rs.map V.ref).length = hs.length := by rw [List.length_map, hl]
    refine ⟨_, pss_cons (ps_if (PW.pt (pw_or (pt_cmpR op_notTyB (pe_callTy call_type1 (by rfl) T.n_type (by decide +kernel) (pa_cons (pv 0) pa_nil)) (pe_bltn (v := .ty "tuple") (u := .type "tuple") (by rfl) T.n_tuple (by decide +kernel) rfl) (nomark _))
        (pw_or1 (pt_not (pt_chain op_le op_le pe_int (pe_callB call_len_seq (by rfl) T.n_len PySem.boot_len (pa_cons (pv 0) pa_nil)) (pe_glob (v := .int 7) (by rfl) gm ⟨_, rfl⟩)))))) (pss_one ps_never) pss_nil)
      (pss_one (ps_for PassesOwn.never rfl (En.pi_enumT (by rfl) T.n_enumerate (pa_cons (pv 0) pa_nil)) (pg_tup rfl (pgs_cons (pg_name (i := 1) sc_check_house.nd rfl (.inl rfl)) (pgs_cons (pg_name (i := 2) sc_check_house.nd rfl (.inl rfl)) pgs_nil)))
        (pss_one (ps_if (PW.pt (pw_or (pt_not (pt_val (pe_call G hr (by rfl) T.d_is_lot.g T.d_is_lot.F.kp T.d_is_lot.b .nil pass0 (pa_cons (pv 0) (pa_cons (pv 2) pa_nil)))))
          (pw_or1 (pt_cmpR op_eq (pe_callB call_len_seq (by rfl) T.n_len PySem.boot_len (pa_cons (pv 2) pa_nil)) pe_int (nomark _))))) (pss_one ps_never) pss_nil)))), ?_⟩
    refine ⟨.ref a, rfl, .ref a, "tuple", rfl, .tup hA, "tuple", "tuple", rfl, rfl, _, rfl, ?_⟩
    rw [decide_eq_true rfl]
    refine iteF ⟨.ref a, rfl, a, _, rfl, .inr hA, 1, _, rfl, rfl, _, rfl, ?_⟩
    have h1 := ok.lo
    have h2 := ok.hi
    rw [hlv]
    rw [decide_eq_true (by omega : (1 : Int) ≤ (hs.length : Int))]
    refine iteT ⟨_, 7, rfl, rfl, _, rfl, ?_⟩
    rw [decide_eq_true (by omega : (hs.length : Int) ≤ 7)]
    refine iteF ?_
    refine ⟨.ref a, rfl, a, _, rfl, hA, En.for_enumT (K := K) (a := a) (xs := rs.map V.ref) (fun i σ H2 => Same H H2 ∧ ∃ c r : Option V, σ = [some (.ref a), c, r]) ⟨Same.refl _, none, none, rfl⟩ (fun i σ H2 _ h3 => Same.tup h3.1 hA) ?_ ?_⟩
    · rintro i x T2 σ H2 hi ⟨sm, c, r, rfl⟩ hT
      obtain ⟨rp, hri, rfl⟩ := get_refs hi
      obtain ⟨row, hrow, hat⟩ := paired_at hP hri
      have okr := ok.ok row (List.mem_of_getElem? hrow)
      have sm2 : Same H (upd H2 T2 (.tup [.int (i : Nat), .ref rp])) := sm.trans (same_upd hT)
      refine ⟨T2, [.int (i : Nat), .ref rp], rfl, .inl (.inl upd_same), rfl, .int (i : Nat), [.ref rp], rfl, .ref rp, [], rfl, rfl, ?_⟩
      have hat2 : LotAt K (upd H2 T2 (.tup [.int (i : Nat), .ref rp])) rp row := hat.same sm2
      refine ⟨.ref a, rfl, .ref rp, rfl, a, _, .ref rp, rfl, Same.tup sm2 hA, .inr ⟨rp, _, rfl, hat2, tyb_lot, ?_⟩⟩
      rw [hlv, okr.2.b]
      refine ⟨true, rfl, iteF ?_⟩
      refine ⟨.ref rp, rfl, rp, _, rfl, .inr hat2, rfl, _, rfl, ?_⟩
      have hne : ¬ ((V.int ((lotV row).length : Int)) = V.int 0) := fun z => by
        have z2 := V.int.inj z
        rw [List.length_map] at z2
        exact okr.1 (List.length_eq_zero_iff.mp (by omega))
      rw [decide_eq_false hne]
      refine iteF ?_
      exact ⟨sm2, _, _, rfl⟩
    · rintro σ H2 ⟨sm, c, r, rfl⟩
      exact q H2 sm
def sp_check_lot (K : PySem.W.Frag) : Sp := fun vs H Q _ => ∃ (a g : Addr) (h : List (List Nat)) (l : List Nat), vs = [.ref a, .ref g] ∧ HouseAt K H a h ∧ LotAt K H g l ∧ LotOk h.length l ∧ Q .non H
theorem sc_check_lot : FnScope ["house", "lot"] ["house", "lot"] (defScope s_check_lot) := ⟨rfl, rfl, rfl, by decide +kernel, rfl, by decide +kernel, by decide +kernel⟩
theorem ok_check_lot (T : Txt K mg) : FnOk P w K mg base CX0 3 T.d_check_lot.f T.d_check_lot.fd ["house", "lot"] (sp_check_lot K) := by
  have G := ok_is_lot (P := P) (w := w) (base := base) T
  refine T.d_check_lot.F.ok sc_check_lot (fun vs H Q E h => ?_) (fun cdv A outer s H vs Q E hr h => ?_)
  · obtain ⟨a, g, h, l, rfl, _⟩ := h
    rfl
  · obtain ⟨a, g, hs, l, rfl, ⟨rs, hA, hP⟩, hL, ok, q⟩ := h
    have hl : rs.length = hs.length := Paired.length hP
    have hlv : (rs.map V.ref).length = hs.length := by rw [List.length_map, hl]
    refine ⟨_, pss_one (ps_if (pt_not (pt_val (pe_call G hr (by rfl) T.d_is_lot.g T.d_is_lot.F.kp T.d_is_lot.b .nil pass0 (pa_cons (pv 0) (pa_cons (pv 1) pa_nil))))) (pss_one ps_never) pss_nil), ?_⟩
    refine ⟨.ref a, rfl, .ref g, rfl, a, _, .ref g, rfl, hA, .inr ⟨g, _, rfl, hL, tyb_lot, ?_⟩⟩
    rw [hlv, ok.b]
    exact ⟨true, rfl, iteF q⟩
def sp_check_goal (K : PySem.W.Frag) : Sp := fun vs H Q _ => ∃ (a g : Addr) (h : List (List Nat)) (l : List Nat), vs = [.ref a, .ref g] ∧ HouseAt K H a h ∧ LotAt K H g l ∧ LotOk h.length l ∧ l ≠ [] ∧ Q .non H
theorem sc_check_goal : FnScope ["house", "goal"] ["house", "goal"] (defScope s_check_goal) := ⟨rfl, rfl, rfl, by decide +kernel, rfl, by decide +kernel, by decide +kernel⟩
theorem ok_check_goal (T : Txt K mg) : FnOk P w K mg base CX0 4 T.d_check_goal.f T.d_check_goal.fd ["house", "goal"] (sp_check_goal K) := by
  have G := ok_check_lot (P := P) (w := w) (base := base) T
  refine T.d_check_goal.F.ok sc_check_goal (fun vs H Q E h => ?_) (fun cdv A outer s H vs Q E hr h => ?_)
  · obtain ⟨a, g, h, l, rfl, _⟩ := h
    rfl
  · obtain ⟨a, g, hs, l, rfl, hA, hL, ok, hne, q⟩ := h
    refine ⟨_, pss_cons (ps_expr (pe_call G hr (by rfl) T.d_check_lot.g T.d_check_lot.F.kp T.d_check_lot.b .nil pass0 (pa_cons (pv 0) (pa_cons (pv 1) pa_nil))))
      (pss_one (ps_if (pt_cmpR op_eq (pe_callB call_len_seq (by rfl) T.n_len PySem.boot_len (pa_cons (pv 1) pa_nil)) pe_int (nomark _)) (pss_one ps_never) pss_nil)), ?_⟩
    refine ⟨.ref a, rfl, .ref g, rfl, a, g, hs, l, rfl, hA, hL, ok, ?_⟩
    refine ⟨.ref g, rfl, g, _, rfl, .inr hL, rfl, _, rfl, ?_⟩
    have hn : ¬ ((V.int ((lotV l).length : Int)) = V.int 0) := fun z => by
      have z2 := V.int.inj z
      rw [List.length_map] at z2
      exact hne (List.length_eq_zero_iff.mp (by omega))
    rw [decide_eq_false hn]
    exact iteF q
end
end N

set_option Elab.async false
set_option linter.all false
set_option maxRecDepth 100000
set_option maxHeartbeats 2000000
namespace N
open Cb (lotV combs combsOf combsOf_sub)
open PySem PySem.Spec PyProof.Rows L2
section
variable {P : Program} {w : World} {K : PySem.W.Frag} {mg : Str → Option Value} {base : Heap}
theorem tYes_if {σ : L2.St} {H : Hp} {A B : Hp → Prop} (h : A H) : tYes σ H (fun b H3 => if b = true then A H3 else B H3) := by
  show (if true = true then A H else B H)
  rw [if_pos rfl]
  exact h
def sp_mask_of (K : PySem.W.Frag) : Sp := fun vs H Q _ => ∃ (g : Addr) (l : List Nat), vs = [.ref g] ∧ LotAt K H g l ∧ (∀ i ∈ l, i ≤ 1000) ∧ Q (.int (maskOf l : Nat)) H
theorem sc_mask_of : FnScope ["lot", "mask", "clerk"] ["lot"] (defScope s__mask_of) := ⟨rfl, rfl, rfl, by decide +kernel, rfl, by decide +kernel, by decide +kernel⟩
theorem ok_mask_of (T : Txt K mg) : FnOk P w K mg base CX0 1 T.d__mask_of.f T.d__mask_of.fd ["lot"] (sp_mask_of K) := by
  refine T.d__mask_of.F.ok sc_mask_of (fun vs H Q E h => ?_) (fun cdv A outer s H vs Q E hr h => ?_)
  · obtain ⟨g, l, rfl, _⟩ := h
    rfl
  · obtain ⟨g, l, rfl, hL, hb, q⟩ := h
    refine ⟨_, pss_cons (ps_set (i := 1) sc_mask_of.nd rfl (.inl rfl) pe_int)
      (pss_cons (ps_for PassesOwn.never rfl (pi_tup (pv 0)) (pg_name (i := 2) sc_mask_of.nd rfl (.inl rfl))
        (pss_one (ps_aug (i := 1) sc_mask_of.nd rfl (.inl rfl) (pe_op op_shl1 pe_int (pv 2)) ip_orN)))
      (pss_one (ps_ret (pv 1)))), ?_⟩
    refine ⟨.ref g, rfl, g, rfl, ⟨_, hL⟩, for_tup (K := K) (a := g) (xs := lotV l) (fun i σ H2 => H2 = H ∧ ∃ c : Option V, σ = [some (.ref g), some (.int (maskOf (l.take i) : Nat)), c])
      ⟨rfl, none, rfl⟩ (fun i σ H2 _ h2 => by rw [h2.1]; exact hL) ?_ ?_⟩
    · rintro i y σ H2 hi ⟨rfl, c, rfl⟩
      obtain ⟨k, hk, rfl⟩ := get_lotV hi
      refine ⟨.int (maskOf (l.take i) : Nat), rfl, .int k, rfl, k, rfl, rfl, hb k (List.mem_of_getElem? hk), maskOf (l.take i), 2 ^ k, rfl, rfl, rfl, some (.int k), ?_⟩
      rw [maskOf_take hk]
      rfl
    · rintro σ H2 ⟨rfl, c, rfl⟩
      have e : l.take (lotV l).length = l := by rw [List.length_map, List.take_length]
      rw [e]
      exact ⟨_, rfl, q⟩
def sp_holds (K : PySem.W.Frag) : Sp := fun vs H Q _ => ∃ (m : Nat) (g : Addr) (l : List Nat), vs = [.int m, .ref g] ∧ LotAt K H g l ∧ (∀ i ∈ l, i ≤ 1000) ∧ Q (.bl (holdsB m l)) H
theorem sc_holds : FnScope ["mask", "goal", "wanted"] ["mask", "goal"] (defScope s__holds) := ⟨rfl, rfl, rfl, by decide +kernel, rfl, by decide +kernel, by decide +kernel⟩
theorem ok_holds (T : Txt K mg) : FnOk P w K mg base CX0 2 T.d__holds.f T.d__holds.fd ["mask", "goal"] (sp_holds K) := by
  have G := ok_mask_of (P := P) (w := w) (base := base) T
  refine T.d__holds.F.ok sc_holds (fun vs H Q E h => ?_) (fun cdv A outer s H vs Q E hr h => ?_)
  · obtain ⟨m, g, l, rfl, _⟩ := h
    rfl
  · obtain ⟨m, g, l, rfl, hL, hb, q⟩ := h
    refine ⟨_, pss_cons (ps_set (i := 2) sc_holds.nd rfl (.inl rfl) (pe_call G hr (by rfl) T.d__mask_of.g T.d__mask_of.F.kp T.d__mask_of.b .nil pass0 (pa_cons (pv 1) pa_nil)))
      (pss_one (ps_ret (pe_cmpR op_eq (pe_op op_andN (pv 0) (pv 2)) (pv 2) (nomark _)))), ?_⟩
    refine ⟨.ref g, rfl, g, l, rfl, hL, hb, ?_⟩
    refine ⟨.int m, rfl, .int (maskOf l : Nat), rfl, m, maskOf l, rfl, rfl, .int (maskOf l : Nat), rfl, rfl, ?_⟩
    have e : decide (V.int ((m &&& maskOf l : Nat) : Int) = V.int (maskOf l : Nat)) = holdsB m l := by
      unfold holdsB
      by_cases h : (m &&& maskOf l) = maskOf l
      · rw [h]; simp
      · rw [decide_eq_false (fun z => h (by have := V.int.inj z; omega)), beq_eq_false_iff_ne.mpr h]
    rw [e]
    exact q
/-- lots stand at the places of a list -/
def LotsIn (H : Hp) (ts : List Addr) (ls : List (List Nat)) : Prop := Paired (fun (t : Addr) (l : List Nat) => H t = some (.tup (lotV l))) ts ls
def sp_lots_within (K : PySem.W.Frag) : Sp := fun vs H Q _ => ∃ (g : Addr) (pool : List Nat) (r : Nat), vs = [.ref g, .int r] ∧ LotAt K H g pool ∧ r ≤ pool.length ∧ pool.length ≤ 7 ∧ ∀ (H' : Hp) (p : Addr) (ts : List Addr), Same H H' → H p = none → H' p = some (.lst (ts.map V.ref)) → Paired (fun (t : Addr) (l : List Nat) => H' t = some (.tup (lotV l))) ts (combsOf pool r) → Q (.ref p) H'
theorem sc_lots_within : FnScope ["lot", "size", "slates"] ["lot", "size"] (defScope s_lots_within) := ⟨rfl, rfl, rfl, by decide +kernel, rfl, by decide +kernel, by decide +kernel⟩
theorem ok_lots_within (T : Txt K mg) : FnOk P w K mg base CX0 1 T.d_lots_within.f T.d_lots_within.fd ["lot", "size"] (sp_lots_within K) := by
  refine T.d_lots_within.F.ok sc_lots_within (fun vs H Q E h => ?_) (fun cdv A outer s H vs Q E hr h => ?_)
  · obtain ⟨g, pool, r, rfl, _⟩ := h
    rfl
  · obtain ⟨g, pool, r, rfl, hL, h1, h2, q⟩ := h
    have nd := sc_lots_within.nd
    refine ⟨_, pss_cons (ps_set (i := 2) nd rfl (.inl rfl) (pe_callTy call_list_of (by rfl) T.n_list (by decide +kernel) (pa_cons (pv 0) pa_nil)))
      (pss_one (ps_ret (Cb.pe_listComb rfl (pv 2) (pv 1) (by rfl) T.n_list (by rfl) T.g_combinations))), ?_⟩
    refine ⟨.ref g, rfl, g, lotV pool, rfl, .inr hL, fun l hl => ?_⟩
    refine ⟨.ref l, rfl, .int r, rfl, l, pool, r, rfl, rfl, upd_same, h1, h2, fun H' p ts sm hp _ _ hl2 hP => ?_⟩
    exact q H' p ts ((same_upd hl).trans sm) ((same_upd hl).free hp) hl2 hP
theorem combs_small {n r : Nat} (hr : r ≤ n) (hn : n ≤ 7) : (combs n r).length ≤ 128 := (Cb.combs_ok hr hn).choose_spec.2.2.1
theorem combs_mem {n r : Nat} {l : List Nat} : l ∈ combs n r ↔ LotOk n l ∧ l.length = r := combsOf_sub
theorem combsOf_small {pool : List Nat} {r : Nat} (hr : r ≤ pool.length) (hn : pool.length ≤ 7) : (combsOf pool r).length ≤ 128 := by
  rw [Cb.combsOf_pool, List.length_map]
  exact combs_small hr hn
def sp_coin_masks (K : PySem.W.Frag) : Sp := fun vs H Q _ => ∃ (g : Addr) (lot : List Nat) (c : Nat), vs = [.ref g, .int c] ∧ LotAt K H g lot ∧ lot.length ≤ 7 ∧ (∀ i ∈ lot, i ≤ 1000) ∧ ∀ (H' : Hp) (p : Addr), Same H H' → H p = none → H' p = some (.lst (natsV (coinMasks lot c))) → Q (.ref p) H'
theorem sc_coin_masks : FnScope ["lot", "coins", "some"] ["lot", "coins"] (defScope s__coin_masks) := ⟨rfl, rfl, rfl, by decide +kernel, rfl, by decide +kernel, by decide +kernel⟩
theorem lotV_len (l : List Nat) : (lotV l).length = l.length := List.length_map ..
theorem ok_coin_masks (T : Txt K mg) : FnOk P w K mg base CX0 2 T.d__coin_masks.f T.d__coin_masks.fd ["lot", "coins"] (sp_coin_masks K) := by
  have G1 := ok_mask_of (P := P) (w := w) (base := base) T
  have G2 := ok_lots_within (P := P) (w := w) (base := base) T
  refine T.d__coin_masks.F.ok sc_coin_masks (fun vs H Q E h => ?_) (fun cdv A outer s H vs Q E hr h => ?_)
  · obtain ⟨g, lot, c, rfl, _⟩ := h
    rfl
  · obtain ⟨g, lot, c, rfl, hL, hn, hb, q⟩ := h
    refine ⟨_, pss_one (ps_ret (pe_lc (own := [("some", 2)]) (g := gName 2) (tt := tYes) rfl sc_coin_masks.nd
      (pi_list (pe_call G2 hr (by rfl) T.d_lots_within.g T.d_lots_within.F.kp T.d_lots_within.b .nil pass0 (pa_cons (pv 0)
        (pa_cons (pe_callB (call_min2 rfl) (by rfl) T.n_min (by decide +kernel) (pa_cons (pv 1) (pa_cons (pe_callB call_len_seq (by rfl) T.n_len PySem.boot_len (pa_cons (pv 0) pa_nil)) pa_nil))) pa_nil))))
      (blkOk_by (N := ["lot", "coins", "some"]) (sc := defScope s__coin_masks) (by decide +kernel)) (fun _ _ _ _ _ => pg_name (i := 2) sc_coin_masks.nd rfl (.inl rfl)) (fun _ _ _ _ _ => pts_nil)
      (fun _ _ _ _ _ => pe_call G1 hr (by rfl) T.d__mask_of.g T.d__mask_of.F.kp T.d__mask_of.b .nil pass0 (pa_cons (pv 2) pa_nil)))), ?_⟩
    refine ⟨.ref g, rfl, .int c, rfl, .ref g, rfl, g, lotV lot, rfl, .inr hL, c, (lotV lot).length, rfl, ?_⟩
    rw [lotV_len]
    have em : (if (lot.length : Int) < (c : Int) then (lot.length : Int) else (c : Int)) = ((min c lot.length : Nat) : Int) := by
      split <;> omega
    rw [em]
    refine ⟨g, lot, min c lot.length, rfl, hL, Nat.min_le_right _ _, hn, fun H1 p ts sm hp hl hP => ?_⟩
    have hlen : ts.length = (combsOf lot (min c lot.length)).length := Paired.length hP
    have hsm := combsOf_small (Nat.min_le_right c lot.length) hn
    refine ⟨p, rfl, ⟨_, SqL.up hl⟩, fun D hD => lc_list (K := K) (a := p) (xs := ts.map V.ref) (fun i H2 => ∃ H3, Same H1 H3 ∧ H3 D = none ∧ H2 = upd H3 D (.lst (natsV ((coinMasks lot c).take i))))
      ⟨H1, Same.refl _, hD, rfl⟩ ?_ ?_ ?_⟩
    · rintro i H2 _ ⟨H3, s3, hD3, rfl⟩
      refine SqL.up ?_
      rw [upd_ne (ne_of_none (s3 _ _ hl) hD3)]
      exact s3 _ _ hl
    · rintro i y H2 hi ⟨H3, s3, hD3, rfl⟩
      obtain ⟨t, ht, rfl⟩ := get_refs hi
      obtain ⟨l, hl2, e⟩ := paired_at hP ht
      have hm := combsOf_sub.mp (List.mem_of_getElem? hl2)
      refine ⟨rfl, tYes_if ?_⟩
      refine ⟨.ref t, rfl, t, l, rfl, ?_, fun i hi => hb i (hm.1.subset hi), ?_⟩
      · refine SqT.up ?_
        rw [upd_ne (ne_of_none (s3 _ _ e) hD3)]
        exact s3 _ _ e
      · refine ⟨_, upd_same, ?_, H3, s3, hD3, ?_⟩
        · rw [natsV, List.length_map, List.length_take, coinMasks, List.length_map]
          exact Nat.lt_of_le_of_lt (Nat.min_le_right _ _) (small1000 (by omega))
        · rw [upd_upd]
          congr 2
          have e2 : (coinMasks lot c)[i]? = some (maskOf l) := by rw [coinMasks, List.getElem?_map, hl2]; rfl
          exact (natsV_take e2).symm
    · rintro H2 ⟨H3, s3, hD3, rfl⟩
      refine q _ D ((sm.trans s3).trans (same_upd hD3)) (sm.free hD) ?_
      rw [upd_same]
      congr 3
      refine List.take_of_length_le ?_
      rw [coinMasks, List.length_map, List.length_map, hlen]
      exact Nat.le_refl _
def sp_next_cover (K : PySem.W.Frag) : Sp := fun vs H Q _ => ∃ (a : Addr) (ss : List Nat) (held : Nat), vs = [.ref a, .int held] ∧ SqL K H a (natsV ss) ∧ ss.length ≤ 1000 ∧ ∀ H', Same H H' → Q (.int (nextM ss held : Nat)) H'
theorem sc_next_cover : FnScope ["sights", "held", "cover", "clerk", "sight"] ["sights", "held"] (defScope s__next_cover) := ⟨rfl, rfl, rfl, by decide +kernel, rfl, by decide +kernel, by decide +kernel⟩
theorem ok_next_cover (T : Txt K mg) : FnOk P w K mg base CX0 1 T.d__next_cover.f T.d__next_cover.fd ["sights", "held"] (sp_next_cover K) := by
  refine T.d__next_cover.F.ok sc_next_cover (fun vs H Q E h => ?_) (fun cdv A outer s H vs Q E hr h => ?_)
  · obtain ⟨a, ss, held, rfl, _⟩ := h
    rfl
  · obtain ⟨a, ss, held, rfl, hA, hn, q⟩ := h
    have nd := sc_next_cover.nd
    refine ⟨_, pss_cons (ps_set (i := 2) nd rfl (.inl rfl) pe_int)
      (pss_cons (ps_for PassesOwn.never rfl (pi_enum (by rfl) T.n_enumerate (pa_cons (pv 0) pa_nil)) (pg_tup rfl (pgs_cons (pg_name (i := 3) nd rfl (.inl rfl)) (pgs_cons (pg_name (i := 4) nd rfl (.inl rfl)) pgs_nil)))
        (pss_one (ps_if (pt_cmpR op_eq (pe_op op_andN (pv 4) (pv 1)) (pv 4) (nomark _)) (pss_one (ps_aug (i := 2) nd rfl (.inl rfl) (pe_op op_shl1 pe_int (pv 3)) ip_orN)) pss_nil)))
      (pss_one (ps_ret (pv 2)))), ?_⟩
    refine ⟨.ref a, rfl, a, _, rfl, hA, for_enumL (K := K) (a := a) (xs := natsV ss) (fun i σ H2 => Same H H2 ∧ ∃ (acc : Nat) (c d : Option V), σ = [some (.ref a), some (.int held), some (.int acc), c, d] ∧ nextM ss held = nextFrom held i (ss.drop i) acc)
      ⟨Same.refl _, 0, none, none, rfl, rfl⟩ (fun i σ H2 _ h3 => Same.seq h3.1 hA) ?_ ?_⟩
    · rintro i y T2 σ H2 hi ⟨sm, acc, c, d, rfl, e⟩ hT
      obtain ⟨k, hk, rfl⟩ := get_lotV hi
      have hlt : i < ss.length := (List.getElem?_eq_some_iff.mp hk).1
      have ek : ss.drop i = k :: ss.drop (i + 1) := by
        rw [List.drop_eq_getElem_cons hlt]
        congr 1
        exact (List.getElem?_eq_some_iff.mp hk).2
      rw [ek] at e
      refine ⟨T2, [.int (i : Nat), .int (k : Int)], rfl, .inl (.inl upd_same), rfl, .int (i : Nat), [.int (k : Int)], rfl, .int (k : Int), [], rfl, rfl, ?_⟩
      have sm2 := sm.trans (same_upd (o := .tup [.int (i : Nat), .int (k : Int)]) hT)
      refine ⟨.int (k : Int), rfl, .int (held : Int), rfl, k, held, rfl, rfl, .int (k : Int), rfl, rfl, _, rfl, ?_⟩
      refine ite2 (fun hb => ?_) (fun hb => ?_)
      · have hb2 : (k &&& held) = k := by
          have := V.int.inj (of_decide_eq_true hb)
          omega
        refine ⟨.int (acc : Int), rfl, .int (i : Nat), rfl, i, rfl, rfl, by omega, acc, 2 ^ i, rfl, rfl, ?_⟩
        refine ⟨sm2, acc ||| 2 ^ i, _, _, rfl, ?_⟩
        rw [e]
        show nextFrom held (i + 1) (ss.drop (i + 1)) (if (k &&& held) = k then acc ||| 2 ^ i else acc) = _
        rw [if_pos hb2]
      · have hb2 : ¬ ((k &&& held) = k) := fun z => hb (by rw [z]; exact decide_eq_true rfl)
        refine ⟨sm2, acc, _, _, rfl, ?_⟩
        rw [e]
        show nextFrom held (i + 1) (ss.drop (i + 1)) (if (k &&& held) = k then acc ||| 2 ^ i else acc) = _
        rw [if_neg hb2]
    · rintro σ H2 ⟨sm, acc, c, d, rfl, e⟩
      have e2 : ss.drop (natsV ss).length = [] := by rw [natsV, List.length_map, List.drop_length]
      rw [e2] at e
      refine ⟨_, rfl, ?_⟩
      have z := q H2 sm
      rw [e] at z
      exact z
end
end N

set_option Elab.async false
set_option linter.all false
set_option maxRecDepth 100000
set_option maxHeartbeats 2000000
/-! {t: v}, t a tuple -/
namespace N
open Cb (lotV combs combsOf combsOf_sub)
open PySem PySem.Spec PyProof.Rows L2
def tDispT (tk tv : TE) : TE := fun σ H Q => ∀ d, H d = none → tk σ (upd H d (.dT [])) fun x H1 => tv σ H1 fun y H2 => ∃ (b : Addr) (k : List Key), x = .ref b ∧ H2 b = some (.tup (k.map kV)) ∧ H2 d = some (.dT []) ∧ Q (.ref d) (upd H2 d (.dT [(k, y)]))
theorem pe_dispT {X : Cx} {pos : Pos} {ke ve : Expr} {tk tv : TE} (hu : X.A.units + 1 < cLine) (hk : PE X ke tk) (hv : PE X ve tv) : PE X (.Dict [some ke] [ve] pos) (tDispT tk tv) := by
  refine ⟨fun pins s σ H Q I q => ?_⟩
  have hn := I.hok.fresh (Nat.le_refl s.heap.objs.size)
  have I1 := I.laid (a := s.heap.objs.size) (o := .dT []) (h' := s.heap.push { cls := .type "dict", data := .dict #[] }) (t' := s.toks) (fun _ _ q => Heap.get?_push_of_some _ q) (Nat.le_refl _) (dt_empty s.heap I.big)
  rw [arm_eval_Dict, zip_pairTrees [some ke] [ve] X.env pos rfl rfl, dictDisplay_pairs _ (by simp [pairTrees]) (by simp [pairTrees])]
  refine wpAny_bind (wpAny_standAt (wpAny_bind ?_))
  unfold subDict
  refine wpAny_bind (wpAny_alloc ?_)
  refine wpAny_bind (wpAny_holding ?_)
  rw [if_pos (by simp [pairTrees])]
  refine wpAny_bind ?_
  refine wpAny_mono (pairTrees_cons_walk (Q := fun vs s' => ∃ u v, vs = [(u, v)] ∧ EP X pins σ (fun x H2 => ∃ (y : V) (b : Addr) (k : List Key), RelV y v ∧ x = .ref b ∧ H2 b = some (.tup (k.map kV)) ∧ H2 s.heap.objs.size = some (.dT []) ∧ Q (.ref s.heap.objs.size) (upd H2 s.heap.objs.size (.dT [(k, y)]))) u s')
    (thn (hk.run pins _ σ _ _ I1 (q _ hn)) fun u s1 ⟨x, H1, I2, rx, q1⟩ => thn (hv.run pins s1 σ H1 _ I2 q1) fun v s2 ⟨y, H2, I3, ry, b, k, ex, hb, hd, q2⟩ => evalPairs_nil ⟨u, v, rfl, x, H2, I3, rx, y, b, k, ry, ex, hb, hd, q2⟩)) (fun vs s1 h1 => ?_) fun _ _ e => e
  obtain ⟨u, v, rfl, x, H2, I2, rx, y, b, k, ry, rfl, hb, hd, q2⟩ := h1
  cases rx
  refine wpAny_holding ?_
  refine wpAny_bind ?_
  rw [List.forIn_cons]
  obtain ⟨z, hds, xs, rel, dd⟩ := dt_of I2.hok hd
  cases rel
  refine wpAny_bind (wpAny_bind (wpAny_dictSet_heap (hsz := Nat.zero_le _) ?hu (key_of I2.hok hb) dd fun h' dd' hs => wpAny_pure ?_))
  case hu => exact (Nat.lt_of_succ_lt hu : X.A.units < cLine)
  try dsimp only
  rw [List.forIn_nil]
  refine wpAny_pure (wpAny_pure (wpAny_pure (wpAny_pure ?_)))
  obtain ⟨qo, es, ep, hq, h2, h3, h4, _, h5⟩ := dd'
  have new : ObjOk X.prog X.w (upd H2 s.heap.objs.size (.dT [(k, y)])) h' s.heap.objs.size (.dT [(k, y)]) :=
    ⟨(by show 1 ≤ sizeLine; decide), hds, _, (KT.put (H := H2) Paired.nil k hb ry).keeps fun c ys ec => by
      rw [upd_ne (ne_of ec hd (fun z => nomatch z))]
      exact ec, qo, es, ep, hq, h2, h3, h4, h5⟩
  exact ⟨.ref s.heap.objs.size, _, d_write I2 (by rw [hd]; exact True.intro) hs ⟨qo, hq⟩ new, rfl, q2⟩
end N

set_option Elab.async false
set_option linter.all false
set_option maxRecDepth 100000
set_option maxHeartbeats 2000000
/-! the dict of the search, over the heap -/
namespace N
open Cb (lotV combs combsOf combsOf_sub)
open PySem PySem.Spec PyProof.Rows L2
/-- a place as values -/
abbrev plV (p : Nat × Nat) : List V := [.int (p.1 : Int), .int (p.2 : Int)]
def keyP (p : Nat × Nat) : List Key := [Sum.inl (p.1 : Int), Sum.inl (p.2 : Int)]
theorem keyP_V (p : Nat × Nat) : (keyP p).map kV = plV p := rfl
theorem keyP_inj {p q : Nat × Nat} (h : keyP p = keyP q) : p = q := by
  unfold keyP at h
  have h1 := (List.cons.inj h).1
  have h2 := (List.cons.inj (List.cons.inj h).2).1
  have h3 := Sum.inl.inj h1
  have h4 := Sum.inl.inj h2
  exact Prod.ext (by omega) (by omega)
def BackAt (H : Hp) (v : V) : Option ((Nat × Nat) × Nat) → Prop
  | none => v = .non
  | some (c, cm) => ∃ t u, v = .ref t ∧ H t = some (.tup [.ref u, .int (cm : Int)]) ∧ H u = some (.tup (plV c))
theorem BackAt.mono {H H' : Hp} {v : V} {b : Option ((Nat × Nat) × Nat)} (h : BackAt H v b) (k : ∀ t xs, H t = some (.tup xs) → H' t = some (.tup xs)) : BackAt H' v b := by
  cases b with
  | none => exact h
  | some p =>
    obtain ⟨t, u, e, ht, hu⟩ := h
    exact ⟨t, u, e, k _ _ ht, k _ _ hu⟩
def EntAt (H : Hp) (kv : List Key × V) (e : Ent) : Prop := kv.1 = keyP e.p ∧ BackAt H kv.2 e.b
def WaysAt (H : Hp) (wp : Addr) (es : List Ent) : Prop := ∃ kvs, H wp = some (.dT kvs) ∧ Paired (EntAt H) kvs es
theorem valV_ents {H : Hp} {m : Nat × Nat} : ∀ {kvs : List (List Key × V)} {es : List Ent}, Paired (EntAt H) kvs es → (valV kvs (keyP m) = none ↔ ¬ ∃ e ∈ es, e.p = m)
  | _, _, .nil => by simp [valV_nil]
  | kv :: kvs, e :: es, .cons r t => by
    by_cases h : e.p = m
    · have e1 : kv.1 = keyP m := by rw [r.1, h]
      rw [valV_pos e1]
      constructor
      · intro z; cases z
      · intro z; exact absurd ⟨e, List.mem_cons_self, h⟩ z
    · have e1 : ¬ kv.1 = keyP m := by
        rw [r.1]
        intro z
        exact h (keyP_inj z)
      rw [valV_neg e1, valV_ents t]
      constructor
      · rintro z ⟨x, hx, ex⟩
        rcases List.mem_cons.mp hx with y | y
        · rw [y] at ex; exact h ex
        · exact z ⟨x, y, ex⟩
      · rintro z ⟨x, hx, ex⟩
        exact z ⟨x, List.mem_cons_of_mem _ hx, ex⟩
/-- places stand at the items of a list -/
abbrev PlsAt (H : Hp) (ts : List Addr) (ps : List (Nat × Nat)) : Prop := Paired (fun (t : Addr) (p : Nat × Nat) => H t = some (.tup (plV p))) ts ps
/-- what stands in the heap within a day's search -/
structure WH (H0 H : Hp) (wp lp fp : Addr) (es : List Ent) (ts : List Addr) (L : List (Nat × Nat)) (fs : List Addr) (F : List (Nat × Nat)) : Prop where
  sm : Same H0 H
  ways : WaysAt H wp es
  lat : H lp = some (.lst (ts.map V.ref))
  ltp : PlsAt H ts L
  fnd : H fp = some (.lst (fs.map V.ref))
  ftp : PlsAt H fs F
  nw : H0 wp = none
  nf : H0 fp = none
  nlf : lp ≠ fp
theorem WaysAt.same {H H' : Hp} {wp : Addr} {es : List Ent} (x : WaysAt H wp es) (e : Same H H') : WaysAt H' wp es := by
  obtain ⟨kvs, h1, h2⟩ := x
  exact ⟨kvs, e _ _ h1, paired_mono h2 fun _ _ z => ⟨z.1, z.2.mono fun t xs q => e _ _ q⟩⟩
theorem WH.same {H0 H H' : Hp} {wp lp fp : Addr} {es : List Ent} {ts fs : List Addr} {L F : List (Nat × Nat)} (x : WH H0 H wp lp fp es ts L fs F) (e : Same H H') : WH H0 H' wp lp fp es ts L fs F :=
  ⟨x.sm.trans e, x.ways.same e, e _ _ x.lat, paired_mono x.ltp fun _ _ z => e _ _ z, e _ _ x.fnd, paired_mono x.ftp fun _ _ z => e _ _ z, x.nw, x.nf, x.nlf⟩
theorem WH.put {H0 H : Hp} {wp lp fp t u f : Addr} {es : List Ent} {ts fs : List Addr} {L F : List (Nat × Nat)} {kvs : List (List Key × V)} {m c : Nat × Nat} {d cm : Nat} (x : WH H0 H wp lp fp es ts L fs F) (ht : H t = some (.tup [.ref u, .int (cm : Int)])) (hu : H u = some (.tup (plV c))) (hf : H f = some (.tup (plV m)))
    (hk : H wp = some (.dT kvs)) (hP : Paired (EntAt H) kvs es) (hn : valV kvs (keyP m) = none) :
    WH H0 (upd (upd H wp (.dT (putK kvs (keyP m) (.ref t)))) fp (.lst (fs.map V.ref ++ [.ref f]))) wp lp fp (es ++ [⟨m, d, some (c, cm)⟩]) ts L (fs ++ [f]) (F ++ [m]) := by
  have wlp : lp ≠ wp := ne_of x.lat hk (by intro z; cases z)
  have wfp : fp ≠ wp := ne_of x.fnd hk (by intro z; cases z)
  generalize eH : upd (upd H wp (.dT (putK kvs (keyP m) (.ref t)))) fp (.lst (fs.map V.ref ++ [.ref f])) = H'
  have kp : ∀ b o, H b = some o → b ≠ wp → b ≠ fp → H' b = some o := fun b o e h1 h2 => by
    rw [← eH, upd_ne h2, upd_ne h1]
    exact e
  have tups : ∀ b xs, H b = some (.tup xs) → H' b = some (.tup xs) := fun b xs e =>
    kp b _ e (ne_of e hk (by intro z; cases z)) (ne_of e x.fnd (by intro z; cases z))
  refine ⟨fun b o e => kp b o (x.sm b o e) (ne_of_none e x.nw) (ne_of_none e x.nf), ⟨putK kvs (keyP m) (.ref t), ?_, ?_⟩, kp lp _ x.lat wlp x.nlf, paired_mono x.ltp fun _ _ z => tups _ _ z, ?_, ?_, x.nw, x.nf, x.nlf⟩
  · rw [← eH, upd_ne wfp.symm, upd_same]
  · rw [putK_new (V.ref t) hn]
    exact Cb.paired_snoc (F := EntAt H') (a := (keyP m, V.ref t)) (b := ⟨m, d, some (c, cm)⟩) ⟨rfl, t, u, rfl, tups _ _ ht, tups _ _ hu⟩ (paired_mono hP fun kv e z => ⟨z.1, z.2.mono tups⟩)
  · rw [← eH, upd_same, List.map_append]
    rfl
  · exact Cb.paired_snoc (F := fun (t : Addr) (p : Nat × Nat) => H' t = some (.tup (plV p))) (tups _ _ hf) (paired_mono x.ftp fun _ _ z => tups _ _ z)
section
variable {P : Program} {w : World} {K : PySem.W.Frag} {mg : Str → Option Value} {base : Heap}
theorem natsV_get {l : List Nat} {i : Nat} {x : V} (h : (natsV l)[i]? = some x) : ∃ k, l[i]? = some k ∧ x = .int (k : Int) := get_lotV h
theorem natsV_len (l : List Nat) : (natsV l).length = l.length := List.length_map ..
theorem paired_right {α β : Type} {F : α → β → Prop} : ∀ {xs : List α} {ys : List β}, Paired F xs ys → ∀ {i : Nat} {y : β}, ys[i]? = some y → ∃ x, xs[i]? = some x ∧ F x y
  | _, _, .nil, i, x, h => by cases h
  | _, _, .cons r t, 0, x, h => by
    have e := Option.some.inj h
    subst e
    exact ⟨_, rfl, r⟩
  | _, _, .cons r t, i + 1, x, h => paired_right t h
theorem take_mem_succ {α : Type} {l : List α} {i : Nat} {k : α} (h : l[i]? = some k) {x : α} (hx : x ∈ l.take (i + 1)) : x ∈ l.take i ∨ x = k := by
  rw [List.take_add_one, h] at hx
  rcases List.mem_append.mp hx with z | z
  · exact .inl z
  · exact .inr (by simpa using z)
/-- lists of numbers stand at the items of a list -/
abbrev NatsAt (H : Hp) (ts : List Addr) (ls : List (List Nat)) : Prop := Paired (fun (t : Addr) (l : List Nat) => H t = some (.lst (natsV l))) ts ls
def sp_ways (K : PySem.W.Frag) : Sp := fun vs H Q _ => ∃ (a g ap : Addr) (h : List (List Nat)) (lot alw : List Nat), vs = [.ref a, .ref g, .ref ap] ∧ HouseAt K H a h ∧ HouseOk h ∧ LotAt K H g lot ∧ LotOk h.length lot ∧ LotAt K H ap alw ∧ 1 ≤ alw.length ∧ alw.length ≤ 6 ∧
  ∀ (H' : Hp) (wp : Addr) (es : List Ent), Same H H' → H wp = none → WaysAt H' wp es → WaysOk (h.map maskOf) (cmsOf lot alw) es → Q (.ref wp) H'
theorem sc_ways : FnScope ["house", "lot", "allowance", "sights", "coin_masks", "ways", "latest", "found", "cover", "day", "next_day", "coin_mask", "following", "row", "coins"] ["house", "lot", "allowance"] (defScope s__ways) := ⟨rfl, rfl, rfl, by decide +kernel, rfl, by decide +kernel, by decide +kernel⟩
theorem ok_ways (T : Txt K mg) : FnOk P w K mg base CX0 3 T.d__ways.f T.d__ways.fd ["house", "lot", "allowance"] (sp_ways K) := by
  have G1 := ok_mask_of (P := P) (w := w) (base := base) T
  have G2 := ok_coin_masks (P := P) (w := w) (base := base) T
  have G3 := ok_next_cover (P := P) (w := w) (base := base) T
  refine T.d__ways.F.ok sc_ways (fun vs H Q E h => ?_) (fun cdv A outer s H vs Q E hr h => ?_)
  · obtain ⟨a, g, ap, h, lot, alw, rfl, _⟩ := h
    rfl
  · obtain ⟨a, g, ap, hs, lot, alw, rfl, hA, ok, hL, okL, hW, ha1, ha6, q⟩ := h
    have nd := sc_ways.nd
    have hu := hu_of hr
    have hr1 : Room 1 _ := hr.mono (by decide)
    have hr2 : Room 2 _ := hr.mono (by decide)
    obtain ⟨rs, hR, hP⟩ := id hA
    have hl : rs.length = hs.length := Paired.length hP
    have hlv : (rs.map V.ref).length = hs.length := by rw [List.length_map, hl]
    have hlen := okL.len
    have h7 := ok.hi
    refine ⟨_, pss_cons (ps_setLc (i := 3) (own := [("row", 13)]) (g := gName 13) (tt := tYes) rfl nd rfl rfl (sw_true rfl rfl rfl (by decide +kernel)) (pi_tup (pv 0))
        (blkOk_by (N := ["house", "lot", "allowance", "sights", "coin_masks", "ways", "latest", "found", "cover", "day", "next_day", "coin_mask", "following", "row", "coins"]) (sc := defScope s__ways) (by decide +kernel)) (fun _ _ _ _ _ => pg_name (i := 13) nd rfl (.inl rfl)) (fun _ _ _ _ _ => pts_nil)
        (fun _ _ _ _ _ => pe_call G1 hr1 (by rfl) T.d__mask_of.g T.d__mask_of.F.kp T.d__mask_of.b .nil pass0 (pa_cons (pv 13) pa_nil)))
      (pss_cons (ps_setLc (i := 4) (own := [("coins", 14)]) (g := gName 14) (tt := tYes) rfl nd rfl rfl (sw_true rfl rfl rfl (by decide +kernel)) (pi_tup (pv 2))
        (blkOk_by (N := ["house", "lot", "allowance", "sights", "coin_masks", "ways", "latest", "found", "cover", "day", "next_day", "coin_mask", "following", "row", "coins"]) (sc := defScope s__ways) (by decide +kernel)) (fun _ _ _ _ _ => pg_name (i := 14) nd rfl (.inl rfl)) (fun _ _ _ _ _ => pts_nil)
        (fun _ _ _ _ _ => pe_call G2 hr2 (by rfl) T.d__coin_masks.g T.d__coin_masks.F.kp T.d__coin_masks.b .nil pass0 (pa_cons (pv 1) (pa_cons (pv 14) pa_nil))))
      (pss_cons (ps_set (i := 5) nd rfl (.inl rfl) (pe_dispT hu (pe_tup (pa_cons pe_int (pa_cons pe_int pa_nil))) pe_non))
      (pss_cons (ps_set (i := 6) nd rfl (.inl rfl) (pe_lst (pa_cons (pe_tup (pa_cons pe_int (pa_cons pe_int pa_nil))) pa_nil)))
      (pss_cons (ps_while PassesOwn.never (pt_truth (pv 6) (by intro _; rfl))
        (pss_cons (ps_set (i := 7) nd rfl (.inl rfl) (pe_lst pa_nil))
        (pss_cons (ps_for PassesOwn.never rfl (pi_list (pv 6)) (pg_tup rfl (pgs_cons (pg_name (i := 8) nd rfl (.inl rfl)) (pgs_cons (pg_name (i := 9) nd rfl (.inl rfl)) pgs_nil)))
          (pss_cons (ps_set (i := 10) nd rfl (.inl rfl) (pe_op op_mod (pe_op op_add (pv 9) pe_int) (pe_callB call_len_seq (by rfl) T.n_len PySem.boot_len (pa_cons (pv 2) pa_nil))))
          (pss_one (ps_for PassesOwn.never rfl (pi_list (pe_ix ix_list (pv 4) (pv 9) (fun _ _ => rfl))) (pg_name (i := 11) nd rfl (.inl rfl))
            (pss_cons (ps_set (i := 12) nd rfl (.inl rfl) (pe_tup (pa_cons (pe_call G3 hr1 (by rfl) T.d__next_cover.g T.d__next_cover.F.kp T.d__next_cover.b .nil pass0 (pa_cons (pv 3) (pa_cons (pe_op op_orN (pv 8) (pv 11)) pa_nil))) (pa_cons (pv 10) pa_nil))))
            (pss_one (ps_if (pt_cmp (pc_dnotin hu (pv 12) (pv 5)))
              (pss_cons (ps_dput hu (pv 5) (pv 12) (pe_tup (pa_cons (pe_tup (pa_cons (pv 8) (pa_cons (pv 9) pa_nil))) (pa_cons (pv 11) pa_nil))) rfl)
              (pss_one (ps_expr (pe_bm PySem.F.plainAttrs_list PySem.F.slot_list_append PySem.F.type_list_append mt_append (pv 7) (pa_cons (pv 12) pa_nil))))) pss_nil)))))))
        (pss_one (ps_set (i := 6) nd rfl (.inl rfl) (pv 7))))))
      (pss_one (ps_ret (pv 5))))))), ?_⟩
    -- sights
    refine ⟨.ref a, rfl, a, rfl, ⟨_, hR⟩, fun sp hsp => lc_tup (K := K) (a := a) (xs := rs.map V.ref) (fun i H2 => H2 = upd H sp (.lst (natsV ((hs.map maskOf).take i)))) rfl (fun i H2 _ e => by rw [e]; exact Same.tup (same_upd hsp) hR) ?_ ?_⟩
    · rintro i y H2 hi rfl
      obtain ⟨r, hri, rfl⟩ := get_refs hi
      obtain ⟨row, hrow, hat⟩ := paired_at hP hri
      have okr := (ok.ok row (List.mem_of_getElem? hrow)).2
      refine ⟨rfl, tYes_if ?_⟩
      refine ⟨.ref r, rfl, r, row, rfl, hat.same (same_upd hsp), fun j hj => by have h1 := okr.lt j hj; omega, _, upd_same, ?_, ?_⟩
      · rw [natsV_len, List.length_take, List.length_map]
        exact Nat.lt_of_le_of_lt (Nat.min_le_right _ _) (small1000 (by omega))
      · rw [upd_upd]
        have e2 : (hs.map maskOf)[i]? = some (maskOf row) := by rw [List.getElem?_map, hrow]; rfl
        rw [natsV_take e2]
    · rintro H2 rfl
      have et : (hs.map maskOf).take (rs.map V.ref).length = hs.map maskOf := List.take_of_length_le (by rw [hlv, List.length_map]; exact Nat.le_refl _)
      rw [et]
      have sm2 : Same H (upd H sp (.lst (natsV (hs.map maskOf)))) := same_upd hsp
      generalize eH2 : upd H sp (.lst (natsV (hs.map maskOf))) = H2 at sm2
      have esp2 : H2 sp = some (.lst (natsV (hs.map maskOf))) := by rw [← eH2, upd_same]
      -- coin_masks
      refine ⟨.ref ap, rfl, ap, rfl, ⟨_, Same.tup sm2 hW⟩, fun cp hcp => lc_tup (K := K) (a := ap) (xs := lotV alw) (fun i H3 => ∃ (ts : List Addr) (H4 : Hp), Same H2 H4 ∧ H4 cp = none ∧ H3 = upd H4 cp (.lst (ts.map V.ref)) ∧ NatsAt H4 ts ((cmsOf lot alw).take i))
        ⟨[], H2, Same.refl _, hcp, rfl, .nil⟩ (fun i H3 _ ⟨ts, H4, s4, h4, e, _⟩ => by rw [e]; exact Same.tup ((sm2.trans s4).trans (same_upd h4)) hW) ?_ ?_⟩
      · rintro i y H3 hi ⟨ts, H4, s4, h4, rfl, hts⟩
        obtain ⟨c, hc, rfl⟩ := get_lotV hi
        have s5 : Same H (upd H4 cp (.lst (ts.map V.ref))) := (sm2.trans s4).trans (same_upd h4)
        refine ⟨rfl, tYes_if ?_⟩
        refine ⟨.ref g, rfl, .int (c : Int), rfl, g, lot, c, rfl, hL.same s5, by omega, fun j hj => by have h1 := okL.lt j hj; omega, fun H6 p6 s6 hp6 e6 => ?_⟩
        have ecp : H6 cp = some (.lst (ts.map V.ref)) := s6 _ _ upd_same
        have hp4 : H4 p6 = none := by
          rw [upd_ne (fun z => by rw [z, upd_same] at hp6; cases hp6)] at hp6
          exact hp6
        have pne : p6 ≠ cp := fun z => by rw [z, upd_same] at hp6; cases hp6
        have hlt : ts.length = ((cmsOf lot alw).take i).length := Paired.length hts
        refine ⟨_, ecp, ?_, ts ++ [p6], fun b => if b = cp then none else H6 b, ?_, ?_, ?_, ?_⟩
        · rw [List.length_map, hlt, List.length_take]
          refine Nat.lt_of_le_of_lt (Nat.min_le_right _ _) (small1000 ?_)
          rw [cms_len]
          omega
        · intro b o e
          have hb : b ≠ cp := ne_of_none e hcp
          show (if b = cp then none else H6 b) = _
          rw [if_neg hb]
          refine s6 _ _ ?_
          rw [upd_ne hb]
          exact s4 _ _ e
        · exact if_pos rfl
        · funext b
          by_cases hb : b = cp
          · subst hb
            rw [upd_same, upd_same, List.map_append]
            rfl
          · rw [upd_ne hb, upd_ne hb]
            show _ = (if b = cp then none else H6 b)
            rw [if_neg hb]
        · have ec : (cmsOf lot alw)[i]? = some (coinMasks lot c) := by rw [cmsOf, List.getElem?_map, hc]; rfl
          have etk : (cmsOf lot alw).take (i + 1) = (cmsOf lot alw).take i ++ [coinMasks lot c] := by rw [List.take_add_one, ec]; rfl
          rw [etk]
          refine Cb.paired_snoc (F := fun (t : Addr) (l : List Nat) => (if t = cp then none else H6 t) = some (.lst (natsV l))) ?_ (paired_mono hts fun t l z => ?_)
          · rw [if_neg pne]
            exact e6
          · have hb : t ≠ cp := ne_of_none z h4
            rw [if_neg hb]
            refine s6 _ _ ?_
            rw [upd_ne hb]
            exact z
      · rintro H3' ⟨cts, H4, s4, h4, rfl, hcts⟩
        have etk : (cmsOf lot alw).take (lotV alw).length = cmsOf lot alw := List.take_of_length_le (by rw [cms_len, lotV_len]; exact Nat.le_refl _)
        rw [etk] at hcts
        have sm5 : Same H4 (upd H4 cp (.lst (cts.map V.ref))) := same_upd h4
        have ecp : (upd H4 cp (.lst (cts.map V.ref))) cp = some (.lst (cts.map V.ref)) := upd_same
        have hcts5 : NatsAt (upd H4 cp (.lst (cts.map V.ref))) cts (cmsOf lot alw) := paired_mono hcts fun t l z => sm5 _ _ z
        have smH : Same H (upd H4 cp (.lst (cts.map V.ref))) := (sm2.trans s4).trans sm5
        have esp : (upd H4 cp (.lst (cts.map V.ref))) sp = some (.lst (natsV (hs.map maskOf))) := sm5 _ _ (s4 _ _ esp2)
        generalize upd H4 cp (.lst (cts.map V.ref)) = H3 at ecp hcts5 smH esp
        clear hcts sm5
        have hss : (hs.map maskOf).length ≤ 7 := by rw [List.length_map]; exact ok.hi
        have hcl : (cmsOf lot alw).length = alw.length := cms_len lot alw
        generalize eC : cmsOf lot alw = cms at hcts5 hcl q
        generalize eS : hs.map maskOf = ss at esp hss q
        -- ways
        intro wp hwp
        refine ⟨(by show 2 ≤ sizeLine; decide), fun kp hkp => ?_⟩
        have wk : wp ≠ kp := fun e => by rw [e, upd_same] at hkp; cases hkp
        have hkp3 : H3 kp = none := by rw [upd_ne wk.symm] at hkp; exact hkp
        refine ⟨kp, keyP (0, 0), rfl, upd_same, by rw [upd_ne wk, upd_same], ?_⟩
        -- latest
        refine ⟨(by show 2 ≤ sizeLine; decide), fun tp htp => ⟨(by show 1 ≤ sizeLine; decide), fun lp hlp => ?_⟩⟩
        generalize eH5 : upd (upd (upd H3 wp (.dT [])) kp (.tup [V.int 0, V.int 0])) wp (.dT [(keyP (0, 0), .non)]) = H5 at htp hlp
        have s35 : Same H3 H5 := fun b o e => by
          rw [← eH5, upd_ne (ne_of_none e hwp), upd_ne (ne_of_none e hkp3), upd_ne (ne_of_none e hwp)]
          exact e
        have ew5 : H5 wp = some (.dT [(keyP (0, 0), .non)]) := by rw [← eH5, upd_same]
        have s57 : Same H5 (upd (upd H5 tp (.tup [V.int 0, V.int 0])) lp (.lst [V.ref tp])) := (same_upd htp).trans (same_upd hlp)
        have tl : tp ≠ lp := fun e => by rw [← e, upd_same] at hlp; cases hlp
        have start : WaysAt (upd (upd H5 tp (.tup [V.int 0, V.int 0])) lp (.lst [V.ref tp])) wp [⟨(0, 0), 0, none⟩] := ⟨_, s57 _ _ ew5, Paired.cons ⟨rfl, rfl⟩ Paired.nil⟩
        refine ⟨fun m σ H' => ∃ (k : Nat) (es : List Ent) (ts : List Addr) (L : List (Nat × Nat)) (lp : Addr) (v7 v8 v9 v10 v11 v12 v13 v14 : Option V), m = (768 - es.length) * 2 + (if L = [] then 0 else 1) ∧ σ = [some (.ref a), some (.ref g), some (.ref ap), some (.ref sp), some (.ref cp), some (.ref wp), some (.ref lp), v7, v8, v9, v10, v11, v12, v13, v14] ∧
            Same H3 H' ∧ WaysAt H' wp es ∧ H' lp = some (.lst (ts.map V.ref)) ∧ PlsAt H' ts L ∧ BInv ss cms k es ∧ LatestOk ss cms k L,
          ⟨_, 0, [⟨(0, 0), 0, none⟩], [tp], [(0, 0)], lp, none, none, none, none, none, none, none, none, rfl, rfl, s35.trans s57, start, upd_same, .cons (by rw [upd_ne tl, upd_same]; rfl) .nil, (binv_start _ _).1, (binv_start _ _).2⟩, ?_⟩
        rintro m σ H4' ⟨k, es, ts, L, lp, v7, v8, v9, v10, v11, v12, v13, v14, rfl, rfl, sm4, hw4, hl4, ht4, B, hLk⟩
        refine ⟨.ref lp, rfl, _, .inl ⟨ts.map V.ref, SqL.up hl4, rfl⟩, ?_⟩
        have htl : ts.length = L.length := Paired.length ht4
        cases L with
        | nil =>
          have e0 : ts = [] := List.eq_nil_of_length_eq_zero (by rw [htl]; rfl)
          subst e0
          show (if false = true then _ else _)
          refine iteF ?_
          exact ⟨_, rfl, q H4' wp es (smH.trans sm4) (smH.free hwp) hw4 (ways_end B hLk)⟩
        | cons c0 L0 =>
          obtain ⟨t0, ts0, e0⟩ : ∃ t0 ts0, ts = t0 :: ts0 := by
            cases ts with
            | nil => cases htl
            | cons t0 ts0 => exact ⟨t0, ts0, rfl⟩
          rw [show (!((ts.map V.ref).isEmpty)) = true by rw [e0]; rfl]
          show (if true = true then _ else _)
          rw [if_pos rfl]
          have hcl1 : 1 ≤ cms.length := by omega
          have hcl6 : cms.length ≤ 6 := by omega
          have hBl := binv_len hss hcl1 hcl6 B (mid_start B)
          rw [List.append_nil] at hBl
          refine ⟨fun σ' H' => ∃ m', m' < (768 - es.length) * 2 + (if c0 :: L0 = [] then 0 else 1) ∧ ∃ (k : Nat) (es : List Ent) (ts : List Addr) (L : List (Nat × Nat)) (lp : Addr) (v7 v8 v9 v10 v11 v12 v13 v14 : Option V), m' = (768 - es.length) * 2 + (if L = [] then 0 else 1) ∧ σ' = [some (.ref a), some (.ref g), some (.ref ap), some (.ref sp), some (.ref cp), some (.ref wp), some (.ref lp), v7, v8, v9, v10, v11, v12, v13, v14] ∧
            Same H3 H' ∧ WaysAt H' wp es ∧ H' lp = some (.lst (ts.map V.ref)) ∧ PlsAt H' ts L ∧ BInv ss cms k es ∧ LatestOk ss cms k L, fun σ' H' z => z, ?_⟩
          -- found = []
          refine ⟨by decide, fun fp hfp => ?_⟩
          have h3f : H3 fp = none := sm4.free hfp
          have W0 : WH H3 (upd H4' fp (.lst [])) wp lp fp es ts (c0 :: L0) [] [] :=
            ⟨sm4.trans (same_upd hfp), hw4.same (same_upd hfp), (same_upd hfp) _ _ hl4, paired_mono ht4 fun _ _ z => (same_upd hfp) _ _ z, upd_same, .nil, hwp, h3f, ne_of_none hl4 hfp⟩
          -- for cover, day in latest
          refine ⟨.ref lp, rfl, lp, rfl, ⟨_, SqL.up W0.lat⟩, for_list (K := K) (a := lp) (xs := ts.map V.ref) (fun i σ H5 => ∃ (new : List Ent) (fs : List Addr) (v8 v9 v10 v11 v12 v13 v14 : Option V), σ = [some (.ref a), some (.ref g), some (.ref ap), some (.ref sp), some (.ref cp), some (.ref wp), some (.ref lp), some (.ref fp), v8, v9, v10, v11, v12, v13, v14] ∧
              WH H3 H5 wp lp fp (es ++ new) ts (c0 :: L0) fs (new.map (·.p)) ∧ Mid ss cms k es new (fun c' cm' => c' ∈ (c0 :: L0).take i ∧ cm' ∈ cms.getD c'.2 []))
            ⟨[], [], v8, v9, v10, v11, v12, v13, v14, rfl, by rw [List.append_nil]; exact W0, (mid_start B).weaken fun c' cm' z => by simp at z⟩ (fun i σ H5 _ ⟨_, _, _, _, _, _, _, _, _, _, z, _⟩ => SqL.up z.lat) ?_ ?_⟩
          · rintro i y σ H5' hi ⟨new, fs, v8, v9, v10, v11, v12, v13, v14, rfl, W5, M5⟩
            obtain ⟨ct, hct, rfl⟩ := get_refs hi
            obtain ⟨cv, hcv, hcat⟩ := paired_at W5.ltp hct
            have hcfd : FD ss cms cv k := (hLk cv).mp (List.mem_of_getElem? hcv)
            have hday := (rch_lt hcl1 hcfd.1).2
            obtain ⟨cmsd, ecd⟩ : ∃ l, cms[cv.2]? = some l := ⟨_, List.getElem?_eq_getElem hday⟩
            have ecg : cms.getD cv.2 [] = cmsd := by rw [List.getD_eq_getElem?_getD, ecd]; rfl
            obtain ⟨cq, hcq, ecq⟩ := paired_right hcts5 ecd
            -- cover, day
            refine ⟨ct, plV cv, rfl, SqT.up hcat, rfl, .int (cv.1 : Int), [.int (cv.2 : Int)], rfl, .int (cv.2 : Int), [], rfl, rfl, ?_⟩
            -- next_day
            refine ⟨.int (cv.2 : Int), rfl, (cv.2 : Int), 1, rfl, rfl, .ref ap, rfl, ap, lotV alw, rfl, .inr (Same.tup (smH.trans W5.sm) hW), (cv.2 : Int) + 1, ((lotV alw).length : Int), rfl, rfl, by rw [lotV_len]; omega, ?_⟩
            have en : ((cv.2 : Int) + 1) % (((lotV alw).length : Nat) : Int) = (((cv.2 + 1) % cms.length : Nat) : Int) := by
              rw [lotV_len, ← hcl, Int.natCast_emod]
              rfl
            -- for coin_mask in coin_masks[day]
            refine ⟨.ref cp, rfl, .int (cv.2 : Int), rfl, cp, cts.map V.ref, (cv.2 : Int), .ref cq, rfl, rfl, SqL.up (W5.sm _ _ ecp), atI_nat (by rw [List.getElem?_map, hcq]; rfl), cq, rfl, ⟨_, SqL.up (W5.sm _ _ ecq)⟩,
              for_list (K := K) (a := cq) (xs := natsV cmsd) (fun j σ H6 => ∃ (new : List Ent) (fs : List Addr) (v11 v12 v13 v14 : Option V), σ = [some (.ref a), some (.ref g), some (.ref ap), some (.ref sp), some (.ref cp), some (.ref wp), some (.ref lp), some (.ref fp), some (.int (cv.1 : Int)), some (.int (cv.2 : Int)), some (.int (((cv.2 + 1) % cms.length : Nat) : Int)), v11, v12, v13, v14] ∧
                WH H3 H6 wp lp fp (es ++ new) ts (c0 :: L0) fs (new.map (·.p)) ∧ Mid ss cms k es new (fun c' cm' => (c' ∈ (c0 :: L0).take i ∧ cm' ∈ cms.getD c'.2 []) ∨ (c' = cv ∧ cm' ∈ cmsd.take j)))
              ⟨new, fs, v11, v12, v13, v14, by rw [← en]; rfl, W5, M5.weaken fun c' cm' z => by
                rcases z with z | ⟨_, z⟩
                · exact z
                · simp at z⟩ (fun j σ H6 _ ⟨_, _, _, _, _, _, _, z, _⟩ => SqL.up (z.sm _ _ ecq)) ?_ ?_⟩
            · rintro j y σ H6 hj ⟨new, fs, v11, v12, v13, v14, rfl, W6, M6⟩
              obtain ⟨cm, hcm, rfl⟩ := natsV_get hj
              have hcmm : cm ∈ cms.getD cv.2 [] := by rw [ecg]; exact List.mem_of_getElem? hcm
              have hstep : ∀ c' cm', ((c' ∈ (c0 :: L0).take i ∧ cm' ∈ cms.getD c'.2 []) ∨ (c' = cv ∧ cm' ∈ cmsd.take (j + 1))) → ((c' ∈ (c0 :: L0).take i ∧ cm' ∈ cms.getD c'.2 []) ∨ (c' = cv ∧ cm' ∈ cmsd.take j)) ∨ (c' = cv ∧ cm' = cm) := by
                intro c' cm' z
                rcases z with z | ⟨z1, z2⟩
                · exact .inl (.inl z)
                · rcases take_mem_succ hcm z2 with z3 | z3
                  · exact .inl (.inr ⟨z1, z3⟩)
                  · exact .inr ⟨z1, z3⟩
              -- following
              refine ⟨.ref sp, rfl, .int (cv.1 : Int), rfl, .int (cm : Int), rfl, cv.1, cm, rfl, rfl, sp, ss, cv.1 ||| cm, rfl, SqL.up (W6.sm _ _ esp), by omega, fun H7 sm7 => ?_⟩
              have W7 := W6.same sm7
              refine ⟨_, rfl, (by show 2 ≤ sizeLine; decide), fun f hf => ?_⟩
              have smf : Same H7 (upd H7 f (.tup [.int ((nextM ss (cv.1 ||| cm) : Nat) : Int), .int (((cv.2 + 1) % cms.length : Nat) : Int)])) := same_upd hf
              have W8 := W7.same smf
              have ef : (upd H7 f (.tup [.int ((nextM ss (cv.1 ||| cm) : Nat) : Int), .int (((cv.2 + 1) % cms.length : Nat) : Int)])) f = some (.tup (plV (nx ss cms.length cv cm))) := upd_same
              generalize upd H7 f (.tup [.int ((nextM ss (cv.1 ||| cm) : Nat) : Int), .int (((cv.2 + 1) % cms.length : Nat) : Int)]) = H8 at W8 ef
              obtain ⟨kvs, hk8, hP8⟩ := W8.ways
              refine ⟨.ref f, rfl, .ref wp, rfl, wp, _, rfl, DGet.t (k := keyP (nx ss cms.length cv cm)) hk8 ef, _, rfl, ?_⟩
              cases hv : valV kvs (keyP (nx ss cms.length cv cm)) with
              | some x =>
                refine iteF ?_
                have hin : ∃ e ∈ es ++ new, e.p = nx ss cms.length cv cm := by
                  rcases Classical.em (∃ e ∈ es ++ new, e.p = nx ss cms.length cv cm) with z | z
                  · exact z
                  · rw [(valV_ents hP8).mpr z] at hv
                    cases hv
                exact ⟨new, fs, _, _, _, _, rfl, W8, M6.skip hin hstep⟩
              | none =>
                refine iteT ?_
                have hout := (valV_ents hP8).mp hv
                have hlen := binv_len hss hcl1 hcl6 B M6
                have hkl : kvs.length = (es ++ new).length := Paired.length hP8
                refine ⟨.int (cv.1 : Int), rfl, .int (cv.2 : Int), rfl, (by show 2 ≤ sizeLine; decide), fun u hu' => ⟨.int (cm : Int), rfl, (by show 2 ≤ sizeLine; decide), fun t ht => ?_⟩⟩
                have s9 : Same H8 (upd H8 u (.tup (plV cv))) := same_upd hu'
                have s10 : Same (upd H8 u (.tup (plV cv))) (upd (upd H8 u (.tup (plV cv))) t (.tup [.ref u, .int (cm : Int)])) := same_upd ht
                have eu : (upd (upd H8 u (.tup (plV cv))) t (.tup [.ref u, .int (cm : Int)])) u = some (.tup (plV cv)) := s10 _ _ upd_same
                have et : (upd (upd H8 u (.tup (plV cv))) t (.tup [.ref u, .int (cm : Int)])) t = some (.tup [.ref u, .int (cm : Int)]) := upd_same
                have W10 := W8.same (s9.trans s10)
                have ef10 := (s9.trans s10) _ _ ef
                have hk10 := (s9.trans s10) _ _ hk8
                have hP10 : Paired (EntAt (upd (upd H8 u (.tup (plV cv))) t (.tup [.ref u, .int (cm : Int)]))) kvs (es ++ new) := paired_mono hP8 fun _ _ z => ⟨z.1, z.2.mono fun t xs q => (s9.trans s10) _ _ q⟩
                generalize upd (upd H8 u (.tup (plV cv))) t (.tup [.ref u, .int (cm : Int)]) = H10 at eu et W10 ef10 hk10 hP10
                refine ⟨.ref wp, rfl, .ref f, rfl, wp, _, rfl, DPut.t (k := keyP (nx ss cms.length cv cm)) hk10 ef10 (small1000 (by omega)), ?_⟩
                have hf11 : (upd H10 wp (.dT (putK kvs (keyP (nx ss cms.length cv cm)) (.ref t)))) fp = some (.lst (fs.map V.ref)) := by
                  rw [upd_ne (ne_of W10.fnd hk10 (by intro z; cases z))]
                  exact W10.fnd
                have hnl : new.length ≤ 768 := by rw [List.length_append] at hlen; omega
                have hfl : fs.length = new.length := by
                  have z : fs.length = (new.map (·.p)).length := Paired.length W10.ftp
                  rw [z, List.length_map]
                refine ⟨.ref fp, rfl, .inl ⟨rfl, _, SqL.up hf11⟩, .ref f, rfl, fp, _, _, rfl, rfl, hf11, by rw [List.length_map]; exact small1000 (by omega), ?_⟩
                have W11 := W10.put (m := nx ss cms.length cv cm) (d := k + 1) (c := cv) (cm := cm) et eu ef10 hk10 hP10 hv
                refine ⟨new ++ [⟨nx ss cms.length cv cm, k + 1, some (cv, cm)⟩], fs ++ [f], _, _, _, _, rfl, ?_, M6.add B hcfd hcmm hout hstep⟩
                rw [List.append_assoc] at W11
                rw [List.map_append]
                exact W11
            · rintro σ H6 ⟨new, fs, v11, v12, v13, v14, rfl, W6, M6⟩
              refine ⟨new, fs, _, _, _, _, _, _, _, rfl, W6, M6.weaken fun c' cm' z => ?_⟩
              rcases take_mem_succ hcv z.1 with z1 | z1
              · exact .inl ⟨z1, z.2⟩
              · refine .inr ⟨z1, ?_⟩
                rw [natsV_len, List.take_length, ← ecg, ← z1]
                exact z.2
          · rintro σ H5' ⟨new, fs, v8, v9, v10, v11, v12, v13, v14, rfl, W5, M5⟩
            -- latest = found
            refine ⟨.ref fp, rfl, ?_⟩
            have hall : ∀ c' ∈ c0 :: L0, ∀ cm' ∈ cms.getD c'.2 [], c' ∈ (c0 :: L0).take (ts.map V.ref).length ∧ cm' ∈ cms.getD c'.2 [] := fun c' h1 cm' h2 => by
              rw [List.length_map, htl, List.take_length]
              exact ⟨h1, h2⟩
            obtain ⟨B2, L2'⟩ := mid_end B hLk M5 hall
            have hlen := binv_len hss hcl1 hcl6 B M5
            refine ⟨_, ?_, k + 1, es ++ new, fs, new.map (·.p), fp, _, _, _, _, _, _, _, _, rfl, rfl, W5.sm, W5.ways, W5.fnd, W5.ftp, B2, L2'⟩
            rw [List.length_append] at hlen ⊢
            rw [if_neg (List.cons_ne_nil c0 L0)]
            cases new with
            | nil =>
              show (768 - (es.length + 0)) * 2 + (if ([] : List (Nat × Nat)) = [] then 0 else 1) < _
              rw [if_pos rfl]
              omega
            | cons e0 new =>
              rw [List.length_cons] at hlen ⊢
              have z : (if (e0 :: new).map (·.p) = [] then 0 else 1) = 1 := if_neg (by simp)
              rw [z]
              omega
end
end N

set_option Elab.async false
set_option linter.all false
set_option maxRecDepth 100000
set_option maxHeartbeats 2000000
namespace N
open Cb (lotV combs combsOf combsOf_sub)
open PySem PySem.Spec PyProof.Rows L2
theorem upd_id {H : Hp} {a : Addr} {o : HO} (h : H a = some o) : upd H a o = H := by
  funext b
  unfold upd
  split
  · rename_i e; rw [e, h]
  · rfl
section
variable {P : Program} {w : World} {K : PySem.W.Frag} {mg : Str → Option Value} {base : Heap}
theorem sqT_off {H : Hp} {d a : Addr} {xs : List V} {kvs : List (List Key × V)} {o : HO} (h : SqT K H a xs) (hd : H d = some (.dT kvs)) : SqT K (upd H d o) a xs := by
  rcases h with (h | ⟨o', h⟩) | h
  · exact .inl (.inl (by rw [upd_ne (ne_of h hd (by intro z; cases z))]; exact h))
  · exact .inl (.inr ⟨o', by rw [upd_ne (ne_of h hd (by intro z; cases z))]; exact h⟩)
  · exact .inr h
/-- a place or None -/
def PlV (H : Hp) (v : V) : Option (Nat × Nat) → Prop
  | none => v = .non
  | some p => ∃ t, v = .ref t ∧ H t = some (.tup (plV p))
def sp_first_cover (K : PySem.W.Frag) : Sp := fun vs H Q _ => ∃ (wp g : Addr) (es : List Ent) (l : List Nat), vs = [.ref wp, .ref g] ∧ WaysAt H wp es ∧ LotAt K H g l ∧ (∀ i ∈ l, i ≤ 1000) ∧ ∀ (H' : Hp) (v : V), Same H H' → PlV H' v ((firstOf es l).map (·.p)) → Q v H'
theorem sc_first_cover : FnScope ["ways", "goal", "cover", "day"] ["ways", "goal"] (defScope s__first_cover) := ⟨rfl, rfl, rfl, by decide +kernel, rfl, by decide +kernel, by decide +kernel⟩
theorem ok_first_cover (T : Txt K mg) : FnOk P w K mg base CX0 3 T.d__first_cover.f T.d__first_cover.fd ["ways", "goal"] (sp_first_cover K) := by
  have G := ok_holds (P := P) (w := w) (base := base) T
  refine T.d__first_cover.F.ok sc_first_cover (fun vs H Q E h => ?_) (fun cdv A outer s H vs Q E hr h => ?_)
  · obtain ⟨wp, g, es, l, rfl, _⟩ := h
    rfl
  · obtain ⟨wp, g, es, l, rfl, ⟨kvs, hk, hP⟩, hL, hb, q⟩ := h
    have nd := sc_first_cover.nd
    refine ⟨_, pss_cons (ps_lock (ps_for PassesOwn.never rfl (pi_keys (pv 0)) (pg_tup rfl (pgs_cons (pg_name (i := 2) nd rfl (.inl rfl)) (pgs_cons (pg_name (i := 3) nd rfl (.inl rfl)) pgs_nil)))
        (pss_one (ps_if (pt_val (pe_call G hr (by rfl) T.d__holds.g T.d__holds.F.kp T.d__holds.b .nil pass0 (pa_cons (pv 2) (pa_cons (pv 1) pa_nil)))) (pss_one (ps_ret (pe_tup (pa_cons (pv 2) (pa_cons (pv 3) pa_nil))))) pss_nil))))
      (pss_one (ps_ret pe_non)), ?_⟩
    refine ⟨wp, _, hk, True.intro, fun od => ?_⟩
    refine ⟨.ref wp, rfl, wp, od, rfl, .inr ⟨kvs, upd_same, for_it walk_keysT (fun i σ H2 => H2 = upd H wp (.frz od (.dT kvs)) ∧ (∃ c d : Option V, σ = [some (.ref wp), some (.ref g), c, d]) ∧ ∀ e ∈ es.take i, ¬ holdsB e.p.1 l = true)
      ⟨rfl, ⟨none, none, rfl⟩, fun e he => by simp at he⟩ (fun i σ H2 _ h2 => by rw [h2.1]; exact upd_same) ?_ ?_⟩⟩
    · rintro i y σ H2 H3 hi ⟨rfl, ⟨c, d, rfl⟩, hno⟩ ⟨rfl, k, v, kq, hkv, rfl, hq⟩
      obtain ⟨e, he, ek, _⟩ := paired_at hP hkv
      have ek' : k = keyP e.p := ek
      subst ek'
      refine ⟨kq, plV e.p, rfl, SqT.up hq, rfl, .int (e.p.1 : Int), [.int (e.p.2 : Int)], rfl, .int (e.p.2 : Int), [], rfl, rfl, ?_⟩
      refine ⟨.int (e.p.1 : Int), rfl, .ref g, rfl, e.p.1, g, l, rfl, sqT_off hL hk, hb, _, rfl, ?_⟩
      cases hh : holdsB e.p.1 l with
      | true =>
        refine iteT ?_
        refine ⟨.int (e.p.1 : Int), rfl, .int (e.p.2 : Int), rfl, (by show 2 ≤ sizeLine; decide), fun t ht => ?_⟩
        have tw : t ≠ wp := fun z => by rw [z, upd_same] at ht; cases ht
        have htH : H t = none := by rw [upd_ne tw] at ht; exact ht
        refine ⟨by rw [upd_ne tw.symm]; exact upd_same, ?_⟩
        have eH : upd (upd (upd H wp (.frz od (.dT kvs))) t (.tup (plV e.p))) wp (.dT kvs) = upd H t (.tup (plV e.p)) := by
          funext b
          by_cases b1 : b = wp
          · subst b1
            rw [upd_same, upd_ne tw.symm, hk]
          · rw [upd_ne b1]
            by_cases b2 : b = t
            · subst b2; rw [upd_same, upd_same]
            · rw [upd_ne b2, upd_ne b1, upd_ne b2]
        show Q _ (upd (upd (upd H wp (.frz od (.dT kvs))) t (.tup (plV e.p))) wp (.dT kvs))
        rw [eH]
        have ef : firstOf es l = some e := by
          unfold firstOf
          have hlt : i < es.length := (List.getElem?_eq_some_iff.mp he).1
          have hsp : es = es.take i ++ e :: es.drop (i + 1) := by
            rw [← (List.getElem?_eq_some_iff.mp he).2, ← List.drop_eq_getElem_cons hlt, List.take_append_drop]
          rw [hsp, List.find?_append]
          have hn : (es.take i).find? (fun e => holdsB e.p.1 l) = none := List.find?_eq_none.mpr fun x hx => hno x hx
          rw [hn, Option.none_or, List.find?_cons, hh]
        exact q _ _ (same_upd htH) (by rw [ef]; exact ⟨t, rfl, upd_same⟩)
      | false =>
        refine iteF ?_
        refine ⟨rfl, ⟨_, _, rfl⟩, fun x hx => ?_⟩
        rw [List.take_add_one, he] at hx
        rcases List.mem_append.mp hx with z | z
        · exact hno x z
        · have ex : x = e := by simpa using z
          rw [ex, hh]
          exact Bool.false_ne_true
    · rintro σ H2 ⟨rfl, ⟨c, d, rfl⟩, hno⟩
      refine ⟨upd_same, ?_⟩
      rw [upd_upd, upd_id hk]
      have ef : firstOf es l = none := by
        unfold firstOf
        refine List.find?_eq_none.mpr fun x hx => ?_
        have hl : kvs.length = es.length := Paired.length hP
        rw [hl, List.take_length] at hno
        exact hno x hx
      exact q H .non (Same.refl _) (by rw [ef]; rfl)
def sp_all_slates (K : PySem.W.Frag) : Sp := fun vs H Q _ => ∃ (a : Addr) (xs : List V), vs = [.ref a] ∧ SqT K H a xs ∧ xs.length ≤ 7 ∧ ∀ (H' : Hp) (p : Addr), Same H H' → H' p = some (.tup (lotV (List.range xs.length))) → Q (.ref p) H'
theorem sc_all_slates : FnScope ["house"] ["house"] (defScope s_all_slates) := ⟨rfl, rfl, rfl, by decide +kernel, rfl, by decide +kernel, by decide +kernel⟩
theorem rgV_lot (n : Nat) : rgV 0 (n : Int) = lotV (List.range n) := by
  unfold rgV lotV
  rw [show ((n : Int) - 0).toNat = n by omega]
  refine List.map_congr_left fun i _ => ?_
  rw [Int.zero_add]
theorem ok_all_slates (T : Txt K mg) : FnOk P w K mg base CX0 1 T.d_all_slates.f T.d_all_slates.fd ["house"] (sp_all_slates K) := by
  refine T.d_all_slates.F.ok sc_all_slates (fun vs H Q E h => ?_) (fun cdv A outer s H vs Q E hr h => ?_)
  · obtain ⟨a, xs, rfl, _⟩ := h
    rfl
  · obtain ⟨a, xs, rfl, hA, hn, q⟩ := h
    refine ⟨_, pss_one (ps_ret (pe_tupRg rfl (by rfl) T.n_tuple (prg_1 (by rfl) T.n_range (pe_callB call_len_seq (by rfl) T.n_len PySem.boot_len (pa_cons (pv 0) pa_nil))))), ?_⟩
    refine ⟨.ref a, rfl, a, xs, rfl, .inr hA, xs.length, rfl, RgOk.of_le (by decide) (by omega) (by decide) (by omega), fun p hp => ?_⟩
    rw [rgV_lot]
    exact q _ p (same_upd hp) upd_same
theorem plV_non {H : Hp} {v : V} {o : Option (Nat × Nat)} (h : PlV H v o) : decide (v = .non) = o.isNone := by
  cases o with
  | none => rw [show v = .non from h]; rfl
  | some p =>
    obtain ⟨t, rfl, _⟩ := h
    rfl
def sp_can_cover (K : PySem.W.Frag) : Sp := fun vs H Q _ => ∃ (a g lp : Addr) (h : List (List Nat)) (c : Nat) (l lot : List Nat), vs = [.ref a, .int c, .ref g, .ref lp] ∧ HouseAt K H a h ∧ HouseOk h ∧ LotAt K H g l ∧ LotOk h.length l ∧ LotAt K H lp lot ∧ LotOk h.length lot ∧
  ∀ (H' : Hp) (b : Bool), Same H H' → (b = true ↔ CanA h lot [c] l) → Q (.bl b) H'
theorem sc_can_cover : FnScope ["house", "coins", "goal", "lot"] ["house", "coins", "goal", "lot"] (defScope s_can_cover) := ⟨rfl, rfl, rfl, by decide +kernel, rfl, by decide +kernel, by decide +kernel⟩
theorem ok_can_cover (T : Txt K mg) : FnOk P w K mg base CX0 4 T.d_can_cover.f T.d_can_cover.fd ["house", "coins", "goal", "lot"] (sp_can_cover K) := by
  have G1 := ok_ways (P := P) (w := w) (base := base) T
  have G2 := ok_first_cover (P := P) (w := w) (base := base) T
  refine T.d_can_cover.F.ok sc_can_cover (fun vs H Q E h => ?_) (fun cdv A outer s H vs Q E hr h => ?_)
  · obtain ⟨a, g, lp, h, c, l, lot, rfl, _⟩ := h
    rfl
  · obtain ⟨a, g, lp, hs, c, l, lot, rfl, hA, ok, hL, okL, hM, okM, q⟩ := h
    refine ⟨_, pss_one (ps_ret (pe_cmpR op_notN (pe_call G2 hr (by rfl) T.d__first_cover.g T.d__first_cover.F.kp T.d__first_cover.b .nil pass0 (pa_cons (pe_call G1 hr (by rfl) T.d__ways.g T.d__ways.F.kp T.d__ways.b .nil pass0 (pa_cons (pv 0) (pa_cons (pv 3) (pa_cons (pe_tup (pa_cons (pv 1) pa_nil)) pa_nil)))) (pa_cons (pv 2) pa_nil))) pe_non (nomark _))), ?_⟩
    refine ⟨.ref a, rfl, .ref lp, rfl, .int (c : Int), rfl, (by show 1 ≤ sizeLine; decide), fun ap hap => ?_⟩
    have s1 : Same H (upd H ap (.tup [.int (c : Int)])) := same_upd hap
    refine ⟨a, lp, ap, hs, lot, [c], rfl, hA.same s1, ok, hM.same s1, okM, SqT.up upd_same, Nat.le_refl 1, (by show 1 ≤ 6; decide), fun H2 wp es s2 hwp hW okW => ?_⟩
    refine ⟨.ref g, rfl, wp, g, es, l, rfl, hW, hL.same (s1.trans s2), fun i hi => by have h1 := okL.lt i hi; have h2 := ok.hi; omega, fun H3 v s3 hv => ?_⟩
    refine ⟨rfl, ?_⟩
    rw [plV_non hv]
    refine q H3 _ ((s1.trans s2).trans s3) ?_
    have z := first_canA (alw := [c]) (goal := l) okM.nodup (Nat.le_refl 1) okW
    cases ef : firstOf es l with
    | none =>
      rw [ef] at z
      exact ⟨fun y => (by cases y), fun y => absurd y (z.mp rfl)⟩
    | some e =>
      rw [ef] at z
      refine ⟨fun _ => Classical.byContradiction fun y => ?_, fun _ => rfl⟩
      have := z.mpr y
      cases this
/-- a number or None -/
def optV : Option Nat → V
  | none => .non
  | some c => .int (c : Int)
def sp_least_coins (K : PySem.W.Frag) : Sp := fun vs H Q _ => ∃ (a g lp : Addr) (h : List (List Nat)) (l lot : List Nat), vs = [.ref a, .ref g, .ref lp] ∧ HouseAt K H a h ∧ HouseOk h ∧ LotAt K H g l ∧ LotOk h.length l ∧ LotAt K H lp lot ∧ LotOk h.length lot ∧
  ∀ (H' : Hp) (o : Option Nat), Same H H' → IsNumL h l lot o → Q (optV o) H'
theorem sc_least_coins : FnScope ["house", "goal", "lot", "coins"] ["house", "goal", "lot"] (defScope s_least_coins) := ⟨rfl, rfl, rfl, by decide +kernel, rfl, by decide +kernel, by decide +kernel⟩
theorem ok_least_coins (T : Txt K mg) : FnOk P w K mg base CX0 5 T.d_least_coins.f T.d_least_coins.fd ["house", "goal", "lot"] (sp_least_coins K) := by
  have G := ok_can_cover (P := P) (w := w) (base := base) T
  refine T.d_least_coins.F.ok sc_least_coins (fun vs H Q E h => ?_) (fun cdv A outer s H vs Q E hr h => ?_)
  · obtain ⟨a, g, lp, h, l, lot, rfl, _⟩ := h
    rfl
  · obtain ⟨a, g, lp, hs, l, lot, rfl, hA, ok, hL, okL, hM, okM, q⟩ := h
    have nd := sc_least_coins.nd
    have h7 := ok.hi
    have hlen := okM.len
    refine ⟨_, pss_cons (ps_for PassesOwn.never rfl (pi_range1 (by rfl) T.n_range (pa_cons (pe_op op_add (pe_callB call_len_seq (by rfl) T.n_len PySem.boot_len (pa_cons (pv 2) pa_nil)) pe_int) pa_nil)) (pg_name (i := 3) nd rfl (.inl rfl))
        (pss_one (ps_if (pt_val (pe_call G hr (by rfl) T.d_can_cover.g T.d_can_cover.F.kp T.d_can_cover.b .nil pass0 (pa_cons (pv 0) (pa_cons (pv 3) (pa_cons (pv 1) (pa_cons (pv 2) pa_nil)))))) (pss_one (ps_ret (pv 3))) pss_nil)))
      (pss_one (ps_ret pe_non)), ?_⟩
    refine ⟨.ref lp, rfl, lp, lotV lot, rfl, .inr hM, ((lotV lot).length : Int), 1, rfl, rfl, ((lotV lot).length : Int) + 1, rfl, by rw [lotV_len]; omega, by rw [lotV_len]; omega, ?_⟩
    have en : (((lotV lot).length : Int) + 1).toNat = lot.length + 1 := by rw [lotV_len]; omega
    show ∃ W, _
    rw [en]
    refine for_range (lo := 0) (n := lot.length + 1) (fun i σ H2 => (∃ c : Option V, σ = [some (.ref a), some (.ref g), some (.ref lp), c]) ∧ Same H H2 ∧ ∀ c', c' < i → ¬ CanA hs lot [c'] l)
      ⟨⟨none, rfl⟩, Same.refl _, fun c' z => absurd z (Nat.not_lt_zero _)⟩ ?_ ?_
    · rintro i σ H2 hi ⟨⟨c, rfl⟩, sm, hno⟩
      rw [Int.zero_add]
      refine ⟨.ref a, rfl, .int (i : Int), rfl, .ref g, rfl, .ref lp, rfl, a, g, lp, hs, i, l, lot, rfl, hA.same sm, ok, hL.same sm, okL, hM.same sm, okM, fun H3 b s3 hb => ⟨_, rfl, ?_⟩⟩
      cases b with
      | true =>
        refine iteT ?_
        exact ⟨_, rfl, q H3 (some i) (sm.trans s3) ⟨hb.mp rfl, hno⟩⟩
      | false =>
        refine iteF ?_
        refine ⟨⟨_, rfl⟩, sm.trans s3, fun c' z => ?_⟩
        by_cases e : c' = i
        · rw [e]
          exact fun y => Bool.false_ne_true (hb.mpr y)
        · exact hno c' (by omega)
    · rintro σ H2 ⟨⟨c, rfl⟩, sm, hno⟩
      refine q H2 none sm fun c z => ?_
      have y := canA_min z
      exact hno _ (by omega) y
def sp_slate_number (K : PySem.W.Frag) : Sp := fun vs H Q _ => ∃ (a : Addr) (h : List (List Nat)), vs = [.ref a] ∧ HouseAt K H a h ∧ HouseOk h ∧ ∀ (H' : Hp) (c : Nat), Same H H' → IsNum h (List.range h.length) c → c ≤ h.length → Q (.int (c : Int)) H'
theorem sc_slate_number : FnScope ["house"] ["house"] (defScope s_slate_number) := ⟨rfl, rfl, rfl, by decide +kernel, rfl, by decide +kernel, by decide +kernel⟩
theorem range_ok (n : Nat) : LotOk n (List.range n) := List.Sublist.refl _
theorem ok_slate_number (T : Txt K mg) : FnOk P w K mg base CX0 6 T.d_slate_number.f T.d_slate_number.fd ["house"] (sp_slate_number K) := by
  have G1 := (ok_check_house (P := P) (w := w) (base := base) T)
  have G2 := (ok_all_slates (P := P) (w := w) (base := base) T)
  have G3 := ok_least_coins (P := P) (w := w) (base := base) T
  refine T.d_slate_number.F.ok sc_slate_number (fun vs H Q E h => ?_) (fun cdv A outer s H vs Q E hr h => ?_)
  · obtain ⟨a, h, rfl, _⟩ := h
    rfl
  · obtain ⟨a, hs, rfl, hA, ok, q⟩ := h
    refine ⟨_, pss_cons (ps_expr (pe_call G1 (hr.mono (by decide)) (by rfl) T.d_check_house.g T.d_check_house.F.kp T.d_check_house.b .nil pass0 (pa_cons (pv 0) pa_nil)))
      (pss_one (ps_ret (pe_call G3 hr (by rfl) T.d_least_coins.g T.d_least_coins.F.kp T.d_least_coins.b .nil pass0 (pa_cons (pv 0) (pa_cons (pe_call G2 (hr.mono (by decide)) (by rfl) T.d_all_slates.g T.d_all_slates.F.kp T.d_all_slates.b .nil pass0 (pa_cons (pv 0) pa_nil))
        (pa_cons (pe_call G2 (hr.mono (by decide)) (by rfl) T.d_all_slates.g T.d_all_slates.F.kp T.d_all_slates.b .nil pass0 (pa_cons (pv 0) pa_nil)) pa_nil)))))), ?_⟩
    refine ⟨.ref a, rfl, a, hs, rfl, hA, ok, fun H1 sm1 => ?_⟩
    obtain ⟨rs, hR, hP⟩ := id (hA.same sm1)
    have hlv : (rs.map V.ref).length = hs.length := by rw [List.length_map]; exact Paired.length hP
    refine ⟨.ref a, rfl, .ref a, rfl, a, _, rfl, hR, by rw [hlv]; exact ok.hi, fun H2 p sm2 hp => ?_⟩
    rw [hlv] at hp
    refine ⟨.ref a, rfl, a, _, rfl, Same.tup sm2 hR, by rw [hlv]; exact ok.hi, fun H3 p3 sm3 hp3 => ?_⟩
    rw [hlv] at hp3
    have s13 := (sm1.trans sm2).trans sm3
    refine ⟨a, p, p3, hs, List.range hs.length, List.range hs.length, rfl, hA.same s13, ok, SqT.up (sm3 _ _ hp), range_ok _, SqT.up hp3, range_ok _, fun H4 o s4 hn => ?_⟩
    obtain ⟨c, rfl, h1, h2⟩ := isNumL_all ok (range_ok _) hn
    exact q H4 c (s13.trans s4) h1 h2
def sp_number_of (K : PySem.W.Frag) : Sp := fun vs H Q _ => ∃ (a g : Addr) (h : List (List Nat)) (l : List Nat), vs = [.ref a, .ref g] ∧ HouseAt K H a h ∧ HouseOk h ∧ LotAt K H g l ∧ LotOk h.length l ∧ l ≠ [] ∧ ∀ (H' : Hp) (c : Nat), Same H H' → IsNum h l c → c ≤ h.length → Q (.int (c : Int)) H'
def sp_coins_of_enemy (K : PySem.W.Frag) : Sp := fun vs H Q _ => ∃ (a : Addr) (h : List (List Nat)) (x y : Nat), vs = [.ref a, .int x, .int y] ∧ HouseAt K H a h ∧ HouseOk h ∧ x ≤ 7 ∧ y ≤ 7 ∧ ∀ H', Same H H' → Q (.int ((2 * x + y : Nat) : Int)) H'
def sp_lot_bears (K : PySem.W.Frag) : Sp := fun vs H Q _ => ∃ (a g : Addr) (h : List (List Nat)) (l : List Nat) (x y : Nat), vs = [.ref a, .int x, .int y, .ref g] ∧ HouseAt K H a h ∧ HouseOk h ∧ x ≤ 7 ∧ y ≤ 7 ∧ LotAt K H g l ∧ LotOk h.length l ∧ l ≠ [] ∧
  ∀ (H' : Hp) (c : Nat), Same H H' → IsNum h l c → Q (.bl (decide (2 * x + y < c))) H'
end
end N

set_option Elab.async false
set_option linter.all false
set_option maxRecDepth 100000
set_option maxHeartbeats 2000000
/-! a mask's lot; the row that covers within the fewest days -/
namespace N
open Cb (lotV combs combsOf combsOf_sub)
open PySem PySem.Spec PyProof.Rows L2
def bitsOf (m : Nat) : List Nat := (List.range 7).filter fun i => m.testBit i
theorem bits_mask {n : Nat} {l : List Nat} (ok : LotOk n l) (hn : n ≤ 7) : bitsOf (maskOf l) = l := by
  have h2 : l.Pairwise (· < ·) := ok.rise
  have h1 : (bitsOf (maskOf l)).Pairwise (· < ·) := List.Pairwise.sublist List.filter_sublist List.pairwise_lt_range
  have hm : ∀ i, i ∈ bitsOf (maskOf l) ↔ i ∈ l := fun i => by
    unfold bitsOf
    rw [List.mem_filter, List.mem_range, testBit_mask, decide_eq_true_eq]
    constructor
    · exact fun z => z.2
    · intro z
      have := ok.lt i z
      exact ⟨by omega, z⟩
  have p : (bitsOf (maskOf l)).Perm l := (List.perm_ext_iff_of_nodup (h1.imp fun h e => by omega) (h2.imp fun h e => by omega)).mpr hm
  exact List.Perm.eq_of_pairwise (le := (· < ·)) (fun a b _ _ x y => by omega) h1 h2 p
theorem bit_and (m k : Nat) : ((((m / 2 ^ k) &&& 1 : Nat) : Int) != 0) = m.testBit k := by
  have e : (m / 2 ^ k) &&& 1 = if m.testBit k then 1 else 0 := by
    rw [Nat.and_comm, Nat.one_and_eq_mod_two, Nat.testBit_eq_decide_div_mod_eq]
    have h : m / 2 ^ k % 2 = 0 ∨ m / 2 ^ k % 2 = 1 := by omega
    rcases h with h | h <;> simp [h]
  rw [e]
  cases m.testBit k <;> rfl
def tTru (K : PySem.W.Frag) (ta : TE) : TT := fun σ H Q => ta σ H fun x H' => ∃ k, TruV K x H' k ∧ Q k H'
theorem p_truthI (K : PySem.W.Frag) {X : Cx} {a : Expr} {ta : TE} (ha : PE X a ta) (he : ∀ whole, isTrue a X.env whole = (do let v ← whole; standAt a.pos; holding [v] (truthy v)) := by intro _; rfl) (hK : X.K = K := by rfl) :
    PT X a (tTru K ta) := by
  subst hK
  exact pt_truth ha he
section
variable {P : Program} {w : World} {K : PySem.W.Frag} {mg : Str → Option Value} {base : Heap}
def sp_lot_of (K : PySem.W.Frag) : Sp := fun vs H Q _ => ∃ m : Nat, vs = [.int m] ∧ ∀ (H' : Hp) (p : Addr), Same H H' → H' p = some (.tup (lotV (bitsOf m))) → Q (.ref p) H'
theorem sc_lot_of : FnScope ["mask", "clerk"] ["mask"] (defScope s__lot_of) := ⟨rfl, rfl, rfl, by decide +kernel, rfl, by decide +kernel, by decide +kernel⟩
theorem ok_lot_of (T : Txt K mg) : FnOk P w K mg base CX0 1 T.d__lot_of.f T.d__lot_of.fd ["mask"] (sp_lot_of K) := by
  obtain ⟨tm, gm⟩ := T.g_MOST_CLERKS
  refine T.d__lot_of.F.ok sc_lot_of (fun vs H Q E h => ?_) (fun cdv A outer s H vs Q E hr h => ?_)
  · obtain ⟨m, rfl, _⟩ := h
    rfl
  · obtain ⟨m, rfl, q⟩ := h
    have nd := sc_lot_of.nd
    refine ⟨_, pss_one (ps_ret (pe_tupleOf (by rfl) T.n_tuple (pe_lc (own := [("clerk", 1)]) (g := gName 1) rfl nd (pi_range1 (by rfl) T.n_range (pa_cons (pe_glob (v := .int 7) (by rfl) gm ⟨_, rfl⟩) pa_nil))
      (blkOk_by (N := ["mask", "clerk"]) (sc := defScope s__lot_of) (by decide +kernel)) (fun _ _ _ _ _ => pg_name (i := 1) nd rfl (.inl rfl))
      (fun _ _ _ _ _ => pts_one (p_truthI K (pe_op op_andN (pe_op op_shrN (pv 0) (pv 1)) pe_int)))
      (fun _ _ _ _ _ => pv 1)))), ?_⟩
    refine ⟨7, rfl, by omega, by omega, fun D hD => ?_⟩
    show ∃ W, _
    rw [show ((7 : Int)).toNat = 7 from rfl]
    refine lc_range (lo := 0) (n := 7) (fun i H2 => H2 = upd H D (.lst (lotV ((List.range i).filter fun i => m.testBit i)))) rfl ?_ ?_
    · rintro i H2 hi rfl
      have ed : (m : Int) / 2 ^ i = ((m / 2 ^ i : Nat) : Int) := by
        rw [Int.natCast_ediv, Int.natCast_pow]
        rfl
      refine ⟨rfl, .int m, rfl, .int (0 + (i : Int)), rfl, m, i, rfl, by rw [Int.zero_add], m / 2 ^ i, 1, by rw [ed], rfl, m.testBit i, (bit_and m i).symm, ?_⟩
      have ef : (List.range (i + 1)).filter (fun i => m.testBit i) = (List.range i).filter (fun i => m.testBit i) ++ if m.testBit i = true then [i] else [] := by
        rw [List.range_succ, List.filter_append, List.filter_cons]
        rfl
      refine ite2 (fun hb => ?_) (fun hb => ?_)
      · rw [if_pos hb] at ef
        refine ⟨_, rfl, _, upd_same, ?_, ?_⟩
        · rw [List.length_map]
          have := List.length_filter_le (fun i => m.testBit i) (List.range i)
          rw [List.length_range] at this
          exact small1000 (by omega)
        · show upd _ _ _ = _
          rw [upd_upd, ef, Int.zero_add]
          unfold lotV
          rw [List.map_append]
          rfl
      · rw [if_neg hb, List.append_nil] at ef
        show _ = _
        rw [ef]
    · rintro H2 rfl
      refine .inl ⟨D, _, rfl, SqL.up upd_same, fun p hp => ?_⟩
      exact q _ p ((same_upd hD).trans (same_upd hp)) upd_same
def sp_check_cover (K : PySem.W.Frag) : Sp := fun vs H Q _ => ∃ (a g : Addr) (h : List (List Nat)) (c : Nat) (l : List Nat), vs = [.ref a, .int c, .ref g] ∧ HouseAt K H a h ∧ HouseOk h ∧ c ≤ 7 ∧ LotAt K H g l ∧ LotOk h.length l ∧ l ≠ [] ∧ ∀ H', Same H H' → Q .non H'
theorem sc_check_cover : FnScope ["house", "coins", "goal"] ["house", "coins", "goal"] (defScope s__check_cover) := ⟨rfl, rfl, rfl, by decide +kernel, rfl, by decide +kernel, by decide +kernel⟩
theorem ok_check_cover (T : Txt K mg) : FnOk P w K mg base CX0 5 T.d__check_cover.f T.d__check_cover.fd ["house", "coins", "goal"] (sp_check_cover K) := by
  have G1 := ok_check_house (P := P) (w := w) (base := base) T
  have G2 := ok_check_number (P := P) (w := w) (base := base) T
  have G3 := ok_check_goal (P := P) (w := w) (base := base) T
  obtain ⟨tm, gm⟩ := T.g_MOST_CLERKS
  refine T.d__check_cover.F.ok sc_check_cover (fun vs H Q E h => ?_) (fun cdv A outer s H vs Q E hr h => ?_)
  · obtain ⟨a, g, h, c, l, rfl, _⟩ := h
    rfl
  · obtain ⟨a, g, hs, c, l, rfl, hA, ok, hc, hL, okL, hne, q⟩ := h
    have hr2 : Room 2 _ := hr.mono (by decide)
    refine ⟨_, pss_cons (ps_expr (pe_call G1 (hr.mono (by decide)) (by rfl) T.d_check_house.g T.d_check_house.F.kp T.d_check_house.b .nil pass0 (pa_cons (pv 0) pa_nil)))
      (pss_cons (ps_expr (pe_call G2 hr2 (by rfl) T.d_check_number.g T.d_check_number.F.kp T.d_check_number.b .nil pass0 (pa_cons (pv 1) (pa_cons pe_int (pa_cons (pe_glob (v := .int 7) (by rfl) gm ⟨_, rfl⟩) pa_nil)))))
      (pss_one (ps_expr (pe_call G3 hr (by rfl) T.d_check_goal.g T.d_check_goal.F.kp T.d_check_goal.b .nil pass0 (pa_cons (pv 0) (pa_cons (pv 2) pa_nil)))))), ?_⟩
    refine ⟨.ref a, rfl, a, hs, rfl, hA, ok, fun H1 sm1 => ?_⟩
    refine ⟨.int c, rfl, c, 0, 7, rfl, by omega, by omega, ?_⟩
    exact ⟨.ref a, rfl, .ref g, rfl, a, g, hs, l, rfl, hA.same sm1, hL.same sm1, okL, hne, q H1 sm1⟩
end
end N

set_option Elab.async false
set_option linter.all false
set_option maxRecDepth 100000
set_option maxHeartbeats 2000000
namespace N
open Cb (lotV combs combsOf combsOf_sub)
open PySem PySem.Spec PyProof.Rows L2
theorem zero_cov {h : List (List Nat)} (ok : HouseOk h) : ∀ {t : Nat} {S : List Nat}, RchL h 0 t S → S = []
  | 0, S, e => e
  | t + 1, S, ⟨S', L, h1, h2, h3, e⟩ => by
    have eS := zero_cov ok h1
    have eL : L = [] := List.eq_nil_of_length_eq_zero (by omega)
    subst eS; subst eL
    rw [e]
    refine List.eq_nil_iff_forall_not_mem.mpr fun i hi => ?_
    obtain ⟨hlt, hs⟩ := mem_nextL.mp hi
    have hm : h.getD i [] ∈ h := by
      rw [List.getD_eq_getElem?_getD, List.getElem?_eq_getElem hlt]
      exact List.getElem_mem hlt
    obtain ⟨s, r, er⟩ := List.exists_cons_of_ne_nil (ok.ok _ hm).1
    have q := hs s (by rw [er]; exact List.mem_cons_self)
    simp at q
theorem num_pos {h : List (List Nat)} (ok : HouseOk h) {goal : List Nat} (hne : goal ≠ []) {c : Nat} (x : IsNum h goal c) : 1 ≤ c := by
  rcases Nat.eq_zero_or_pos c with z | z
  · subst z
    obtain ⟨t, S, hS, hg⟩ := x.1
    have e := zero_cov ok hS
    subst e
    obtain ⟨s, r, er⟩ := List.exists_cons_of_ne_nil hne
    have q := hg s (by rw [er]; exact List.mem_cons_self)
    simp at q
  · exact z
/-- the lots of a size that coins never cover -/
def hardOf (es : List Ent) (n s : Nat) : List (List Nat) := (combs n s).filter fun l => (firstOf es l).isNone
def hards (es : List Ent) (n : Nat) : Nat → List (List Nat)
  | 0 => []
  | k + 1 => hards es n k ++ hardOf es n (k + 1)
def bestOf (ls : List (List Nat)) : List (List Nat) := ls.filter fun l => decide (l.length = (ls.headD []).length)
/-- lots stand at a as a tuple | a list of tuples -/
def LotsAt (K : PySem.W.Frag) (H : Hp) (a : Addr) (ls : List (List Nat)) : Prop := ∃ ts : List Addr, SqT K H a (ts.map V.ref) ∧ Paired (fun t l => LotAt K H t l) ts ls
section
variable {P : Program} {w : World} {K : PySem.W.Frag} {mg : Str → Option Value} {base : Heap}
theorem hards_len (es : List Ent) (n : Nat) (hn : n ≤ 7) : ∀ k, k ≤ n → (hards es n k).length ≤ 128 * k
  | 0, _ => Nat.le_refl _
  | k + 1, h => by
    have ih := hards_len es n hn k (by omega)
    have h2 := combs_small (n := n) (r := k + 1) h hn
    have h3 : (hardOf es n (k + 1)).length ≤ (combs n (k + 1)).length := List.length_filter_le _ _
    unfold hards
    rw [List.length_append]
    omega
theorem hards_ok {es : List Ent} {n : Nat} : ∀ {k : Nat} {l : List Nat}, l ∈ hards es n k → LotOk n l ∧ 1 ≤ l.length
  | 0, l, h => by cases h
  | k + 1, l, h => by
    unfold hards at h
    rcases List.mem_append.mp h with z | z
    · exact hards_ok z
    · have q := combs_mem.mp (List.mem_filter.mp z).1
      exact ⟨q.1, by omega⟩
/-- what is put into a list's place stands apart from the rest -/
theorem un_upd {H H6 : Hp} {D : Addr} {o : HO} (hD : H D = none) (s : Same (upd H D o) H6) : ∃ H', Same H H' ∧ H' D = none ∧ H6 = upd H' D o := by
  refine ⟨fun b => if b = D then none else H6 b, fun b x e => ?_, if_pos rfl, ?_⟩
  · have hb : b ≠ D := ne_of_none e hD
    show (if b = D then none else H6 b) = _
    rw [if_neg hb]
    refine s _ _ ?_
    rw [upd_ne hb]
    exact e
  · funext b
    by_cases hb : b = D
    · subst hb
      rw [upd_same]
      exact s _ _ upd_same
    · rw [upd_ne hb]
      show _ = (if b = D then none else H6 b)
      rw [if_neg hb]
def sp_best_lots (K : PySem.W.Frag) : Sp := fun vs H Q _ => ∃ (a : Addr) (h : List (List Nat)), vs = [.ref a] ∧ HouseAt K H a h ∧ HouseOk h ∧
  ∀ (H' : Hp) (p : Addr) (c : Nat) (es : List Ent), Same H H' → IsNum h (List.range h.length) (c + 1) → WaysOk (h.map maskOf) (cmsOf (List.range h.length) [c]) es → LotsAt K H' p (bestOf (hards es h.length h.length)) → Q (.ref p) H'
end
end N

set_option Elab.async false
set_option linter.all false
set_option maxRecDepth 100000
set_option maxHeartbeats 2000000
namespace N
open Cb (lotV combs combsOf combsOf_sub)
open PySem PySem.Spec PyProof.Rows L2
/-- what is covered behind a row of lots of coins -/
def leadL (h : List (List Nat)) (S : List Nat) (Ls : List (List Nat)) : List Nat := Ls.foldl (fun S L => nextL h S L) S
structure RowOk (h : List (List Nat)) (c : Nat) (goal : List Nat) (Ls : List (List Nat)) : Prop where
  ok : ∀ L ∈ Ls, LotOk h.length L ∧ L.length ≤ c
  leads : ∀ i ∈ goal, i ∈ leadL h [] Ls
/-- a row of coins by an allowance that covers a goal -/
structure RowOkA (h : List (List Nat)) (alw goal : List Nat) (Ls : List (List Nat)) : Prop where
  ok : ∀ j L, Ls[j]? = some L → LotOk h.length L ∧ L.length ≤ alw.getD (j % alw.length) 0
  leads : ∀ i ∈ goal, i ∈ leadL h [] Ls
theorem RowOkA.one {h : List (List Nat)} {c : Nat} {goal : List Nat} {Ls : List (List Nat)} (x : RowOkA h [c] goal Ls) : RowOk h c goal Ls := by
  refine ⟨fun L hL => ?_, x.leads⟩
  obtain ⟨j, hj⟩ := List.getElem?_of_mem hL
  have z := x.ok j L hj
  rw [show ([c] : List Nat).length = 1 from rfl, Nat.mod_one] at z
  exact z
theorem mask_inj {n : Nat} {l m : List Nat} (ol : LotOk n l) (om : LotOk n m) (hn : n ≤ 7) (e : maskOf l = maskOf m) : l = m := by
  rw [← bits_mask ol hn, ← bits_mask om hn, e]
theorem mask_zero {l : List Nat} (e : maskOf l = 0) : l = [] := by
  refine List.eq_nil_iff_forall_not_mem.mpr fun i hi => ?_
  have h : (maskOf l).testBit i = true := by rw [testBit_mask]; exact decide_eq_true hi
  rw [e] at h
  simp at h
theorem fd_small {ss : List Nat} {cms : List (List Nat)} (hs : ss.length ≤ 7) (hc : 1 ≤ cms.length) (hc6 : cms.length ≤ 6) {m : Nat × Nat} {d : Nat} (h : FD ss cms m d) : d < 768 := by
  have hk : ∀ k : Nat, ∃ c, k ≤ d → FD ss cms c k := fun k => by
    by_cases hk : k ≤ d
    · obtain ⟨c, hc⟩ := FD.below h hk
      exact ⟨c, fun _ => hc⟩
    · exact ⟨(0, 0), fun z => absurd z hk⟩
  have hf : ∀ k, k ≤ d → FD ss cms (Classical.choose (hk k)) k := fun k z => Classical.choose_spec (hk k) z
  have h2 : 2 ^ ss.length ≤ 2 ^ 7 := Nat.pow_le_pow_right (by decide) hs
  have lt : ∀ k, k ≤ d → (Classical.choose (hk k)).1 < 2 ^ ss.length ∧ (Classical.choose (hk k)).2 < cms.length := fun k z => rch_lt hc (hf k z).1
  have nd : ((List.range (d + 1)).map fun k => plN (Classical.choose (hk k))).Nodup := nodup_on _ List.nodup_range fun a ha b hb e => by
    have ha' := List.mem_range.mp ha
    have hb' := List.mem_range.mp hb
    have h1 := hf a (by omega)
    have h3 := hf b (by omega)
    have l1 := lt a (by omega)
    have l3 := lt b (by omega)
    have e2 : Classical.choose (hk a) = Classical.choose (hk b) := by
      unfold plN at e
      exact Prod.ext (by omega) (by omega)
    rw [e2] at h1
    exact h1.inj h3
  have hl := nodup_le 768 _ nd fun x hx => by
    obtain ⟨k, hk', rfl⟩ := List.mem_map.mp hx
    have l1 := lt k (by have := List.mem_range.mp hk'; omega)
    unfold plN
    omega
  rw [List.length_map, List.length_range] at hl
  omega
theorem paired_rev {α β : Type} {F : α → β → Prop} : ∀ {as : List α} {bs : List β}, Paired F as bs → Paired F as.reverse bs.reverse
  | _, _, .nil => .nil
  | _, _, .cons r t => by
    rw [List.reverse_cons, List.reverse_cons]
    exact Cb.paired_snoc r (paired_rev t)
theorem ents_get {H : Hp} {m : Nat × Nat} : ∀ {kvs : List (List Key × V)} {es : List Ent}, Paired (EntAt H) kvs es → (∃ e ∈ es, e.p = m) → ∃ v, valV kvs (keyP m) = some v ∧ ∃ e ∈ es, e.p = m ∧ BackAt H v e.b
  | _, _, .nil, ⟨e, h, _⟩ => by cases h
  | kv :: kvs, e :: es, .cons r t, hx => by
    by_cases h : e.p = m
    · have e1 : kv.1 = keyP m := by rw [r.1, h]
      rw [valV_pos e1]
      exact ⟨_, rfl, e, List.mem_cons_self, h, r.2⟩
    · have e1 : ¬ kv.1 = keyP m := by
        rw [r.1]
        intro z
        exact h (keyP_inj z)
      rw [valV_neg e1]
      obtain ⟨x, hx, ex⟩ := hx
      rcases List.mem_cons.mp hx with y | y
      · rw [y] at ex; exact absurd ex h
      · obtain ⟨v, h1, e', h2, h3⟩ := ents_get t ⟨x, y, ex⟩
        exact ⟨v, h1, e', List.mem_cons_of_mem _ h2, h3⟩
section
variable {P : Program} {w : World} {K : PySem.W.Frag} {mg : Str → Option Value} {base : Heap}
def sp_quickest (K : PySem.W.Frag) : Sp := fun vs H Q _ => ∃ (a ap g : Addr) (h : List (List Nat)) (alw l : List Nat), vs = [.ref a, .ref ap, .ref g] ∧ HouseAt K H a h ∧ HouseOk h ∧ LotAt K H ap alw ∧ 1 ≤ alw.length ∧ alw.length ≤ 6 ∧ LotAt K H g l ∧ LotOk h.length l ∧
  (∀ H', Same H H' → IsFirst (CovA h (List.range h.length) alw l) none → Q .non H') ∧ ∀ (H' : Hp) (p : Addr) (Ls : List (List Nat)) (d : Nat), Same H H' → LotsAt K H' p Ls → IsFirst (CovA h (List.range h.length) alw l) (some d) → Ls.length = d → RowOkA h alw l Ls → d < 768 → Q (.ref p) H'
theorem sc_quickest : FnScope ["house", "allowance", "goal", "ways", "place", "row", "coin_mask"] ["house", "allowance", "goal"] (defScope s_quickest_row) := ⟨rfl, rfl, rfl, by decide +kernel, rfl, by decide +kernel, by decide +kernel⟩
theorem ok_quickest (T : Txt K mg) : FnOk P w K mg base CX0 4 T.d_quickest_row.f T.d_quickest_row.fd ["house", "allowance", "goal"] (sp_quickest K) := by
  have G1 := ok_ways (P := P) (w := w) (base := base) T
  have G2 := ok_first_cover (P := P) (w := w) (base := base) T
  have G3 := ok_lot_of (P := P) (w := w) (base := base) T
  have G4 := ok_all_slates (P := P) (w := w) (base := base) T
  refine T.d_quickest_row.F.ok sc_quickest (fun vs H Q E h => ?_) (fun cdv A outer s H vs Q E hr h => ?_)
  · obtain ⟨a, ap, g, h, alw, l, rfl, _⟩ := h
    rfl
  · obtain ⟨a, ap, g, hs, alw, l, rfl, hA, ok, hW, ha1, ha6, hL, okL, qn, q⟩ := h
    have nd := sc_quickest.nd
    have hu := hu_of hr
    have hr1 : Room 1 _ := hr.mono (by decide)
    refine ⟨_, pss_cons (ps_set (i := 3) nd rfl (.inl rfl) (pe_call G1 hr (by rfl) T.d__ways.g T.d__ways.F.kp T.d__ways.b .nil pass0 (pa_cons (pv 0) (pa_cons (pe_call G4 hr1 (by rfl) T.d_all_slates.g T.d_all_slates.F.kp T.d_all_slates.b .nil pass0 (pa_cons (pv 0) pa_nil)) (pa_cons (pv 1) pa_nil)))))
      (pss_cons (ps_set (i := 4) nd rfl (.inl rfl) (pe_call G2 hr (by rfl) T.d__first_cover.g T.d__first_cover.F.kp T.d__first_cover.b .nil pass0 (pa_cons (pv 3) (pa_cons (pv 2) pa_nil))))
      (pss_cons (ps_if (pt_cmpR op_isN (pv 4) pe_non (nomark _)) (pss_one (ps_ret pe_non)) pss_nil)
      (pss_cons (ps_set (i := 5) nd rfl (.inl rfl) (pe_lst pa_nil))
      (pss_cons (ps_while PassesOwn.never (pt_cmpR op_notN (pe_dget hu (pv 3) (pv 4) (fun _ _ => rfl)) pe_non (nomark _))
        (pss_cons (ps_asg (pe_dget hu (pv 3) (pv 4) (fun _ _ => rfl)) (pg_tup rfl (pgs_cons (pg_name (i := 4) nd rfl (.inl rfl)) (pgs_cons (pg_name (i := 6) nd rfl (.inl rfl)) pgs_nil))))
        (pss_one (ps_expr (pe_bm PySem.F.plainAttrs_list PySem.F.slot_list_append PySem.F.type_list_append mt_append (pv 5) (pa_cons (pe_call G3 hr1 (by rfl) T.d__lot_of.g T.d__lot_of.F.kp T.d__lot_of.b .nil pass0 (pa_cons (pv 6) pa_nil)) pa_nil))))))
      (pss_one (ps_ret (pe_callTy call_tuple_of (by rfl) T.n_tuple (by decide +kernel) (pa_cons (pe_revL (pv 5)) pa_nil)))))))), ?_⟩
    obtain ⟨rs0, hR0, hP0⟩ := id hA
    have hlv0 : (rs0.map V.ref).length = hs.length := by rw [List.length_map]; exact Paired.length hP0
    refine ⟨.ref a, rfl, .ref a, rfl, a, _, rfl, hR0, by rw [hlv0]; exact ok.hi, fun H0 p0 sm0 hp0 => ?_⟩
    rw [hlv0] at hp0
    refine ⟨.ref ap, rfl, a, p0, ap, hs, List.range hs.length, alw, rfl, hA.same sm0, ok, SqT.up hp0, range_ok _, hW.same sm0, ha1, ha6, fun H1 wp es sm1' hwp hW1 okW => ?_⟩
    have sm1 := sm0.trans sm1'
    have hd := first_daysA (goal := l) List.nodup_range ha1 okW
    refine ⟨.ref wp, rfl, .ref g, rfl, wp, g, es, l, rfl, hW1, hL.same sm1, fun i hi => by have h1 := okL.lt i hi; have h2 := ok.hi; omega, fun H1b v smb hv => ?_⟩
    have hss : (hs.map maskOf).length ≤ 7 := by rw [List.length_map]; exact ok.hi
    have hcl := cms_len (List.range hs.length) alw
    cases ef : firstOf es l with
    | none =>
      rw [ef] at hd hv
      have ev : v = .non := hv
      subst ev
      refine ⟨.non, rfl, rfl, _, rfl, ?_⟩
      show (if decide (V.non = V.non) = true then _ else _)
      rw [decide_eq_true rfl, if_pos rfl]
      exact qn H1b (sm1.trans smb) hd
    | some e0 =>
      rw [ef] at hd hv
      obtain ⟨pt0, rfl, hpt0⟩ := hv
      have he0 : e0 ∈ es := List.mem_of_find?_eq_some ef
      have hh0 : holdsB e0.p.1 l = true := by
        have := List.find?_some ef
        exact this
      refine ⟨.ref pt0, rfl, rfl, _, rfl, ?_⟩
      show (if decide (V.ref pt0 = V.non) = true then _ else _)
      rw [decide_eq_false (by intro z; cases z), if_neg Bool.false_ne_true]
      refine ⟨Nat.zero_le _, fun rp hrp => ?_⟩
      have hfd0 := okW.fd e0 he0
      have hd768 := fd_small hss (by omega) (by omega) hfd0
      obtain ⟨S0, hS0, em0⟩ := rch_lotA ha1 hfd0.1
      have hpt0' := same_upd (o := .lst []) hrp _ _ hpt0
      refine ⟨fun m σ H2 => ∃ (e : Ent) (pt : Addr) (Lr : List (List Nat)) (ts : List Addr) (S : List Nat) (v6 : Option V), e ∈ es ∧ m = e.d ∧ σ = [some (.ref a), some (.ref ap), some (.ref g), some (.ref wp), some (.ref pt), some (.ref rp), v6] ∧ H2 pt = some (.tup (plV e.p)) ∧
          (∀ b o, H1b b = some o → H2 b = some o) ∧ H2 rp = some (.lst (ts.map V.ref)) ∧ Paired (fun t l => LotAt K H2 t l) ts Lr ∧ (∀ j L, Lr[j]? = some L → LotOk hs.length L ∧ L.length ≤ alw.getD ((e0.d - 1 - j) % alw.length) 0) ∧ LotOk hs.length S ∧ maskOf S = e.p.1 ∧ (∀ i ∈ l, i ∈ leadL hs S Lr.reverse) ∧ Lr.length + e.d = e0.d,
        ⟨_, e0, pt0, [], [], S0, none, he0, rfl, rfl, hpt0', fun b o z => same_upd hrp b o z, upd_same, .nil, (fun j L hL => by cases hL), rchA_ok hS0, by rw [em0], fun i hi => by rw [em0] at hh0; exact holds_lot.mp hh0 i hi, by simp⟩, ?_⟩
      rintro m σ H2 ⟨e, pt, Lr, ts, S, v6, he, rfl, rfl, hpt, sm2, hr2, hPt, hLr, okS, emS, hlead, hlen⟩
      obtain ⟨kvs, hk, hP⟩ := (hW1.same smb).same sm2
      obtain ⟨v, hv, e', he', em', hb'⟩ := ents_get hP ⟨e, he, rfl⟩
      have hget : DGet H2 wp (.ref pt) (some v) := by
        have z := DGet.t (k := keyP e.p) hk hpt
        rw [hv] at z
        exact z
      have hdd : e'.d = e.d := by
        have h1 := okW.fd e' he'
        rw [em'] at h1
        exact h1.inj (okW.fd e he)
      have hbk := okW.back e' he'
      refine ⟨.ref wp, rfl, .ref pt, rfl, wp, v, rfl, hget, rfl, _, rfl, ?_⟩
      have htl : ts.length = Lr.length := Paired.length hPt
      cases eb : e'.b with
      | none =>
        rw [eb] at hb'
        unfold BackOk at hbk
        rw [eb] at hbk
        have ev : v = .non := hb'
        subst ev
        show (if (!decide (V.non = V.non)) = true then _ else _)
        rw [if_neg (by simp)]
        have hS : S = [] := mask_zero (by rw [emS, ← em', hbk.1])
        have hd0 : e.d = 0 := by rw [← hdd]; exact hbk.2
        refine ⟨.ref rp, rfl, rp, _, rfl, SqL.up hr2, fun p2 hp2 => ⟨p2, _, rfl, .inl ⟨SqL.up upd_same, fun p3 hp3 => ?_⟩⟩⟩
        have sm3 : Same H2 (upd (upd H2 p2 (.lst (ts.map V.ref).reverse)) p3 (.tup (ts.map V.ref).reverse)) := (same_upd hp2).trans (same_upd hp3)
        refine q _ p3 Lr.reverse e0.d (((sm1.trans smb).trans sm2).trans sm3) ⟨ts.reverse, SqT.up (by rw [upd_same, List.map_reverse]), paired_rev (paired_mono hPt fun _ _ z => z.same sm3)⟩ hd (by rw [List.length_reverse]; omega) ⟨fun j L hL => ?_, ?_⟩ hd768
        · have hj : j < Lr.length := by
            have := (List.getElem?_eq_some_iff.mp hL).1
            rwa [List.length_reverse] at this
          rw [List.getElem?_reverse hj] at hL
          have z := hLr _ L hL
          rw [show e0.d - 1 - (Lr.length - 1 - j) = j by omega] at z
          exact z
        · rw [hS] at hlead
          exact hlead
      | some cc =>
        obtain ⟨c1, cm⟩ := cc
        rw [eb] at hb'
        unfold BackOk at hbk
        rw [eb] at hbk
        obtain ⟨t, u, rfl, ht, hu'⟩ := hb'
        obtain ⟨d1, ed1, hfd1, hcm, em1⟩ := hbk
        show (if (!decide (V.ref t = V.non)) = true then _ else _)
        rw [if_pos (by simp)]
        refine ⟨fun σ' H' => ∃ m', m' < e.d ∧ ∃ (e : Ent) (pt : Addr) (Lr : List (List Nat)) (ts : List Addr) (S : List Nat) (v6 : Option V), e ∈ es ∧ m' = e.d ∧ σ' = [some (.ref a), some (.ref ap), some (.ref g), some (.ref wp), some (.ref pt), some (.ref rp), v6] ∧ H' pt = some (.tup (plV e.p)) ∧
            (∀ b o, H1b b = some o → H' b = some o) ∧ H' rp = some (.lst (ts.map V.ref)) ∧ Paired (fun t l => LotAt K H' t l) ts Lr ∧ (∀ j L, Lr[j]? = some L → LotOk hs.length L ∧ L.length ≤ alw.getD ((e0.d - 1 - j) % alw.length) 0) ∧ LotOk hs.length S ∧ maskOf S = e.p.1 ∧ (∀ i ∈ l, i ∈ leadL hs S Lr.reverse) ∧ Lr.length + e.d = e0.d, fun σ' H' z => z, ?_⟩
        refine ⟨.ref wp, rfl, .ref pt, rfl, wp, .ref t, rfl, hget, t, [.ref u, .int (cm : Int)], rfl, .inl (.inl ht), rfl, .ref u, [.int (cm : Int)], rfl, .int (cm : Int), [], rfl, rfl, ?_⟩
        obtain ⟨S1, hS1, emS1⟩ := rch_lotA ha1 hfd1.1
        have ec2 : c1.2 = d1 % alw.length := by rw [emS1]
        rw [ec2, cms_get (Nat.mod_lt _ ha1)] at hcm
        obtain ⟨L, hLc, ecm⟩ := List.mem_map.mp hcm
        have hLm := combsOf_sub.mp hLc
        obtain ⟨e2, he2, em2⟩ := okW.all c1 d1 hfd1.1
        have hd2 : e2.d = d1 := by
          have h1 := okW.fd e2 he2
          rw [em2] at h1
          exact h1.inj hfd1
        have okS1 := rchA_ok hS1
        have eS : S = nextL hs S1 L := mask_inj okS (nextL_ok _ _ _) ok.hi (by rw [emS, ← em', em1, nx, ← next_mask, emS1, ecm])
        refine ⟨.ref rp, rfl, .inl ⟨rfl, _, SqL.up hr2⟩, .int (cm : Int), rfl, cm, rfl, fun H5 p5 sm5 hp5 => ?_⟩
        have hr5 := sm5 _ _ hr2
        have hp5' : LotAt K H5 p5 L := by
          have z : bitsOf cm = L := by rw [← ecm]; exact bits_mask (n := hs.length) hLm.1 ok.hi
          rw [z] at hp5
          exact SqT.up hp5
        refine ⟨rp, _, _, rfl, rfl, hr5, by rw [List.length_map]; exact small1000 (by omega), ?_⟩
        have tup : ∀ b l, LotAt K H5 b l → LotAt K (upd H5 rp (.lst (ts.map V.ref ++ [.ref p5]))) b l := fun b l z => by
          rcases z with (z3 | ⟨o', z3⟩) | z3
          · exact .inl (.inl (by rw [upd_ne (ne_of z3 hr5 (by intro y; cases y))]; exact z3))
          · exact .inl (.inr ⟨o', by rw [upd_ne (ne_of z3 hr5 (by intro y; cases y))]; exact z3⟩)
          · exact .inr z3
        have hut := sm5 _ _ hu'
        refine ⟨_, ?_, e2, u, Lr ++ [L], ts ++ [p5], S1, some (.int (cm : Int)), he2, rfl, rfl, ?_, fun b o z => ?_, ?_, ?_, fun j L' hL' => ?_, okS1, by rw [em2, emS1], ?_, ?_⟩
        · omega
        · rw [upd_ne (ne_of hut hr5 (by intro y; cases y)), em2]
          exact hut
        · rw [upd_ne (ne_of_none z hrp)]
          exact sm5 _ _ (sm2 _ _ z)
        · rw [upd_same, List.map_append]
          rfl
        · exact Cb.paired_snoc (F := fun t l => LotAt K (upd H5 rp (.lst (ts.map V.ref ++ [.ref p5]))) t l) (tup _ _ hp5') (paired_mono hPt fun t l z => tup t l (z.same sm5))
        · by_cases hj : j < Lr.length
          · rw [List.getElem?_append_left hj] at hL'
            exact hLr j L' hL'
          · rw [List.getElem?_append_right (by omega)] at hL'
            have hj2 : j - Lr.length = 0 := by
              have := (List.getElem?_eq_some_iff.mp hL').1
              rw [List.length_singleton] at this
              omega
            rw [hj2] at hL'
            have eL : L' = L := (Option.some.inj hL').symm
            rw [eL, show e0.d - 1 - j = d1 by omega]
            exact ⟨hLm.1, by rw [hLm.2]; exact Nat.min_le_left _ _⟩
        · rw [List.reverse_append]
          show ∀ i ∈ l, i ∈ leadL hs (nextL hs S1 L) Lr.reverse
          rw [← eS]
          exact hlead
        · rw [List.length_append]
          show Lr.length + 1 + e2.d = e0.d
          omega
end
end N

set_option Elab.async false
set_option linter.all false
set_option maxRecDepth 100000
set_option maxHeartbeats 2000000
namespace N
open Cb (lotV combs combsOf combsOf_sub)
open PySem PySem.Spec PyProof.Rows L2
/-- the law's store of draws -/
def RowAt (K : PySem.W.Frag) (sa : Addr) (ns : List Int) (H : Hp) (rp : Addr) : Prop := ∃ (k m r : Int), H rp = some (.lst [.ref sa, .int k, .int m, .int r]) ∧ SqL K H sa (ns.map V.int) ∧ 0 ≤ k ∧ (rp ≠ sa ∨ ∀ H', SqL K H' sa (ns.map V.int))
/-- all but the store stands as it was -/
def SameBut (rp : Addr) (H H' : Hp) : Prop := ∀ b o, b ≠ rp → H b = some o → H' b = some o
theorem SameBut.refl (rp : Addr) (H : Hp) : SameBut rp H H := fun _ _ _ e => e
theorem SameBut.trans {rp : Addr} {H H1 H2 : Hp} (a : SameBut rp H H1) (b : SameBut rp H1 H2) : SameBut rp H H2 := fun c o h e => b c o h (a c o h e)
theorem Same.but {rp : Addr} {H H' : Hp} (a : Same H H') : SameBut rp H H' := fun c o _ e => a c o e
theorem but_upd {rp : Addr} {H : Hp} {o : HO} : SameBut rp H (upd H rp o) := fun c x h e => by rw [upd_ne h]; exact e
theorem fmod_nat (v : Int) {many : Nat} (h : 1 ≤ many) : ∃ n : Nat, n < many ∧ v.fmod (many : Int) = (n : Int) := by
  have h1 := Int.fmod_nonneg_of_pos v (b := (many : Int)) (by omega)
  have h2 := Int.fmod_lt_of_pos v (b := (many : Int)) (by omega)
  exact ⟨(v.fmod (many : Int)).toNat, by omega, by omega⟩
section
variable {P : Program} {w : World} {K : PySem.W.Frag} {mg : Str → Option Value} {base : Heap}
theorem seqL_off {H : Hp} {rp a : Addr} {xs : List V} {o : HO} (h : SqL K H a xs) (hne : a ≠ rp) : SqL K (upd H rp o) a xs := by
  rcases h with (h | ⟨o', h⟩) | h
  · exact .inl (.inl (by rw [upd_ne hne]; exact h))
  · exact .inl (.inr ⟨o', by rw [upd_ne hne]; exact h⟩)
  · exact .inr h
theorem row_off {H : Hp} {rp a : Addr} {xs : List V} {o : HO} (h : SqL K H a xs) (hne : rp ≠ a ∨ ∀ H', SqL K H' a xs) : SqL K (upd H rp o) a xs := by
  rcases hne with z | z
  · exact seqL_off h z.symm
  · exact z _
/-- a list that stands is another than what is new, or stands whatever the heap is -/
theorem sqL_new {H0 : Hp} {fp a : Addr} {xs : List V} (h : SqL K H0 a xs) (hf : H0 fp = none) {H : Hp} {o : HO} (h2 : SqL K H a xs) : SqL K (upd H fp o) a xs := by
  rcases h with (h | ⟨o', h⟩) | h
  · exact seqL_off h2 (ne_of_none h hf)
  · exact seqL_off h2 (ne_of_none h hf)
  · exact .inr h
def sp_taken (K : PySem.W.Frag) : Sp := fun vs H Q _ => ∃ (sa : Addr) (ns : List Int) (rp : Addr) (many : Nat), vs = [.ref rp, .int many] ∧ RowAt K sa ns H rp ∧ 1 ≤ many ∧ many ≤ 1000 ∧ ∀ (H' : Hp) (v : Nat), RowAt K sa ns H' rp → SameBut rp H H' → v < many → Q (.int (v : Int)) H'
theorem sc_taken : FnScope ["row", "many", "found", "cell"] ["row", "many"] (defScope s__law_taken) := ⟨rfl, rfl, rfl, by decide +kernel, rfl, by decide +kernel, by decide +kernel⟩
theorem ok_taken (T : Txt K mg) : FnOk P w K mg base CX0 1 T.d__law_taken.f T.d__law_taken.fd ["row", "many"] (sp_taken K) := by
  refine T.d__law_taken.F.ok sc_taken (fun vs H Q E h => ?_) (fun cdv A outer s H vs Q E hr h => ?_)
  · obtain ⟨_, _, rp, many, rfl, _⟩ := h
    rfl
  · obtain ⟨sa, ns, rp, many, rfl, ⟨k, m, r, hR, hS, hk, hne⟩, h1, h2, q⟩ := h
    have nd := sc_taken.nd
    have mi : ∀ {t : TA} {e : Expr}, True := fun {_ _} => trivial
    refine ⟨_, pss_cons (ps_if (pt_cmpR op_gt (pe_ix ix_list (pv 0) pe_int (fun _ _ => rfl)) pe_int (nomark _))
        (pss_cons (ps_set (i := 2) nd rfl (.inl rfl) (pe_op op_modN (pe_callTy call_int1 (by rfl) T.n_int (by decide +kernel) (pa_cons (pe_ix ix_list (pv 0) pe_int (fun _ _ => rfl)) pa_nil)) (pv 1)))
        (pss_cons (ps_asg (pe_op op_fdivN (pe_ix ix_list (pv 0) pe_int (fun _ _ => rfl)) (pv 1)) (pg_sub (pv 0) pe_int set_list))
        (pss_one (ps_ret (pv 2))))) pss_nil)
      (pss_cons (ps_asg (pe_op op_add (pe_ix ix_list (pv 0) pe_int (fun _ _ => rfl)) pe_int) (pg_sub (pv 0) pe_int set_list))
      (pss_cons (ps_if (pt_cmpR op_gt (pe_ix ix_list (pv 0) pe_int (fun _ _ => rfl)) (pe_callB call_len_seq (by rfl) T.n_len PySem.boot_len (pa_cons (pe_ix ix_list (pv 0) pe_int (fun _ _ => rfl)) pa_nil)) (nomark _))
        (pss_cons (ps_asg (pe_op op_modN (pe_callTy call_int1 (by rfl) T.n_int (by decide +kernel) (pa_cons (pe_op op_add (pe_op op_mul (pe_ix ix_list (pv 0) pe_int (fun _ _ => rfl)) pe_int) pe_int) pa_nil)) pe_int) (pg_sub (pv 0) pe_int set_list))
        (pss_one (ps_ret (pe_op op_modN (pe_callTy call_int1 (by rfl) T.n_int (by decide +kernel) (pa_cons (pe_op op_fdivN (pe_ix ix_list (pv 0) pe_int (fun _ _ => rfl)) pe_int) pa_nil)) (pv 1))))) pss_nil)
      (pss_cons (ps_set (i := 3) nd rfl (.inl rfl) (pe_ix ix_list (pe_ix ix_list (pv 0) pe_int (fun _ _ => rfl)) (pe_op op_sub (pe_ix ix_list (pv 0) pe_int (fun _ _ => rfl)) pe_int) (fun _ _ => rfl)))
      (pss_cons (ps_asg (pe_op op_modN (pe_callTy call_int1 (by rfl) T.n_int (by decide +kernel) (pa_cons (pe_op op_add (pe_op op_add (pe_op op_mul (pe_ix ix_list (pv 0) pe_int (fun _ _ => rfl)) pe_int) (pv 3)) pe_int) pa_nil)) pe_int) (pg_sub (pv 0) pe_int set_list))
      (pss_cons (ps_if (pt_cmpR op_ge (pv 3) (pe_op op_pow pe_int pe_int) (nomark _))
        (pss_one (ps_asg (pe_op op_fdivN (pv 3) (pv 1)) (pg_sub (pv 0) pe_int set_list))) pss_nil)
      (pss_one (ps_ret (pe_op op_modN (pe_callTy call_int1 (by rfl) T.n_int (by decide +kernel) (pa_cons (pv 3) pa_nil)) (pv 1))))))))), ?_⟩
    have hm0 : (many : Int) ≠ 0 := by omega
    have hmb : (many : Int) ≠ 0 ∧ ((many : Int)).natAbs < 1073741824 := ⟨hm0, by omega⟩
    have g0 : ∀ {H : Hp} {k m r : Int}, H rp = some (.lst [.ref sa, .int k, .int m, .int r]) → SqL K H rp [.ref sa, .int k, .int m, .int r] := fun e => SqL.up e
    refine ⟨.ref rp, rfl, rp, _, 3, .int r, rfl, rfl, g0 hR, atI_nat (j := 3) rfl, r, 0, rfl, rfl, _, rfl, ?_⟩
    refine ite2 (fun hb => ?_) (fun hb => ?_)
    · obtain ⟨v, hv, ev⟩ := fmod_nat r h1
      refine ⟨.ref rp, rfl, rp, _, 3, .int r, rfl, rfl, g0 hR, atI_nat (j := 3) rfl, .inl ⟨r, rfl, .int many, rfl, r, many, rfl, rfl, hm0, ?_⟩⟩
      refine ⟨.ref rp, rfl, rp, _, 3, .int r, rfl, rfl, g0 hR, atI_nat (j := 3) rfl, .int many, rfl, r, many, rfl, rfl, hmb, ?_⟩
      refine ⟨.ref rp, rfl, rp, _, 3, 3, rfl, rfl, hR, rfl, ?_⟩
      refine ⟨_, rfl, ?_⟩
      show Q (.int (r.fmod (many : Int))) _
      rw [ev]
      exact q _ v ⟨k, m, _, upd_same, row_off hS hne, hk, hne⟩ but_upd hv
    · refine ⟨.ref rp, rfl, rp, _, 1, .int k, rfl, rfl, g0 hR, atI_nat (j := 1) rfl, k, 1, rfl, rfl, ?_⟩
      refine ⟨.ref rp, rfl, rp, _, 1, 1, rfl, rfl, hR, rfl, ?_⟩
      have hR1 : (upd H rp (.lst [.ref sa, .int (k + 1), .int m, .int r])) rp = some (.lst [.ref sa, .int (k + 1), .int m, .int r]) := upd_same
      have hS1 : SqL K (upd H rp (.lst [.ref sa, .int (k + 1), .int m, .int r])) sa (ns.map V.int) := row_off hS hne
      refine ⟨.ref rp, rfl, rp, _, 1, .int (k + 1), rfl, rfl, g0 hR1, atI_nat (j := 1) rfl, .ref rp, rfl, rp, _, 0, .ref sa, rfl, rfl, g0 hR1, atI_nat (j := 0) rfl, sa, _, rfl, .inl hS1, k + 1, _, rfl, rfl, _, rfl, ?_⟩
      refine ite2 (fun hb2 => ?_) (fun hb2 => ?_)
      · -- mixed numbers
        refine ⟨.ref rp, rfl, rp, _, 2, .int m, rfl, rfl, g0 hR1, atI_nat (j := 2) rfl, m, 48271, rfl, rfl, .inr ⟨by decide, by decide⟩, _, 11, rfl, rfl, .inl ⟨_, rfl, _, 2147483647, rfl, rfl, (show (2147483647 : Int) ≠ 0 by decide), ?_⟩⟩
        obtain ⟨m2, em2⟩ : ∃ m2, (m * 48271 + 11).fmod 2147483647 = m2 := ⟨_, rfl⟩
        show (gSub _ _ _) (V.int ((m * 48271 + 11).fmod 2147483647)) _ _ _
        rw [em2]
        refine ⟨.ref rp, rfl, rp, _, 2, 2, rfl, rfl, hR1, rfl, ?_⟩
        rw [upd_upd]
        have hR2 : (upd H rp (.lst [.ref sa, .int (k + 1), .int m2, .int r])) rp = some (.lst [.ref sa, .int (k + 1), .int m2, .int r]) := upd_same
        refine ⟨.ref rp, rfl, rp, _, 2, .int m2, rfl, rfl, g0 hR2, atI_nat (j := 2) rfl, m2, 7, rfl, rfl, ⟨by decide, by decide⟩, .inl ⟨_, rfl, .int many, rfl, _, many, rfl, rfl, hm0, ?_⟩⟩
        obtain ⟨v, hv, ev⟩ := fmod_nat (m2.fdiv 7) h1
        show Q (.int ((m2.fdiv 7).fmod (many : Int))) _
        rw [ev]
        exact q _ v ⟨k + 1, m2, r, upd_same, row_off hS hne, by omega, hne⟩ but_upd hv
      · -- a cell
        have hlt : k < (ns.length : Int) := by
          have z : ¬ (((ns.map V.int).length : Nat) : Int) < k + 1 := fun z => hb2 (decide_eq_true z)
          rw [List.length_map] at z
          omega
        obtain ⟨kn, rfl⟩ : ∃ kn : Nat, k = (kn : Int) := ⟨k.toNat, by omega⟩
        have hkl : kn < ns.length := by omega
        have gS : (ns.map V.int)[kn]? = some (.int ns[kn]) := by rw [List.getElem?_map, List.getElem?_eq_getElem hkl]; rfl
        generalize ns[kn] = cell at gS
        have ek : ((kn : Int) + 1 - 1) = ((kn : Nat) : Int) := by omega
        refine ⟨.ref rp, rfl, rp, _, 0, .ref sa, rfl, rfl, g0 hR1, atI_nat (j := 0) rfl, .ref rp, rfl, rp, _, 1, .int ((kn : Int) + 1), rfl, rfl, g0 hR1, atI_nat (j := 1) rfl, (kn : Int) + 1, 1, rfl, rfl, sa, _, (kn : Int) + 1 - 1, .int cell, rfl, rfl, hS1, by rw [ek]; exact atI_nat gS, ?_⟩
        refine ⟨.ref rp, rfl, rp, _, 2, .int m, rfl, rfl, g0 hR1, atI_nat (j := 2) rfl, m, 48271, rfl, rfl, .inr ⟨by decide, by decide⟩, .int cell, rfl, _, cell, rfl, rfl, _, 11, rfl, rfl, .inl ⟨_, rfl, _, 2147483647, rfl, rfl, (show (2147483647 : Int) ≠ 0 by decide), ?_⟩⟩
        obtain ⟨m2, em2⟩ : ∃ m2, (m * 48271 + cell + 11).fmod 2147483647 = m2 := ⟨_, rfl⟩
        show (gSub _ _ _) (V.int ((m * 48271 + cell + 11).fmod 2147483647)) _ _ _
        rw [em2]
        refine ⟨.ref rp, rfl, rp, _, 2, 2, rfl, rfl, hR1, rfl, ?_⟩
        rw [upd_upd]
        have hR2 : (upd H rp (.lst [.ref sa, .int ((kn : Int) + 1), .int m2, .int r])) rp = some (.lst [.ref sa, .int ((kn : Int) + 1), .int m2, .int r]) := upd_same
        obtain ⟨v, hv, ev⟩ := fmod_nat cell h1
        refine ⟨.int cell, rfl, 10, 18, rfl, rfl, ⟨by decide, by decide, by decide⟩, cell, _, rfl, rfl, _, rfl, ?_⟩
        refine ite2 (fun _ => ?_) (fun _ => ?_)
        · refine ⟨.int cell, rfl, .int many, rfl, cell, many, rfl, rfl, hmb, ?_⟩
          refine ⟨.ref rp, rfl, rp, _, 3, 3, rfl, rfl, hR2, rfl, ?_⟩
          rw [upd_upd]
          refine ⟨.int cell, rfl, .inl ⟨cell, rfl, .int many, rfl, cell, many, rfl, rfl, hm0, ?_⟩⟩
          show Q (.int (cell.fmod (many : Int))) _
          rw [ev]
          exact q _ v ⟨(kn : Int) + 1, m2, _, upd_same, row_off hS hne, by omega, hne⟩ but_upd hv
        · refine ⟨.int cell, rfl, .inl ⟨cell, rfl, .int many, rfl, cell, many, rfl, rfl, hm0, ?_⟩⟩
          show Q (.int (cell.fmod (many : Int))) _
          rw [ev]
          exact q _ v ⟨(kn : Int) + 1, m2, r, upd_same, row_off hS hne, by omega, hne⟩ but_upd hv
end
end N

set_option Elab.async false
set_option linter.all false
set_option maxRecDepth 100000
set_option maxHeartbeats 2000000
namespace N
open Cb (lotV combs combsOf combsOf_sub)
open PySem PySem.Spec PyProof.Rows L2
theorem sub_range' : ∀ {n a : Nat} {l : List Nat}, l.Pairwise (· < ·) → (∀ i ∈ l, a ≤ i ∧ i < a + n) → l.Sublist (List.range' a n)
  | 0, a, l, _, h => by
    cases l with
    | nil => exact List.nil_sublist _
    | cons x xs => have := h x List.mem_cons_self; omega
  | n + 1, a, l, hp, h => by
    rw [List.range'_succ]
    cases l with
    | nil => exact List.nil_sublist _
    | cons x xs =>
      obtain ⟨p1, p2⟩ := List.pairwise_cons.mp hp
      have hx := h x List.mem_cons_self
      by_cases e : x = a
      · subst e
        refine (sub_range' p2 fun i hi => ?_).cons_cons x
        have h1 := p1 i hi
        have h2 := h i (List.mem_cons_of_mem _ hi)
        omega
      · refine (sub_range' hp fun i hi => ?_).cons a
        have h2 := h i hi
        rcases List.mem_cons.mp hi with z | z
        · omega
        · have h1 := p1 i z
          omega
theorem lotOk_of {n : Nat} {l : List Nat} (h1 : l.Pairwise (· < ·)) (h2 : ∀ i ∈ l, i < n) : LotOk n l := by
  unfold LotOk
  rw [List.range_eq_range']
  exact sub_range' h1 fun i hi => ⟨Nat.zero_le _, by have := h2 i hi; omega⟩
def keyN (k : Nat) : Key := Sum.inl (k : Int)
theorem keyN_inj {a b : Nat} (h : keyN a = keyN b) : a = b := by
  have := Sum.inl.inj h
  omega
theorem putK_keys {kvs : List (Key × V)} {ks : List Nat} {v : Nat} {x : V} (h : kvs.map (·.1) = ks.map keyN) : ∃ ks' : List Nat, (putK kvs (keyN v) x).map (·.1) = ks'.map keyN ∧ (∀ k, k ∈ ks' ↔ k ∈ ks ∨ k = v) ∧ (ks.Nodup → ks'.Nodup) ∧ ks'.length ≤ ks.length + 1 := by
  by_cases hv : v ∈ ks
  · refine ⟨ks, ?_, fun k => ⟨.inl, fun z => z.elim id fun e => e ▸ hv⟩, id, by omega⟩
    unfold putK
    have e : (kvs.any fun kv => decide (kv.1 = keyN v)) = true := by
      rw [List.any_eq_true]
      have hm : keyN v ∈ kvs.map (·.1) := by rw [h]; exact List.mem_map.mpr ⟨v, hv, rfl⟩
      obtain ⟨kv, h1, h2⟩ := List.mem_map.mp hm
      exact ⟨kv, h1, decide_eq_true h2⟩
    rw [if_pos e, List.map_map, ← h]
    refine List.map_congr_left fun kv _ => ?_
    show (if kv.1 = keyN v then (kv.1, x) else kv).1 = kv.1
    split <;> rfl
  · refine ⟨ks ++ [v], ?_, fun k => by simp, fun z => ?_, by simp⟩
    · have e : ¬ (kvs.any fun kv => decide (kv.1 = keyN v)) = true := by
        intro z
        obtain ⟨kv, h1, h2⟩ := List.any_eq_true.mp z
        have hm : keyN v ∈ kvs.map (·.1) := List.mem_map.mpr ⟨kv, h1, of_decide_eq_true h2⟩
        rw [h] at hm
        obtain ⟨k, hk, ek⟩ := List.mem_map.mp hm
        exact hv (keyN_inj ek ▸ hk)
      unfold putK
      rw [if_neg e, List.map_append, List.map_append, h]
      rfl
    · refine List.nodup_append.mpr ⟨z, by simp, fun a ha b hb => ?_⟩
      have : b = v := by simpa using hb
      subst this
      exact fun e => hv (e ▸ ha)
/-- the sorted ints of some numbers are a lot -/
theorem sorted_lot {ks : List Nat} {ns' : List Int} {n : Nat} (hp : ns'.Perm (ks.map fun (k : Nat) => (k : Int))) (hs : ns'.Pairwise (· ≤ ·)) (hn : ks.Nodup) (hb : ∀ k ∈ ks, k < n) : ∃ l : List Nat, ns' = l.map (fun (k : Nat) => (k : Int)) ∧ LotOk n l ∧ l.length = ks.length := by
  have hnn : ∀ x ∈ ns', 0 ≤ x ∧ x < n := fun x hx => by
    obtain ⟨k, hk, rfl⟩ := List.mem_map.mp (hp.subset hx)
    have := hb k hk
    omega
  have e : ns' = (ns'.map Int.toNat).map (fun (k : Nat) => (k : Int)) := by
    rw [List.map_map]
    conv => lhs; rw [← List.map_id ns']
    refine List.map_congr_left fun x hx => ?_
    have := (hnn x hx).1
    show x = ((x.toNat : Nat) : Int)
    omega
  have hnd : ns'.Nodup := hp.symm.nodup (List.Pairwise.map _ (fun a b h z => h (by omega)) hn)
  have hlt : ns'.Pairwise (· < ·) := by
    have := List.Pairwise.and hs hnd
    exact this.imp fun {a b} z => by have h1 := z.1; have h2 := z.2; omega
  refine ⟨ns'.map Int.toNat, e, lotOk_of (n := n) ?_ fun i hi => ?_, ?_⟩
  · rw [List.pairwise_map]
    refine List.Pairwise.imp_of_mem (fun {a b} ha hb h => ?_) hlt
    have h1 := hnn a ha
    have h2 := hnn b hb
    omega
  · obtain ⟨x, hx, rfl⟩ := List.mem_map.mp hi
    have := hnn x hx
    omega
  · rw [List.length_map, hp.length_eq, List.length_map]
section
variable {P : Program} {w : World} {K : PySem.W.Frag} {mg : Str → Option Value} {base : Heap}
variable {sa : Addr} {ns : List Int}
theorem RowAt.lst {H : Hp} {rp : Addr} (h : RowAt K sa ns H rp) : ∃ xs, H rp = some (.lst xs) := let ⟨_, _, _, e, _⟩ := h; ⟨_, e⟩
theorem RowAt.keep {H H' : Hp} {rp : Addr} (h : RowAt K sa ns H rp) (k : Same H H') : RowAt K sa ns H' rp := by
  obtain ⟨k1, m, r, e, hS, hk, hne⟩ := h
  exact ⟨k1, m, r, k _ _ e, Same.seq k hS, hk, hne⟩
/-- something else that was not there at a time is stored -/
theorem RowAt.new {H0 H : Hp} {rp fp : Addr} {o : HO} (h0 : RowAt K sa ns H0 rp) (hf : H0 fp = none) (h : RowAt K sa ns H rp) : RowAt K sa ns (upd H fp o) rp := by
  obtain ⟨_, _, _, e0, hS0, _⟩ := h0
  obtain ⟨k1, m, r, e, hS, hk, hne⟩ := h
  exact ⟨k1, m, r, by rw [upd_ne (ne_of_none e0 hf)]; exact e, sqL_new hS0 hf hS, hk, hne⟩
theorem tup_but {H H' : Hp} {rp a : Addr} {xs ys : List V} (h : SqT K H a xs) (hr : H rp = some (.lst ys)) (k : SameBut rp H H') : SqT K H' a xs := by
  rcases h with (z | ⟨x, z⟩) | z
  · exact .inl (.inl (k _ _ (ne_of z hr (by intro y; cases y)) z))
  · exact .inl (.inr ⟨x, k _ _ (ne_of z hr (by intro y; cases y)) z⟩)
  · exact .inr z
theorem LotAt.but {H H' : Hp} {rp a : Addr} {l : List Nat} {ys : List V} (h : LotAt K H a l) (hr : H rp = some (.lst ys)) (k : SameBut rp H H') : LotAt K H' a l := tup_but h hr k
theorem HouseAt.but {H H' : Hp} {rp a : Addr} {h : List (List Nat)} {ys : List V} (x : HouseAt K H a h) (hr : H rp = some (.lst ys)) (k : SameBut rp H H') : HouseAt K H' a h := by
  obtain ⟨rs, h1, h2⟩ := x
  exact ⟨rs, tup_but h1 hr k, paired_mono h2 fun _ _ z => z.but hr k⟩
def sp_house (K : PySem.W.Frag) : Sp := fun vs H Q _ => ∃ (sa : Addr) (ns : List Int) (rp : Addr) (many most : Nat), vs = [.ref rp, .int many, .int most] ∧ RowAt K sa ns H rp ∧ 1 ≤ many ∧ many ≤ 7 ∧ 1 ≤ most ∧ most ≤ 7 ∧
  ∀ (H' : Hp) (p : Addr) (h : List (List Nat)), RowAt K sa ns H' rp → SameBut rp H H' → HouseAt K H' p h → HouseOk h → h.length = many → Q (.ref p) H'
theorem sc_house : FnScope ["row", "many", "most", "found", "clerk", "some", "turn"] ["row", "many", "most"] (defScope s__law_house) := ⟨rfl, rfl, rfl, by decide +kernel, rfl, by decide +kernel, by decide +kernel⟩
theorem ok_house (T : Txt K mg) : FnOk P w K mg base CX0 2 T.d__law_house.f T.d__law_house.fd ["row", "many", "most"] (sp_house K) := by
  have G := ok_taken (P := P) (w := w) (base := base) T
  refine T.d__law_house.F.ok sc_house (fun vs H Q E h => ?_) (fun cdv A outer s H vs Q E hr h => ?_)
  · obtain ⟨_, _, rp, many, most, rfl, _⟩ := h
    rfl
  · obtain ⟨sa, ns, rp, many, most, rfl, hRow, h1, h2, h3, h4, q⟩ := h
    have nd := sc_house.nd
    have hu := hu_of hr
    refine ⟨_, pss_cons (ps_set (i := 3) nd rfl (.inl rfl) (pe_lst pa_nil))
      (pss_cons (ps_for PassesOwn.never rfl (pi_range1 (by rfl) T.n_range (pa_cons (pv 1) pa_nil)) (pg_name (i := 4) nd rfl (.inl rfl))
        (pss_cons (ps_set (i := 5) nd rfl (.inl rfl) pe_dnewK)
        (pss_cons (ps_for PassesOwn.never rfl (pi_range1 (by rfl) T.n_range (pa_cons (pe_op op_add pe_int (pe_call G hr (by rfl) T.d__law_taken.g T.d__law_taken.F.kp T.d__law_taken.b .nil pass0 (pa_cons (pv 0) (pa_cons (pv 2) pa_nil)))) pa_nil)) (pg_name (i := 6) nd rfl (.inl rfl))
          (pss_one (ps_dput hu (pv 5) (pe_call G hr (by rfl) T.d__law_taken.g T.d__law_taken.F.kp T.d__law_taken.b .nil pass0 (pa_cons (pv 0) (pa_cons (pv 1) pa_nil))) pe_bl rfl)))
        (pss_one (ps_expr (pe_bm PySem.F.plainAttrs_list PySem.F.slot_list_append PySem.F.type_list_append mt_append (pv 3) (pa_cons
          (pe_callTy call_tuple_of (by rfl) T.n_tuple (by decide +kernel) (pa_cons (pe_callB cr_sorted (by rfl) T.n_sorted (by decide +kernel) (pa_cons (pe_callTy (call_list_dK rfl) (by rfl) T.n_list (by decide +kernel) (pa_cons (pv 5) pa_nil)) pa_nil)) pa_nil)) pa_nil)))))))
      (pss_one (ps_ret (pe_callTy call_tuple_of (by rfl) T.n_tuple (by decide +kernel) (pa_cons (pv 3) pa_nil))))), ?_⟩
    obtain ⟨xr, hxr⟩ := hRow.lst
    refine ⟨Nat.zero_le _, fun fp hfp => ?_⟩
    have frp : rp ≠ fp := ne_of_none hxr hfp
    refine ⟨.int many, rfl, many, rfl, by omega, by omega, ?_⟩
    rw [Int.toNat_natCast]
    refine for_range (lo := 0) (n := many) (fun i σ H2 => ∃ (ts : List Addr) (hs : List (List Nat)) (v4 v5 v6 : Option V), σ = [some (.ref rp), some (.int many), some (.int most), some (.ref fp), v4, v5, v6] ∧ RowAt K sa ns H2 rp ∧ (∀ b o, b ≠ rp → H b = some o → H2 b = some o) ∧ H2 fp = some (.lst (ts.map V.ref)) ∧
        Paired (fun t l => LotAt K H2 t l) ts hs ∧ hs.length = i ∧ ∀ row ∈ hs, row ≠ [] ∧ LotOk many row)
      ⟨[], [], none, none, none, rfl, hRow.keep (same_upd hfp), fun b o _ e => same_upd hfp b o e, upd_same, .nil, rfl, (fun row hr => by cases hr)⟩ ?_ ?_
    · rintro i σ H2 hi ⟨ts, hs, v4, v5, v6, rfl, hRow2, sb2, hf2, hP2, hlen, hok⟩
      obtain ⟨xr2, hxr2⟩ := hRow2.lst
      -- some = {}
      intro dp hdp
      have dpr : rp ≠ dp := ne_of_none hxr2 hdp
      have dpf : fp ≠ dp := ne_of_none hf2 hdp
      have hRow3 : RowAt K sa ns (upd H2 dp (.dK [])) rp := hRow2.keep (same_upd hdp)
      refine ⟨.ref rp, rfl, .int most, rfl, sa, ns, rp, most, rfl, hRow3, h3, by omega, fun H3 v hRow4 sb3 hv => ?_⟩
      refine ⟨1, v, rfl, rfl, 1 + v, rfl, by omega, by omega, ?_⟩
      have ev : ((1 : Int) + (v : Int)).toNat = v + 1 := by omega
      show ∃ W, _
      rw [ev]
      have hd3 : H3 dp = some (.dK []) := sb3 _ _ dpr.symm upd_same
      have hf3 : H3 fp = some (.lst (ts.map V.ref)) := sb3 _ _ frp.symm (by rw [upd_ne dpf]; exact hf2)
      have sb23 : ∀ b o, b ≠ rp → H2 b = some o → H3 b = some o := fun b o hb e => sb3 b o hb (same_upd hdp b o e)
      refine for_range (lo := 0) (n := v + 1) (fun j σ H4 => ∃ (kvs : List (Key × V)) (ks : List Nat) (v6 : Option V), σ = [some (.ref rp), some (.int many), some (.int most), some (.ref fp), some (.int (0 + (i : Int))), some (.ref dp), v6] ∧ RowAt K sa ns H4 rp ∧ (∀ b o, b ≠ rp → H2 b = some o → H4 b = some o) ∧ H4 dp = some (.dK kvs) ∧
          kvs.map (·.1) = ks.map keyN ∧ ks.Nodup ∧ (∀ k ∈ ks, k < many) ∧ ks.length ≤ j ∧ (1 ≤ j → 1 ≤ ks.length))
        ⟨[], [], v6, rfl, hRow4, sb23, hd3, rfl, List.nodup_nil, (fun k hk => by cases hk), Nat.le_refl _, fun z => by omega⟩ ?_ ?_
      · rintro j σ H4 hj ⟨kvs, ks, v6, rfl, hRow5, sb4, hd4, hks, hnd, hkb, hkl, hk1⟩
        refine ⟨.ref dp, rfl, .ref rp, rfl, .int many, rfl, sa, ns, rp, many, rfl, hRow5, h1, by omega, fun H5 x hRow6 sb5 hx => ?_⟩
        have hd5 : H5 dp = some (.dK kvs) := sb5 _ _ dpr.symm hd4
        have hkvl : kvs.length = ks.length := by
          have := congrArg List.length hks
          rwa [List.length_map, List.length_map] at this
        refine ⟨dp, _, rfl, DPut.k (k := keyN x) hd5 (small1000 (by omega)), ?_⟩
        obtain ⟨ks', e1, e2, e3, e4⟩ := putK_keys (v := x) (x := .bl true) hks
        refine ⟨_, ks', _, rfl, RowAt.new hRow2 hdp hRow6, fun b o hb e => ?_, upd_same, e1, e3 hnd, fun k hk => ?_, by omega, fun _ => ?_⟩
        · have hbd : b ≠ dp := ne_of_none e hdp
          rw [upd_ne hbd]
          exact sb5 b o hb (sb4 b o hb e)
        · rcases (e2 k).mp hk with z | z
          · exact hkb k z
          · rw [z]; exact hx
        · exact List.length_pos_of_mem ((e2 x).mpr (.inr rfl))
      · rintro σ H4 ⟨kvs, ks, v6, rfl, hRow5, sb4, hd4, hks, hnd, hkb, hkl, hk1⟩
        have hf4 : H4 fp = some (.lst (ts.map V.ref)) := sb4 _ _ frp.symm hf2
        refine ⟨.ref fp, rfl, .inl ⟨rfl, _, SqL.up hf4⟩, .ref dp, rfl, dp, kvs, rfl, hd4, fun lp hlp => ?_⟩
        have eks : (kvs.map fun kv => kV kv.1) = (ks.map fun (k : Nat) => (k : Int)).map V.int := by
          have : (kvs.map fun kv => kV kv.1) = (kvs.map (·.1)).map kV := by rw [List.map_map]; rfl
          rw [this, hks, List.map_map, List.map_map]
          rfl
        refine ⟨lp, ks.map fun (k : Nat) => (k : Int), rfl, ?_, ?_, fun ns' sp hperm hsort hsp => ?_⟩
        · rw [← eks]
          exact SqL.up upd_same
        · rw [List.length_map]; omega
        · obtain ⟨l0, rfl, okl, hll⟩ := sorted_lot hperm hsort hnd hkb
          have elv : (l0.map fun (k : Nat) => (k : Int)).map V.int = lotV l0 := by rw [List.map_map]; rfl
          refine ⟨sp, _, rfl, .inl ⟨SqL.up upd_same, fun tp htp => ?_⟩⟩
          rw [elv]
          rw [elv] at htp
          have sm5 : Same H4 (upd (upd (upd H4 lp (.lst (kvs.map fun kv => kV kv.1))) sp (.lst (lotV l0))) tp (.tup (lotV l0))) := ((same_upd hlp).trans (same_upd (by rw [elv] at *; exact hsp))).trans (same_upd htp)
          have hf5 := sm5 _ _ hf4
          have hlt : ts.length < 1000 := by
            have : ts.length = hs.length := Paired.length hP2
            omega
          refine ⟨fp, _, _, rfl, rfl, hf5, by rw [List.length_map]; exact small1000 (by omega), ?_⟩
          have tfp : fp ≠ tp := ne_of_none (((same_upd hlp).trans (same_upd hsp)) _ _ hf4) htp
          refine ⟨ts ++ [tp], hs ++ [l0], _, _, _, rfl, ?_, fun b o hb e => ?_, ?_, ?_, by rw [List.length_append, hlen]; rfl, fun row hrow => ?_⟩
          · exact RowAt.new hRow hfp (hRow5.keep sm5)
          · have hbf : b ≠ fp := ne_of_none e hfp
            rw [upd_ne hbf]
            exact sm5 _ _ (sb4 b o hb (sb2 b o hb e))
          · rw [upd_same, List.map_append]
            rfl
          · have tups : ∀ b l, LotAt K H2 b l → LotAt K (upd (upd (upd (upd H4 lp (.lst (kvs.map fun kv => kV kv.1))) sp (.lst (lotV l0))) tp (.tup (lotV l0))) fp (.lst (ts.map V.ref ++ [.ref tp]))) b l := fun b l z => by
              have z1 : LotAt K H4 b l := tup_but z hxr2 sb4
              have z2 := LotAt.same z1 sm5
              rcases z2 with (z3 | ⟨o', z3⟩) | z3
              · exact .inl (.inl (by rw [upd_ne (ne_of z3 hf5 (by intro y; cases y))]; exact z3))
              · exact .inl (.inr ⟨o', by rw [upd_ne (ne_of z3 hf5 (by intro y; cases y))]; exact z3⟩)
              · exact .inr z3
            refine Cb.paired_snoc (F := fun t l => LotAt K (upd (upd (upd (upd H4 lp (.lst (kvs.map fun kv => kV kv.1))) sp (.lst (lotV l0))) tp (.tup (lotV l0))) fp (.lst (ts.map V.ref ++ [.ref tp]))) t l) (SqT.up ?_) (paired_mono hP2 fun t l z => tups t l z)
            rw [upd_ne tfp.symm, upd_same]
          · rcases List.mem_append.mp hrow with z | z
            · exact hok row z
            · rw [List.mem_singleton.mp z]
              refine ⟨fun z2 => ?_, okl⟩
              have := hk1 (by omega)
              rw [z2] at hll
              simp at hll
              omega
    · rintro σ H2 ⟨ts, hs, v4, v5, v6, rfl, hRow2, sb2, hf2, hP2, hlen, hok⟩
      refine ⟨.ref fp, rfl, fp, _, rfl, .inl ⟨SqL.up hf2, fun p hp => ?_⟩⟩
      refine q _ p hs (hRow2.keep (same_upd hp)) (fun b o hb e => same_upd hp b o (sb2 b o hb e)) ⟨ts, SqT.up upd_same, paired_mono hP2 fun _ _ z => z.same (same_upd hp)⟩ ⟨by omega, by omega, fun row hr => by rw [hlen]; exact hok row hr⟩ hlen
end
end N

set_option Elab.async false
set_option linter.all false
set_option maxRecDepth 100000
set_option maxHeartbeats 2000000
/-! sorted(lots, key=lambda lot: (len(lot), lot)) -/
namespace So
open PySem PySem.Spec PyProof.Rows L2 PySem.W
def lotD (l : List Nat) : PyData := .tuple (l.map fun (i : Nat) => PyData.int i)
def keyD' (l : List Nat) : PyData := .tuple [.int l.length, lotD l]
/-- v is a tuple of the numbers l -/
def IsLot (h : Heap) (v : Value) (l : List Nat) : Prop := ∃ t its, v = .ref t ∧ h.IsTuple t its ∧ Vals (Cb.lotV l) its.toList
theorem reads_lot {h : Heap} : ∀ {l : List Nat} {its : List Value}, Vals (Cb.lotV l) its → ReadsAll h its (l.map fun (i : Nat) => PyData.int i) []
  | [], its, r => by cases r; exact .nil
  | i :: l, its, r => by
    cases r with
    | cons a b =>
      obtain ⟨t, rfl⟩ := a
      exact ReadsAll.cons (as := []) (bs := []) (Reads.int _ _) (reads_lot b)
theorem IsLot.reads {h : Heap} {v : Value} {l : List Nat} (x : IsLot h v l) : Reads h v (lotD l) [] := by
  obtain ⟨t, its, rfl, ⟨o, ho, hc, n, hd⟩, hv⟩ := x
  exact Reads.tuple ho hc hd (reads_lot hv)
theorem IsLot.keeps {h h' : Heap} {v : Value} {l : List Nat} (x : IsLot h v l) (k : ∀ b o, h.get? b = some o → h'.get? b = some o) : IsLot h' v l := by
  obtain ⟨t, its, rfl, ⟨o, ho, r⟩, hv⟩ := x
  exact ⟨t, its, rfl, ⟨o, k _ _ ho, r⟩, hv⟩
structure KeyLam (params : Arguments) (body : Expr) (scope : Scope) : Prop where
  kind : scope.kind = .function
  co : scope.isCoroutine = false
  gen : scope.isGenerator = false
  cell : ∀ y ∈ scope.names, y.2 ≠ .cell
  lot : scope.names.lookup ("lot" : Str) = some NameKind.local
  len : scope.names.lookup ("len" : Str) = some NameKind.globalImplicit
  free : ∀ y ∈ scope.names, y.2 ≠ .free
  bind : ∀ (q : Str) (pm cdv ctv v : Value), bindArgs (kla_fn "<lambda>" q params body scope [] pm cdv ctv) ⟨[v], []⟩ = pure [(("lot" : Str), v)]
  body : ∃ p1 p2 p3 p4 x1 p5, body = .Tuple [.Call (.Name "len" p1) [.Name "lot" p2] [] p3, .Name "lot" p4] x1 p5
section
variable {prog : Program} {w : World} {A : Around} {s : Shared} {f c' : Addr} {mg mb : Str → Option Value} {q : Str} {params : Arguments} {body : Expr} {scope : Scope} {pm ctv : Value} {v : Value} {l : List Nat} {E : Value → Shared → Prop}
theorem key_body {env : Env} {m : Str → Option Value} {t : Addr} {its : Array Value} {p1 p2 p3 p4 p5 : Pos} {x1 : Nat} {Q : Value → Shared → Prop} (h1 : env.scope.kind = .function) (h2 : env.kindOf "lot" = some .local) (h3 : env.kindOf "len" = some .globalImplicit) (h4 : s.heap.Ns env.locals m) (h5 : m "lot" = some (.ref t))
    (h6 : s.heap.Ns env.globals mg) (hm : mg "len" = none) (h7 : s.heap.Ns env.builtins mb) (hbl : mb "len" = bootBuiltins "len") (hT : s.heap.IsTuple t its) (hz : its.size ≤ 1000)
    (h : Q (.ref s.heap.objs.size) { s with heap := s.heap.push { cls := .type "tuple", data := .seq #[.int its.size (s.toks + 1), .ref t] }, toks := s.toks + 1 + 1 }) :
    wpAny (model prog w) A (eval (.Tuple [.Call (.Name "len" p1) [.Name "lot" p2] [] p3, .Name "lot" p4] x1 p5) env) Q E s := by
  refine wpAny_Tuple_spliced ?_
  refine Calls.spliced_cons (wpAny_Call_Name_kw ?_)
  refine Calls.Name_function_global h1 h3 (Calls.loadGlobal_builtin h6 hm h7 (hbl.trans boot_len) ?_) (by decide)
  refine PyProof.Rows.callWith_builtin1 (Calls.spliced_cons (wpAny_Name (wpAny_loadName_local h1 h2 h4 h5 (Calls.spliced_nil ?_)) (by decide))) rfl rfl
  refine len_tuple hT (by omega) ?_
  refine Calls.spliced_cons (wpAny_Name (wpAny_loadName_local h1 h2 h4 h5 (Calls.spliced_nil ⟨(by show 2 ≤ sizeLine; decide), ?_⟩)) (by decide))
  exact h
theorem key_turn (L : KeyLam params body scope) (hd : A.depth < recursionLimit) (hf : s.heap.get? f = some (kla_obj "<lambda>" q params body scope [] pm c' ctv)) (hc : s.heap.CodeRec (.ref c') q) (lim : s.heap.NoLimit)
    (hg : s.heap.Ns mainGlobals mg) (hm : mg "len" = none) (hb : s.heap.Ns builtinsNs mb) (hbl : mb "len" = bootBuiltins "len") (hv : IsLot s.heap v l) (hl : l.length ≤ 1000) :
    wpAny (model prog w) A (call (.ref f) [v]) (KeyPure (keyD' l) s) E s := by
  refine wpAny_call ?_
  refine kla_callFunE hd hf rfl L.co L.gen rfl hc ?_
  rw [L.bind]
  refine wpAny_pure (wpAny_newFunctionEnv L.cell (fun y hy => ?_) (fun h₁ hns hsb => ⟨lim.fresh _ hsb, ?_⟩) L.kind)
  · rw [List.mem_singleton.mp hy]
    exact L.lot
  have kp : ∀ b o, s.heap.get? b = some o → h₁.get? b = some o := fun b o e => hsb.extBut b o (Nat.ne_of_lt (Heap.lt_size e)) (Heap.get?_push_of_some _ e)
  refine kla_codeExpr ?_
  obtain ⟨p1, p2, p3, p4, x1, p5, rfl⟩ := L.body
  obtain ⟨t, its, rfl, hT, hvals⟩ := id hv
  obtain ⟨o, ho, hcl, n, hdt⟩ := id hT
  have hT1 : h₁.IsTuple t its := ⟨o, kp _ _ ho, hcl, n, hdt⟩
  have hlen : its.size = l.length := by
    have := hvals.length
    rw [List.length_map, Array.length_toList] at this
    exact this.symm
  refine key_body (mg := mg) (mb := mb) L.kind L.lot L.len hns rfl (hg.keeps kp) hm (hb.keeps kp) hbl hT1 (by omega) ?_
  rw [hlen]
  refine ⟨_, _, rfl, fun b o e => Heap.get?_push_of_some _ (kp b o e), ?_⟩
  refine Reads.tuple (Heap.get?_push_size _ rfl) rfl rfl ?_
  refine ReadsAll.cons (as := []) (bs := []) (Reads.int _ _) (ReadsAll.cons (as := []) (bs := []) ?_ .nil)
  exact (hv.keeps fun b o e => Heap.get?_push_of_some _ (kp b o e)).reads
end
end So

set_option Elab.async false
set_option linter.all false
set_option maxRecDepth 100000
set_option maxHeartbeats 2000000
namespace So
open PySem PySem.Spec PyProof.Rows L2 PySem.W
theorem depth_ints (f : Nat → PyData) (h : ∀ i, (f i).depth = 0) : ∀ l : List Nat, PyData.depthAll (l.map f) = 0
  | [] => rfl
  | i :: l => by
    rw [List.map_cons, PyData.depthAll, depth_ints f h l, h i]
    rfl
theorem depth_key (l : List Nat) : (keyD' l).depth = 2 := by
  unfold keyD' lotD
  rw [PyData.depth, PyData.depthAll, PyData.depthAll, PyData.depthAll, PyData.depth, PyData.depth, depth_ints _ fun i => by rw [PyData.depth]]
  rfl
theorem alike_ints : ∀ l m : List Nat, alikeAll (l.map fun (i : Nat) => PyData.int i) (m.map fun (i : Nat) => PyData.int i) = true
  | [], _ => by simp [alikeAll]
  | _ :: _, [] => by simp [alikeAll]
  | i :: l, j :: m => by
    rw [List.map_cons, List.map_cons, alikeAll, alike, alike_ints l m]
    rfl
theorem alike_key (l m : List Nat) : alike (keyD' l) (keyD' m) = true := by
  unfold keyD' lotD
  rw [alike, alikeAll, alikeAll, alikeAll, alike, alike, alike_ints]
  rfl
theorem extN_seqT {K : PySem.W.Frag} {H H' : Hp} {a : Addr} {xs : List V} (e : LamX.ExtN H H') (h : SqT K H a xs) : SqT K H' a xs := by
  rcases h with (h | ⟨o, h⟩) | h
  · exact .inl (.inl (e _ _ h fun ps z => by cases z))
  · exact .inl (.inr ⟨o, e _ _ h fun ps z => by cases z⟩)
  · exact .inr h
theorem extN_seqL {K : PySem.W.Frag} {H H' : Hp} {a : Addr} {xs : List V} (e : LamX.ExtN H H') (h : SqL K H a xs) : SqL K H' a xs := by
  rcases h with (h | ⟨o, h⟩) | h
  · exact .inl (.inl (e _ _ h fun ps z => by cases z))
  · exact .inl (.inr ⟨o, e _ _ h fun ps z => by cases z⟩)
  · exact .inr h
def IsT (X : Cx) (H : Hp) (h : Heap) (v : Value) (l : List Nat) : Prop := ∃ t, v = .ref t ∧ N.LotAt X.K H t l ∧ IsLot h v l
theorem each_lots {X : Cx} {pins : List (Addr × Obj)} {σ : L2.St} {H : Hp} {s : Shared} (I : Inv X pins σ H s) : ∀ {ts : List Addr} {ls : List (List Nat)} {its : List Value}, Vals (ts.map V.ref) its → Paired (fun t l => N.LotAt X.K H t l) ts ls → EachIs (IsT X H s.heap) its ls
  | [], ls, its, r, p => by
    cases p
    cases r
    exact .nil
  | t :: ts, ls, its, r, p => by
    cases p with
    | cons a b =>
      cases r with
      | cons c d =>
        cases c
        refine .cons ?_ (each_lots I d b)
        obtain ⟨its, rv, hT, hz⟩ := I.tuple a
        exact ⟨t, rfl, a, t, _, rfl, hT, by rw [List.toList_toArray]; exact rv⟩
theorem each_back {X : Cx} {H : Hp} {h : Heap} : ∀ {us : List Value} {ls : List (List Nat)}, EachIs (IsT X H h) us ls → ∃ ts : List Addr, us = ts.map Value.ref ∧ Paired (fun t l => N.LotAt X.K H t l) ts ls
  | _, _, .nil => ⟨[], rfl, .nil⟩
  | _, _, .cons r t => by
    obtain ⟨ts, rfl, p⟩ := each_back t
    obtain ⟨a, rfl, hl, _⟩ := r
    exact ⟨a :: ts, rfl, .cons hl p⟩
/-- p is none of what stands, tables aside -/
def NewN (H : Hp) (p : Addr) : Prop := ∀ b o, H b = some o → (∀ ps, o ≠ .tbl ps) → b ≠ p
def tSortLots (K : PySem.W.Frag) (P : Addr) (q : Str) (ta : TE) : TE := fun σ H Q => ta σ H fun x H1 => ∃ (a : Addr) (ts : List Addr) (ls : List (List Nat)), x = .ref a ∧ SqL K H1 a (ts.map V.ref) ∧ Paired (fun t l => N.LotAt K H1 t l) ts ls ∧ (∀ l ∈ ls, l.length ≤ 1000) ∧ ls.length ≤ 1000 ∧ LamX.TabS H1 P q ∧
  ∀ (H' : Hp) (p : Addr) (ts' : List Addr), LamX.ExtN H1 H' → LamX.TabS H' P q → NewN H1 p → H' p = some (.lst (ts'.map V.ref)) → Paired (fun t l => N.LotAt K H' t l) ts' (ls.mergeSort (dataLe false keyD')) → Q (.ref p) H'
section
variable {X : Cx} {e : Expr} {ta : TE} {x : Str} {p0 pos kpos lpos : Pos} {params : Arguments} {body : Expr} {scope : Scope} {c P : Addr}
theorem pe_sortLots (ha : PE X e ta) (L : KeyLam params body scope) (TB : LamX.TabB X.base X.mg c P) (hcode : X.env.code = .ref c) (hd : X.A.depth < recursionLimit) (hu : X.A.units + 100 < cLine) (hg : Gl X "sorted") (hm : X.mg "sorted" = none) (hml : X.mg "len" = none)
    (hdef : defaultsOf params X.env = ([], []) := by rfl) (hclo : cloFrom X.env.cells scope.names [] = [] := by rfl)
    (he : backTo pos (starEach [e] X.env) = (false, eval e X.env) :: backTo pos (starEach [] X.env) := by rfl) (hpl : (backTo pos (starEach [e] X.env)).any (·.1) = false := by rfl)
    (hall : (backToKw pos (keywordEach [⟨some "key", .Lambda params body scope lpos, kpos⟩] X.env)).all (·.1.isSome) = true := by rfl) (hnone : (backToKw pos (keywordEach [⟨some "key", .Lambda params body scope lpos, kpos⟩] X.env)).any (·.1.isNone) = false := by rfl) :
    PE X (.Call (.Name "sorted" p0) [e] [⟨some "key", .Lambda params body scope lpos, kpos⟩] pos) (tSortLots X.K P (X.env.qual ++ "<lambda>") ta) := by
  refine ⟨fun pins s σ H Q I h => ?_⟩
  refine wpAny_Call_Name_kw (ld_blt I hg hm (u := .builtin "sorted") (by first | exact boot_sorted | decide +kernel) ?_ (by decide) (by decide))
  refine PyProof.Rows.callWith_kw ?_ he hpl hall hnone
  rw [he]
  refine Calls.spliced_cons (thn (ha.run pins s σ H _ I h) fun u s1 ⟨x, H1, I1, r1, q1⟩ => Calls.spliced_nil ?_)
  obtain ⟨a, ts, ls, rfl, hA, hP, hll, hlen, hT, q⟩ := q1
  cases r1
  show wpAny _ _ (evalAll ((do let v ← eval (.Lambda params body scope lpos) X.env; standAt pos; pure v) :: [])) _ _ s1
  refine wpAny_evalAll_cons (wpAny_bind (LamX.lam_make2 (T := [(P, X.env.qual ++ "<lambda>")]) I1 TB hcode (List.mem_singleton.mpr rfl) (fun p hp _ => by rw [List.mem_singleton.mp hp]) (fun p hp => by rw [List.mem_singleton.mp hp]; exact hT) hdef (fun y hy hf => absurd hf (L.free y hy))
    fun f c' pm ctv H2 s2 I2 e2 T2 hf hfn hfr hco => wpAny_bind (wpAny_standAt (wpAny_pure (wpAny_evalAll_nil ?_)))))
  rw [hclo] at hf
  show wpAny _ _ (call (.builtin "sorted") [.ref a] [(Str.ofString "key", .ref f)]) _ _ s2
  have hT2 := T2 _ (List.mem_singleton.mpr rfl)
  have hP2 : Paired (fun t l => N.LotAt X.K H2 t l) ts ls := N.paired_mono hP fun t l z => extN_seqT e2 z
  obtain ⟨its, rv, hl, hz⟩ := I2.list (extN_seqL e2 hA)
  have E := each_lots I2 rv hP2
  obtain ⟨⟨oc, vs, tq, hoc, hdc, hvc⟩, _, _⟩ := I2.hok c' _ hco
  obtain ⟨mb, hb1, hb2⟩ := I2.mod.blt
  refine sorted_key_data (s := s2) (R := IsT X H2 s2.heap) keyD' hl.isList E (fun d hd d' hd' => ?_) (.inl fun d hd => ?_) (Nat.le_of_lt (small1000 hlen)) (fun l hl => ?_) (ksk_s1 _ _) (fun _ => ksk_l1 _ _) (fun y => ksk_t1 f y) (fun v l hR hl h tk kp => ?_) fun out cc h' tk kp fr hD ol hE => ?_
  · obtain ⟨l, _, rfl⟩ := List.mem_map.mp hd
    obtain ⟨l', _, rfl⟩ := List.mem_map.mp hd'
    exact alike_key l l'
  · obtain ⟨l, _, rfl⟩ := List.mem_map.mp hd
    exact ⟨_, _, rfl⟩
  · rw [depth_key]
    omega
  · obtain ⟨t, rfl, _, hI⟩ := hR
    exact key_turn (s := { s2 with heap := h, toks := tk }) L hd (kp _ _ hf) ⟨c', oc, vs, tq, rfl, kp _ _ hoc, hdc, hvc⟩ (I2.nolimit.keeps kp) ((I2.mod.glob.keeps I2.bk).keeps kp) hml ((hb1.keeps I2.bk).keeps kp) (hb2 _ (by decide)) (hI.keeps kp) (hll l hl)
  · obtain ⟨ts', rfl, hP'⟩ := each_back hE
    have hfr : H2 (s2.heap.objs.size + 1) = none := I2.hok.fresh (Nat.le_succ _)
    have hl' : (ts'.map V.ref).length ≤ sizeLine := by
      rw [List.length_map]
      rw [List.length_map] at ol
      have := small1000 hlen
      omega
    refine ⟨.ref _, upd H2 (s2.heap.objs.size + 1) (.lst (ts'.map V.ref)), I2.laid (t' := tk) kp (Nat.le_succ _) ⟨hl', _, cc, LiI.vals_refs ts', hD⟩, rfl, q _ _ ts' (fun b o e n => ?_) ?_ ?_ upd_same ?_⟩
    · have e3 := e2 b o e n
      rw [N.same_upd hfr b o e3]
    · exact hT2.ext (N.same_upd hfr)
    · exact fun b o e n => ne_of_none (e2 b o e n) hfr
    · exact N.paired_mono hP' fun t l z => N.LotAt.same z (N.same_upd hfr)
end
end So

set_option Elab.async false
set_option linter.all false
set_option maxRecDepth 100000
set_option maxHeartbeats 2000000
/-! all lots, sorted by length, then as tuples -/
namespace N
open Cb (lotV combs combsOf combsOf_sub)
open PySem PySem.Spec PyProof.Rows L2
def subsL : Nat → List (List Nat)
  | 0 => [[]]
  | k + 1 => subsL k ++ (subsL k).map (· ++ [k])
def allL (n : Nat) : List (List Nat) := (List.range (n + 1)).flatMap fun r => combs n r
def pwB (r : List Nat → List Nat → Bool) : List (List Nat) → Bool
  | [] => true
  | x :: xs => xs.all (r x) && pwB r xs
theorem pw_of {r : List Nat → List Nat → Bool} : ∀ {l : List (List Nat)}, pwB r l = true → l.Pairwise fun a b => r a b = true
  | [], _ => List.Pairwise.nil
  | x :: xs, h => by
    unfold pwB at h
    rw [Bool.and_eq_true] at h
    exact List.Pairwise.cons (fun b hb => List.all_eq_true.mp h.1 b hb) (pw_of h.2)
abbrev lotLe : List Nat → List Nat → Bool := PySem.W.dataLe false So.keyD'
def chkL (n : Nat) : Bool := (allL n).isPerm (subsL n) && (pwB lotLe (allL n) && (allL n).all fun a => (allL n).all fun b => !(lotLe a b && lotLe b a) || a == b)
theorem chkL_all : ((List.range 6).all chkL) = true := by decide +kernel
theorem sort_allL {n : Nat} (hn : n ≤ 5) : (subsL n).mergeSort lotLe = allL n := by
  have h := List.all_eq_true.mp chkL_all n (List.mem_range.mpr (by omega))
  unfold chkL at h
  rw [Bool.and_eq_true, Bool.and_eq_true] at h
  obtain ⟨h1, h2, h3⟩ := h
  have hp : (allL n).Perm (subsL n) := List.isPerm_iff.mp h1
  have hm : ((subsL n).mergeSort lotLe).Perm (subsL n) := List.mergeSort_perm _ _
  refine (List.Perm.eq_of_pairwise (le := fun a b => lotLe a b = true) (fun a b ha hb x y => ?_) (PySem.W.sort_pairwise (PySem.W.sortLe_total _ _ _) _) (pw_of h2) (hm.trans hp.symm))
  have ha' : a ∈ allL n := (hm.trans hp.symm).mem_iff.mp ha
  have z := List.all_eq_true.mp (List.all_eq_true.mp h3 a ha') b hb
  rw [x, y] at z
  simpa using z
theorem subsL_len : ∀ n : Nat, (subsL n).length = 2 ^ n
  | 0 => rfl
  | n + 1 => by rw [subsL, List.length_append, List.length_map, subsL_len n]; omega
theorem subsL_ok : ∀ {n : Nat} {l : List Nat}, l ∈ subsL n → l.length ≤ n
  | 0, l, h => by rw [List.mem_singleton.mp h]; exact Nat.zero_le _
  | n + 1, l, h => by
    rcases List.mem_append.mp h with z | z
    · have := subsL_ok z; omega
    · obtain ⟨m, hm, rfl⟩ := List.mem_map.mp z
      have := subsL_ok hm
      rw [List.length_append]
      simpa using this
theorem mem_allL {n : Nat} {l : List Nat} : l ∈ allL n ↔ LotOk n l := by
  unfold allL
  rw [List.mem_flatMap]
  constructor
  · rintro ⟨r, _, h⟩
    exact (combsOf_sub.mp h).1
  · intro h
    exact ⟨l.length, List.mem_range.mpr (by have := h.len; omega), combsOf_sub.mpr ⟨h, rfl⟩⟩
theorem o_catA (K : PySem.W.Frag) {X : Cx} (hK : X.K = K := by rfl) : OpR X (binaryOp .Add) (rCatA K) := by
  subst hK
  exact op_catA
end N

set_option Elab.async false
set_option linter.all false
set_option maxRecDepth 100000
set_option maxHeartbeats 2000000
namespace N
open Cb (lotV combs combsOf combsOf_sub)
open PySem PySem.Spec PyProof.Rows L2
abbrev lamQ : Str := "_law_lots.<locals>.<lambda>"
section
variable {P : Program} {w : World} {K : PySem.W.Frag} {mg : Str → Option Value} {base : Heap}
theorem LotAt.ext {H H' : Hp} {a : Addr} {l : List Nat} (h : LotAt K H a l) (e : LamX.ExtN H H') : LotAt K H' a l := So.extN_seqT e h
theorem HouseAt.ext {H H' : Hp} {a : Addr} {h : List (List Nat)} (x : HouseAt K H a h) (e : LamX.ExtN H H') : HouseAt K H' a h := by
  obtain ⟨rs, h1, h2⟩ := x
  exact ⟨rs, So.extN_seqT e h1, paired_mono h2 fun _ _ z => z.ext e⟩
theorem Same.extN {H H' : Hp} (e : Same H H') : LamX.ExtN H H' := fun b o h _ => e b o h
theorem paired_app {α β : Type} {F : α → β → Prop} : ∀ {as as' : List α} {bs bs' : List β}, Paired F as bs → Paired F as' bs' → Paired F (as ++ as') (bs ++ bs')
  | _, _, _, _, .nil, h => h
  | _, _, _, _, .cons r t, h => .cons r (paired_app t h)
def sp_lots (K : PySem.W.Frag) (PT : Addr) : Sp := fun vs H Q _ => ∃ n : Nat, vs = [.int n] ∧ n ≤ 5 ∧ LamX.TabS H PT lamQ ∧
  ∀ (H' : Hp) (p : Addr) (ts : List Addr), LamX.ExtN H H' → LamX.TabS H' PT lamQ → So.NewN H p → H' p = some (.lst (ts.map V.ref)) → Paired (fun t l => LotAt K H' t l) ts (allL n) → Q (.ref p) H'
theorem sc_lots : FnScope ["many", "found", "one", "lot"] ["many"] (defScope s__law_lots) := ⟨rfl, rfl, rfl, by decide +kernel, rfl, by decide +kernel, by decide +kernel⟩
theorem room100 {k : Nat} {A : Around} (h : Room k A) : A.units + 100 < cLine := by
  have := h.un
  omega
theorem lot_off {H : Hp} {D a : Addr} {l : List Nat} {ys : List V} {o : HO} (h : LotAt K H a l) (hD : H D = some (.lst ys)) : LotAt K (upd H D o) a l := h.but hD but_upd
theorem ok_lots {c PT : Addr} (T : Txt K mg) (hc : T.d__law_lots.fd.code = .ref c) (TB : LamX.TabB base mg c PT) : FnOk P w K mg base CX0 2 T.d__law_lots.f T.d__law_lots.fd ["many"] (sp_lots K PT) := by
  obtain ⟨oc, od, kV, doc, pm, an, cdv, ct, osl, efd, lk, hcd⟩ := T.d__law_lots.F.ex
  rw [efd] at lk hc ⊢
  have hc' : cdv = .ref c := hc
  subst hc'
  refine fn_of lk hcd sc_lots (fun vs H Q E h => ?_) (fun A outer s H vs Q E hr h => ?_)
  · obtain ⟨n, rfl, _⟩ := h
    rfl
  · obtain ⟨n, rfl, hn, hT, q⟩ := h
    have nd := sc_lots.nd
    refine ⟨_, PSs.nox (pss_cons (ps_set (i := 1) nd rfl (.inl rfl) (pe_lst (pa_cons (pe_tup pa_nil) pa_nil)))
      (pss_cons (ps_for PassesOwn.never rfl (pi_range1 (by rfl) T.n_range (pa_cons (pv 0) pa_nil)) (pg_name (i := 2) nd rfl (.inr rfl))
        (pss_one (ps_set (i := 1) nd rfl (.inl rfl) (pe_op op_cat (pv 1) (pe_lc (own := [("lot", 3)]) (g := gName 3) (tt := tYes) rfl nd (pi_list (pv 1))
          (blkOk_by (N := ["many", "found", "one", "lot"]) (sc := defScope s__law_lots) (by decide +kernel)) (fun _ _ _ _ _ => pg_name (i := 3) nd rfl (.inl rfl)) (fun _ _ _ _ _ => pts_nil)
          (fun _ _ _ _ _ => pe_op (o_catA K) (pv 3) (pe_tup (pa_cons (pv 2) pa_nil))))))))
      (pss_one (ps_ret (So.pe_sortLots (c := c) (P := PT) (pv 1) ⟨rfl, rfl, rfl, by decide +kernel, by decide +kernel, by decide +kernel, by decide +kernel, (fun _ _ _ _ _ => rfl), ⟨_, _, _, _, _, _, rfl⟩⟩ TB rfl hr.depth (room100 hr) (by rfl) T.n_sorted T.n_len))))), ?_⟩
    refine ⟨by decide, fun e0 he0 => ⟨by (show 1 ≤ sizeLine; decide), fun fp hfp => ?_⟩⟩
    have hfp' : H fp = none := by
      have : fp ≠ e0 := fun z => by rw [z, upd_same] at hfp; cases hfp
      rw [upd_ne this] at hfp
      exact hfp
    refine ⟨.int n, rfl, n, rfl, by omega, by omega, ?_⟩
    rw [Int.toNat_natCast]
    refine for_range (lo := 0) (n := n) (fun i σ H2 => ∃ (fp : Addr) (ts : List Addr) (v2 v3 : Option V), σ = [some (.int n), some (.ref fp), v2, v3] ∧ Same H H2 ∧ H2 fp = some (.lst (ts.map V.ref)) ∧ Paired (fun t l => LotAt K H2 t l) ts (subsL i))
      ⟨fp, [e0], none, none, rfl, (same_upd he0).trans (same_upd hfp), upd_same, .cons (SqT.up (same_upd hfp _ _ upd_same)) .nil⟩ ?_ ?_
    · rintro i σ H2 hi ⟨fp, ts, v2, v3, rfl, sm, hf, hP⟩
      have hlen : ts.length = (subsL i).length := Paired.length hP
      have h2i : (subsL i).length ≤ 32 := by
        rw [subsL_len]
        exact Nat.pow_le_pow_right (n := 2) (by decide) (by omega : i ≤ 5)
      refine ⟨.ref fp, rfl, .ref fp, rfl, fp, rfl, ⟨_, SqL.up hf⟩, fun D hD => lc_list (K := K) (a := fp) (xs := ts.map V.ref) (fun j H3 => ∃ us : List Addr, H3 D = some (.lst (us.map V.ref)) ∧ Same H2 H3 ∧ Paired (fun t l => LotAt K H3 t l) us (((subsL i).take j).map (· ++ [i])))
        ⟨[], upd_same, same_upd hD, .nil⟩ (fun j H3 _ h3 => SqL.up (h3.choose_spec.2.1 _ _ hf)) ?_ ?_⟩
      · rintro j y H3 hj ⟨us, hD3, sm3, hPu⟩
        obtain ⟨t, ht, rfl⟩ := get_refs hj
        obtain ⟨l, hl, hat⟩ := paired_at hP ht
        have hat3 : LotAt K H3 t l := hat.same sm3
        have hll := subsL_ok (List.mem_of_getElem? hl)
        have hul : us.length ≤ 32 := by
          have h1 : us.length = _ := Paired.length hPu
          rw [List.length_map, List.length_take] at h1
          omega
        have etk : ((subsL i).take (j + 1)).map (· ++ [i]) = ((subsL i).take j).map (· ++ [i]) ++ [l ++ [i]] := by rw [List.take_add_one, hl, List.map_append]; rfl
        refine ⟨rfl, tYes_if ⟨.ref t, rfl, .int (0 + (i : Int)), rfl, (by show 1 ≤ sizeLine; decide), fun u hu => ?_⟩⟩
        have eu : (upd H3 u (.tup [V.int (0 + (i : Int))])) u = some (.tup (lotV [i])) := by
          rw [upd_same, Int.zero_add]
          rfl
        have smu : Same H3 (upd H3 u (.tup [V.int (0 + (i : Int))])) := same_upd hu
        have fin : ∀ (H4 : Hp) (r : Addr), Same H3 H4 → LotAt K H4 r (l ++ [i]) → ∃ xs, H4 D = some (.lst xs) ∧ xs.length < sizeLine ∧ ∃ us : List Addr, (upd H4 D (.lst (xs ++ [V.ref r]))) D = some (.lst (us.map V.ref)) ∧ Same H2 (upd H4 D (.lst (xs ++ [V.ref r]))) ∧
            Paired (fun t l => LotAt K (upd H4 D (.lst (xs ++ [V.ref r]))) t l) us (((subsL i).take (j + 1)).map (· ++ [i])) := fun H4 r sm4 hr4 => by
          have hD4 := sm4 _ _ hD3
          refine ⟨_, hD4, by rw [List.length_map]; exact small1000 (by omega), us ++ [r], ?_, fun b o e => ?_, ?_⟩
          · rw [upd_same, List.map_append]
            rfl
          · rw [upd_ne (ne_of_none e hD)]
            exact sm4 _ _ (sm3 _ _ e)
          · rw [etk]
            exact Cb.paired_snoc (F := fun t l => LotAt K (upd H4 D (.lst (us.map V.ref ++ [V.ref r]))) t l) (lot_off hr4 hD4) (paired_mono hPu fun t l z => lot_off (z.same sm4) hD4)
        refine ⟨t, u, lotV l, lotV [i], rfl, rfl, Same.tup smu hat3, SqT.up eu, by rw [List.length_map]; show l.length + 1 ≤ sizeLine; exact Nat.le_of_lt (small1000 (by omega)), fun e => ?_, fun _ e => by (cases e), fun _ _ p hp => ?_⟩
        · have el : l = [] := List.map_eq_nil_iff.mp e
          obtain ⟨xs, a1, a2, a3⟩ := fin _ u smu (by rw [el]; exact SqT.up eu)
          exact ⟨xs, a1, a2, a3⟩
        · have ep : lotV l ++ lotV [i] = lotV (l ++ [i]) := by
            unfold lotV
            rw [List.map_append]
          rw [ep]
          obtain ⟨xs, a1, a2, a3⟩ := fin _ p (smu.trans (same_upd hp)) (SqT.up upd_same)
          exact ⟨xs, a1, a2, a3⟩
      · rintro H3 ⟨us, hD3, sm3, hPu⟩
        have hlu : us.length = (subsL i).length := by
          have h1 : us.length = _ := Paired.length hPu
          rw [List.length_map, List.length_map, hlen, List.take_length] at h1
          exact h1
        refine ⟨fp, D, ts.map V.ref, us.map V.ref, rfl, rfl, sm3 _ _ hf, hD3, ?_, fun p hp => ?_⟩
        · rw [List.length_map, List.length_map]
          exact Nat.le_of_lt (small1000 (by omega))
        · refine ⟨p, ts ++ us, _, _, rfl, (sm.trans sm3).trans (same_upd hp), by rw [upd_same, List.map_append], ?_⟩
          rw [List.length_map, hlen, List.take_length] at hPu
          have hPp : Paired (fun t l => LotAt K (upd H3 p (.lst (ts.map V.ref ++ us.map V.ref))) t l) ts (subsL i) := paired_mono hP fun t l z => z.same (sm3.trans (same_upd hp))
          have hPq : Paired (fun t l => LotAt K (upd H3 p (.lst (ts.map V.ref ++ us.map V.ref))) t l) us ((subsL i).map (· ++ [i])) := paired_mono hPu fun t l z => z.same (same_upd hp)
          exact paired_app hPp hPq
    · rintro σ H2 ⟨fp, ts, v2, v3, rfl, sm, hf, hP⟩
      have h2i : (subsL n).length ≤ 32 := by
        rw [subsL_len]
        exact Nat.pow_le_pow_right (n := 2) (by decide) hn
      refine ⟨.ref fp, rfl, fp, ts, subsL n, rfl, SqL.up hf, hP, fun l hl => by have := subsL_ok hl; omega, by omega, hT.ext sm, fun H' p ts' e2 hT' hp hl' hP' => ?_⟩
      rw [sort_allL hn] at hP'
      exact q H' p ts' ((Same.extN sm).trans e2) hT' (fun b o e nt => hp b o (sm _ _ e) nt) hl' hP'
end
end N

set_option Elab.async false
set_option linter.all false
set_option maxRecDepth 100000
set_option maxHeartbeats 2000000
/-! [..] == [], [..] != [], i in a lot -/
namespace N
open Cb (lotV combs combsOf combsOf_sub)
open PySem PySem.Spec PyProof.Rows L2
def natD (l : List Nat) : List PyData := l.map fun (i : Nat) => PyData.int i
theorem lay_nats : ∀ l : List Nat, PyData.canLayAll0 (natD l) = true
  | [] => by rw [natD, List.map_nil, PyData.canLayAll0]
  | i :: l => by
    have ih := lay_nats l
    unfold natD at ih ⊢
    rw [List.map_cons, PyData.canLayAll0, PyData.canLay0, ih]
    rfl
theorem lay_lots : ∀ ls : List (List Nat), PyData.canLayAll0 (ls.map So.lotD) = true
  | [] => by rw [List.map_nil, PyData.canLayAll0]
  | l :: ls => by
    rw [List.map_cons, PyData.canLayAll0, lay_lots ls, So.lotD, PyData.canLay0]
    have := lay_nats l
    unfold natD at this
    rw [this]
    rfl
theorem depth_nats : ∀ l : List Nat, PyData.depthAll (natD l) = 0 := So.depth_ints (fun (i : Nat) => PyData.int i) (fun i => by rw [PyData.depth])
theorem depth_lots : ∀ ls : List (List Nat), PyData.depthAll (ls.map So.lotD) ≤ 1
  | [] => by rw [List.map_nil, PyData.depthAll]; exact Nat.zero_le _
  | l :: ls => by
    rw [List.map_cons, PyData.depthAll, So.lotD, PyData.depth]
    have h1 := depth_nats l
    unfold natD at h1
    rw [h1]
    have h2 := depth_lots ls
    omega
theorem shaped_nats (l : List Nat) : SeqAt.shaped (.list (natD l)) = true := by
  unfold SeqAt.shaped
  rw [PyData.canLay0, lay_nats, PyData.depth, depth_nats]
  rfl
theorem shaped_lot (l : List Nat) : SeqAt.shaped (.tuple (natD l)) = true := by
  unfold SeqAt.shaped
  rw [PyData.canLay0, lay_nats, PyData.depth, depth_nats]
  rfl
theorem shaped_lots (ls : List (List Nat)) : SeqAt.shaped (.list (ls.map So.lotD)) = true := by
  unfold SeqAt.shaped
  rw [PyData.canLay0, lay_lots, PyData.depth]
  have := depth_lots ls
  simp only [Bool.true_and, decide_eq_true_eq]
  omega
theorem dp_nats {K : PySem.W.Frag} {H : Hp} : ∀ l : List Nat, DpAll K H (lotV l) (natD l)
  | [] => .nil
  | i :: l => .cons (.int _) (dp_nats l)
theorem dp_lots {K : PySem.W.Frag} {H : Hp} : ∀ {ts : List Addr} {ls : List (List Nat)}, Paired (fun t l => LotAt K H t l) ts ls → DpAll K H (ts.map V.ref) (ls.map So.lotD)
  | _, _, .nil => .nil
  | _, _, .cons r t => .cons (.tup r (dp_nats _)) (dp_lots t)
def rEmp (K : PySem.W.Frag) (neg : Bool) : R2 := fun x y H Q => ∃ (a b : Addr) (xs : List V) (ds : List PyData), x = .ref a ∧ y = .ref b ∧ SqL K H a xs ∧ DpAll K H xs ds ∧ SeqAt.shaped (.list ds) = true ∧ SqL K H b [] ∧ Q (.bl (if neg then !xs.isEmpty else xs.isEmpty)) H
theorem eqv_emp {K : PySem.W.Frag} {H : Hp} {xs : List V} {ds : List PyData} (h : DpAll K H xs ds) : PyData.eqv (.list ds) (.list []) = xs.isEmpty := by
  cases h with
  | nil => simp [PyData.eqv, PyData.eqvAll]
  | cons a b => simp [PyData.eqv, PyData.eqvAll]
theorem shaped_nil : SeqAt.shaped (.list []) = true := shaped_nats []
theorem op_emp {X : Cx} (hu : X.A.units + 64 < cLine) : OpR X (compareOp .Eq) (rEmp X.K false) := by
  intro pins s σ H x y v u Q I r1 r2 h
  obtain ⟨a, b, xs, ds, rfl, rfl, h1, h2, h3, h4, q⟩ := h
  refine op_eqD hu pins s σ H _ _ v u Q I r1 r2 ⟨.list ds, .list [], .lst h1 h2, .lst h4 .nil, h3, shaped_nil, ?_⟩
  rw [eqv_emp h2]
  exact q
theorem op_nemp {X : Cx} (hu : X.A.units + 64 < cLine) : OpR X (compareOp .NotEq) (rEmp X.K true) := by
  intro pins s σ H x y v u Q I r1 r2 h
  obtain ⟨a, b, xs, ds, rfl, rfl, h1, h2, h3, h4, q⟩ := h
  refine op_neD hu pins s σ H _ _ v u Q I r1 r2 ⟨.list ds, .list [], .lst h1 h2, .lst h4 .nil, h3, shaped_nil, ?_⟩
  rw [eqv_emp h2]
  exact q
theorem o_notIn (K : PySem.W.Frag) {X : Cx} (hK : X.K = K := by rfl) : OpR X (compareOp .NotIn) (rIn K true) := by
  subst hK
  exact op_notIn_seq
theorem flat_lot : ∀ l : List Nat, (lotV l).all flatV = true
  | [] => rfl
  | i :: l => flat_lot l
theorem inV_lot (s : Nat) : ∀ l : List Nat, inV (.int (s : Int)) (lotV l) = decide (s ∈ l)
  | [] => rfl
  | i :: l => by
    have ih := inV_lot s l
    unfold inV at ih ⊢
    show (eqV (.int (i : Int)) (.int (s : Int)) || (lotV l).any fun y => eqV y (.int (s : Int))) = _
    rw [ih]
    by_cases e : s = i
    · subst e
      simp [eqV]
    · have h1 : eqV (.int (i : Int)) (.int (s : Int)) = false := by
        simp only [eqV]
        simp
        omega
      rw [h1]
      simp [e]
end N

set_option Elab.async false
set_option linter.all false
set_option maxRecDepth 100000
set_option maxHeartbeats 2000000
namespace N
open Cb (lotV combs combsOf combsOf_sub)
open PySem PySem.Spec PyProof.Rows L2
section
variable {P : Program} {w : World} {K : PySem.W.Frag} {mg : Str → Option Value} {base : Heap}
def sp_next (K : PySem.W.Frag) : Sp := fun vs H Q _ => ∃ (a b d : Addr) (h : List (List Nat)) (S L : List Nat), vs = [.ref a, .ref b, .ref d] ∧ HouseAt K H a h ∧ HouseOk h ∧ LotAt K H b S ∧ LotAt K H d L ∧
  ∀ (H' : Hp) (p : Addr), Same H H' → H' p = some (.tup (lotV (nextL h S L))) → Q (.ref p) H'
def NL : List Str := ["house", "covered", "coins", "found", "clerk", "sights", "one"]
theorem sc_next : FnScope ["house", "covered", "coins", "found", "clerk", "sights", "one"] ["house", "covered", "coins"] (defScope s__law_next) := ⟨rfl, rfl, rfl, by decide +kernel, rfl, by decide +kernel, by decide +kernel⟩
def missL (S L row : List Nat) : List Nat := row.filter fun s => !decide (s ∈ S) && !decide (s ∈ L)
theorem miss_emp {S L row : List Nat} : (lotV (missL S L row)).isEmpty = row.all fun s => decide (s ∈ S) || decide (s ∈ L) := by
  induction row with
  | nil => rfl
  | cons s row ih =>
    unfold missL at ih ⊢
    rw [List.filter_cons, List.all_cons]
    by_cases h1 : s ∈ S
    · simp only [h1, decide_true, Bool.not_true, Bool.false_and, Bool.true_or, Bool.true_and, Bool.false_eq_true, if_false]
      exact ih
    · by_cases h2 : s ∈ L
      · simp only [h1, h2, decide_true, decide_false, Bool.not_true, Bool.not_false, Bool.true_and, Bool.or_true, Bool.false_eq_true, if_false]
        exact ih
      · simp only [h1, h2, decide_false, Bool.not_false, Bool.true_and, Bool.or_false, Bool.false_and, if_true]
        rfl
theorem ok_next (T : Txt K mg) : FnOk P w K mg base CX0 1 T.d__law_next.f T.d__law_next.fd ["house", "covered", "coins"] (sp_next K) := by
  refine T.d__law_next.F.ok sc_next (fun vs H Q E h => ?_) (fun cdv A outer s H vs Q E hr h => ?_)
  · obtain ⟨a, b, d, h, S, L, rfl, _⟩ := h
    rfl
  · obtain ⟨a, b, d, hs, S, L, rfl, hA, ok, hB, hL, q⟩ := h
    have nd := sc_next.nd
    refine ⟨_, pss_cons (ps_set (i := 3) nd rfl (.inl rfl) (pe_lst pa_nil))
      (pss_cons (ps_for PassesOwn.never rfl (En.pi_enumT (by rfl) T.n_enumerate (pa_cons (pv 0) pa_nil)) (pg_tup rfl (pgs_cons (pg_name (i := 4) nd rfl (.inl rfl)) (pgs_cons (pg_name (i := 5) nd rfl (.inl rfl)) pgs_nil)))
        (pss_one (ps_if (pt_cmpR (op_emp hr.units) (pe_lc (own := [("one", 6)]) (g := gName 6) rfl nd (pi_tup (pv 5))
            (blkOk_by (N := ["house", "covered", "coins", "found", "clerk", "sights", "one"]) (sc := defScope s__law_next) (by decide +kernel)) (fun _ _ _ _ _ => pg_name (i := 6) nd rfl (.inl rfl))
            (fun _ _ _ _ _ => pts_one (PW.pt (pw_and (pt_cmpR (o_notIn K) (pv 6) (pv 1) (by rfl)) (pw_and1 (pt_cmpR (o_notIn K) (pv 6) (pv 2) (by rfl))))))
            (fun _ _ _ _ _ => pv 6)) (pe_lst pa_nil) (nomark _))
          (pss_one (ps_expr (pe_bm PySem.F.plainAttrs_list PySem.F.slot_list_append PySem.F.type_list_append mt_append (pv 3) (pa_cons (pv 4) pa_nil)))) pss_nil)))
      (pss_one (ps_ret (pe_callTy call_tuple_of (by rfl) T.n_tuple (by decide +kernel) (pa_cons (pv 3) pa_nil))))), ?_⟩
    obtain ⟨rs, hR, hP⟩ := id hA
    have hl : rs.length = hs.length := Paired.length hP
    have hlv : (rs.map V.ref).length = hs.length := by rw [List.length_map, hl]
    refine ⟨Nat.zero_le _, fun fp hfp => ?_⟩
    refine ⟨.ref a, rfl, a, _, rfl, Same.tup (same_upd hfp) hR, En.for_enumT (K := K) (a := a) (xs := rs.map V.ref) (fun i σ H2 => (∀ b o, H b = some o → H2 b = some o) ∧ H2 fp = some (.lst (lotV ((List.range i).filter fun i => (hs.getD i []).all fun s => decide (s ∈ S) || decide (s ∈ L)))) ∧ ∃ c r v6 : Option V, σ = [some (.ref a), some (.ref b), some (.ref d), some (.ref fp), c, r, v6])
      ⟨fun b o e => same_upd hfp b o e, upd_same, none, none, none, rfl⟩ (fun i σ H2 _ h3 => Same.tup h3.1 hR) ?_ ?_⟩
    · rintro i x T2 σ H2 hi ⟨sm, hf, c, r, v6, rfl⟩ hT
      obtain ⟨rp, hri, rfl⟩ := get_refs hi
      obtain ⟨row, hrow, hat⟩ := paired_at hP hri
      have hlt : i < hs.length := (List.getElem?_eq_some_iff.mp hrow).1
      have okr := (ok.ok row (List.mem_of_getElem? hrow)).2
      have sm2 : Same H (upd H2 T2 (.tup [.int (i : Nat), .ref rp])) := Same.trans sm (same_upd hT)
      have hf2 := same_upd (o := .tup [.int (i : Nat), .ref rp]) hT _ _ hf
      refine ⟨T2, [.int (i : Nat), .ref rp], rfl, .inl (.inl upd_same), rfl, .int (i : Nat), [.ref rp], rfl, .ref rp, [], rfl, rfl, ?_⟩
      generalize upd H2 T2 (.tup [.int (i : Nat), .ref rp]) = H3 at sm2 hf2
      refine ⟨.ref rp, rfl, rp, rfl, ⟨_, hat.same sm2⟩, fun D hD => lc_tup (K := K) (a := rp) (xs := lotV row) (fun j H4 => H4 = upd H3 D (.lst (lotV (missL S L (row.take j)))))
        rfl (fun j H4 _ e => by rw [e]; exact (hat.same sm2).same (same_upd hD)) ?_ ?_⟩
      · rintro j y H4 hj rfl
        obtain ⟨k, hk, rfl⟩ := get_lotV hj
        have smD : Same H3 (upd H3 D (.lst (lotV (missL S L (row.take j))))) := same_upd hD
        have etk : row.take (j + 1) = row.take j ++ [k] := by rw [List.take_add_one, hk]; rfl
        have em : missL S L (row.take (j + 1)) = missL S L (row.take j) ++ missL S L [k] := by rw [etk]; unfold missL; rw [List.filter_append]
        refine ⟨rfl, .int (k : Int), rfl, .ref b, rfl, b, lotV S, rfl, .inr ((hB.same sm2).same smD), rfl, flat_lot S, ?_⟩
        rw [inV_lot]
        refine ⟨!decide (k ∈ S), rfl, ?_⟩
        by_cases h1 : k ∈ S
        · rw [decide_eq_true h1]
          refine iteF ?_
          show _ = _
          rw [em]
          have e2 : missL S L [k] = [] := by unfold missL; rw [List.filter_cons_of_neg (by simp [h1])]; rfl
          rw [e2, List.append_nil]
        · rw [decide_eq_false h1]
          refine iteT ⟨.int (k : Int), rfl, .ref d, rfl, d, lotV L, rfl, .inr ((hL.same sm2).same smD), rfl, flat_lot L, ?_⟩
          rw [inV_lot]
          refine ⟨!decide (k ∈ L), rfl, ?_⟩
          by_cases h2 : k ∈ L
          · rw [decide_eq_true h2]
            refine iteF ?_
            show _ = _
            rw [em]
            have e2 : missL S L [k] = [] := by unfold missL; rw [List.filter_cons_of_neg (by simp [h2])]; rfl
            rw [e2, List.append_nil]
          · rw [decide_eq_false h2]
            refine iteT ⟨.int (k : Int), rfl, _, upd_same, ?_, ?_⟩
            · rw [List.length_map]
              have h3 : (missL S L (row.take j)).length ≤ (row.take j).length := List.length_filter_le _ _
              have h4 : (row.take j).length ≤ row.length := by rw [List.length_take]; exact Nat.min_le_right _ _
              have h5 := okr.len
              have h6 := ok.hi
              exact small1000 (by omega)
            · show upd _ _ _ = _
              rw [upd_upd, em]
              have e2 : missL S L [k] = [k] := by unfold missL; rw [List.filter_cons_of_pos (by simp [h1, h2])]; rfl
              rw [e2]
              unfold lotV
              rw [List.map_append]
              rfl
      · rintro H4 rfl
        rw [List.length_map, List.take_length]
        refine ⟨Nat.zero_le _, fun e0 he0 => ?_⟩
        have smD : Same H3 (upd H3 D (.lst (lotV (missL S L row)))) := same_upd hD
        have sm4 : Same H (upd (upd H3 D (.lst (lotV (missL S L row)))) e0 (.lst [])) := (Same.trans sm2 smD).trans (same_upd he0)
        have hf4 := same_upd (o := .lst []) he0 _ _ (smD _ _ hf2)
        refine ⟨D, e0, lotV (missL S L row), natD (missL S L row), rfl, rfl, SqL.up (same_upd he0 _ _ upd_same), dp_nats _, shaped_nats _, SqL.up upd_same, _, rfl, ?_⟩
        show (if (lotV (missL S L row)).isEmpty = true then _ else _)
        rw [miss_emp]
        have egd : hs.getD i [] = row := by rw [List.getD_eq_getElem?_getD, hrow]; rfl
        have ef : (List.range (i + 1)).filter (fun i => (hs.getD i []).all fun s => decide (s ∈ S) || decide (s ∈ L)) = (List.range i).filter (fun i => (hs.getD i []).all fun s => decide (s ∈ S) || decide (s ∈ L)) ++ if (row.all fun s => decide (s ∈ S) || decide (s ∈ L)) = true then [i] else [] := by
          rw [List.range_succ, List.filter_append]
          congr 1
          rw [List.filter_cons, egd]
          rfl
        refine ite2 (fun hb => ?_) (fun hb => ?_)
        · rw [if_pos hb] at ef
          refine ⟨.ref fp, rfl, .inl ⟨rfl, _, SqL.up hf4⟩, .int (i : Nat), rfl, fp, _, _, rfl, rfl, hf4, ?_, ?_⟩
          · rw [List.length_map]
            have h3 := List.length_filter_le (fun i => (hs.getD i []).all fun s => decide (s ∈ S) || decide (s ∈ L)) (List.range i)
            rw [List.length_range] at h3
            have h6 := ok.hi
            exact small1000 (by omega)
          · refine ⟨fun b o e => ?_, ?_, _, _, _, rfl⟩
            · rw [upd_ne (ne_of_none e hfp)]
              exact sm4 _ _ e
            · rw [upd_same, ef]
              unfold lotV
              rw [List.map_append]
              rfl
        · rw [if_neg hb, List.append_nil] at ef
          exact ⟨sm4, by rw [ef]; exact hf4, _, _, _, rfl⟩
    · rintro σ H2 ⟨sm, hf, c, r, v6, rfl⟩
      rw [hlv] at hf
      refine ⟨.ref fp, rfl, fp, _, rfl, .inl ⟨SqL.up hf, fun p hp => ?_⟩⟩
      exact q _ p (Same.trans sm (same_upd hp)) upd_same
end
end N

set_option Elab.async false
set_option linter.all false
set_option maxRecDepth 100000
set_option maxHeartbeats 2000000
/-! sorted(lots): tuples of numbers, the empty one among them or not; told is that it is the same tuples -/
namespace St
open PySem PySem.Spec PySem.Calls PyProof.Rows PySem.SeqAt PySem.W
section
variable {prog : Program} {w : World} {A : Around} {E : Value → Shared → Prop} {s : Shared}
theorem call_tuple_lt {Q : Value → Shared → Prop} {l b : Addr} {items items2 : Array Value} {e r : Nat → Bool} (hl : s.heap.IsTuple l items) (hb : s.heap.IsTuple b items2)
    (he : ∀ j (h1 : j < items.size) (h2 : j < items2.size), EqAt A.in1 s items[j] items2[j] (e j)) (hr : ∀ j (h1 : j < items.size) (h2 : j < items2.size), e j = false → RcLt A.in1 s items[j] items2[j] (r j))
    (h : Q (.bool (firstLt e r (decide (items.size < items2.size)) (List.range (min items.size items2.size)))) s) : wpAny (model prog w) A (call (.builtin "tuple.__lt__") [.ref l, .ref b]) Q E s := by
  obtain ⟨⟨cls, dd, data, sl⟩, ho, hc, n, hd⟩ := id hl
  obtain ⟨⟨cls2, dd2, data2, sl2⟩, ho2, hc2, n2, hd2⟩ := id hb
  simp only at hc hd hc2 hd2
  subst hc hd hc2 hd2
  exact call_meets F.slot_tuple_lt ⟨_, ho, rfl⟩ F.entry_tuple_lt (F.args_tuple_lt_2 _ _) (PySem.SeqAt.tuple_ltAt l b items items2 n n2 dd dd2 sl sl2 e r) ⟨ho, ho2, he, hr, h⟩
theorem oneLt_lots {f : Bool} {x y : List Nat} {a b : Value} {as bs : List Addr} {Q : Bool → Shared → Prop} (ra : Reads s.heap a (So.lotD x) as) (rb : Reads s.heap b (So.lotD y) bs) (hu : A.units + 1 < cLine) (hq : Q (dataLt (So.lotD x) (So.lotD y)) s) : wpAny (model prog w) A (oneLt' f a b) Q E s := by
  have hal : alikeAll (x.map fun (i : Nat) => PyData.int i) (y.map fun (i : Nat) => PyData.int i) = true := So.alike_ints x y
  have hda : (So.lotD x).depth = 1 := by rw [So.lotD, PyData.depth, So.depth_ints _ fun i => by rw [PyData.depth]]
  have hdb : (So.lotD y).depth = 1 := by rw [So.lotD, PyData.depth, So.depth_ints _ fun i => by rw [PyData.depth]]
  have hroom : A.units + min (So.lotD x).depth (So.lotD y).depth < cLine := by rw [hda, hdb]; exact hu
  cases f with
  | false =>
    refine oneLt_alike (fun z => by cases z) ra rb (by show alikeAll _ _ = true; exact hal) (fun z => by cases z) hroom hq
  | true =>
    unfold So.lotD at ra rb hroom hq
    cases ra with
    | @tuple l o vs n _ as₁ h1 h2 h3 h4 =>
      cases rb with
      | @tuple l' o' vs' n' _ bs₁ k1 k2 k3 k4 =>
        have n1 : vs.size = (x.map fun (i : Nat) => PyData.int i).length := by simpa using ReadsAll.length _ _ _ h4
        have n2 : vs'.size = (y.map fun (i : Nat) => PyData.int i).length := by simpa using ReadsAll.length _ _ _ k4
        rw [dataLt_tuple, ← firstLt_toks _ _ hal, ← n1, ← n2] at hq
        rw [oneLt'_eq]
        simp only [if_true]
        refine wpAny_bind (wpAny_cRoomFor (room_here hroom) ?_)
        refine wpAny_bind (wpAny_callSpecialIfBound?_slot (T := "tuple") ⟨_, h1, h2⟩ F.slot_tuple_lt (call_tuple_lt (e := pairEq (x.map fun (i : Nat) => PyData.int i) (y.map fun (i : Nat) => PyData.int i)) (r := fun j => dataLt ((x.map fun (i : Nat) => PyData.int i).getD j .none) ((y.map fun (i : Nat) => PyData.int i).getD j .none)) ⟨_, h1, h2, _, h3⟩ ⟨_, k1, k2, _, k3⟩ (fun j j1 j2 => ?_) (fun j j1 j2 hj => ?_) ?_))
        · have := eqAt_alikeAll _ _ A.in1 s vs.toList vs'.toList _ _ h4 k4 hal (room_in hroom) j (by simpa using j1) (by simpa using j2)
          simpa using this
        · have := rcLt_alikeAll _ _ A.in1 s vs.toList vs'.toList _ _ h4 k4 hal (room_in hroom) j (by simpa using j1) (by simpa using j2) hj
          simpa using this
        · exact wpAny_truthy_bool hq
end
section
variable {M : Model} {A : Around} {E : Value → Shared → Prop} {s : Shared}
theorem each_right {α β : Type} {R : α → β → Prop} : ∀ {as : List α} {bs : List β}, EachIs R as bs → ∀ b, b ∈ bs → ∃ a, a ∈ as ∧ R a b
  | _, _, .nil, b, h => by cases h
  | _, _, .cons r t, b, h => by
    rcases List.mem_cons.mp h with e | h
    · subst e; exact ⟨_, List.mem_cons_self, r⟩
    · obtain ⟨a, ha, ra⟩ := each_right t b h
      exact ⟨a, List.mem_cons_of_mem _ ha, ra⟩
/-- the firsts of tuples of numbers: none exactly of the empty one -/
theorem firsts : ∀ {vs : List Value} {ls : List (List Nat)} {Q : List (Option Value) → Shared → Prop}, EachIs (fun v l => ∃ as, Reads s.heap v (So.lotD l) as) vs ls → (∀ fs : List (Option Value), EachIs (fun f l => f.isSome = !l.isEmpty) fs ls → Q fs s) → wpAny M A (vs.mapM firstOfTuple') Q E s
  | _, _, Q, .nil, h => by rw [List.mapM_nil]; exact wpAny_pure (h [] .nil)
  | _, _, Q, .cons (a := v) (b := l) (as := vs) (bs := ls) ⟨as, r⟩ t, h => by
    unfold So.lotD at r
    cases r with
    | @tuple a o xs n _ as₁ h1 h2 h3 h4 =>
      rw [List.mapM_cons]
      refine wpAny_bind ?_
      rw [kas_first_eq]
      refine wpAny_bind (Looks.here (show Looks M s.heap (typeOf (.ref a)) o.cls from (Looks.ld h1).andThen .now) ?_)
      rw [h2, if_neg (by first | decide | simp)]
      refine wpAny_bind (listItems_at h1 h3 (wpAny_pure ?_))
      refine wpAny_bind (firsts (Q := fun bs s' => wpAny M A (pure (xs[0]? :: bs)) Q E s') t fun fs hfs => wpAny_pure (h _ (.cons ?_ hfs)))
      have n1 : xs.size = l.length := by
        have := ReadsAll.length _ _ _ h4
        rw [List.length_map] at this
        simpa using this
      cases l with
      | nil =>
        have : xs[0]? = none := Array.getElem?_eq_none (by rw [n1]; exact Nat.le_refl _)
        rw [this]
        rfl
      | cons i l =>
        have hp : 0 < xs.size := by rw [n1]; exact Nat.succ_pos _
        have : xs[0]? = some (xs[0]'hp) := Array.getElem?_eq_getElem hp
        rw [this]
        rfl
theorem kinds {vs : List Value} {ls : List (List Nat)} {Q : SortKind → Shared → Prop} (h : EachIs (fun v l => ∃ as, Reads s.heap v (So.lotD l) as) vs ls) (h2 : 2 ≤ vs.length) (hn : ∃ l ∈ ls, l = []) (hq : Q (if ls.head? = some [] then oneType' else general') s) : wpAny M A (keyKind' vs.toArray) Q E s := by
  rw [keyKind'_eq, List.mapM_toArray, map_eq_pure_bind]
  refine wpAny_bind (wpAny_bind (firsts h fun fs hfs => wpAny_pure ?_))
  have hall : ¬ (fs.toArray.all fun x => x.isSome) = true := by
    intro z
    rw [List.all_toArray, List.all_eq_true] at z
    obtain ⟨l, hl, rfl⟩ := hn
    obtain ⟨f, hf, e⟩ := each_right hfs _ hl
    have := z f hf
    rw [e] at this
    cases this
  rw [if_neg hall]
  have T : ∀ v ∈ vs, Looks M s.heap (typeOf v) (Value.type "tuple") := fun v hv => by
    obtain ⟨l, _, as, r⟩ := h.left v hv
    exact looks_reads r
  have hl := h.length
  cases hfs with
  | nil =>
    rw [hl] at h2
    exact absurd h2 (by simp)
  | @cons f l fs ls r t =>
    have e0 : ((f :: fs).toArray[0]?.bind id).isSome = !l.isEmpty := by
      show f.isSome = _
      exact r
    rw [e0]
    cases l with
    | cons i l =>
      rw [if_neg (by simp)] at hq
      rw [if_pos (by rfl : (!(i :: l).isEmpty) = true)]
      exact wpAny_pure hq
    | nil =>
      rw [if_pos (by rfl)] at hq
      rw [if_neg (by simp)]
      rw [oneTypeOnly'_eq, List.mapM_toArray, map_eq_pure_bind]
      refine wpAny_bind (wpAny_bind (wpAny_bind (kas_mapM (r := Value.type "tuple") _ (fun v hv Q' hq => (T v hv).here hq) (wpAny_pure ?_))))
      cases vs with
      | nil => exact absurd h2 (by simp)
      | cons v vs =>
        have hall2 : ((List.map (fun _ => Value.type "tuple") (v :: vs)).toArray.all fun x => x == Value.type "tuple") = true := by
          simp only [List.all_toArray, List.all_map, List.all_eq_true]
          intro _ _
          rfl
        have h0 : (List.map (fun _ => Value.type "tuple") (v :: vs)).toArray[0]? = some (Value.type "tuple") := by simp
        rw [h0]
        simp only [hall2, if_true]
        exact wpAny_pure (wpAny_pure hq)
end
section
variable {prog : Program} {w : World} {A : Around} {E : Value → Shared → Prop} {s : Shared}
theorem all_alike (ls : List (List Nat)) : AllAlike (ls.map So.lotD) := fun d hd d' hd' => by
  obtain ⟨l, _, rfl⟩ := List.mem_map.mp hd
  obtain ⟨l', _, rfl⟩ := List.mem_map.mp hd'
  show alikeAll _ _ = true
  exact So.alike_ints l l'
theorem depth_lotD (l : List Nat) : (So.lotD l).depth = 1 := by rw [So.lotD, PyData.depth, So.depth_ints _ fun i => by rw [PyData.depth]]
theorem each_maps {α β γ : Type} {R : α → γ → Prop} (f : β → γ) : ∀ {as : List α} {bs : List β}, EachIs (fun a b => R a (f b)) as bs → EachIs R as (bs.map f)
  | _, _, .nil => .nil
  | _, _, .cons r t => .cons r (each_maps f t)
theorem sortsAt_lots {vs : List Value} {ls : List (List Nat)} (h : EachIs (fun v l => ∃ as, Reads s.heap v (So.lotD l) as) vs ls) (hu : A.units + 1 < cLine) : SortsAt prog w A s (dataKind s.heap (ls.map So.lotD)) vs := by
  have h' : EachIs (fun v d => ∃ as, Reads s.heap v d as) vs (ls.map So.lotD) := each_maps So.lotD h
  by_cases hn : ∃ l ∈ ls, l = []
  · have lt : ∀ kd, kd = general' ∨ kd = oneType' → PyProof.Rows.H.LtAt prog w A s (dataKind s.heap (ls.map So.lotD)) kd := fun kd hk E x y a b Q ha hb hq => by
      obtain ⟨d, as, hd, ra, rfl⟩ := dataKind_inv ha
      obtain ⟨d', as', hd', rb, rfl⟩ := dataKind_inv hb
      obtain ⟨l, _, rfl⟩ := List.mem_map.mp hd
      obtain ⟨l', _, rfl⟩ := List.mem_map.mp hd'
      rcases hk with rfl | rfl
      · show wpAny _ _ (oneLt' false x y) _ _ _
        exact oneLt_lots ra rb hu hq
      · rw [keyLt'_oneType]
        exact oneLt_lots ra rb hu hq
    refine ⟨fun v hv => ?_, ?_⟩
    · obtain ⟨d, hd, as, r⟩ := h'.left v hv
      exact ⟨_, dataKind_some (all_alike ls) hd r⟩
    · exact ⟨if ls.head? = some [] then oneType' else general', lt _ (by split; exact .inr rfl; exact .inl rfl), fun h2 E Q hq => kinds h h2 hn hq⟩
  · refine SortsAt.data h' (all_alike ls) (.inl fun d hd => ?_) fun d hd => ?_
    · obtain ⟨l, hl, rfl⟩ := List.mem_map.mp hd
      cases l with
      | nil => exact absurd ⟨[], hl, rfl⟩ hn
      | cons i l => exact ⟨_, _, rfl⟩
    · obtain ⟨l, _, rfl⟩ := List.mem_map.mp hd
      rw [depth_lotD]
      exact hu
theorem sortVals_perm {κ : PyProof.Rows.KeyKind} (vs : List Value) : (sortVals κ false vs vs).Perm vs := by
  unfold sortVals
  have h1 := (List.mergeSort_perm (vs.zip vs) (sortLe κ.toKeyOrd false fun p : Keyed => keyD κ p.1)).map Prod.snd
  have h2 : (vs.zip vs).map Prod.snd = vs := List.map_snd_zip (Nat.le_refl _)
  rw [h2] at h1
  exact h1
end
theorem refs_of {ts : List Addr} : ∀ {us : List Value}, (∀ u ∈ us, u ∈ ts.map Value.ref) → ∃ ts' : List Addr, us = ts'.map Value.ref
  | [], _ => ⟨[], rfl⟩
  | u :: us, h => by
    obtain ⟨t, _, rfl⟩ := List.mem_map.mp (h u List.mem_cons_self)
    obtain ⟨ts', rfl⟩ := refs_of fun v hv => h v (List.mem_cons_of_mem _ hv)
    exact ⟨t :: ts', rfl⟩
theorem perm_refs {ts ts' : List Addr} (h : (ts'.map Value.ref).Perm (ts.map Value.ref)) : ts'.Perm ts := by
  have z := h.map fun v => match v with
    | Value.ref a => a
    | _ => (0 : Addr)
  rw [List.map_map, List.map_map] at z
  have e : ∀ l : List Addr, l.map ((fun v => match v with
    | Value.ref a => a
    | _ => (0 : Addr)) ∘ Value.ref) = l := fun l => by
    conv => rhs; rw [← List.map_id l]
    rfl
  rw [e, e] at z
  exact z
open L2
theorem vals_are {ts : List Addr} : ∀ {its : List Value}, Vals (ts.map V.ref) its → its = ts.map Value.ref := by
  induction ts with
  | nil => intro its r; cases r; rfl
  | cons t ts ih =>
    intro its r
    cases r with
    | cons a b =>
      cases a
      rw [ih b]
      rfl
theorem each_mono_b {α β : Type} {R R' : α → β → Prop} (h : ∀ a b, R a b → R' a b) : ∀ {as : List α} {bs : List β}, EachIs R as bs → EachIs R' as bs
  | _, _, .nil => .nil
  | _, _, .cons r t => .cons (h _ _ r) (each_mono_b h t)
/-- sorted(lots) -/
theorem cr_sortLots {X : Cx} (hu : X.A.units + 100 < cLine) : CallR X (.builtin "sorted") (fun xs H Q => ∃ (a : Addr) (ts : List Addr) (ls : List (List Nat)), xs = [.ref a] ∧ SqL X.K H a (ts.map V.ref) ∧ Paired (fun t l => N.LotAt X.K H t l) ts ls ∧
    ∀ (ts' : List Addr) (p : Addr), ts'.Perm ts → H p = none → Q (.ref p) (upd H p (.lst (ts'.map V.ref)))) := by
  intro pins s σ H xs us Q I r h
  obtain ⟨a, ts, ls, rfl, hA, hP, q⟩ := h
  obtain rfl := Vals.ref1 r
  obtain ⟨its, rv, hl, hz⟩ := I.list hA
  have E := So.each_lots I rv hP
  have hits := vals_are rv
  have hlen : its.length = ts.length := by rw [hits, List.length_map]
  rw [List.length_map] at hz
  have key : EachIs (fun v l => ∃ as, Reads (sortingHeap (copyHeap s.heap its) (s.heap.objs.size + 1) its) v (So.lotD l) as) its ls :=
    each_mono_b (fun v l (h : So.IsT X H s.heap v l) => by
      obtain ⟨t, rfl, _, hI⟩ := h
      exact ⟨[], (hI.keeps fun b o e => sorting_copy_old e).reads⟩) E
  refine sorted_vals (κ := dataKind (sortingHeap (copyHeap s.heap its) (s.heap.objs.size + 1) its) (ls.map So.lotD)) hl.isList (sortsAt_lots (s := { s with heap := sortingHeap (copyHeap s.heap its) (s.heap.objs.size + 1) its }) key (by show X.A.units + 1 + 1 + 1 < cLine; omega)) (by omega) ?_
  have hp := sortVals_perm (κ := dataKind (sortingHeap (copyHeap s.heap its) (s.heap.objs.size + 1) its) (ls.map So.lotD)) its
  generalize sortVals _ false its its = out at hp
  obtain ⟨ts', rfl⟩ := refs_of (ts := ts) fun u hu => by rw [← hits]; exact hp.mem_iff.mp hu
  have hp' : ts'.Perm ts := perm_refs (by rw [← hits]; exact hp)
  obtain ⟨ep, he'⟩ := PyProof.Rows.sortedAll_at s.heap its (ts'.map Value.ref).toArray
  have hl' : (ts'.map V.ref).length ≤ sizeLine := by rw [List.length_map, hp'.length_eq]; exact hz
  exact ⟨.ref _, upd H (s.heap.objs.size + 1) (.lst (ts'.map V.ref)), I.laid (t' := s.toks) (fun _ _ => PyProof.Rows.sortedAll_old) (Nat.le_succ _) ⟨hl', _, ep, LiI.vals_refs ts', he'⟩, rfl, q _ _ hp' (I.hok.fresh (Nat.le_succ _))⟩
end St

set_option Elab.async false
set_option linter.all false
set_option maxRecDepth 100000
set_option maxHeartbeats 2000000
/-! the law's own search: what is covered first on which day; dicts by lots -/
namespace N
open Cb (lotV combs combsOf combsOf_sub)
open PySem PySem.Spec PyProof.Rows L2
def keyL (l : List Nat) : List Key := l.map keyN
theorem keyL_inj : ∀ {a b : List Nat}, keyL a = keyL b → a = b
  | [], [], _ => rfl
  | [], _ :: _, h => by cases h
  | _ :: _, [], h => by cases h
  | i :: a, j :: b, h => by
    have h1 := List.cons.inj h
    rw [keyN_inj h1.1, keyL_inj h1.2]
theorem keyL_V (l : List Nat) : (keyL l).map kV = lotV l := by
  unfold keyL lotV
  rw [List.map_map]
  rfl
section
variable {α κ : Type} [DecidableEq α] [DecidableEq κ] {f : α → κ}
theorem putG_keys (inj : ∀ {a b}, f a = f b → a = b) {kvs : List (κ × V)} {ks : List α} {v : α} {x : V} (h : kvs.map (·.1) = ks.map f) : ∃ ks' : List α, (putK kvs (f v) x).map (·.1) = ks'.map f ∧ (∀ k, k ∈ ks' ↔ k ∈ ks ∨ k = v) ∧ (ks.Nodup → ks'.Nodup) := by
  by_cases hv : v ∈ ks
  · refine ⟨ks, ?_, fun k => ⟨.inl, fun z => z.elim id fun e => e ▸ hv⟩, id⟩
    unfold putK
    have e : (kvs.any fun kv => decide (kv.1 = f v)) = true := by
      rw [List.any_eq_true]
      have hm : f v ∈ kvs.map (·.1) := by rw [h]; exact List.mem_map.mpr ⟨v, hv, rfl⟩
      obtain ⟨kv, h1, h2⟩ := List.mem_map.mp hm
      exact ⟨kv, h1, decide_eq_true h2⟩
    rw [if_pos e, List.map_map, ← h]
    refine List.map_congr_left fun kv _ => ?_
    show (if kv.1 = f v then (kv.1, x) else kv).1 = kv.1
    split <;> rfl
  · refine ⟨ks ++ [v], ?_, fun k => by simp, fun z => ?_⟩
    · have e : ¬ (kvs.any fun kv => decide (kv.1 = f v)) = true := by
        intro z
        obtain ⟨kv, h1, h2⟩ := List.any_eq_true.mp z
        have hm : f v ∈ kvs.map (·.1) := List.mem_map.mpr ⟨kv, h1, of_decide_eq_true h2⟩
        rw [h] at hm
        obtain ⟨k, hk, ek⟩ := List.mem_map.mp hm
        exact hv (inj ek ▸ hk)
      unfold putK
      rw [if_neg e, List.map_append, List.map_append, h]
      rfl
    · refine List.nodup_append.mpr ⟨z, by simp, fun a ha b hb => ?_⟩
      have : b = v := by simpa using hb
      subst this
      exact fun e => hv (e ▸ ha)
theorem valG (inj : ∀ {a b}, f a = f b → a = b) {v : α} : ∀ {kvs : List (κ × V)} {ks : List α}, kvs.map (·.1) = ks.map f → (valV kvs (f v)).isSome = decide (v ∈ ks)
  | [], [], _ => by simp [valV_nil]
  | [], _ :: _, h => by cases h
  | _ :: _, [], h => by cases h
  | kv :: kvs, k :: ks, h => by
    obtain ⟨h1, h2⟩ := List.cons.inj (show kv.1 :: kvs.map (·.1) = f k :: ks.map f from h)
    by_cases e : k = v
    · subst e
      rw [valV_pos h1]
      simp
    · rw [valV_neg (by rw [h1]; exact fun z => e (inj z)), valG inj h2]
      have e' : ¬ v = k := fun z => e z.symm
      simp [e']
theorem nodup_len : ∀ {l m : List α}, l.Nodup → (∀ x ∈ l, x ∈ m) → l.length ≤ m.length
  | [], _, _, _ => Nat.zero_le _
  | x :: l, m, h, hs => by
    obtain ⟨h1, h2⟩ := List.nodup_cons.mp h
    have hx := hs x List.mem_cons_self
    have ih := nodup_len (m := m.erase x) h2 fun y hy => (List.mem_erase_of_ne (fun e : y = x => h1 (e ▸ hy))).mpr (hs y (List.mem_cons_of_mem _ hy))
    have hl := List.length_erase_of_mem hx
    have hp := List.length_pos_of_mem hx
    rw [List.length_cons]
    omega
end
theorem paired_perm {α β : Type} {F : α → β → Prop} {as' as : List α} (p : as'.Perm as) : ∀ {bs : List β}, Paired F as bs → ∃ bs', Paired F as' bs' ∧ bs'.Perm bs := by
  induction p with
  | nil => intro bs h; cases h; exact ⟨[], .nil, .nil⟩
  | cons x _ ih =>
    intro bs h
    cases h with
    | cons r t =>
      obtain ⟨bs', h1, h2⟩ := ih t
      exact ⟨_ :: bs', .cons r h1, h2.cons _⟩
  | swap x y l =>
    intro bs h
    cases h with
    | cons r t =>
      cases t with
      | cons r2 t2 => exact ⟨_, .cons r2 (.cons r t2), .swap _ _ _⟩
  | trans _ _ ih1 ih2 =>
    intro bs h
    obtain ⟨b1, h1, p1⟩ := ih2 h
    obtain ⟨b2, h2, p2⟩ := ih1 h1
    exact ⟨b2, h2, p2.trans p1⟩
/-! ### first days -/
def FirstL (h : List (List Nat)) (c t : Nat) (S : List Nat) : Prop := RchL h c t S ∧ ∀ t', t' < t → ¬ RchL h c t' S
section
variable {h : List (List Nat)} {c : Nat}
theorem first_zero {S : List Nat} : FirstL h c 0 S ↔ S = [] := ⟨fun x => x.1, fun x => ⟨x, fun t' z => by omega⟩⟩
theorem exists_first : ∀ {t : Nat} {S : List Nat}, RchL h c t S → ∃ j, j ≤ t ∧ FirstL h c j S := by
  intro t
  induction t using Nat.strongRecOn with
  | _ t ih =>
    intro S x
    rcases Classical.em (∃ t', t' < t ∧ RchL h c t' S) with ⟨t', h1, h2⟩ | z
    · obtain ⟨j, hj, hf⟩ := ih t' h1 h2
      exact ⟨j, by omega, hf⟩
    · exact ⟨t, Nat.le_refl _, x, fun t' h1 h2 => z ⟨t', h1, h2⟩⟩
theorem first_step {t : Nat} {S : List Nat} : FirstL h c (t + 1) S ↔ (∃ S0 L, FirstL h c t S0 ∧ LotOk h.length L ∧ L.length ≤ c ∧ S = nextL h S0 L) ∧ ¬ ∃ j, j ≤ t ∧ FirstL h c j S := by
  constructor
  · rintro ⟨⟨S0, L, h1, h2, h3, e⟩, hno⟩
    refine ⟨⟨S0, L, ⟨h1, fun t' ht z => ?_⟩, h2, h3, e⟩, ?_⟩
    · exact hno (t' + 1) (by omega) ⟨S0, L, z, h2, h3, e⟩
    · rintro ⟨j, hj, hf⟩
      exact hno j (by omega) hf.1
  · rintro ⟨⟨S0, L, h1, h2, h3, e⟩, hno⟩
    refine ⟨⟨S0, L, h1.1, h2, h3, e⟩, fun t' ht z => ?_⟩
    obtain ⟨j, hj, hf⟩ := exists_first z
    exact hno ⟨j, by omega, hf⟩
theorem no_more {t : Nat} (hn : ∀ S, ¬ FirstL h c t S) : ∀ {u : Nat} {S : List Nat}, RchL h c u S → ∃ j, j < t ∧ FirstL h c j S := by
  have base : ∀ {u : Nat} {S : List Nat}, u ≤ t → RchL h c u S → ∃ j, j < t ∧ FirstL h c j S := fun {u S} hu x => by
    obtain ⟨j, hj, hf⟩ := exists_first x
    refine ⟨j, ?_, hf⟩
    rcases Nat.lt_or_ge j t with z | z
    · exact z
    · have : j = t := by omega
      subst this
      exact absurd hf (hn S)
  intro u
  induction u with
  | zero => exact fun {S} x => base (Nat.zero_le _) x
  | succ u ih =>
    intro S x
    obtain ⟨S0, L, h1, h2, h3, e⟩ := x
    obtain ⟨j, hj, hf⟩ := ih h1
    exact base (u := j + 1) (by omega) ⟨S0, L, hf.1, h2, h3, e⟩
/-- the levels of the search, the last of them empty -/
structure Lvls (h : List (List Nat)) (c : Nat) (Fs : List (List (List Nat))) : Prop where
  pos : 1 ≤ Fs.length
  at_ : ∀ (j : Nat) (F : List (List Nat)), Fs[j]? = some F → ∀ S, S ∈ F ↔ FirstL h c j S
  last : ∀ S, ¬ FirstL h c (Fs.length - 1) S
theorem isDays_some {Fs : List (List (List Nat))} (x : Lvls h c Fs) {goal : List Nat} {d : Nat} {F : List (List Nat)} (hd : Fs[d]? = some F) (hS : ∃ S ∈ F, ∀ i ∈ goal, i ∈ S) (hno : ∀ (j : Nat) (F : List (List Nat)), j < d → Fs[j]? = some F → ¬ ∃ S ∈ F, ∀ i ∈ goal, i ∈ S) : IsDays h c goal (some d) := by
  obtain ⟨S, hS, hg⟩ := hS
  refine ⟨⟨S, ((x.at_ d F hd S).mp hS).1, hg⟩, fun d' hd' z => ?_⟩
  obtain ⟨S', hr, hg'⟩ := z
  obtain ⟨j, hj, hf⟩ := exists_first hr
  have hl : d < Fs.length := (List.getElem?_eq_some_iff.mp hd).1
  have hj2 : j < Fs.length := by omega
  exact hno j _ (by omega) (List.getElem?_eq_getElem hj2) ⟨S', (x.at_ j _ (List.getElem?_eq_getElem hj2) S').mpr hf, hg'⟩
theorem isDays_no {Fs : List (List (List Nat))} (x : Lvls h c Fs) {goal : List Nat} (hno : ∀ (j : Nat) (F : List (List Nat)), Fs[j]? = some F → ¬ ∃ S ∈ F, ∀ i ∈ goal, i ∈ S) : IsDays h c goal none := by
  rintro d ⟨S, hr, hg⟩
  obtain ⟨j, hj, hf⟩ := no_more x.last hr
  have hj2 : j < Fs.length := by omega
  exact hno j _ (List.getElem?_eq_getElem hj2) ⟨S, (x.at_ j _ (List.getElem?_eq_getElem hj2) S).mpr hf, hg⟩
end
end N

set_option Elab.async false
set_option linter.all false
set_option maxRecDepth 100000
set_option maxHeartbeats 2000000
namespace N
open Cb (lotV combs combsOf combsOf_sub)
open PySem PySem.Spec PyProof.Rows L2
def TupAt (H : Hp) (t : Addr) (l : List Nat) : Prop := H t = some (.tup (lotV l))
def LvAt (H : Hp) (q : Addr) (ls : List (List Nat)) : Prop := ∃ ts : List Addr, H q = some (.lst (ts.map V.ref)) ∧ Paired (fun t l => TupAt H t l) ts ls
theorem TupAt.same {H H' : Hp} {t : Addr} {l : List Nat} (x : TupAt H t l) (e : Same H H') : TupAt H' t l := e _ _ x
theorem LvAt.same {H H' : Hp} {q : Addr} {ls : List (List Nat)} (x : LvAt H q ls) (e : Same H H') : LvAt H' q ls := by
  obtain ⟨ts, h1, h2⟩ := x
  exact ⟨ts, e _ _ h1, paired_mono h2 fun _ _ z => z.same e⟩
theorem TupAt.lot {K : PySem.W.Frag} {H : Hp} {t : Addr} {l : List Nat} (x : TupAt H t l) : LotAt K H t l := SqT.up x
theorem isKeys_lots {H : Hp} : ∀ {kvs : List (List Key × V)} {bs : List Addr} {ks : List (List Nat)}, IsKeys H kvs bs → kvs.map (·.1) = ks.map keyL → Paired (fun t l => TupAt H t l) bs ks
  | _, _, [], .nil, _ => .nil
  | _, _, _ :: _, .nil, h => by cases h
  | _, _, [], .cons _ _, h => by cases h
  | kv :: kvs, b :: bs, k :: ks, .cons r t, h => by
    obtain ⟨h1, h2⟩ := List.cons.inj (show kv.1 :: kvs.map (·.1) = keyL k :: ks.map keyL from h)
    refine .cons ?_ (isKeys_lots t h2)
    have r' : H b = some (.tup (kv.1.map kV)) := r
    rw [h1, keyL_V] at r'
    exact r'
theorem allL_len {n : Nat} (hn : n ≤ 5) : (allL n).length ≤ 32 := by
  have h := List.all_eq_true.mp chkL_all n (List.mem_range.mpr (by omega))
  unfold chkL at h
  rw [Bool.and_eq_true] at h
  have hp : (allL n).Perm (subsL n) := List.isPerm_iff.mp h.1
  rw [hp.length_eq, subsL_len]
  exact Nat.pow_le_pow_right (n := 2) (by decide) hn
structure CM (h : List (List Nat)) (c t : Nat) (Fs : List (List (List Nat))) (L ks : List (List Nat)) : Prop where
  len : Fs.length = t + 1
  at_ : ∀ (j : Nat) (F : List (List Nat)), Fs[j]? = some F → ∀ S, S ∈ F ↔ FirstL h c j S
  cur : ∀ S, S ∈ L ↔ FirstL h c t S
  kk : ∀ S, S ∈ ks ↔ ∃ j, j ≤ t ∧ FirstL h c j S
  nd : ks.Nodup
  tt : t + (if L = [] then 0 else 1) ≤ ks.length
section
variable {h : List (List Nat)} {c t : Nat} {Fs : List (List (List Nat))} {L ks : List (List Nat)}
theorem lots_len {n : Nat} (hn : n ≤ 5) {ks : List (List Nat)} (nd : ks.Nodup) (ok : ∀ S ∈ ks, LotOk n S) : ks.length ≤ 32 :=
  Nat.le_trans (nodup_len nd fun S hS => mem_allL.mpr (ok S hS)) (allL_len hn)
theorem CM.ks_len (x : CM h c t Fs L ks) (hn : h.length ≤ 5) : ks.length ≤ 32 := lots_len hn x.nd fun S hS => by
  obtain ⟨j, _, hf⟩ := (x.kk S).mp hS
  exact rchL_ok hf.1
theorem cm_start : CM h c 0 [[[]]] [[]] [[]] := by
  refine ⟨rfl, fun j F hj S => ?_, fun S => ?_, fun S => ?_, by simp, by simp⟩
  · cases j with
    | zero =>
      have : F = [[]] := (Option.some.inj hj).symm
      rw [this, first_zero]
      simp
    | succ j => simp at hj
  · rw [first_zero]
    simp
  · constructor
    · intro z
      exact ⟨0, Nat.le_refl _, first_zero.mpr (by simpa using z)⟩
    · rintro ⟨j, hj, hf⟩
      have : j = 0 := by omega
      subst this
      rw [first_zero.mp hf]
      simp
theorem CM.step (x : CM h c t Fs L ks) (hL : L ≠ []) {lots fr L' ks' : List (List Nat)} (hlots : ∀ l, l ∈ lots ↔ LotOk h.length l ∧ l.length ≤ c) (hfr : ∀ S, S ∈ fr ↔ ∃ S0 ∈ L, ∃ L1 ∈ lots, S = nextL h S0 L1)
    (hL' : ∀ S, S ∈ L' ↔ S ∈ fr ∧ S ∉ ks) (hk : ∀ S, S ∈ ks' ↔ S ∈ ks ∨ S ∈ L') (nd' : ks'.Nodup) : CM h c (t + 1) (Fs ++ [L']) L' ks' := by
  have cur : ∀ S, S ∈ L' ↔ FirstL h c (t + 1) S := fun S => by
    rw [hL', hfr, first_step, x.kk]
    constructor
    · rintro ⟨⟨S0, h1, L1, h2, e⟩, hno⟩
      exact ⟨⟨S0, L1, (x.cur S0).mp h1, ((hlots L1).mp h2).1, ((hlots L1).mp h2).2, e⟩, hno⟩
    · rintro ⟨⟨S0, L1, h1, h2, h3, e⟩, hno⟩
      exact ⟨⟨S0, (x.cur S0).mpr h1, L1, (hlots L1).mpr ⟨h2, h3⟩, e⟩, hno⟩
  refine ⟨by rw [List.length_append, x.len]; rfl, fun j F hj S => ?_, cur, fun S => ?_, nd', ?_⟩
  · rcases Nat.lt_or_ge j Fs.length with z | z
    · rw [List.getElem?_append_left z] at hj
      exact x.at_ j F hj S
    · rw [List.getElem?_append_right z] at hj
      have hj0 : j - Fs.length = 0 := by
        rcases Nat.eq_zero_or_pos (j - Fs.length) with y | y
        · exact y
        · obtain ⟨m, hm⟩ : ∃ m, j - Fs.length = m + 1 := ⟨j - Fs.length - 1, by omega⟩
          rw [hm] at hj
          simp at hj
      rw [hj0] at hj
      have e : F = L' := (Option.some.inj hj).symm
      have ej : j = t + 1 := by rw [x.len] at hj0 z; omega
      rw [e, ej]
      exact cur S
  · rw [hk, x.kk, cur]
    constructor
    · rintro (⟨j, hj, hf⟩ | hf)
      · exact ⟨j, by omega, hf⟩
      · exact ⟨t + 1, Nat.le_refl _, hf⟩
    · rintro ⟨j, hj, hf⟩
      rcases Nat.lt_or_ge j (t + 1) with z | z
      · exact .inl ⟨j, by omega, hf⟩
      · have : j = t + 1 := by omega
        subst this
        exact .inr hf
  · have ht := x.tt
    rw [if_neg hL] at ht
    cases L' with
    | nil =>
      rw [if_pos rfl]
      have := nodup_len x.nd (m := ks') fun S hS => (hk S).mpr (.inl hS)
      omega
    | cons S L' =>
      rw [if_neg (List.cons_ne_nil _ _)]
      have hS := (hL' S).mp List.mem_cons_self
      have nd2 : (S :: ks).Nodup := List.nodup_cons.mpr ⟨hS.2, x.nd⟩
      have := nodup_len nd2 (m := ks') fun S' hS' => by
        rcases List.mem_cons.mp hS' with e | e
        · rw [e]; exact (hk S).mpr (.inr List.mem_cons_self)
        · exact (hk S').mpr (.inl e)
      rw [List.length_cons] at this
      omega
theorem CM.grow (x : CM h c t Fs L ks) {L' ks' : List (List Nat)} (hno : ∀ S, S ∈ L' → S ∉ ks) (hk : ∀ S, S ∈ ks' ↔ S ∈ ks ∨ S ∈ L') (hne : L' ≠ []) : ks.length < ks'.length := by
  obtain ⟨S, r, rfl⟩ := List.exists_cons_of_ne_nil hne
  have nd2 : (S :: ks).Nodup := List.nodup_cons.mpr ⟨hno S List.mem_cons_self, x.nd⟩
  have := nodup_len nd2 (m := ks') fun S' hS' => by
    rcases List.mem_cons.mp hS' with e | e
    · rw [e]; exact (hk S).mpr (.inr List.mem_cons_self)
    · exact (hk S').mpr (.inl e)
  rw [List.length_cons] at this
  omega
theorem CM.end_ (x : CM h c t Fs [] ks) : Lvls h c Fs := ⟨by rw [x.len]; omega, x.at_, fun S hS => by
  rw [x.len] at hS
  have := (x.cur S).mpr hS
  cases this⟩
end
/-- what stands in the heap between two turns of the law's search -/
structure CH (Hb H : Hp) (fp sp lp : Addr) (fps : List Addr) (Fs : List (List (List Nat))) (L ks : List (List Nat)) : Prop where
  sm : Same Hb H
  ef : H fp = some (.lst (fps.map V.ref))
  lv : Paired (fun q ls => LvAt H q ls) fps Fs
  es : ∃ kvs, H sp = some (.dT kvs) ∧ kvs.map (·.1) = ks.map keyL
  el : LvAt H lp L
  nf : Hb fp = none
  ns : Hb sp = none
  dl : lp ≠ fp
  df : ∀ q ∈ fps, q ≠ fp
  ln : ∀ F ∈ Fs, F.length ≤ 32
theorem CH.same {Hb H H' : Hp} {fp sp lp : Addr} {fps : List Addr} {Fs : List (List (List Nat))} {L ks : List (List Nat)} (x : CH Hb H fp sp lp fps Fs L ks) (e : Same H H') : CH Hb H' fp sp lp fps Fs L ks := by
  obtain ⟨kvs, h1, h2⟩ := x.es
  exact ⟨x.sm.trans e, e _ _ x.ef, paired_mono x.lv fun _ _ z => z.same e, ⟨kvs, e _ _ h1, h2⟩, x.el.same e, x.nf, x.ns, x.dl, x.df, x.ln⟩
end N

set_option Elab.async false
set_option linter.all false
set_option maxRecDepth 100000
set_option maxHeartbeats 2000000
namespace N
open Cb (lotV combs combsOf combsOf_sub)
open PySem PySem.Spec PyProof.Rows L2
theorem paired_mem {α β : Type} {F G : α → β → Prop} : ∀ {as : List α} {bs : List β}, Paired F as bs → (∀ a b, a ∈ as → F a b → G a b) → Paired G as bs
  | _, _, .nil, _ => .nil
  | _, _, .cons r t, f => .cons (f _ _ List.mem_cons_self r) (paired_mem t fun a b ha => f a b (List.mem_cons_of_mem _ ha))
theorem TupAt.off {H H' : Hp} {fp sp t : Addr} {xs : List V} {kvs : List (List Key × V)} {l : List Nat} (x : TupAt H t l) (hf : H fp = some (.lst xs)) (hs : H sp = some (.dT kvs)) (k : ∀ b o, b ≠ sp → b ≠ fp → H b = some o → H' b = some o) : TupAt H' t l :=
  k _ _ (ne_of x hs (by intro z; cases z)) (ne_of x hf (by intro z; cases z)) x
theorem LvAt.off {H H' : Hp} {fp sp q : Addr} {xs : List V} {kvs : List (List Key × V)} {ls : List (List Nat)} (x : LvAt H q ls) (hf : H fp = some (.lst xs)) (hs : H sp = some (.dT kvs)) (hq : q ≠ fp) (k : ∀ b o, b ≠ sp → b ≠ fp → H b = some o → H' b = some o) : LvAt H' q ls := by
  obtain ⟨ts, h1, h2⟩ := x
  exact ⟨ts, k _ _ (ne_of h1 hs (by intro z; cases z)) hq h1, paired_mono h2 fun _ _ z => z.off hf hs k⟩
theorem take_succ {α : Type} {l : List α} {i : Nat} {x : α} (h : l[i]? = some x) : l.take (i + 1) = l.take i ++ [x] := by
  rw [List.take_add_one, h]
  rfl
section
variable {P : Program} {w : World} {K : PySem.W.Frag} {mg : Str → Option Value} {base : Heap}
def sp_covered (K : PySem.W.Frag) (PT : Addr) : Sp := fun vs H Q _ => ∃ (a : Addr) (h : List (List Nat)) (c : Nat), vs = [.ref a, .int c] ∧ HouseAt K H a h ∧ HouseOk h ∧ h.length ≤ 5 ∧ LamX.TabS H PT lamQ ∧
  ∀ (H' : Hp) (p : Addr) (fps : List Addr) (Fs : List (List (List Nat))), LamX.ExtN H H' → LamX.TabS H' PT lamQ → So.NewN H p → H' p = some (.lst (fps.map V.ref)) → Paired (fun q ls => LvAt H' q ls) fps Fs → Lvls h c Fs → (∀ F ∈ Fs, F.length ≤ 32) → Q (.ref p) H'
theorem sc_covered : FnScope ["house", "coins", "lot", "lots", "found", "seen", "last", "fresh", "covered"] ["house", "coins"] (defScope s__law_covered) := ⟨rfl, rfl, rfl, by decide +kernel, rfl, by decide +kernel, by decide +kernel⟩
theorem ok_covered {c PT : Addr} (T : Txt K mg) (hc : T.d__law_lots.fd.code = .ref c) (TB : LamX.TabB base mg c PT) : FnOk P w K mg base CX0 3 T.d__law_covered.f T.d__law_covered.fd ["house", "coins"] (sp_covered K PT) := by
  have G1 := ok_next (P := P) (w := w) (base := base) T
  have G2 := ok_lots (P := P) (w := w) (base := base) T hc TB
  refine T.d__law_covered.F.ok sc_covered (fun vs H Q E h => ?_) (fun cdv A outer s H vs Q E hr h => ?_)
  · obtain ⟨a, h, c, rfl, _⟩ := h
    rfl
  · obtain ⟨a, hs, c, rfl, hA, ok, hn5, hT, q⟩ := h
    have nd := sc_covered.nd
    have hu := hu_of hr
    have hr1 : Room 1 _ := hr.mono (by decide)
    refine ⟨_, pss_cons (ps_setLc (i := 3) (own := [("lot", 2)]) (g := gName 2) rfl nd rfl rfl (sw_true rfl rfl rfl (by decide +kernel))
        (pi_list (pe_call G2 hr (by rfl) T.d__law_lots.g T.d__law_lots.F.kp T.d__law_lots.b .nil pass0 (pa_cons (pe_callB call_len_seq (by rfl) T.n_len PySem.boot_len (pa_cons (pv 0) pa_nil)) pa_nil)))
        (blkOk_by (N := ["house", "coins", "lot", "lots", "found", "seen", "last", "fresh", "covered"]) (sc := defScope s__law_covered) (by decide +kernel)) (fun _ _ _ _ _ => pg_name (i := 2) nd rfl (.inl rfl))
        (fun _ _ _ _ _ => pts_one (pt_cmpR op_le (pe_callB (c_len K) (by rfl) T.n_len PySem.boot_len (pa_cons (pv 2) pa_nil)) (pv 1) (nomark _)))
        (fun _ _ _ _ _ => pv 2))
      (pss_cons (ps_asg (pe_tup (pa_cons (pe_lst (pa_cons (pe_lst (pa_cons (pe_tup pa_nil) pa_nil)) pa_nil)) (pa_cons (pe_dispT hu (pe_tup pa_nil) pe_bl) (pa_cons (pe_lst (pa_cons (pe_tup pa_nil) pa_nil)) pa_nil))))
          (pg_tup rfl (pgs_cons (pg_name (i := 4) nd rfl (.inl rfl)) (pgs_cons (pg_name (i := 5) nd rfl (.inr rfl)) (pgs_cons (pg_name (i := 6) nd rfl (.inl rfl)) pgs_nil)))))
      (pss_cons (ps_while PassesOwn.never (pt_cmpR (op_nemp hr.units) (pv 6) (pe_lst pa_nil) (nomark _))
        (pss_cons (ps_set (i := 7) nd rfl (.inl rfl) pe_dnewT)
        (pss_cons (ps_for PassesOwn.never rfl (pi_list (pv 6)) (pg_name (i := 8) nd rfl (.inl rfl))
          (pss_one (ps_for PassesOwn.never rfl (pi_list (pv 3)) (pg_name (i := 2) nd rfl (.inl rfl))
            (pss_one (ps_dput hu (pv 7) (pe_call G1 hr1 (by rfl) T.d__law_next.g T.d__law_next.F.kp T.d__law_next.b .nil pass0 (pa_cons (pv 0) (pa_cons (pv 8) (pa_cons (pv 2) pa_nil)))) pe_bl rfl)))))
        (pss_cons (ps_setLc (i := 6) (own := [("lot", 2)]) (g := gName 2) rfl nd rfl rfl (sw_true rfl rfl rfl (by decide +kernel))
            (pi_list (pe_callB (St.cr_sortLots (room100 hr)) (by rfl) T.n_sorted (by decide +kernel) (pa_cons (pe_callTy (call_list_dT rfl) (by rfl) T.n_list (by decide +kernel) (pa_cons (pv 7) pa_nil)) pa_nil)))
            (blkOk_by (N := ["house", "coins", "lot", "lots", "found", "seen", "last", "fresh", "covered"]) (sc := defScope s__law_covered) (by decide +kernel)) (fun _ _ _ _ _ => pg_name (i := 2) nd rfl (.inl rfl))
            (fun _ _ _ _ _ => pts_one (pt_cmp (pc_dnotin hu (pv 2) (pv 5))))
            (fun _ _ _ _ _ => pv 2))
        (pss_cons (ps_for PassesOwn.never rfl (pi_list (pv 6)) (pg_name (i := 2) nd rfl (.inl rfl))
          (pss_one (ps_dput hu (pv 5) (pv 2) pe_bl rfl)))
        (pss_one (ps_expr (pe_bm PySem.F.plainAttrs_list PySem.F.slot_list_append PySem.F.type_list_append mt_append (pv 4) (pa_cons (pv 6) pa_nil)))))))))
      (pss_one (ps_ret (pv 4))))), ?_⟩
    obtain ⟨rs, hR, hP⟩ := id hA
    have hlv : (rs.map V.ref).length = hs.length := by rw [List.length_map]; exact Paired.length hP
    refine ⟨.ref a, rfl, a, _, rfl, .inr hR, hs.length, by rw [hlv]; rfl, hn5, hT, fun H1 p1 ts1 e1 hT1 hp1 hl1 hP1 => ?_⟩
    refine ⟨p1, rfl, ⟨_, SqL.up hl1⟩, fun D hD => ?_⟩
    have hla := allL_len hn5
    have hts1 : ts1.length = (allL hs.length).length := Paired.length hP1
    refine lc_list (K := K) (a := p1) (xs := ts1.map V.ref) (fun j H2 => ∃ us : List Addr, H2 = upd H1 D (.lst (us.map V.ref)) ∧ Paired (fun t l => LotAt K H1 t l) us (((allL hs.length).take j).filter fun l => decide (l.length ≤ c)))
      ⟨[], rfl, .nil⟩ (fun j H2 _ h2 => ?_) ?_ ?_
    · obtain ⟨us, rfl, _⟩ := h2
      exact SqL.up (same_upd hD _ _ hl1)
    · rintro j y H2 hj ⟨us, rfl, hPu⟩
      obtain ⟨t, ht, rfl⟩ := get_refs hj
      obtain ⟨l, hl, hat⟩ := paired_at hP1 ht
      have etk : (allL hs.length).take (j + 1) = (allL hs.length).take j ++ [l] := by rw [List.take_add_one, hl]; rfl
      refine ⟨rfl, .ref t, rfl, t, _, rfl, .inr (hat.same (same_upd hD)), .int c, rfl, _, c, rfl, rfl, _, rfl, ?_⟩
      show (if decide (((lotV l).length : Int) ≤ (c : Int)) = true then _ else _)
      have ed : decide (((lotV l).length : Int) ≤ (c : Int)) = decide (l.length ≤ c) := decide_eq_decide.mpr (by rw [List.length_map]; omega)
      rw [ed]
      refine ite2 (fun hb => ?_) (fun hb => ?_)
      · refine ⟨.ref t, rfl, _, upd_same, ?_, us ++ [t], ?_, ?_⟩
        · have h1 : us.length = _ := Paired.length hPu
          have h2 := List.length_filter_le (fun l : List Nat => decide (l.length ≤ c)) ((allL hs.length).take j)
          rw [List.length_take] at h2
          rw [List.length_map]
          exact small1000 (by omega)
        · rw [upd_upd, List.map_append]
          rfl
        · have e3 : [l].filter (fun l => decide (l.length ≤ c)) = [l] := by
            rw [List.filter_cons, if_pos (by exact hb)]
            rfl
          rw [etk, List.filter_append, e3]
          exact Cb.paired_snoc (F := fun t l => LotAt K H1 t l) hat hPu
      · refine ⟨us, rfl, ?_⟩
        have e3 : [l].filter (fun l => decide (l.length ≤ c)) = [] := by
          rw [List.filter_cons, if_neg (by exact hb)]
          rfl
        rw [etk, List.filter_append, e3, List.append_nil]
        exact hPu
    · rintro H2 ⟨us0, rfl, hPu0⟩
      rw [List.length_map, hts1, List.take_length] at hPu0
      have hlots : ∀ l, l ∈ (allL hs.length).filter (fun l => decide (l.length ≤ c)) ↔ LotOk hs.length l ∧ l.length ≤ c := fun l => by
        rw [List.mem_filter, mem_allL, decide_eq_true_eq]
      have hll := Nat.le_trans (List.length_filter_le (fun l : List Nat => decide (l.length ≤ c)) (allL hs.length)) hla
      generalize (allL hs.length).filter (fun l => decide (l.length ≤ c)) = lots at hPu0 hlots hll
      have hPu : Paired (fun t l => LotAt K (upd H1 D (.lst (us0.map V.ref))) t l) us0 lots := paired_mono hPu0 fun _ _ z => z.same (same_upd hD)
      have hlD : (upd H1 D (.lst (us0.map V.ref))) D = some (.lst (us0.map V.ref)) := upd_same
      have e2 : LamX.ExtN H (upd H1 D (.lst (us0.map V.ref))) := e1.trans (Same.extN (same_upd hD))
      have hT2 : LamX.TabS (upd H1 D (.lst (us0.map V.ref))) PT lamQ := hT1.ext (same_upd hD)
      generalize upd H1 D (.lst (us0.map V.ref)) = Hb at hPu hlD e2 hT2
      -- found, seen, last
      have hAb : HouseAt K Hb a hs := hA.ext e2
      refine ⟨by decide, fun x0 hx0 => ⟨by (show 1 ≤ sizeLine; decide), fun q0 hq0 => ⟨by (show 1 ≤ sizeLine; decide), fun fp hfp => ?_⟩⟩⟩
      have s1 : Same Hb (upd Hb x0 (.tup [])) := same_upd hx0
      have t1 : TupAt (upd Hb x0 (.tup [])) x0 [] := upd_same
      generalize upd Hb x0 (.tup []) = h1 at hq0 hfp s1 t1
      have s2 : Same h1 (upd h1 q0 (.lst [V.ref x0])) := same_upd hq0
      have t2 : LvAt (upd h1 q0 (.lst [V.ref x0])) q0 [[]] := ⟨[x0], upd_same, .cons (s2 _ _ t1) .nil⟩
      generalize upd h1 q0 (.lst [V.ref x0]) = h2 at hfp s2 t2
      have s3 : Same h2 (upd h2 fp (.lst [V.ref q0])) := same_upd hfp
      have t3 : (upd h2 fp (.lst [V.ref q0])) fp = some (.lst ([q0].map V.ref)) := upd_same
      have q0fp : q0 ≠ fp := by
        obtain ⟨ts, z, _⟩ := t2
        exact ne_of_none z hfp
      have nfp : Hb fp = none := Same.free (s1.trans s2) hfp
      generalize upd h2 fp (.lst [V.ref q0]) = h3 at s3 t3
      refine fun sp hsp => ⟨by decide, fun x1 hx1 => ⟨x1, [], rfl, upd_same, ?_, ?_⟩⟩
      · rw [upd_ne (fun z => by rw [← z, upd_same] at hx1; cases hx1)]
        exact upd_same
      have nsp : Hb sp = none := Same.free ((s1.trans s2).trans s3) hsp
      have s4 : Same h3 (upd (upd (upd h3 sp (.dT [])) x1 (.tup [])) sp (.dT [([], .bl true)])) := fun b o e => by
        rw [upd_ne (ne_of_none e hsp)]
        exact same_upd hx1 _ _ (same_upd hsp _ _ e)
      have t4 : (upd (upd (upd h3 sp (.dT [])) x1 (.tup [])) sp (.dT [([], .bl true)])) sp = some (.dT [([], .bl true)]) := upd_same
      generalize upd (upd (upd h3 sp (.dT [])) x1 (.tup [])) sp (.dT [([], .bl true)]) = h4 at s4 t4
      refine ⟨by decide, fun x2 hx2 => ⟨by (show 1 ≤ sizeLine; decide), fun lp0 hlp0 => ⟨by (show 3 ≤ sizeLine; decide), fun tp htp => ?_⟩⟩⟩
      have s5 : Same h4 (upd h4 x2 (.tup [])) := same_upd hx2
      have t5 : TupAt (upd h4 x2 (.tup [])) x2 [] := upd_same
      generalize upd h4 x2 (.tup []) = h5 at hlp0 htp s5 t5
      have s6 : Same h5 (upd h5 lp0 (.lst [V.ref x2])) := same_upd hlp0
      have t6 : LvAt (upd h5 lp0 (.lst [V.ref x2])) lp0 [[]] := ⟨[x2], upd_same, .cons (s6 _ _ t5) .nil⟩
      have lpfp : lp0 ≠ fp := (ne_of_none (s5 _ _ (s4 _ _ t3)) hlp0).symm
      generalize upd h5 lp0 (.lst [V.ref x2]) = h6 at htp s6 t6
      refine ⟨tp, [.ref fp, .ref sp, .ref lp0], rfl, .inl (.inl upd_same), rfl, .ref fp, [.ref sp, .ref lp0], rfl, .ref sp, [.ref lp0], rfl, .ref lp0, [], rfl, rfl, ?_⟩
      have s7 : Same h6 (upd h6 tp (.tup [.ref fp, .ref sp, .ref lp0])) := same_upd htp
      generalize upd h6 tp (.tup [.ref fp, .ref sp, .ref lp0]) = h7 at s7
      have s36 : Same h3 h6 := (s4.trans s5).trans s6
      have start : CH Hb h6 fp sp lp0 [q0] [[[]]] [[]] [[]] := ⟨((s1.trans s2).trans s3).trans s36, s36 _ _ t3, .cons ((t2.same s3).same s36) .nil, ⟨_, s6 _ _ (s5 _ _ t4), rfl⟩, t6, nfp, nsp, lpfp, (fun q hq => by rw [List.mem_singleton.mp hq]; exact q0fp), fun F hF => by rw [List.mem_singleton.mp hF]; decide⟩
      refine ⟨fun m σ H' => ∃ (t : Nat) (Fs : List (List (List Nat))) (L ks : List (List Nat)) (fps : List Addr) (lp : Addr) (v2 v7 v8 : Option V), m = (32 - ks.length) * 2 + (if L = [] then 0 else 1) ∧ σ = [some (.ref a), some (.int c), v2, some (.ref D), some (.ref fp), some (.ref sp), some (.ref lp), v7, v8] ∧
          CH Hb H' fp sp lp fps Fs L ks ∧ CM hs c t Fs L ks,
        ⟨_, 0, _, _, _, _, lp0, none, none, none, rfl, rfl, start.same s7, cm_start⟩, ?_⟩
      rintro m σ H4 ⟨t, Fs, L, ks, fps, lp, v2, v7, v8, rfl, rfl, C, M⟩
      obtain ⟨ts, hlp, hPt⟩ := C.el
      refine ⟨.ref lp, rfl, Nat.zero_le _, fun x9 hx9 => ?_⟩
      have s9 : Same H4 (upd H4 x9 (.lst [])) := same_upd hx9
      refine ⟨lp, x9, ts.map V.ref, L.map So.lotD, rfl, rfl, SqL.up (s9 _ _ hlp), dp_lots (paired_mono hPt fun _ _ z => (z.same s9).lot), shaped_lots L, SqL.up upd_same, _, rfl, ?_⟩
      have Cx := C.same s9
      generalize upd H4 x9 (.lst []) = Hx at s9 Cx
      by_cases hL : L = []
      · subst hL
        cases hPt
        show (if (!([] : List V).isEmpty) = true then _ else _)
        rw [if_neg (by simp)]
        exact ⟨.ref fp, rfl, q Hx fp fps Fs (e2.trans (Same.extN Cx.sm)) (hT2.ext Cx.sm) (fun b o e n => ne_of_none (e2 b o e n) nfp) Cx.ef Cx.lv M.end_ Cx.ln⟩
      · have hne : (!(ts.map V.ref).isEmpty) = true := by
          cases hPt with
          | nil => exact absurd rfl hL
          | cons r t => rfl
        show (if (!(ts.map V.ref).isEmpty) = true then _ else _)
        rw [if_pos hne]
        refine ⟨fun σ' H' => ∃ m', m' < (32 - ks.length) * 2 + (if L = [] then 0 else 1) ∧ ∃ (t : Nat) (Fs : List (List (List Nat))) (L ks : List (List Nat)) (fps : List Addr) (lp : Addr) (v2 v7 v8 : Option V), m' = (32 - ks.length) * 2 + (if L = [] then 0 else 1) ∧ σ' = [some (.ref a), some (.int c), v2, some (.ref D), some (.ref fp), some (.ref sp), some (.ref lp), v7, v8] ∧
            CH Hb H' fp sp lp fps Fs L ks ∧ CM hs c t Fs L ks, fun σ' H' z => z, ?_⟩
        have hPx : Paired (fun t l => TupAt Hx t l) ts L := paired_mono hPt fun _ _ z => z.same s9
        have hlx := s9 _ _ hlp
        -- fresh = {}
        intro dp hdp
        have sdp : Same Hx (upd Hx dp (.dT [])) := same_upd hdp
        refine ⟨.ref lp, rfl, lp, rfl, ⟨_, SqL.up (sdp _ _ hlx)⟩, for_list (K := K) (a := lp) (xs := ts.map V.ref) (fun i σ H5 => ∃ (kvs : List (List Key × V)) (ksf : List (List Nat)) (v2 v8 : Option V), σ = [some (.ref a), some (.int c), v2, some (.ref D), some (.ref fp), some (.ref sp), some (.ref lp), some (.ref dp), v8] ∧
            Same Hx H5 ∧ H5 dp = some (.dT kvs) ∧ kvs.map (·.1) = ksf.map keyL ∧ ksf.Nodup ∧ ∀ S, S ∈ ksf ↔ ∃ S0 ∈ L.take i, ∃ L1 ∈ lots, S = nextL hs S0 L1)
          ⟨[], [], v2, v8, rfl, sdp, upd_same, rfl, List.nodup_nil, fun S => by simp⟩ (fun i σ H5 _ ⟨_, _, _, _, _, z, _⟩ => SqL.up (z _ _ hlx)) ?_ ?_⟩
        · rintro i y σ H5 hi ⟨kvs, ksf, v2, v8, rfl, s5, hd5, hk5, nd5, hm5⟩
          obtain ⟨tc, htc, rfl⟩ := get_refs hi
          obtain ⟨Sc, hSc, hatc⟩ := paired_at hPx htc
          have sbx := Cx.sm.trans s5
          refine ⟨.ref D, rfl, D, rfl, ⟨_, SqL.up (sbx _ _ hlD)⟩, for_list (K := K) (a := D) (xs := us0.map V.ref) (fun j σ H6 => ∃ (kvs : List (List Key × V)) (ksf : List (List Nat)) (v2 : Option V), σ = [some (.ref a), some (.int c), v2, some (.ref D), some (.ref fp), some (.ref sp), some (.ref lp), some (.ref dp), some (.ref tc)] ∧
              Same Hx H6 ∧ H6 dp = some (.dT kvs) ∧ kvs.map (·.1) = ksf.map keyL ∧ ksf.Nodup ∧ ∀ S, S ∈ ksf ↔ (∃ S0 ∈ L.take i, ∃ L1 ∈ lots, S = nextL hs S0 L1) ∨ ∃ L1 ∈ lots.take j, S = nextL hs Sc L1)
            ⟨kvs, ksf, v2, rfl, s5, hd5, hk5, nd5, fun S => by rw [hm5]; simp⟩ (fun j σ H6 _ ⟨_, _, _, _, z, _⟩ => SqL.up ((Cx.sm.trans z) _ _ hlD)) ?_ ?_⟩
          · rintro j y σ H6 hj ⟨kvs, ksf, v2, rfl, s6, hd6, hk6, nd6, hm6⟩
            obtain ⟨tl, htl, rfl⟩ := get_refs hj
            obtain ⟨Ll, hLl, hatl⟩ := paired_at hPu htl
            have sbx6 := Cx.sm.trans s6
            have oks : ∀ S ∈ ksf, LotOk hs.length S := fun S hS => by
              rcases (hm6 S).mp hS with ⟨S0, _, L1, _, e⟩ | ⟨L1, _, e⟩ <;> (rw [e]; exact nextL_ok _ _ _)
            have hkl : kvs.length ≤ 32 := by
              have := congrArg List.length hk6
              rw [List.length_map, List.length_map] at this
              rw [this]
              exact lots_len hn5 nd6 oks
            refine ⟨.ref dp, rfl, .ref a, rfl, .ref tc, rfl, .ref tl, rfl, a, tc, tl, hs, Sc, Ll, rfl, hAb.same sbx6, ok, (hatc.same s6).lot, hatl.same sbx6, fun H7 p7 sm7 hp7 => ?_⟩
            have hd7 := sm7 _ _ hd6
            refine ⟨dp, _, rfl, DPut.t (k := keyL (nextL hs Sc Ll)) hd7 (by rw [keyL_V]; exact hp7) (small1000 (by omega)), ?_⟩
            obtain ⟨ksf', a1, a2, a3⟩ := putG_keys (f := keyL) keyL_inj (v := nextL hs Sc Ll) (x := .bl true) hk6
            refine ⟨_, ksf', _, rfl, fun b o e => ?_, upd_same, a1, a3 nd6, fun S => ?_⟩
            · rw [upd_ne (ne_of_none e hdp)]
              exact sm7 _ _ (s6 _ _ e)
            · rw [a2, hm6, take_succ hLl]
              constructor
              · rintro ((z | ⟨L1, h1, e⟩) | e)
                · exact .inl z
                · exact .inr ⟨L1, List.mem_append_left _ h1, e⟩
                · exact .inr ⟨Ll, List.mem_append_right _ (List.mem_singleton.mpr rfl), e⟩
              · rintro (z | ⟨L1, h1, e⟩)
                · exact .inl (.inl z)
                · rcases List.mem_append.mp h1 with z | z
                  · exact .inl (.inr ⟨L1, z, e⟩)
                  · rw [List.mem_singleton.mp z] at e
                    exact .inr e
          · rintro σ H6 ⟨kvs, ksf, v2, rfl, s6, hd6, hk6, nd6, hm6⟩
            refine ⟨kvs, ksf, _, _, rfl, s6, hd6, hk6, nd6, fun S => ?_⟩
            have hlen : us0.length = lots.length := Paired.length hPu
            rw [hm6, take_succ hSc, List.length_map, hlen, List.take_length]
            constructor
            · rintro (⟨S0, h1, z⟩ | ⟨L1, h1, e⟩)
              · exact ⟨S0, List.mem_append_left _ h1, z⟩
              · exact ⟨Sc, List.mem_append_right _ (List.mem_singleton.mpr rfl), L1, h1, e⟩
            · rintro ⟨S0, h1, L1, h2, e⟩
              rcases List.mem_append.mp h1 with z | z
              · exact .inl ⟨S0, z, L1, h2, e⟩
              · rw [List.mem_singleton.mp z] at e
                exact .inr ⟨L1, h2, e⟩
        · rintro σ H5 ⟨kvs, ksf, v2, v8, rfl, s5, hd5, hk5, nd5, hm5⟩
          have hlen : ts.length = L.length := Paired.length hPt
          rw [List.length_map, hlen, List.take_length] at hm5
          have C5 := Cx.same s5
          -- last = ..
          refine ⟨.ref dp, rfl, dp, kvs, rfl, .inl hd5, fun l2 bs hl2 hK => ?_⟩
          have hPk := isKeys_lots hK hk5
          have sl2 : Same H5 (upd H5 l2 (.lst (bs.map V.ref))) := same_upd hl2
          refine ⟨l2, bs, ksf, rfl, SqL.up upd_same, paired_mono hPk fun _ _ z => (z.same sl2).lot, fun ts' sp2 hperm hsp2 => ?_⟩
          obtain ⟨ls', hPl, hpl⟩ := paired_perm hperm hPk
          have sG : Same H5 (upd (upd H5 l2 (.lst (bs.map V.ref))) sp2 (.lst (ts'.map V.ref))) := sl2.trans (same_upd hsp2)
          have hG : (upd (upd H5 l2 (.lst (bs.map V.ref))) sp2 (.lst (ts'.map V.ref))) sp2 = some (.lst (ts'.map V.ref)) := upd_same
          generalize upd (upd H5 l2 (.lst (bs.map V.ref))) sp2 (.lst (ts'.map V.ref)) = G at sG hG
          have hPG : Paired (fun t l => TupAt G t l) ts' ls' := paired_mono hPl fun _ _ z => z.same sG
          have CG := C5.same sG
          obtain ⟨kvss, hks, hkk⟩ := CG.es
          have hksf : ksf.length ≤ 32 := lots_len hn5 nd5 fun S hS => by
            obtain ⟨S0, _, L1, _, e⟩ := (hm5 S).mp hS
            rw [e]
            exact nextL_ok _ _ _
          have hlt' : ls'.length ≤ 32 := by rw [hpl.length_eq]; exact hksf
          refine ⟨sp2, rfl, ⟨_, SqL.up hG⟩, fun D2 hD2 => ?_⟩
          have sD2 : ∀ us : List Addr, Same G (upd G D2 (.lst (us.map V.ref))) := fun us => same_upd hD2
          refine lc_list (K := K) (a := sp2) (xs := ts'.map V.ref) (fun j H6 => ∃ us : List Addr, H6 = upd G D2 (.lst (us.map V.ref)) ∧ Paired (fun t l => TupAt G t l) us ((ls'.take j).filter fun S => !decide (S ∈ ks)))
            ⟨[], rfl, .nil⟩ (fun j H6 _ h6 => ?_) ?_ ?_
          · obtain ⟨us, rfl, _⟩ := h6
            exact SqL.up (sD2 us _ _ hG)
          · rintro j y H6 hj ⟨us, rfl, hPus⟩
            obtain ⟨tl, htl, rfl⟩ := get_refs hj
            obtain ⟨S, hS, hat⟩ := paired_at hPG htl
            refine ⟨rfl, .ref tl, rfl, .ref sp, rfl, sp, _, rfl, DGet.t (k := keyL S) (sD2 us _ _ hks) (by rw [keyL_V]; exact sD2 us _ _ hat), _, rfl, ?_⟩
            show (if (!(valV kvss (keyL S)).isSome) = true then _ else _)
            rw [valG keyL_inj hkk]
            refine ite2 (fun hb => ?_) (fun hb => ?_)
            · refine ⟨.ref tl, rfl, _, upd_same, ?_, us ++ [tl], ?_, ?_⟩
              · have h1 : us.length = _ := Paired.length hPus
                have h2 := List.length_filter_le (fun S : List Nat => !decide (S ∈ ks)) (ls'.take j)
                rw [List.length_take] at h2
                rw [List.length_map]
                exact small1000 (by omega)
              · rw [upd_upd, List.map_append]
                rfl
              · have e3 : [S].filter (fun S => !decide (S ∈ ks)) = [S] := by
                  rw [List.filter_cons, if_pos (by simpa using hb)]
                  rfl
                rw [take_succ hS, List.filter_append, e3]
                exact Cb.paired_snoc (F := fun t l => TupAt G t l) hat hPus
            · refine ⟨us, rfl, ?_⟩
              have e3 : [S].filter (fun S => !decide (S ∈ ks)) = [] := by
                rw [List.filter_cons, if_neg (by simpa using hb)]
                rfl
              rw [take_succ hS, List.filter_append, e3, List.append_nil]
              exact hPus
          · rintro H6 ⟨us, rfl, hPus⟩
            have hlts : ts'.length = ls'.length := Paired.length hPl
            rw [List.length_map, hlts, List.take_length] at hPus
            have hL' : ∀ S, S ∈ ls'.filter (fun S => !decide (S ∈ ks)) ↔ S ∈ ksf ∧ S ∉ ks := fun S => by
              rw [List.mem_filter, hpl.mem_iff]
              simp
            have hll' := Nat.le_trans (List.length_filter_le (fun S : List Nat => !decide (S ∈ ks)) ls') hlt'
            generalize ls'.filter (fun S => !decide (S ∈ ks)) = L' at hPus hL' hll'
            have CD := CG.same (sD2 us)
            have hD2at : (upd G D2 (.lst (us.map V.ref))) D2 = some (.lst (us.map V.ref)) := upd_same
            have hPD : Paired (fun t l => TupAt (upd G D2 (.lst (us.map V.ref))) t l) us L' := paired_mono hPus fun _ _ z => z.same (sD2 us)
            have D2fp : D2 ≠ fp := (ne_of_none CG.ef hD2).symm
            generalize upd G D2 (.lst (us.map V.ref)) = G3 at CD hD2at hPD
            obtain ⟨kvs3, hk3, hkk3⟩ := CD.es
            -- for lot in last
            refine ⟨.ref D2, rfl, D2, rfl, ⟨_, SqL.up hD2at⟩, for_list (K := K) (a := D2) (xs := us.map V.ref) (fun i σ H7 => ∃ (kvs : List (List Key × V)) (ksn : List (List Nat)) (v2 : Option V), σ = [some (.ref a), some (.int c), v2, some (.ref D), some (.ref fp), some (.ref sp), some (.ref D2), some (.ref dp), v8] ∧
                (∀ b o, b ≠ sp → G3 b = some o → H7 b = some o) ∧ H7 sp = some (.dT kvs) ∧ kvs.map (·.1) = ksn.map keyL ∧ ksn.Nodup ∧ ∀ S, S ∈ ksn ↔ S ∈ ks ∨ S ∈ L'.take i)
              ⟨kvs3, ks, v2, rfl, fun b o _ e => e, hk3, hkk3, M.nd, fun S => by simp⟩ (fun i σ H7 _ ⟨_, _, _, _, z, _⟩ => SqL.up (z _ _ (ne_of hD2at hk3 (by intro y; cases y)) hD2at)) ?_ ?_⟩
            · rintro i y σ H7 hi ⟨kvs, ksn, v2, rfl, s7, hd7, hk7, nd7, hm7⟩
              obtain ⟨tl, htl, rfl⟩ := get_refs hi
              obtain ⟨S, hS, hat⟩ := paired_at hPD htl
              have oks : ∀ S ∈ ksn, LotOk hs.length S := fun S hS => by
                rcases (hm7 S).mp hS with z | z
                · obtain ⟨j, _, hf⟩ := (M.kk S).mp z
                  exact rchL_ok hf.1
                · obtain ⟨S0, _, L1, _, e⟩ := (hm5 S).mp ((hL' S).mp (List.mem_of_mem_take z)).1
                  rw [e]
                  exact nextL_ok _ _ _
              have hkl : kvs.length ≤ 32 := by
                have := congrArg List.length hk7
                rw [List.length_map, List.length_map] at this
                rw [this]
                exact lots_len hn5 nd7 oks
              have hat7 : H7 tl = some (.tup (lotV S)) := s7 _ _ (ne_of hat hk3 (by intro y; cases y)) hat
              refine ⟨.ref sp, rfl, .ref tl, rfl, sp, _, rfl, DPut.t (k := keyL S) hd7 (by rw [keyL_V]; exact hat7) (small1000 (by omega)), ?_⟩
              obtain ⟨ksn', a1, a2, a3⟩ := putG_keys (f := keyL) keyL_inj (v := S) (x := .bl true) hk7
              refine ⟨_, ksn', _, rfl, fun b o hb e => ?_, upd_same, a1, a3 nd7, fun S' => ?_⟩
              · rw [upd_ne hb]
                exact s7 _ _ hb e
              · rw [a2, hm7, take_succ hS, List.mem_append, List.mem_singleton, or_assoc]
            · rintro σ H7 ⟨kvs, ksn, v2, rfl, s7, hd7, hk7, nd7, hm7⟩
              have hlu : us.length = L'.length := Paired.length hPD
              rw [List.length_map, hlu, List.take_length] at hm7
              have fpsp : fp ≠ sp := ne_of CD.ef hk3 (by intro y; cases y)
              have hf7 := s7 _ _ fpsp CD.ef
              have M' := M.step hL hlots hm5 hL' hm7 nd7
              have hfl : fps.length = Fs.length := Paired.length CD.lv
              have hkl := M.ks_len hn5
              have hkl' := M'.ks_len hn5
              have htt := M.tt
              have hfsl := M.len
              refine ⟨.ref fp, rfl, .inl ⟨rfl, _, SqL.up hf7⟩, .ref D2, rfl, fp, _, _, rfl, rfl, hf7, by rw [List.length_map]; exact small1000 (by omega), ?_⟩
              have k8 : ∀ b o, b ≠ sp → b ≠ fp → G3 b = some o → (upd H7 fp (.lst (fps.map V.ref ++ [V.ref D2]))) b = some o := fun b o h1 h2 e => by
                rw [upd_ne h2]
                exact s7 _ _ h1 e
              refine ⟨_, ?_, t + 1, Fs ++ [L'], L', ksn, fps ++ [D2], D2, _, _, _, rfl, rfl, ⟨fun b o e => ?_, ?_, ?_, ⟨kvs, ?_, hk7⟩, ?_, nfp, nsp, D2fp, (fun q hq => ?_), fun F hF => ?_⟩, M'⟩
              · rw [if_neg hL]
                by_cases hL2 : L' = []
                · rw [if_pos hL2]
                  have := nodup_len M.nd (m := ksn) fun S hS => (hm7 S).mpr (.inl hS)
                  omega
                · rw [if_neg hL2]
                  have := M.grow (fun S hS => ((hL' S).mp hS).2) hm7 hL2
                  omega
              · exact k8 b o (ne_of_none e nsp) (ne_of_none e nfp) (CD.sm _ _ e)
              · rw [upd_same, List.map_append]
                rfl
              · refine Cb.paired_snoc (F := fun q ls => LvAt (upd H7 fp (.lst (fps.map V.ref ++ [V.ref D2]))) q ls) ?_ (paired_mem CD.lv fun q ls hq z => z.off CD.ef hk3 (CD.df q hq) k8)
                exact LvAt.off ⟨us, hD2at, hPD⟩ CD.ef hk3 D2fp k8
              · rw [upd_ne fpsp.symm]
                exact hd7
              · exact LvAt.off ⟨us, hD2at, hPD⟩ CD.ef hk3 D2fp k8
              · rcases List.mem_append.mp hq with z | z
                · exact CD.df q z
                · rw [List.mem_singleton.mp z]
                  exact D2fp
              · rcases List.mem_append.mp hF with z | z
                · exact CD.ln F z
                · rw [List.mem_singleton.mp z]
                  exact hll'
end
end N

set_option Elab.async false
set_option linter.all false
set_option maxRecDepth 100000
set_option maxHeartbeats 2000000
namespace N
open Cb (lotV combs combsOf combsOf_sub)
open PySem PySem.Spec PyProof.Rows L2
def dayV : Option Nat → V
  | none => .non
  | some d => .int (d : Int)
def missP (S part : List Nat) : List Nat := part.filter fun s => !decide (s ∈ S)
theorem missP_emp {S part : List Nat} : (lotV (missP S part)).isEmpty = part.all fun s => decide (s ∈ S) := by
  induction part with
  | nil => rfl
  | cons s part ih =>
    unfold missP at ih ⊢
    rw [List.filter_cons, List.all_cons]
    by_cases h1 : s ∈ S
    · simp only [h1, decide_true, Bool.not_true, Bool.false_eq_true, if_false, Bool.true_and]
      exact ih
    · simp only [h1, decide_false, Bool.not_false, if_true, Bool.false_and]
      rfl
section
variable {P : Program} {w : World} {K : PySem.W.Frag} {mg : Str → Option Value} {base : Heap}
def sp_lholds (K : PySem.W.Frag) : Sp := fun vs H Q _ => ∃ (b g : Addr) (S goal : List Nat), vs = [.ref b, .ref g] ∧ LotAt K H b S ∧ LotAt K H g goal ∧ goal.length ≤ 1000 ∧ ∀ H', Same H H' → Q (.bl (goal.all fun s => decide (s ∈ S))) H'
theorem sc_lholds : FnScope ["lot", "part", "one"] ["lot", "part"] (defScope s__law_holds) := ⟨rfl, rfl, rfl, by decide +kernel, rfl, by decide +kernel, by decide +kernel⟩
theorem ok_lholds (T : Txt K mg) : FnOk P w K mg base CX0 1 T.d__law_holds.f T.d__law_holds.fd ["lot", "part"] (sp_lholds K) := by
  refine T.d__law_holds.F.ok sc_lholds (fun vs H Q E h => ?_) (fun cdv A outer s H vs Q E hr h => ?_)
  · obtain ⟨b, g, S, goal, rfl, _⟩ := h
    rfl
  · obtain ⟨b, g, S, goal, rfl, hB, hG, hgl, q⟩ := h
    have nd := sc_lholds.nd
    refine ⟨_, pss_one (ps_ret (pe_cmpR (op_emp hr.units) (pe_lc (own := [("one", 2)]) (g := gName 2) rfl nd (pi_tup (pv 1))
        (blkOk_by (N := ["lot", "part", "one"]) (sc := defScope s__law_holds) (by decide +kernel)) (fun _ _ _ _ _ => pg_name (i := 2) nd rfl (.inl rfl))
        (fun _ _ _ _ _ => pts_one (pt_cmpR (o_notIn K) (pv 2) (pv 0) (by rfl)))
        (fun _ _ _ _ _ => pv 2)) (pe_lst pa_nil) (nomark _))), ?_⟩
    refine ⟨.ref g, rfl, g, rfl, ⟨_, hG⟩, fun D hD => lc_tup (K := K) (a := g) (xs := lotV goal) (fun j H4 => H4 = upd H D (.lst (lotV (missP S (goal.take j)))))
      rfl (fun j H4 _ e => by rw [e]; exact hG.same (same_upd hD)) ?_ ?_⟩
    · rintro j y H4 hj rfl
      obtain ⟨k, hk, rfl⟩ := get_lotV hj
      have smD : Same H (upd H D (.lst (lotV (missP S (goal.take j))))) := same_upd hD
      have em : missP S (goal.take (j + 1)) = missP S (goal.take j) ++ missP S [k] := by rw [take_succ hk]; unfold missP; rw [List.filter_append]
      refine ⟨rfl, .int (k : Int), rfl, .ref b, rfl, b, lotV S, rfl, .inr (hB.same smD), rfl, flat_lot S, ?_⟩
      rw [inV_lot]
      refine ⟨!decide (k ∈ S), rfl, ?_⟩
      by_cases h1 : k ∈ S
      · rw [decide_eq_true h1]
        refine iteF ?_
        show _ = _
        have e2 : missP S [k] = [] := by unfold missP; rw [List.filter_cons_of_neg (by simp [h1])]; rfl
        rw [em, e2, List.append_nil]
      · rw [decide_eq_false h1]
        refine iteT ⟨.int (k : Int), rfl, _, upd_same, ?_, ?_⟩
        · rw [List.length_map]
          have h3 : (missP S (goal.take j)).length ≤ (goal.take j).length := List.length_filter_le _ _
          have h4 : (goal.take j).length ≤ goal.length := by rw [List.length_take]; exact Nat.min_le_right _ _
          exact small1000 (by omega)
        · show upd _ _ _ = _
          have e2 : missP S [k] = [k] := by unfold missP; rw [List.filter_cons_of_pos (by simp [h1])]; rfl
          rw [upd_upd, em, e2]
          unfold lotV
          rw [List.map_append]
          rfl
    · rintro H4 rfl
      rw [List.length_map, List.take_length]
      refine ⟨Nat.zero_le _, fun e0 he0 => ?_⟩
      have smD : Same H (upd H D (.lst (lotV (missP S goal)))) := same_upd hD
      refine ⟨D, e0, lotV (missP S goal), natD (missP S goal), rfl, rfl, SqL.up (same_upd he0 _ _ upd_same), dp_nats _, shaped_nats _, SqL.up upd_same, ?_⟩
      show Q (.bl (lotV (missP S goal)).isEmpty) _
      rw [missP_emp]
      exact q _ (smD.trans (same_upd he0))
def sp_days (K : PySem.W.Frag) (PT : Addr) : Sp := fun vs H Q _ => ∃ (a g : Addr) (h : List (List Nat)) (c : Nat) (goal : List Nat), vs = [.ref a, .int c, .ref g] ∧ HouseAt K H a h ∧ HouseOk h ∧ h.length ≤ 5 ∧ LotAt K H g goal ∧ goal.length ≤ 1000 ∧ LamX.TabS H PT lamQ ∧
  ∀ (H' : Hp) (o : Option Nat), LamX.ExtN H H' → LamX.TabS H' PT lamQ → IsDays h c goal o → Q (dayV o) H'
theorem sc_days : FnScope ["house", "coins", "goal", "day", "some", "lot"] ["house", "coins", "goal"] (defScope s__law_days) := ⟨rfl, rfl, rfl, by decide +kernel, rfl, by decide +kernel, by decide +kernel⟩
def onesV (n : Nat) : List V := lotV (List.replicate n 1)
theorem ok_days {c PT : Addr} (T : Txt K mg) (hc : T.d__law_lots.fd.code = .ref c) (TB : LamX.TabB base mg c PT) : FnOk P w K mg base CX0 4 T.d__law_days.f T.d__law_days.fd ["house", "coins", "goal"] (sp_days K PT) := by
  have G1 := ok_lholds (P := P) (w := w) (base := base) T
  have G2 := ok_covered (P := P) (w := w) (base := base) T hc TB
  refine T.d__law_days.F.ok sc_days (fun vs H Q E h => ?_) (fun cdv A outer s H vs Q E hr h => ?_)
  · obtain ⟨a, g, h, c, goal, rfl, _⟩ := h
    rfl
  · obtain ⟨a, g, hs, c, goal, rfl, hA, ok, hn5, hG, hgl, hT, q⟩ := h
    have nd := sc_days.nd
    have hr1 : Room 1 _ := hr.mono (by decide)
    refine ⟨_, pss_cons (ps_for PassesOwn.never rfl (pi_enum (by rfl) T.n_enumerate (pa_cons (pe_call G2 hr (by rfl) T.d__law_covered.g T.d__law_covered.F.kp T.d__law_covered.b .nil pass0 (pa_cons (pv 0) (pa_cons (pv 1) pa_nil))) pa_nil)) (pg_tup rfl (pgs_cons (pg_name (i := 3) nd rfl (.inl rfl)) (pgs_cons (pg_name (i := 4) nd rfl (.inl rfl)) pgs_nil)))
        (pss_one (ps_if (pt_cmpR (op_nemp hr.units) (pe_lc (own := [("lot", 5)]) (g := gName 5) rfl nd (pi_list (pv 4))
            (blkOk_by (N := ["house", "coins", "goal", "day", "some", "lot"]) (sc := defScope s__law_days) (by decide +kernel)) (fun _ _ _ _ _ => pg_name (i := 5) nd rfl (.inl rfl))
            (fun _ _ _ _ _ => pts_one (pt_val (pe_call G1 hr1 (by rfl) T.d__law_holds.g T.d__law_holds.F.kp T.d__law_holds.b .nil pass0 (pa_cons (pv 5) (pa_cons (pv 2) pa_nil)))))
            (fun _ _ _ _ _ => pe_int)) (pe_lst pa_nil) (nomark _))
          (pss_one (ps_ret (pv 3))) pss_nil)))
      (pss_one (ps_ret pe_non)), ?_⟩
    refine ⟨.ref a, rfl, .int c, rfl, a, hs, c, rfl, hA, ok, hn5, hT, fun H1 p fps Fs e1 hT1 hp1 hl1 hP1 LV LN => ?_⟩
    have hlen : fps.length = Fs.length := Paired.length hP1
    refine ⟨p, _, rfl, SqL.up hl1, for_enumL (K := K) (a := p) (xs := fps.map V.ref) (fun i σ H2 => Same H1 H2 ∧ (∀ (j : Nat) (F : List (List Nat)), j < i → Fs[j]? = some F → ¬ ∃ S ∈ F, ∀ k ∈ goal, k ∈ S) ∧ ∃ v3 v4 v5 : Option V, σ = [some (.ref a), some (.int c), some (.ref g), v3, v4, v5])
      ⟨Same.refl _, fun j F hj => by omega, none, none, none, rfl⟩ (fun i σ H2 _ h3 => SqL.up (h3.1 _ _ hl1)) ?_ ?_⟩
    · rintro i x T2 σ H2 hi ⟨sm, hno, v3, v4, v5, rfl⟩ hT2
      obtain ⟨qa, hqa, rfl⟩ := get_refs hi
      obtain ⟨F, hF, ts, hts, hPt⟩ := paired_at hP1 hqa
      have hFl := LN F (List.mem_of_getElem? hF)
      refine ⟨T2, [.int (i : Nat), .ref qa], rfl, .inl (.inl upd_same), rfl, .int (i : Nat), [.ref qa], rfl, .ref qa, [], rfl, rfl, ?_⟩
      have sm3 : Same H1 (upd H2 T2 (.tup [.int (i : Nat), .ref qa])) := Same.trans sm (same_upd hT2)
      generalize upd H2 T2 (.tup [.int (i : Nat), .ref qa]) = H3 at sm3
      have htsl : ts.length = F.length := Paired.length hPt
      refine ⟨.ref qa, rfl, qa, rfl, ⟨_, SqL.up (sm3 _ _ hts)⟩, fun D hD => lc_list (K := K) (a := qa) (xs := ts.map V.ref) (fun j H4 => ∃ n : Nat, n ≤ j ∧ (n = 0 ↔ ∀ S ∈ F.take j, ¬ ∀ k ∈ goal, k ∈ S) ∧ Same H3 H4 ∧ H4 D = some (.lst (onesV n)))
        ⟨0, Nat.le_refl _, by simp, same_upd hD, upd_same⟩ (fun j H4 _ ⟨_, _, _, z, _⟩ => SqL.up (z _ _ (sm3 _ _ hts))) ?_ ?_⟩
      · rintro j y H4 hj ⟨n, hn, hn0, sm4, hd4⟩
        obtain ⟨t, ht, rfl⟩ := get_refs hj
        obtain ⟨S, hS, hat⟩ := paired_at hPt ht
        have hjl : j < ts.length := (List.getElem?_eq_some_iff.mp ht).1
        have hG4 : LotAt K H4 g goal := (hG.ext e1).same (sm3.trans sm4)
        refine ⟨rfl, .ref t, rfl, .ref g, rfl, t, g, S, goal, rfl, (hat.same (sm3.trans sm4)).lot, hG4, hgl, fun H5 sm5 => ⟨_, rfl, ?_⟩⟩
        refine ite2 (fun hb => ?_) (fun hb => ?_)
        · refine ⟨_, sm5 _ _ hd4, ?_, n + 1, by omega, ?_, fun b o e => ?_, ?_⟩
          · unfold onesV
            rw [List.length_map, List.length_replicate]
            exact small1000 (by omega)
          · constructor
            · intro z; omega
            · intro z
              have := z S (by rw [take_succ hS]; exact List.mem_append_right _ (List.mem_singleton.mpr rfl))
              exact absurd (fun k hk => by simpa using List.all_eq_true.mp hb k hk) this
          · rw [upd_ne (ne_of_none e hD)]
            exact sm5 _ _ (sm4 _ _ e)
          · rw [upd_same]
            unfold onesV lotV
            rw [List.replicate_succ', List.map_append]
            rfl
        · refine ⟨n, by omega, ?_, sm4.trans sm5, sm5 _ _ hd4⟩
          rw [hn0, take_succ hS]
          constructor
          · intro z S' hS'
            rcases List.mem_append.mp hS' with y | y
            · exact z S' y
            · rw [List.mem_singleton.mp y]
              intro hall
              exact hb (List.all_eq_true.mpr fun k hk => decide_eq_true (hall k hk))
          · intro z S' hS'
            exact z S' (List.mem_append_left _ hS')
      · rintro H4 ⟨n, hn, hn0, sm4, hd4⟩
        rw [List.length_map, htsl, List.take_length] at hn0
        refine ⟨Nat.zero_le _, fun e0 he0 => ⟨D, e0, onesV n, natD (List.replicate n 1), rfl, rfl, SqL.up (same_upd he0 _ _ hd4), dp_nats _, shaped_nats _, SqL.up upd_same, _, rfl, ?_⟩⟩
        have sm9 : Same H1 (upd H4 e0 (.lst [])) := (sm3.trans sm4).trans (same_upd he0)
        show (if (!(onesV n).isEmpty) = true then _ else _)
        cases n with
        | zero =>
          rw [if_neg (by simp [onesV])]
          refine ⟨sm9, fun j F' hj hF' => ?_, _, _, _, rfl⟩
          rcases Nat.lt_or_ge j i with z | z
          · exact hno j F' z hF'
          · have : j = i := by omega
            subst this
            have e : F' = F := Option.some.inj (hF'.symm.trans hF)
            subst e
            rintro ⟨S, hS, hall⟩
            exact (hn0.mp rfl) S hS hall
        | succ n =>
          rw [if_pos (by simp [onesV, List.replicate_succ])]
          refine ⟨_, rfl, ?_⟩
          have hex : ∃ S ∈ F, ∀ k ∈ goal, k ∈ S := Classical.byContradiction fun z => by
            have := hn0.mpr fun S hS hall => z ⟨S, hS, hall⟩
            omega
          exact q _ (some i) (e1.trans (Same.extN sm9)) (hT1.ext sm9) (isDays_some LV hF hex fun j F' hj hF' => hno j F' hj hF')
    · rintro σ H2 ⟨sm, hno, v3, v4, v5, rfl⟩
      rw [List.length_map, hlen] at hno
      exact q _ none (e1.trans (Same.extN sm)) (hT1.ext sm) (isDays_no LV fun j F hF => hno j F (List.getElem?_eq_some_iff.mp hF).1 hF)
def sp_number (K : PySem.W.Frag) (PT : Addr) : Sp := fun vs H Q _ => ∃ (a g : Addr) (h : List (List Nat)) (goal : List Nat), vs = [.ref a, .ref g] ∧ HouseAt K H a h ∧ HouseOk h ∧ h.length ≤ 5 ∧ LotAt K H g goal ∧ LotOk h.length goal ∧ LamX.TabS H PT lamQ ∧
  ∀ (H' : Hp) (c : Nat), LamX.ExtN H H' → LamX.TabS H' PT lamQ → IsNum h goal c → c ≤ h.length → Q (.int (c : Int)) H'
theorem sc_number : FnScope ["house", "goal", "coins"] ["house", "goal"] (defScope s__law_number) := ⟨rfl, rfl, rfl, by decide +kernel, rfl, by decide +kernel, by decide +kernel⟩
/-- the numbers of coins, up to a bound, that can cover a goal -/
noncomputable def cans (h : List (List Nat)) (goal : List Nat) (n : Nat) : List Nat := open Classical in (List.range n).filter fun c => decide (Can h c goal)
theorem cans_succ {h : List (List Nat)} {goal : List Nat} {n : Nat} : (Can h n goal → cans h goal (n + 1) = cans h goal n ++ [n]) ∧ (¬ Can h n goal → cans h goal (n + 1) = cans h goal n) := by
  unfold cans
  rw [List.range_succ, List.filter_append]
  constructor
  · intro z
    rw [List.filter_cons_of_pos (by simp [z])]
    rfl
  · intro z
    rw [List.filter_cons_of_neg (by simp [z])]
    simp
theorem cans_head {h : List (List Nat)} {goal : List Nat} {n : Nat} (hc : ∃ c, c < n ∧ Can h c goal) : ∃ c r, cans h goal n = c :: r ∧ IsNum h goal c ∧ c < n := by
  induction n with
  | zero => obtain ⟨c, hc, _⟩ := hc; omega
  | succ n ih =>
    rcases Classical.em (∃ c, c < n ∧ Can h c goal) with z | z
    · obtain ⟨c, r, e, hn, hlt⟩ := ih z
      rcases Classical.em (Can h n goal) with y | y
      · exact ⟨c, r ++ [n], by rw [cans_succ.1 y, e]; rfl, hn, by omega⟩
      · exact ⟨c, r, by rw [cans_succ.2 y, e], hn, by omega⟩
    · obtain ⟨c, hlt, hcan⟩ := hc
      have ec : c = n := by
        rcases Nat.lt_or_ge c n with y | y
        · exact absurd ⟨c, y, hcan⟩ z
        · omega
      subst ec
      refine ⟨c, [], ?_, ⟨hcan, fun c' hc' hcan' => z ⟨c', hc', hcan'⟩⟩, by omega⟩
      rw [cans_succ.1 hcan]
      have e0 : cans h goal c = [] := by
        unfold cans
        rw [List.filter_eq_nil_iff]
        intro x hx
        simp only [decide_eq_true_eq]
        exact fun y => z ⟨x, List.mem_range.mp hx, y⟩
      rw [e0]
      rfl
theorem cans_len (h : List (List Nat)) (goal : List Nat) (n : Nat) : (cans h goal n).length ≤ n := by
  unfold cans
  have := List.length_filter_le (fun c => @decide (Can h c goal) (Classical.propDecidable _)) (List.range n)
  rw [List.length_range] at this
  exact this
theorem ok_number {c PT : Addr} (T : Txt K mg) (hc : T.d__law_lots.fd.code = .ref c) (TB : LamX.TabB base mg c PT) : FnOk P w K mg base CX0 5 T.d__law_number.f T.d__law_number.fd ["house", "goal"] (sp_number K PT) := by
  have G1 := ok_days (P := P) (w := w) (base := base) T hc TB
  refine T.d__law_number.F.ok sc_number (fun vs H Q E h => ?_) (fun cdv A outer s H vs Q E hr h => ?_)
  · obtain ⟨a, g, h, goal, rfl, _⟩ := h
    rfl
  · obtain ⟨a, g, hs, goal, rfl, hA, ok, hn5, hG, okG, hT, q⟩ := h
    have nd := sc_number.nd
    refine ⟨_, pss_one (ps_ret (pe_ix ix_list (pe_lc (own := [("coins", 2)]) (g := gName 2) rfl nd (pi_range1 (by rfl) T.n_range (pa_cons (pe_op op_add (pe_callB call_len_seq (by rfl) T.n_len PySem.boot_len (pa_cons (pv 0) pa_nil)) pe_int) pa_nil))
        (blkOk_by (N := ["house", "goal", "coins"]) (sc := defScope s__law_number) (by decide +kernel)) (fun _ _ _ _ _ => pg_name (i := 2) nd rfl (.inl rfl))
        (fun _ _ _ _ _ => pts_one (pt_cmpR op_notN (pe_call G1 hr (by rfl) T.d__law_days.g T.d__law_days.F.kp T.d__law_days.b .nil pass0 (pa_cons (pv 0) (pa_cons (pv 2) (pa_cons (pv 1) pa_nil)))) pe_non (nomark _)))
        (fun _ _ _ _ _ => pv 2)) pe_int (fun _ _ => rfl))), ?_⟩
    obtain ⟨rs, hR, hP⟩ := id hA
    have hlv : (rs.map V.ref).length = hs.length := by rw [List.length_map]; exact Paired.length hP
    refine ⟨.ref a, rfl, a, _, rfl, .inr hR, _, 1, rfl, rfl, ?_⟩
    have en : ((((rs.map V.ref).length : Nat) : Int) + 1).toNat = hs.length + 1 := by rw [hlv]; omega
    refine ⟨_, rfl, by rw [hlv]; omega, by rw [hlv]; omega, fun D hD => ?_⟩
    show ∃ W, _
    rw [en]
    refine lc_range (lo := 0) (n := hs.length + 1) (fun i H2 => LamX.ExtN H H2 ∧ LamX.TabS H2 PT lamQ ∧ H2 D = some (.lst (lotV (cans hs goal i))))
      ⟨Same.extN (same_upd hD), hT.ext (same_upd hD), by rw [upd_same]; rfl⟩ ?_ ?_
    · rintro i H2 hi ⟨e2, hT2, hd2⟩
      refine ⟨rfl, .ref a, rfl, .int (0 + (i : Int)), rfl, .ref g, rfl, a, g, hs, i, goal, by rw [Int.zero_add]; rfl, hA.ext e2, ok, hn5, hG.ext e2, by have := okG.len; omega, hT2, fun H5 o e5 hT5 hdy => ?_⟩
      have hd5 := e5 _ _ hd2 (fun ps z => by cases z)
      have hz := isDays_none hdy
      refine ⟨rfl, _, rfl, ?_⟩
      cases o with
      | none =>
        have hno : ¬ Can hs i goal := hz.mp rfl
        show (if (!decide (V.non = V.non)) = true then _ else _)
        rw [if_neg (by simp)]
        exact ⟨e2.trans e5, hT5, by rw [cans_succ.2 hno]; exact hd5⟩
      | some d =>
        have hcan : Can hs i goal := Classical.byContradiction fun z => by
          have := hz.mpr z
          cases this
        show (if (!decide (V.int (d : Int) = V.non)) = true then _ else _)
        rw [if_pos (by simp)]
        refine ⟨_, rfl, _, hd5, ?_, fun b o e n => ?_, ?_, ?_⟩
        · rw [List.length_map]
          have := cans_len hs goal i
          exact small1000 (by omega)
        · rw [upd_ne (ne_of_none e hD)]
          exact e5 _ _ (e2 _ _ e n) n
        · obtain ⟨ps, b1, b2, b3⟩ := hT5
          refine ⟨ps, by rw [upd_ne (ne_of b1 hd5 (by intro z; cases z))]; exact b1, b2, fun pos cv hcv => ?_⟩
          obtain ⟨c0, c1, c2⟩ := b3 pos cv hcv
          refine ⟨c0, c1, by rw [upd_ne (ne_of c2 hd5 (by intro z; unfold LamX.CodeO at z; cases z))]; exact c2⟩
        · rw [upd_same, cans_succ.1 hcan, Int.zero_add]
          unfold lotV
          rw [List.map_append]
          rfl
    · rintro H2 ⟨e2, hT2, hd2⟩
      obtain ⟨c0, r, ec, hnum, hlt⟩ := cans_head (h := hs) (goal := goal) (n := hs.length + 1) ⟨hs.length, by omega, can_all ok okG⟩
      rw [ec] at hd2
      refine ⟨D, _, 0, .int (c0 : Int), rfl, rfl, SqL.up hd2, atI_nat (j := 0) rfl, ?_⟩
      exact q H2 c0 e2 hT2 hnum (by omega)
end
end N

set_option Elab.async false
set_option linter.all false
set_option maxRecDepth 100000
set_option maxHeartbeats 2000000
namespace N
open Cb (lotV combs combsOf combsOf_sub)
open PySem PySem.Spec PyProof.Rows L2
section
variable {P : Program} {w : World} {K : PySem.W.Frag} {mg : Str → Option Value} {base : Heap}
def sp_cover_row (K : PySem.W.Frag) : Sp := fun vs H Q _ => ∃ (a g : Addr) (h : List (List Nat)) (c : Nat) (l : List Nat), vs = [.ref a, .int c, .ref g] ∧ HouseAt K H a h ∧ HouseOk h ∧ c ≤ 7 ∧ LotAt K H g l ∧ LotOk h.length l ∧ l ≠ [] ∧
  (∀ H', Same H H' → IsDays h c l none → Q .non H') ∧ ∀ (H' : Hp) (p : Addr) (Ls : List (List Nat)) (d : Nat), Same H H' → LotsAt K H' p Ls → IsDays h c l (some d) → Ls.length = d → RowOk h c l Ls → d < 768 → Q (.ref p) H'
theorem sc_cover_row : FnScope ["house", "coins", "goal"] ["house", "coins", "goal"] (defScope s_cover_row) := ⟨rfl, rfl, rfl, by decide +kernel, rfl, by decide +kernel, by decide +kernel⟩
theorem ok_cover_row (T : Txt K mg) : FnOk P w K mg base CX0 6 T.d_cover_row.f T.d_cover_row.fd ["house", "coins", "goal"] (sp_cover_row K) := by
  have G1 := ok_check_cover (P := P) (w := w) (base := base) T
  have G2 := ok_quickest (P := P) (w := w) (base := base) T
  refine T.d_cover_row.F.ok sc_cover_row (fun vs H Q E h => ?_) (fun cdv A outer s H vs Q E hr h => ?_)
  · obtain ⟨a, g, h, c, l, rfl, _⟩ := h
    rfl
  · obtain ⟨a, g, hs, c, l, rfl, hA, ok, hc, hL, okL, hne, qn, q⟩ := h
    have hr4 : Room 4 _ := hr.mono (by decide)
    refine ⟨_, pss_cons (ps_expr (pe_call G1 hr (by rfl) T.d__check_cover.g T.d__check_cover.F.kp T.d__check_cover.b .nil pass0 (pa_cons (pv 0) (pa_cons (pv 1) (pa_cons (pv 2) pa_nil)))))
      (pss_one (ps_ret (pe_call G2 hr4 (by rfl) T.d_quickest_row.g T.d_quickest_row.F.kp T.d_quickest_row.b .nil pass0 (pa_cons (pv 0) (pa_cons (pe_tup (pa_cons (pv 1) pa_nil)) (pa_cons (pv 2) pa_nil)))))), ?_⟩
    refine ⟨.ref a, rfl, .int c, rfl, .ref g, rfl, a, g, hs, c, l, rfl, hA, ok, hc, hL, okL, hne, fun H1 sm1' => ?_⟩
    refine ⟨.ref a, rfl, .int c, rfl, (by show 1 ≤ sizeLine; decide), fun tp htp => ⟨.ref g, rfl, ?_⟩⟩
    have smt : Same H1 (upd H1 tp (.tup [.int (c : Int)])) := same_upd htp
    have sm1 := sm1'.trans smt
    exact ⟨a, tp, g, hs, [c], l, rfl, hA.same sm1, ok, SqT.up upd_same, Nat.le_refl 1, (by show 1 ≤ 6; decide), hL.same sm1, okL, fun H2 sm2 hd => qn H2 (sm1.trans sm2) (isDays_first.mpr (hd.iff fun _ => covA_one)), fun H2 p Ls d sm2 h1 h2 h3 h4 h5 => q H2 p Ls d (sm1.trans sm2) h1 (isDays_first.mpr (h2.iff fun _ => covA_one)) h3 h4.one h5⟩
def sp_days_to (K : PySem.W.Frag) : Sp := fun vs H Q _ => ∃ (a g : Addr) (h : List (List Nat)) (c : Nat) (l : List Nat), vs = [.ref a, .int c, .ref g] ∧ HouseAt K H a h ∧ HouseOk h ∧ c ≤ 7 ∧ LotAt K H g l ∧ LotOk h.length l ∧ l ≠ [] ∧
  ∀ (H' : Hp) (o : Option Nat), Same H H' → IsDays h c l o → Q (dayV o) H'
theorem sc_days_to : FnScope ["house", "coins", "goal", "row"] ["house", "coins", "goal"] (defScope s_days_to) := ⟨rfl, rfl, rfl, by decide +kernel, rfl, by decide +kernel, by decide +kernel⟩
theorem ok_days_to (T : Txt K mg) : FnOk P w K mg base CX0 7 T.d_days_to.f T.d_days_to.fd ["house", "coins", "goal"] (sp_days_to K) := by
  have G := ok_cover_row (P := P) (w := w) (base := base) T
  refine T.d_days_to.F.ok sc_days_to (fun vs H Q E h => ?_) (fun cdv A outer s H vs Q E hr h => ?_)
  · obtain ⟨a, g, h, c, l, rfl, _⟩ := h
    rfl
  · obtain ⟨a, g, hs, c, l, rfl, hA, ok, hc, hL, okL, hne, q⟩ := h
    have nd := sc_days_to.nd
    refine ⟨_, pss_cons (ps_set (i := 3) nd rfl (.inl rfl) (pe_call G hr (by rfl) T.d_cover_row.g T.d_cover_row.F.kp T.d_cover_row.b .nil pass0 (pa_cons (pv 0) (pa_cons (pv 1) (pa_cons (pv 2) pa_nil)))))
      (pss_one (ps_ret (pe_ifExp (pt_cmpR op_isN (pv 3) pe_non (nomark _)) pe_non (pe_callB call_len_seq (by rfl) T.n_len PySem.boot_len (pa_cons (pv 3) pa_nil))))), ?_⟩
    refine ⟨.ref a, rfl, .int c, rfl, .ref g, rfl, a, g, hs, c, l, rfl, hA, ok, hc, hL, okL, hne, fun H1 sm1 hd => ?_, fun H1 p Ls d sm1 hLs hd hlen _ _ => ?_⟩
    · refine ⟨.non, rfl, rfl, _, rfl, ?_⟩
      show (if decide (V.non = V.non) = true then _ else _)
      rw [decide_eq_true rfl, if_pos rfl]
      exact q H1 none sm1 hd
    · refine ⟨.ref p, rfl, rfl, _, rfl, ?_⟩
      show (if decide (V.ref p = V.non) = true then _ else _)
      rw [decide_eq_false (by intro z; cases z), if_neg Bool.false_ne_true]
      obtain ⟨ts, h1, h2⟩ := hLs
      refine ⟨.ref p, rfl, p, _, rfl, .inr h1, ?_⟩
      have e : (ts.map V.ref).length = d := by rw [List.length_map, Paired.length h2, hlen]
      rw [e]
      exact q H1 (some d) sm1 hd
end
end N

set_option Elab.async false
set_option linter.all false
set_option maxRecDepth 100000
set_option maxHeartbeats 2000000
namespace N
open Cb (lotV combs combsOf combsOf_sub)
open PySem PySem.Spec PyProof.Rows L2
section
variable {K : PySem.W.Frag}
theorem isi_tt : PySem.W.kitAny K (.type "tuple") [.type "tuple", .type "list"] = some true := kitAny_cons (b := true) (kit_ty (by decide +kernel)) (fun z => by cases z) (fun _ => rfl)
theorem isi_if : PySem.W.kitAny K (.type "int") [.type "tuple", .type "list"] = some false := kitAny_cons (b := false) (kit_ty (by decide +kernel)) (fun _ => kitAny_cons (b := false) (kit_ty (by decide +kernel)) (fun _ => kitAny_nil) (by decide)) (by decide)
theorem isi_bf : PySem.W.kitAny K (.type "bool") [.type "tuple", .type "list"] = some false := kitAny_cons (b := false) (kit_ty (by decide +kernel)) (fun _ => kitAny_cons (b := false) (kit_ty (by decide +kernel)) (fun _ => kitAny_nil) (by decide)) (by decide)
theorem tyx_tup {H : Hp} {a : Addr} {xs : List V} (h : SqT K H a xs) : TyX K H (.ref a) (.type "tuple") := by
  rcases h with (h | ⟨o, h⟩) | ⟨o, its, n, h1, h2, _⟩
  · exact .base (.tup h)
  · exact .fTuple h
  · exact .kTuple h1 h2
end
section
variable {P : Program} {w : World} {K : PySem.W.Frag} {mg : Str → Option Value} {base : Heap}
def sp_alike0 : Sp := fun vs H Q _ => ∃ x : V, vs = [x, x] ∧ ((∃ i, x = .int i) ∨ ∃ b, x = .bl b) ∧ ∀ H', Same H H' → Q (.bl true) H'
theorem sc_alike : FnScope ["found", "due", "k"] ["found", "due"] (defScope s__law_alike) := ⟨rfl, rfl, rfl, by decide +kernel, rfl, by decide +kernel, by decide +kernel⟩
theorem ok_alike0 (T : Txt K mg) : FnOk P w K mg base CX0 1 T.d__law_alike.f T.d__law_alike.fd ["found", "due"] sp_alike0 := by
  refine T.d__law_alike.F.ok sc_alike (fun vs H Q E h => ?_) (fun cdv A outer s H vs Q E hr h => ?_)
  · obtain ⟨x, rfl, _⟩ := h
    rfl
  · obtain ⟨x, rfl, hx, q⟩ := h
    have nd := sc_alike.nd
    refine ⟨_, pss_cons (ps_if (pt_val (pe_callB call_isiT (by rfl) T.n_isinstance boot_isinstance (pa_cons (pv 1) (pa_cons (pe_tup (pa_cons (pe_bltn (v := .ty "tuple") (u := .type "tuple") (by rfl) T.n_tuple (by decide +kernel) rfl) (pa_cons (pe_bltn (v := .ty "list") (u := .type "list") (by rfl) T.n_list (by decide +kernel) rfl) pa_nil))) pa_nil))))
        (pss_cons ps_never (pss_cons ps_never (pss_one ps_never))) pss_nil)
      (pss_cons (ps_if (PW.pt (pw_or (pt_cmpR op_isN (pv 1) pe_non (nomark _)) (pw_or1 (pt_val (pe_callB call_isi (by rfl) T.n_isinstance boot_isinstance (pa_cons (pv 1) (pa_cons (pe_bltn (v := .ty "str") (u := .type "str") (by rfl) T.n_str (by decide +kernel) rfl) pa_nil)))))))
        (pss_one ps_never) pss_nil)
      (pss_one (ps_ret (pe_and (pe_callB call_isi (by rfl) T.n_isinstance boot_isinstance (pa_cons (pv 0) (pa_cons (pe_bltn (v := .ty "int") (u := .type "int") (by rfl) T.n_int (by decide +kernel) rfl) pa_nil)))
        (pe_and (pe_cmpR op_eq (pe_callB call_isi (by rfl) T.n_isinstance boot_isinstance (pa_cons (pv 0) (pa_cons (pe_bltn (v := .ty "bool") (u := .type "bool") (by rfl) T.n_bool (by decide +kernel) rfl) pa_nil)))
            (pe_callB call_isi (by rfl) T.n_isinstance boot_isinstance (pa_cons (pv 1) (pa_cons (pe_bltn (v := .ty "bool") (u := .type "bool") (by rfl) T.n_bool (by decide +kernel) rfl) pa_nil))) (nomark _))
          (pe_one (pe_cmpR op_eq (pv 0) (pv 1) (nomark _)))))))), ?_⟩
    refine ⟨x, rfl, by decide, fun tp htp => ?_⟩
    have sm := same_upd (o := .tup [V.ty "tuple", V.ty "list"]) htp
    rcases hx with ⟨i, rfl⟩ | ⟨b, rfl⟩
    · refine ⟨.int i, tp, _, .type "int", [.type "tuple", .type "list"], false, rfl, upd_same, .cons (.ty _) (.cons (.ty _) .nil), .base (.int i), isi_if, _, rfl, iteF ?_⟩
      refine ⟨.int i, rfl, rfl, _, rfl, ?_⟩
      show (if decide (V.int i = V.non) = true then _ else _)
      rw [if_neg (by simp)]
      refine ⟨.int i, rfl, .int i, .ty "str", .type "int", .type "str", false, rfl, .ty _, .base (.int i), kit_ty (by decide +kernel), _, rfl, iteF ?_⟩
      refine ⟨.int i, rfl, .int i, .ty "int", .type "int", .type "int", true, rfl, .ty _, .base (.int i), kit_ty (by decide +kernel), true, rfl, iteT ?_⟩
      refine ⟨.int i, rfl, .int i, .ty "bool", .type "int", .type "bool", false, rfl, .ty _, .base (.int i), kit_ty (by decide +kernel), ?_⟩
      refine ⟨.int i, rfl, .int i, .ty "bool", .type "int", .type "bool", false, rfl, .ty _, .base (.int i), kit_ty (by decide +kernel), rfl, ?_⟩
      refine ⟨true, by rw [decide_eq_true rfl], iteT ?_⟩
      refine ⟨.int i, rfl, .int i, rfl, rfl, ?_⟩
      rw [decide_eq_true rfl]
      exact q _ sm
    · refine ⟨.bl b, tp, _, .type "bool", [.type "tuple", .type "list"], false, rfl, upd_same, .cons (.ty _) (.cons (.ty _) .nil), .base (.bl b), isi_bf, _, rfl, iteF ?_⟩
      refine ⟨.bl b, rfl, rfl, _, rfl, ?_⟩
      show (if decide (V.bl b = V.non) = true then _ else _)
      rw [if_neg (by simp)]
      refine ⟨.bl b, rfl, .bl b, .ty "str", .type "bool", .type "str", false, rfl, .ty _, .base (.bl b), kit_ty (by decide +kernel), _, rfl, iteF ?_⟩
      refine ⟨.bl b, rfl, .bl b, .ty "int", .type "bool", .type "int", true, rfl, .ty _, .base (.bl b), kit_ty (by decide +kernel), true, rfl, iteT ?_⟩
      refine ⟨.bl b, rfl, .bl b, .ty "bool", .type "bool", .type "bool", true, rfl, .ty _, .base (.bl b), kit_ty (by decide +kernel), ?_⟩
      refine ⟨.bl b, rfl, .bl b, .ty "bool", .type "bool", .type "bool", true, rfl, .ty _, .base (.bl b), kit_ty (by decide +kernel), rfl, ?_⟩
      refine ⟨true, by rw [decide_eq_true rfl], iteT ?_⟩
      refine ⟨.bl b, rfl, .bl b, rfl, rfl, ?_⟩
      rw [decide_eq_true rfl]
      exact q _ sm
def sp_alikeT (K : PySem.W.Frag) (sub : Sp) : Sp := fun vs H Q _ => ∃ (a b : Addr) (xs ys : List V), vs = [.ref a, .ref b] ∧ SqT K H a xs ∧ SqT K H b ys ∧ xs.length = ys.length ∧ ys.length ≤ 1000 ∧
  (∀ (i : Nat) (x y : V), xs[i]? = some x → ys[i]? = some y → ∀ (H1 : Hp) (Q' : VK) (E' : XK), Same H H1 → (∀ H', Same H1 H' → Q' (.bl true) H') → sub [x, y] H1 Q' E') ∧ ∀ H', Same H H' → Q (.bl true) H'
theorem ok_alikeT {j : Nat} {sub : Sp} (T : Txt K mg) (G : FnOk P w K mg base CX0 j T.d__law_alike.f T.d__law_alike.fd ["found", "due"] sub) : FnOk P w K mg base CX0 (j + 1) T.d__law_alike.f T.d__law_alike.fd ["found", "due"] (sp_alikeT K sub) := by
  refine T.d__law_alike.F.ok sc_alike (fun vs H Q E h => ?_) (fun cdv A outer s H vs Q E hr h => ?_)
  · obtain ⟨a, b, xs, ys, rfl, _⟩ := h
    rfl
  · obtain ⟨a, b, xs, ys, rfl, hA, hB, hl, hz, hsub, q⟩ := h
    have nd := sc_alike.nd
    refine ⟨_, pss_cons (ps_if (pt_val (pe_callB call_isiT (by rfl) T.n_isinstance boot_isinstance (pa_cons (pv 1) (pa_cons (pe_tup (pa_cons (pe_bltn (v := .ty "tuple") (u := .type "tuple") (by rfl) T.n_tuple (by decide +kernel) rfl) (pa_cons (pe_bltn (v := .ty "list") (u := .type "list") (by rfl) T.n_list (by decide +kernel) rfl) pa_nil))) pa_nil))))
        (pss_cons (ps_if (PW.pt (pw_or (pt_not (pt_val (pe_callB call_isiT (by rfl) T.n_isinstance boot_isinstance (pa_cons (pv 0) (pa_cons (pe_tup (pa_cons (pe_bltn (v := .ty "tuple") (u := .type "tuple") (by rfl) T.n_tuple (by decide +kernel) rfl) (pa_cons (pe_bltn (v := .ty "list") (u := .type "list") (by rfl) T.n_list (by decide +kernel) rfl) pa_nil))) pa_nil)))))
            (pw_or1 (pt_cmpR op_ne (pe_callB call_isi (by rfl) T.n_isinstance boot_isinstance (pa_cons (pv 0) (pa_cons (pe_bltn (v := .ty "list") (u := .type "list") (by rfl) T.n_list (by decide +kernel) rfl) pa_nil)))
              (pe_callB call_isi (by rfl) T.n_isinstance boot_isinstance (pa_cons (pv 1) (pa_cons (pe_bltn (v := .ty "list") (u := .type "list") (by rfl) T.n_list (by decide +kernel) rfl) pa_nil))) (nomark _))))) (pss_one ps_never) pss_nil)
        (pss_cons (ps_if (pt_cmpR op_ne (pe_callB call_len_seq (by rfl) T.n_len PySem.boot_len (pa_cons (pv 0) pa_nil)) (pe_callB call_len_seq (by rfl) T.n_len PySem.boot_len (pa_cons (pv 1) pa_nil)) (nomark _)) (pss_one ps_never) pss_nil)
        (pss_one (ps_ret (pe_cmpR (op_emp hr.units) (pe_lc (own := [("k", 2)]) (g := gName 2) rfl nd (pi_range1 (by rfl) T.n_range (pa_cons (pe_callB call_len_seq (by rfl) T.n_len PySem.boot_len (pa_cons (pv 1) pa_nil)) pa_nil))
          (blkOk_by (N := ["found", "due", "k"]) (sc := defScope s__law_alike) (by decide +kernel)) (fun _ _ _ _ _ => pg_name (i := 2) nd rfl (.inl rfl))
          (fun _ _ _ _ _ => pts_one (pt_not (pt_val (pe_call G hr (by rfl) T.d__law_alike.g T.d__law_alike.F.kp T.d__law_alike.b .nil pass0 (pa_cons (pe_ix (x_tup K) (pv 0) (pv 2) (fun _ _ => rfl)) (pa_cons (pe_ix (x_tup K) (pv 1) (pv 2) (fun _ _ => rfl)) pa_nil))))))
          (fun _ _ _ _ _ => pv 2)) (pe_lst pa_nil) (nomark _)))))) pss_nil)
      (pss_cons ps_never (pss_one ps_never)), ?_⟩
    refine ⟨.ref b, rfl, by decide, fun tp htp => ?_⟩
    have sm := same_upd (o := .tup [V.ty "tuple", V.ty "list"]) htp
    refine ⟨.ref b, tp, _, .type "tuple", [.type "tuple", .type "list"], true, rfl, upd_same, .cons (.ty _) (.cons (.ty _) .nil), tyx_tup (Same.tup sm hB), isi_tt, _, rfl, iteT ?_⟩
    refine ⟨.ref a, rfl, by decide, fun tp2 htp2 => ?_⟩
    have sm2 := sm.trans (same_upd (o := .tup [V.ty "tuple", V.ty "list"]) htp2)
    refine ⟨.ref a, tp2, _, .type "tuple", [.type "tuple", .type "list"], true, rfl, upd_same, .cons (.ty _) (.cons (.ty _) .nil), tyx_tup (Same.tup sm2 hA), isi_tt, _, rfl, iteF ?_⟩
    refine ⟨.ref a, rfl, .ref a, .ty "list", .type "tuple", .type "list", false, rfl, .ty _, tyx_tup (Same.tup sm2 hA), kit_ty (by decide +kernel), ?_⟩
    refine ⟨.ref b, rfl, .ref b, .ty "list", .type "tuple", .type "list", false, rfl, .ty _, tyx_tup (Same.tup sm2 hB), kit_ty (by decide +kernel), rfl, ?_⟩
    refine ⟨false, by rw [decide_eq_true rfl]; rfl, iteF ?_⟩
    refine ⟨.ref a, rfl, a, xs, rfl, .inr (Same.tup sm2 hA), .ref b, rfl, b, ys, rfl, .inr (Same.tup sm2 hB), rfl, false, ?_, iteF ?_⟩
    · rw [hl, decide_eq_true rfl]
      rfl
    generalize upd (upd H tp (.tup [V.ty "tuple", V.ty "list"])) tp2 (.tup [V.ty "tuple", V.ty "list"]) = H2 at sm2
    refine ⟨.ref b, rfl, b, ys, rfl, .inr (Same.tup sm2 hB), _, rfl, by omega, by omega, fun D hD => ?_⟩
    show ∃ W, _
    rw [Int.toNat_natCast]
    refine lc_range (lo := 0) (n := ys.length) (fun i H3 => Same H2 H3 ∧ H3 D = some (.lst [])) ⟨same_upd hD, upd_same⟩ ?_ ?_
    · rintro i H3 hi ⟨sm3, hd3⟩
      have sm4 := sm2.trans sm3
      have hx : xs[i]? = some (xs[i]'(by omega)) := List.getElem?_eq_getElem _
      have hy : ys[i]? = some ys[i] := List.getElem?_eq_getElem hi
      refine ⟨rfl, .ref a, rfl, .int (0 + (i : Int)), rfl, a, xs, 0 + (i : Int), _, rfl, rfl, Same.tup sm4 hA, by rw [Int.zero_add]; exact atI_nat hx, ?_⟩
      refine ⟨.ref b, rfl, .int (0 + (i : Int)), rfl, b, ys, 0 + (i : Int), _, rfl, rfl, Same.tup sm4 hB, by rw [Int.zero_add]; exact atI_nat hy, ?_⟩
      refine hsub i _ _ hx hy H3 _ _ sm4 fun H5 sm5 => ⟨true, rfl, ?_⟩
      exact iteF ⟨sm3.trans sm5, sm5 _ _ hd3⟩
    · rintro H3 ⟨sm3, hd3⟩
      refine ⟨Nat.zero_le _, fun e0 he0 => ⟨D, e0, [], [], rfl, rfl, SqL.up (same_upd he0 _ _ hd3), .nil, shaped_nil, SqL.up upd_same, ?_⟩⟩
      exact q _ ((sm2.trans sm3).trans (same_upd he0))
/-- two lots that are one -/
theorem ok_alike1 (T : Txt K mg) : FnOk P w K mg base CX0 2 T.d__law_alike.f T.d__law_alike.fd ["found", "due"] (sp_alikeT K sp_alike0) := ok_alikeT T (ok_alike0 T)
theorem ok_alike2 (T : Txt K mg) : FnOk P w K mg base CX0 3 T.d__law_alike.f T.d__law_alike.fd ["found", "due"] (sp_alikeT K (sp_alikeT K sp_alike0)) := ok_alikeT T (ok_alike1 T)
theorem lot_alike {H : Hp} {a b : Addr} {l : List Nat} {Q : VK} {E : XK} (hA : LotAt K H a l) (hB : LotAt K H b l) (hl : l.length ≤ 1000) (q : ∀ H', Same H H' → Q (.bl true) H') : sp_alikeT K sp_alike0 [.ref a, .ref b] H Q E := by
  refine ⟨a, b, lotV l, lotV l, rfl, hA, hB, rfl, by rw [List.length_map]; exact hl, fun i x y hx hy H1 Q' E' sm q' => ?_, q⟩
  have e : y = x := Option.some.inj (hy.symm.trans hx)
  obtain ⟨k, _, ex⟩ := get_lotV hx
  exact ⟨x, by rw [e], .inl ⟨k, ex⟩, q'⟩
theorem lots_alike {H : Hp} {a b : Addr} {ls : List (List Nat)} {Q : VK} {E : XK} (hA : LotsAt K H a ls) (hB : LotsAt K H b ls) (hl : ls.length ≤ 1000) (hll : ∀ l ∈ ls, l.length ≤ 1000) (q : ∀ H', Same H H' → Q (.bl true) H') : sp_alikeT K (sp_alikeT K sp_alike0) [.ref a, .ref b] H Q E := by
  obtain ⟨ts, h1, p1⟩ := hA
  obtain ⟨us, h2, p2⟩ := hB
  have l1 : ts.length = ls.length := Paired.length p1
  have l2 : us.length = ls.length := Paired.length p2
  refine ⟨a, b, _, _, rfl, h1, h2, by rw [List.length_map, List.length_map, l1, l2], by rw [List.length_map, l2]; exact hl, fun i x y hx hy H1 Q' E' sm q' => ?_, q⟩
  obtain ⟨t, ht, rfl⟩ := get_refs hx
  obtain ⟨u, hu, rfl⟩ := get_refs hy
  obtain ⟨l, hl1, z1⟩ := paired_at p1 ht
  obtain ⟨l', hl2, z2⟩ := paired_at p2 hu
  have e : l' = l := Option.some.inj (hl2.symm.trans hl1)
  subst e
  exact lot_alike (z1.same sm) (z2.same sm) (hll _ (List.mem_of_getElem? hl1)) q'
end
end N

set_option Elab.async false
set_option linter.all false
set_option maxRecDepth 100000
set_option maxHeartbeats 2000000
/-! crews -/
namespace N
open Cb (lotV combs combsOf combsOf_sub)
/-- the slates of a lot at which a clerk looks -/
def lookL (h : List (List Nat)) (C : List Nat) (i : Nat) : List Nat := (h.getD i []).filter fun s => decide (s ∈ C)
/-- those of a lot who look at least at so many slates of it -/
def whoL (h : List (List Nat)) (m : Nat) (C : List Nat) : List Nat := C.filter fun i => decide (m ≤ (lookL h C i).length)
def Good (h : List (List Nat)) (m : Nat) (C : List Nat) : Prop := ∀ i ∈ C, m ≤ (lookL h C i).length
structure IsCrew (h : List (List Nat)) (m : Nat) (C : List Nat) : Prop where
  ok : LotOk h.length C
  good : Good h m C
  top : ∀ D, LotOk h.length D → Good h m D → ∀ i ∈ D, i ∈ C
theorem lot_ext {n : Nat} {a b : List Nat} (ha : LotOk n a) (hb : LotOk n b) (h : ∀ i, i ∈ a ↔ i ∈ b) : a = b :=
  List.Perm.eq_of_pairwise (le := fun x y => x < y) (fun x y _ _ p q => by omega) ha.rise hb.rise ((List.perm_ext_iff_of_nodup ha.nodup hb.nodup).mpr h)
theorem IsCrew.inj {h : List (List Nat)} {m : Nat} {C D : List Nat} (x : IsCrew h m C) (y : IsCrew h m D) : C = D :=
  lot_ext x.ok y.ok fun i => ⟨fun z => y.top C x.ok x.good i z, fun z => x.top D y.ok y.good i z⟩
theorem look_mono {h : List (List Nat)} {C D : List Nat} (s : ∀ i ∈ D, i ∈ C) (i : Nat) : (lookL h D i).length ≤ (lookL h C i).length := by
  unfold lookL
  induction h.getD i [] with
  | nil => exact Nat.le_refl _
  | cons x xs ih =>
    rw [List.filter_cons, List.filter_cons]
    by_cases h1 : x ∈ D
    · rw [if_pos (decide_eq_true h1), if_pos (decide_eq_true (s x h1)), List.length_cons, List.length_cons]
      omega
    · rw [if_neg (by simp [h1])]
      split
      · rw [List.length_cons]; omega
      · exact ih
theorem who_sub (h : List (List Nat)) (m : Nat) (C : List Nat) : (whoL h m C).Sublist C := List.filter_sublist
theorem who_keeps {h : List (List Nat)} {m : Nat} {C D : List Nat} (g : Good h m D) (s : ∀ i ∈ D, i ∈ C) : ∀ i ∈ D, i ∈ whoL h m C := fun i hi =>
  List.mem_filter.mpr ⟨s i hi, decide_eq_true (Nat.le_trans (g i hi) (look_mono s i))⟩
theorem who_fix {h : List (List Nat)} {m : Nat} {C : List Nat} (e : whoL h m C = C) : Good h m C := fun i hi => by
  rw [← e] at hi
  exact of_decide_eq_true (List.mem_filter.mp hi).2
/-- the law's way: the last lot in which all look at enough -/
def goodB (h : List (List Nat)) (m : Nat) (C : List Nat) : Bool := C.all fun i => !decide ((lookL h C i).length < m)
theorem goodB_iff {h : List (List Nat)} {m : Nat} {C : List Nat} : goodB h m C = true ↔ Good h m C := by
  unfold goodB Good
  rw [List.all_eq_true]
  constructor
  · intro z i hi
    have := z i hi
    simp at this
    exact this
  · intro z i hi
    have := z i hi
    simp
    exact this
def lastGood (h : List (List Nat)) (m : Nat) (ls : List (List Nat)) : List Nat := ls.foldl (fun f l => if goodB h m l then l else f) []
theorem lastGood_snoc {h : List (List Nat)} {m : Nat} {ls : List (List Nat)} {l : List Nat} : lastGood h m (ls ++ [l]) = if goodB h m l then l else lastGood h m ls := by
  unfold lastGood
  rw [List.foldl_append]
  rfl
theorem allL_pw (n : Nat) : (allL n).Pairwise fun a b => a.length ≤ b.length := by
  unfold allL
  rw [List.pairwise_flatMap]
  constructor
  · intro r _
    rw [List.pairwise_iff_forall_sublist]
    intro a b s
    have ha := (combsOf_sub.mp (s.subset List.mem_cons_self)).2
    have hb := (combsOf_sub.mp (s.subset (List.mem_cons_of_mem _ List.mem_cons_self))).2
    omega
  · refine List.Pairwise.imp (fun {r s} hrs x hx y hy => ?_) (List.pairwise_lt_range)
    have ha := (combsOf_sub.mp hx).2
    have hb := (combsOf_sub.mp hy).2
    omega
theorem lot_top {n : Nat} {C l : List Nat} (hC : LotOk n C) (hl : LotOk n l) (s : ∀ i ∈ l, i ∈ C) (e : C.length ≤ l.length) : l = C := by
  have e1 : l = C.filter fun i => decide (i ∈ l) := lot_ext hl (List.filter_sublist.trans hC) fun i => by
    rw [List.mem_filter]
    exact ⟨fun z => ⟨s i z, decide_eq_true z⟩, fun z => of_decide_eq_true z.2⟩
  have e2 : C.filter (fun i => decide (i ∈ l)) = C := List.filter_sublist.eq_of_length_le (by rw [← e1]; exact e)
  rw [e1, e2]
theorem lastGood_is {h : List (List Nat)} {m : Nat} {C : List Nat} (x : IsCrew h m C) : lastGood h m (allL h.length) = C := by
  obtain ⟨as, bs, e⟩ := List.append_of_mem (mem_allL.mpr x.ok)
  have hp := allL_pw h.length
  rw [e] at hp
  have hb := (List.pairwise_cons.mp (List.pairwise_append.mp hp).2.1).1
  have hm : ∀ l ∈ bs, LotOk h.length l := fun l hl => mem_allL.mp (by rw [e]; exact List.mem_append_right _ (List.mem_cons_of_mem _ hl))
  rw [e]
  unfold lastGood
  rw [List.foldl_append, List.foldl_cons, if_pos (goodB_iff.mpr x.good)]
  clear hp e
  induction bs with
  | nil => rfl
  | cons l bs ih =>
    rw [List.foldl_cons]
    have e3 : (if goodB h m l then l else C) = C := by
      split
      · rename_i g
        have ol := hm l List.mem_cons_self
        exact lot_top x.ok ol (x.top l ol (goodB_iff.mp g)) (hb l List.mem_cons_self)
      · rfl
    rw [e3]
    exact ih (fun l hl => hb l (List.mem_cons_of_mem _ hl)) fun l hl => hm l (List.mem_cons_of_mem _ hl)
/-- all look at one slate at least -/
theorem crew_one {h : List (List Nat)} (ok : HouseOk h) : IsCrew h 1 (List.range h.length) := by
  refine ⟨List.Sublist.refl _, fun i hi => ?_, fun D hD _ i hi => hD.subset hi⟩
  have hlt := List.mem_range.mp hi
  have hm : h.getD i [] ∈ h := by
    rw [List.getD_eq_getElem?_getD, List.getElem?_eq_getElem hlt]
    exact List.getElem_mem hlt
  obtain ⟨h1, h2⟩ := ok.ok _ hm
  unfold lookL
  have e : (h.getD i []).filter (fun s => decide (s ∈ List.range h.length)) = h.getD i [] := List.filter_eq_self.mpr fun s hs => decide_eq_true (h2.subset hs)
  rw [e]
  exact List.length_pos_iff.mpr h1
/-- coins too few for a crew never cover one of it -/
theorem crew_safe {h : List (List Nat)} (ok : HouseOk h) {m c : Nat} {C : List Nat} (x : IsCrew h m C) (hc : c < m) : ∀ {t : Nat} {S : List Nat}, RchL h c t S → ∀ i ∈ C, i ∉ S
  | 0, S, e => fun i _ hi => by rw [show S = [] from e] at hi; cases hi
  | t + 1, S, ⟨S', L, h1, h2, h3, e⟩ => fun i hi hS => by
    have ih := crew_safe ok x hc h1
    rw [e, mem_nextL] at hS
    have hg := x.good i hi
    have hlt := x.ok.lt i hi
    have hm : h.getD i [] ∈ h := by
      rw [List.getD_eq_getElem?_getD, List.getElem?_eq_getElem hlt]
      exact List.getElem_mem hlt
    have hrow := (ok.ok _ hm).2
    -- the slates looked at within the crew all bear coins
    have hsub : ∀ s ∈ lookL h C i, s ∈ L := fun s hs => by
      obtain ⟨hs1, hs2⟩ := List.mem_filter.mp hs
      rcases hS.2 s hs1 with z | z
      · exact absurd z (ih s (of_decide_eq_true hs2))
      · exact z
    have ok1 : LotOk h.length (lookL h C i) := List.filter_sublist.trans hrow
    have e1 : lookL h C i = L.filter fun s => decide (s ∈ lookL h C i) := lot_ext ok1 (List.filter_sublist.trans h2) fun s => by
      rw [List.mem_filter]
      exact ⟨fun z => ⟨hsub s z, decide_eq_true z⟩, fun z => of_decide_eq_true z.2⟩
    have hl : (lookL h C i).length ≤ L.length := by
      rw [e1]
      exact List.length_filter_le _ _
    omega
theorem crew_le {h : List (List Nat)} (ok : HouseOk h) {m c : Nat} {C : List Nat} (x : IsCrew h m C) (hne : C ≠ []) (hn : IsNum h (List.range h.length) c) : m ≤ c := by
  rcases Nat.lt_or_ge c m with z | z
  · obtain ⟨t, S, h1, h2⟩ := hn.1
    obtain ⟨i, hi⟩ := List.exists_mem_of_ne_nil _ hne
    exact absurd (h2 i (x.ok.subset hi)) (crew_safe ok x z h1 i hi)
  · exact z
/-- the greatest number up to some one for which the crew isn't empty -/
def HasCrew (h : List (List Nat)) (m : Nat) : Prop := ∃ C, IsCrew h m C ∧ C ≠ []
def BestTo (h : List (List Nat)) (k b : Nat) : Prop := b ≤ k ∧ (b ≠ 0 → HasCrew h b) ∧ ∀ j, b < j → j ≤ k → ¬ HasCrew h j
theorem best_zero (h : List (List Nat)) : BestTo h 0 0 := ⟨Nat.le_refl _, fun z => absurd rfl z, fun j a b => by omega⟩
theorem best_yes {h : List (List Nat)} {k b : Nat} (x : BestTo h k b) (y : HasCrew h (k + 1)) : BestTo h (k + 1) (k + 1) := ⟨Nat.le_refl _, fun _ => y, fun j a b => by omega⟩
theorem best_no {h : List (List Nat)} {k b : Nat} (x : BestTo h k b) (y : ¬ HasCrew h (k + 1)) : BestTo h (k + 1) b := ⟨Nat.le_succ_of_le x.1, x.2.1, fun j a c => by
  rcases Nat.lt_or_ge k j with z | z
  · have : j = k + 1 := by omega
    rw [this]
    exact y
  · exact x.2.2 j a z⟩
theorem BestTo.inj {h : List (List Nat)} {k b b' : Nat} (x : BestTo h k b) (y : BestTo h k b') : b = b' := by
  rcases Nat.lt_trichotomy b b' with z | z | z
  · exact absurd (y.2.1 (by omega)) (x.2.2 b' z y.1)
  · exact z
  · exact absurd (x.2.1 (by omega)) (y.2.2 b z x.1)
/-- so is the greatest of those for which it isn't empty -/
theorem best_max {h : List (List Nat)} (ok : HouseOk h) {k : Nat} {ns : List Nat} (hns : ∀ j, j ∈ ns ↔ 1 ≤ j ∧ j ≤ k ∧ HasCrew h j) {b : Nat} (hb : b ∈ ns) (hm : ∀ j ∈ ns, j ≤ b) : BestTo h k b := by
  obtain ⟨h1, h2, h3⟩ := (hns b).mp hb
  exact ⟨h2, fun _ => h3, fun j a c z => by have := hm j ((hns j).mpr ⟨by omega, c, z⟩); omega⟩
theorem has_one {h : List (List Nat)} (ok : HouseOk h) : HasCrew h 1 := ⟨_, crew_one ok, fun z => by
  have z2 := congrArg List.length z
  rw [List.length_range] at z2
  have := ok.lo
  rw [z2] at this
  simp at this⟩
theorem best_le {h : List (List Nat)} (ok : HouseOk h) {k b c : Nat} (x : BestTo h k b) (hn : IsNum h (List.range h.length) c) : b ≤ c := by
  by_cases e : b = 0
  · omega
  · obtain ⟨C, h1, h2⟩ := x.2.1 e
    exact crew_le ok h1 h2 hn
end N

set_option Elab.async false
set_option linter.all false
set_option maxRecDepth 100000
set_option maxHeartbeats 2000000
/-! houses side by side, sights more or less -/
namespace N
open Cb (lotV combs combsOf combsOf_sub)
theorem getD_row {h : List (List Nat)} (ok : HouseOk h) {i : Nat} (hi : i < h.length) : h.getD i [] ≠ [] ∧ LotOk h.length (h.getD i []) := by
  refine ok.ok _ ?_
  rw [List.getD_eq_getElem?_getD, List.getElem?_eq_getElem hi]
  exact List.getElem_mem hi
theorem LotOk.up {n m : Nat} {l : List Nat} (h : LotOk n l) (e : n ≤ m) : LotOk m l := lotOk_of h.rise fun i hi => by have := h.lt i hi; omega
def shiftL (n : Nat) (l : List Nat) : List Nat := l.map fun s => s + n
theorem mem_shift {n : Nat} {l : List Nat} {i : Nat} : i ∈ shiftL n l ↔ n ≤ i ∧ i - n ∈ l := by
  unfold shiftL
  rw [List.mem_map]
  constructor
  · rintro ⟨s, h, rfl⟩
    exact ⟨by omega, by rw [Nat.add_sub_cancel]; exact h⟩
  · rintro ⟨h1, h2⟩
    exact ⟨i - n, h2, by omega⟩
theorem LotOk.shift {n m : Nat} {l : List Nat} (h : LotOk m l) : LotOk (n + m) (shiftL n l) := by
  refine lotOk_of ?_ fun i hi => ?_
  · unfold shiftL
    rw [List.pairwise_map]
    exact h.rise.imp fun z => by omega
  · have := mem_shift.mp hi
    have := h.lt _ this.2
    omega
def bothH (h1 h2 : List (List Nat)) : List (List Nat) := h1 ++ h2.map (shiftL h1.length)
theorem both_len (h1 h2 : List (List Nat)) : (bothH h1 h2).length = h1.length + h2.length := by
  unfold bothH
  rw [List.length_append, List.length_map]
theorem both_l {h1 h2 : List (List Nat)} {i : Nat} (hi : i < h1.length) : (bothH h1 h2).getD i [] = h1.getD i [] := by
  unfold bothH
  rw [List.getD_eq_getElem?_getD, List.getElem?_append_left hi, ← List.getD_eq_getElem?_getD]
theorem both_r {h1 h2 : List (List Nat)} {j : Nat} (hj : j < h2.length) : (bothH h1 h2).getD (h1.length + j) [] = shiftL h1.length (h2.getD j []) := by
  unfold bothH
  rw [List.getD_eq_getElem?_getD, List.getElem?_append_right (Nat.le_add_right _ _), Nat.add_sub_cancel_left, List.getElem?_map, List.getElem?_eq_getElem hj, List.getD_eq_getElem?_getD, List.getElem?_eq_getElem hj]
  rfl
theorem both_ok {h1 h2 : List (List Nat)} (o1 : HouseOk h1) (o2 : HouseOk h2) (h7 : h1.length + h2.length ≤ 7) : HouseOk (bothH h1 h2) := by
  refine ⟨by rw [both_len]; have := o1.lo; omega, by rw [both_len]; exact h7, fun row hr => ?_⟩
  rw [both_len]
  unfold bothH at hr
  rcases List.mem_append.mp hr with z | z
  · obtain ⟨a, b⟩ := o1.ok row z
    exact ⟨a, b.up (Nat.le_add_right _ _)⟩
  · obtain ⟨r, hr', rfl⟩ := List.mem_map.mp z
    obtain ⟨a, b⟩ := o2.ok r hr'
    refine ⟨fun e => a (List.map_eq_nil_iff.mp e), b.shift⟩
section
variable {h1 h2 : List (List Nat)} {c : Nat}
theorem down_l (o1 : HouseOk h1) : ∀ {t : Nat} {S : List Nat}, RchL (bothH h1 h2) c t S → ∃ S1, RchL h1 c t S1 ∧ ∀ i, i < h1.length → i ∈ S → i ∈ S1
  | 0, S, e => ⟨[], rfl, fun i _ hi => by rw [show S = [] from e] at hi; exact hi⟩
  | t + 1, S, ⟨S', L, a1, a2, a3, e⟩ => by
    obtain ⟨S1, b1, b2⟩ := down_l o1 a1
    have okL : LotOk h1.length (L.filter fun s => decide (s < h1.length)) := lotOk_of (List.Pairwise.sublist List.filter_sublist a2.rise) fun i hi => of_decide_eq_true (List.mem_filter.mp hi).2
    refine ⟨nextL h1 S1 (L.filter fun s => decide (s < h1.length)), ⟨S1, _, b1, okL, Nat.le_trans (List.length_filter_le _ _) a3, rfl⟩, fun i hi hS => ?_⟩
    rw [e, mem_nextL, both_l hi] at hS
    rw [mem_nextL]
    refine ⟨hi, fun s hs => ?_⟩
    have hlt := (getD_row o1 hi).2.lt s hs
    rcases hS.2 s hs with z | z
    · exact .inl (b2 s hlt z)
    · exact .inr (List.mem_filter.mpr ⟨z, decide_eq_true hlt⟩)
theorem down_r (o2 : HouseOk h2) : ∀ {t : Nat} {S : List Nat}, RchL (bothH h1 h2) c t S → ∃ S2, RchL h2 c t S2 ∧ ∀ j, j < h2.length → h1.length + j ∈ S → j ∈ S2
  | 0, S, e => ⟨[], rfl, fun i _ hi => by rw [show S = [] from e] at hi; cases hi⟩
  | t + 1, S, ⟨S', L, a1, a2, a3, e⟩ => by
    obtain ⟨S2, b1, b2⟩ := down_r o2 a1
    rw [both_len] at a2
    have okL : LotOk h2.length ((List.range h2.length).filter fun j => decide (h1.length + j ∈ L)) := List.filter_sublist
    have e1 : shiftL h1.length ((List.range h2.length).filter fun j => decide (h1.length + j ∈ L)) = L.filter fun s => decide (h1.length ≤ s) := lot_ext (n := h1.length + h2.length) okL.shift (List.filter_sublist.trans a2) fun i => by
      rw [mem_shift, List.mem_filter, List.mem_filter, List.mem_range, decide_eq_true_eq, decide_eq_true_eq]
      constructor
      · rintro ⟨y1, y2, y3⟩
        rw [show h1.length + (i - h1.length) = i by omega] at y3
        exact ⟨y3, y1⟩
      · rintro ⟨y1, y2⟩
        have := a2.lt i y1
        exact ⟨y2, by omega, by rw [show h1.length + (i - h1.length) = i by omega]; exact y1⟩
    have hl : ((List.range h2.length).filter fun j => decide (h1.length + j ∈ L)).length ≤ L.length := by
      have y := congrArg List.length e1
      unfold shiftL at y
      rw [List.length_map] at y
      rw [y]
      exact List.length_filter_le _ _
    refine ⟨nextL h2 S2 _, ⟨S2, _, b1, okL, Nat.le_trans hl a3, rfl⟩, fun j hj hS => ?_⟩
    rw [e, mem_nextL, both_r hj] at hS
    rw [mem_nextL]
    refine ⟨hj, fun s hs => ?_⟩
    have hlt := (getD_row o2 hj).2.lt s hs
    rcases hS.2 (h1.length + s) (mem_shift.mpr ⟨by omega, by rw [Nat.add_sub_cancel_left]; exact hs⟩) with z | z
    · exact .inl (b2 s hlt z)
    · exact .inr (List.mem_filter.mpr ⟨List.mem_range.mpr hlt, decide_eq_true z⟩)
theorem up_l : ∀ {t : Nat} {S1 : List Nat}, RchL h1 c t S1 → ∃ S, RchL (bothH h1 h2) c t S ∧ ∀ i ∈ S1, i ∈ S
  | 0, S1, e => ⟨[], rfl, fun i hi => by rw [show S1 = [] from e] at hi; exact hi⟩
  | t + 1, S1, ⟨S', L, a1, a2, a3, e⟩ => by
    obtain ⟨S, b1, b2⟩ := up_l a1
    refine ⟨nextL (bothH h1 h2) S L, ⟨S, L, b1, by rw [both_len]; exact a2.up (Nat.le_add_right _ _), a3, rfl⟩, fun i hi => ?_⟩
    rw [e, mem_nextL] at hi
    rw [mem_nextL, both_len, both_l hi.1]
    exact ⟨by omega, fun s hs => (hi.2 s hs).imp (b2 s) id⟩
theorem up_r (o1 : HouseOk h1) {t0 : Nat} {S0 : List Nat} (r0 : RchL (bothH h1 h2) c t0 S0) (f0 : ∀ i, i < h1.length → i ∈ S0) : ∀ {t : Nat} {S2 : List Nat}, RchL h2 c t S2 → ∃ S, RchL (bothH h1 h2) c (t0 + t) S ∧ (∀ i, i < h1.length → i ∈ S) ∧ ∀ j ∈ S2, h1.length + j ∈ S
  | 0, S2, e => ⟨S0, r0, f0, fun i hi => by rw [show S2 = [] from e] at hi; cases hi⟩
  | t + 1, S2, ⟨S', L, a1, a2, a3, e⟩ => by
    obtain ⟨S, b1, b2, b3⟩ := up_r o1 r0 f0 a1
    refine ⟨nextL (bothH h1 h2) S (shiftL h1.length L), ⟨S, _, b1, by rw [both_len]; exact a2.shift, by unfold shiftL; rw [List.length_map]; exact a3, rfl⟩, fun i hi => ?_, fun j hj => ?_⟩
    · rw [mem_nextL, both_len, both_l hi]
      exact ⟨by omega, fun s hs => .inl (b2 s ((getD_row o1 hi).2.lt s hs))⟩
    · rw [e, mem_nextL] at hj
      rw [mem_nextL, both_len, both_r hj.1]
      refine ⟨by omega, fun s hs => ?_⟩
      obtain ⟨y1, y2⟩ := mem_shift.mp hs
      rcases hj.2 _ y2 with z | z
      · refine .inl ?_
        have := b3 _ z
        rwa [show h1.length + (s - h1.length) = s by omega] at this
      · exact .inr (mem_shift.mpr ⟨y1, z⟩)
theorem can_both (o1 : HouseOk h1) (o2 : HouseOk h2) : Can (bothH h1 h2) c (List.range (bothH h1 h2).length) ↔ Can h1 c (List.range h1.length) ∧ Can h2 c (List.range h2.length) := by
  constructor
  · rintro ⟨t, S, a1, a2⟩
    obtain ⟨S1, b1, b2⟩ := down_l o1 a1
    obtain ⟨S2, d1, d2⟩ := down_r o2 a1
    rw [both_len] at a2
    refine ⟨⟨t, S1, b1, fun i hi => b2 i (List.mem_range.mp hi) (a2 i (List.mem_range.mpr ?_))⟩, ⟨t, S2, d1, fun j hj => d2 j (List.mem_range.mp hj) (a2 _ (List.mem_range.mpr ?_))⟩⟩
    · have := List.mem_range.mp hi; omega
    · have := List.mem_range.mp hj; omega
  · rintro ⟨⟨t1, S1, a1, a2⟩, ⟨t2, S2, b1, b2⟩⟩
    obtain ⟨S, d1, d2⟩ := up_l (h2 := h2) a1
    obtain ⟨S', e1, e2, e3⟩ := up_r o1 d1 (fun i hi => d2 i (a2 i (List.mem_range.mpr hi))) b1
    refine ⟨_, S', e1, fun i hi => ?_⟩
    rw [both_len] at hi
    have hi' := List.mem_range.mp hi
    rcases Nat.lt_or_ge i h1.length with z | z
    · exact e2 i z
    · have := e3 (i - h1.length) (b2 _ (List.mem_range.mpr (by omega)))
      rwa [show h1.length + (i - h1.length) = i by omega] at this
end
theorem rch_mono {h : List (List Nat)} {c c' : Nat} (hc : c ≤ c') : ∀ {t : Nat} {S : List Nat}, RchL h c t S → RchL h c' t S
  | 0, _, e => e
  | _ + 1, _, ⟨S', L, a1, a2, a3, e⟩ => ⟨S', L, rch_mono hc a1, a2, Nat.le_trans a3 hc, e⟩
theorem can_mono {h : List (List Nat)} {c c' : Nat} {g : List Nat} (hc : c ≤ c') (x : Can h c g) : Can h c' g := by
  obtain ⟨t, S, a, b⟩ := x
  exact ⟨t, S, rch_mono hc a, b⟩
theorem num_both {h1 h2 : List (List Nat)} (o1 : HouseOk h1) (o2 : HouseOk h2) {a b : Nat} (x : IsNum h1 (List.range h1.length) a) (y : IsNum h2 (List.range h2.length) b) : IsNum (bothH h1 h2) (List.range (bothH h1 h2).length) (max a b) := by
  refine ⟨(can_both o1 o2).mpr ⟨can_mono (Nat.le_max_left _ _) x.1, can_mono (Nat.le_max_right _ _) y.1⟩, fun c' hc z => ?_⟩
  obtain ⟨z1, z2⟩ := (can_both o1 o2).mp z
  rcases Nat.lt_or_ge c' a with e | e
  · exact x.2 c' e z1
  · exact y.2 c' (by omega) z2
/-- who looks at more is no easier to cover -/
theorem sight_rch {h h' : List (List Nat)} (hl : h'.length = h.length) (hs : ∀ i, ∀ s ∈ h.getD i [], s ∈ h'.getD i []) {c : Nat} : ∀ {t : Nat} {S : List Nat}, RchL h' c t S → ∃ S', RchL h c t S' ∧ ∀ i ∈ S, i ∈ S'
  | 0, S, e => ⟨[], rfl, fun i hi => by rw [show S = [] from e] at hi; exact hi⟩
  | t + 1, S, ⟨S1, L, a1, a2, a3, e⟩ => by
    obtain ⟨S', b1, b2⟩ := sight_rch hl hs a1
    refine ⟨nextL h S' L, ⟨S', L, b1, by rw [← hl]; exact a2, a3, rfl⟩, fun i hi => ?_⟩
    rw [e, mem_nextL] at hi
    rw [mem_nextL]
    exact ⟨by rw [← hl]; exact hi.1, fun s hs' => (hi.2 s (hs i s hs')).imp (b2 s) id⟩
theorem sight_le {h h' : List (List Nat)} (hl : h'.length = h.length) (hs : ∀ i, ∀ s ∈ h.getD i [], s ∈ h'.getD i []) {g : List Nat} {a b : Nat} (x : IsNum h g a) (y : IsNum h' g b) : a ≤ b := by
  rcases Nat.lt_or_ge b a with z | z
  · obtain ⟨t, S, r, f⟩ := y.1
    obtain ⟨S', r', f'⟩ := sight_rch hl hs r
    exact absurd ⟨t, S', r', fun i hi => f' i (f i hi)⟩ (x.2 b z)
  · exact z
theorem days_pos {h : List (List Nat)} {c : Nat} {g : List Nat} {d : Nat} (hg : g ≠ []) (x : IsDays h c g (some d)) : 0 < d := by
  rcases Nat.eq_zero_or_pos d with z | z
  · subst z
    obtain ⟨⟨S, r, f⟩, _⟩ := x
    obtain ⟨i, hi⟩ := List.exists_mem_of_ne_nil _ hg
    have := f i hi
    rw [show S = [] from r] at this
    cases this
  · exact z
/-- a house with another row -/
def setH (h : List (List Nat)) (i : Nat) (row : List Nat) : List (List Nat) := h.take i ++ row :: h.drop (i + 1)
theorem set_eq {h : List (List Nat)} {i : Nat} {row : List Nat} (hi : i < h.length) : setH h i row = h.set i row := by
  unfold setH
  rw [List.set_eq_take_append_cons_drop, if_pos hi]
theorem set_len {h : List (List Nat)} {i : Nat} {row : List Nat} (hi : i < h.length) : (setH h i row).length = h.length := by
  rw [set_eq hi, List.length_set]
theorem set_ok {h : List (List Nat)} {i : Nat} {row : List Nat} (ok : HouseOk h) (hi : i < h.length) (h1 : row ≠ []) (h2 : LotOk h.length row) : HouseOk (setH h i row) := by
  refine ⟨by rw [set_len hi]; exact ok.lo, by rw [set_len hi]; exact ok.hi, fun r hr => ?_⟩
  rw [set_len hi]
  unfold setH at hr
  rcases List.mem_append.mp hr with z | z
  · exact ok.ok r (List.mem_of_mem_take z)
  · rcases List.mem_cons.mp z with z | z
    · rw [z]; exact ⟨h1, h2⟩
    · exact ok.ok r (List.mem_of_mem_drop z)
theorem set_get {h : List (List Nat)} {i j : Nat} {row : List Nat} (hi : i < h.length) : (setH h i row).getD j [] = if i = j then row else h.getD j [] := by
  rw [set_eq hi, List.getD_eq_getElem?_getD, List.getElem?_set]
  split
  · rfl
  · rw [List.getD_eq_getElem?_getD]
/-- the number of a house, whatever it is -/
noncomputable def numF (h : List (List Nat)) : Nat := open Classical in if e : ∃ c, IsNum h (List.range h.length) c then e.choose else 0
theorem numF_is {h : List (List Nat)} {c : Nat} (x : IsNum h (List.range h.length) c) : numF h = c := by
  unfold numF
  have e : ∃ c, IsNum h (List.range h.length) c := ⟨c, x⟩
  rw [dif_pos e]
  exact e.choose_spec.inj x
end N

set_option Elab.async false
set_option linter.all false
set_option maxRecDepth 100000
set_option maxHeartbeats 2000000
/-! sorted(t), t a tuple of whole numbers -/
namespace N
open PySem PySem.Spec PyProof.Rows L2
section
variable {P : Program} {w : World} {A : Around} {E : Value → Shared → Prop} {s : Shared}
abbrev gatheredH (h : Heap) (vs : List Value) : Heap := (h.push (seqObj "list" #[] 0)).update h.objs.size (Obj.mapSeq (· ++ vs.toArray))
theorem gather_tup {l : Addr} {vs : List Value} {Q : List Value → Shared → Prop} (hl : s.heap.IsTuple l vs.toArray) (hsz : vs.length ≤ sizeLine) (q : Q vs { s with heap := gatheredH s.heap vs }) : wpAny (model P w) A (collect (.ref l)) Q E s := by
  obtain ⟨o, h1, h2, n, h3⟩ := id hl
  unfold collect
  refine wpAny_bind (wpAny_runValue (codeAny_builtin entry_proto_collect' ?_))
  refine wpAny_bind (wpAny_newList (wpAny_pure ⟨Code.quiet_builtin _ (by decide +kernel), codeAny_builtin entry_list_iadd' ?_⟩))
  have h4 : (s.heap.push (seqObj "list" #[] 0)).get? l = some o := Heap.get?_push_of_some _ h1
  have h5 : (s.heap.push (seqObj "list" #[] 0)).get? s.heap.objs.size = some (seqObj "list" #[] 0) := Heap.get?_push_size _ rfl
  show wpAny _ _ (Builtin.List.listExtendWith (.ref s.heap.objs.size) (.ref l) (.ref s.heap.objs.size)) _ _ ⟨s.heap.push (seqObj "list" #[] 0), s.gens, s.drawn, s.toks, s.os⟩
  unfold Builtin.List.listExtendWith
  refine wpAny_bind (wpAny_typeOf (T := "tuple") ⟨o, h4, h2⟩ ?_)
  rw [if_pos (show (_ || (Value.type "tuple" == Value.type "list") || (Value.type "tuple" == Value.type "tuple")) = true by rw [show (Value.type "tuple" == Value.type "tuple") = true from rfl, Bool.or_true])]
  refine wpAny_bind (listItems_at h4 h3 (wpAny_bind (listItems_at h5 rfl ?_)))
  rw [if_neg (by simp)]
  refine wpAny_bind (listUpdate_at h5 rfl ?_ (Nat.zero_le _) (by simp only [Array.size_append, List.size_toArray, List.length_nil]; omega))
  refine wpAny_pure (wpAny_bind (wpAny_load (get?_update_seq h5 _) ?_))
  have h6 : ((#[] : Array Value) ++ vs.toArray).toList = vs := by simp
  show wpAny _ _ (pure ((#[] : Array Value) ++ vs.toArray).toList) Q E _
  rw [h6]
  exact wpAny_pure q
theorem sorted_tup {l : Addr} {vs : List Value} {ns : List Int} {Q : Value → Shared → Prop} (hl : s.heap.IsTuple l vs.toArray) (hI : IntsAre vs ns) (h64 : vs.length < 64)
    (q : ∀ (out : Array Value) (ns' : List Int), IntsAre out.toList ns' → ns'.Perm ns → ns'.Pairwise (· ≤ ·) → Q (.ref (s.heap.objs.size + 1)) { s with heap := sortedAll s.heap vs out }) : wpAny (model P w) A (call (.builtin "sorted") [.ref l] []) Q E s := by
  refine Calls.call_function_entry kind_sorted plain_sorted entry_sorted (args_sorted1 _) ?_
  unfold Builtin.«sorted»
  refine wpAny_bind (m := checkCount "sorted" 1 1 _) (wpAny_pure (wpAny_bind (gather_tup hl (by rw [sizeLine_eq]; omega) (wpAny_bind (wpAny_newList ?_)))))
  have e1 : (gatheredH s.heap vs).objs.size = s.heap.objs.size + 1 := by rw [Heap.size_update, size_push']
  have e2 : ((gatheredH s.heap vs).push (seqObj "list" vs.toArray 0)).get? (s.heap.objs.size + 1) = some (seqObj "list" vs.toArray 0) := by
    rw [← e1]
    exact Heap.get?_push_size _ rfl
  show wpAny _ _ _ _ _ ⟨(gatheredH s.heap vs).push (seqObj "list" vs.toArray 0), s.gens, s.drawn, s.toks, s.os⟩
  rw [e1]
  exact wpAny_bind (wpAny_holding (wpAny_call_entry slot_list_sort ⟨_, e2, rfl⟩ entry_list_sort (list_sort_tree e2 hI h64 fun out ns' a1 a2 a3 => ⟨_, rfl, wpAny_pure ⟨_, rfl, q out ns' a1 a2 a3⟩⟩) (args_list_sort _)))
end
/-- sorted(t), t a tuple of fewer than 64 whole numbers -/
def rSortedTu (K : PySem.W.Frag) : List V → Hp → VK → Prop := fun vs H Q => ∃ (a : Addr) (ns : List Int), vs = [V.ref a] ∧ SqT K H a (ns.map V.int) ∧ ns.length < 64 ∧
  ∀ (ns' : List Int) (p : Addr), ns'.Perm ns → ns'.Pairwise (· ≤ ·) → H p = none → Q (.ref p) (upd H p (.lst (ns'.map V.int)))
theorem cr_sortedTu {X : Cx} : CallR X (.builtin "sorted") (rSortedTu X.K) := by
  intro pins s σ H vs us Q I r h
  obtain ⟨a, ns, rfl, hs, h64, q⟩ := h
  obtain ⟨its, rv, hl, _⟩ := I.tuple hs
  rw [Vals.ref1 r]
  have hi := rv.ints
  refine sorted_tup hl hi (by rw [hi.length]; exact h64) fun out ns' h1 h2 h3 => ?_
  obtain ⟨ep, he⟩ := PyProof.Rows.sortedAll_at s.heap its out
  have hz : (ns'.map V.int).length ≤ sizeLine := by rw [List.length_map, h2.length_eq]; exact small64 h64
  refine ⟨.ref _, upd H (s.heap.objs.size + 1) (.lst (ns'.map V.int)), ?_, rfl, q ns' _ h2 h3 (I.hok.fresh (Nat.le_succ _))⟩
  exact I.laid (t' := s.toks) (fun _ _ => PyProof.Rows.sortedAll_old) (Nat.le_succ _) ⟨hz, out.toList, ep, vals_of_ints h1, he⟩
end N

set_option Elab.async false
set_option linter.all false
set_option maxRecDepth 100000
set_option maxHeartbeats 2000000
/-! a house with another row -/
namespace N
open Cb (lotV combs combsOf combsOf_sub)
open PySem PySem.Spec PyProof.Rows L2
theorem p_iTup (K : PySem.W.Frag) {X : Cx} {tg l : Expr} {tl : TE} (hl : PE X l tl) (hK : X.K = K := by rfl) : PI X tg l (iTup K tl) := by
  subst hK
  exact pi_tup hl
theorem o_in (K : PySem.W.Frag) {X : Cx} (hK : X.K = K := by rfl) : OpR X (compareOp .In) (rIn K false) := by
  subst hK
  exact op_in_seq
theorem p_tupleOf (K : PySem.W.Frag) {X : Cx} {a : Expr} {ta : TE} {p pos : Pos} (hg : Gl X "tuple") (hm : X.mg "tuple" = none) (ha : PE X a ta) (na : starEach [a] X.env = (false, eval a X.env) :: starEach [] X.env := by rfl) (hK : X.K = K := by rfl) :
    PE X (.Call (.Name "tuple" p) [a] [] pos) (tThen ta (kTup K)) := by
  subst hK
  exact pe_tupleOf hg hm ha na
theorem take_succ' {α : Type} {l : List α} {j : Nat} {k : α} (h : l[j]? = some k) : l.take (j + 1) = l.take j ++ [k] := by
  rw [List.take_add_one, h]
  rfl
/-- s looked at too -/
def insL (row : List Nat) (s : Nat) : List Nat := (List.range 7).filter fun x => decide (x ∈ row ∨ x = s)
theorem mem_ins {n : Nat} {row : List Nat} {s x : Nat} (ok : LotOk n row) (hn : n ≤ 7) (hs : s < n) : x ∈ insL row s ↔ x ∈ row ∨ x = s := by
  unfold insL
  rw [List.mem_filter, List.mem_range, decide_eq_true_eq]
  constructor
  · exact fun z => z.2
  · rintro (z | z)
    · have := ok.lt x z
      exact ⟨by omega, .inl z⟩
    · exact ⟨by omega, .inr z⟩
theorem ins_ok {n : Nat} {row : List Nat} {s : Nat} (ok : LotOk n row) (hn : n ≤ 7) (hs : s < n) : LotOk n (insL row s) := by
  refine lotOk_of (List.Pairwise.sublist List.filter_sublist List.pairwise_lt_range) fun i hi => ?_
  rcases (mem_ins ok hn hs).mp hi with z | z
  · exact ok.lt i z
  · omega
theorem ins_ne {n : Nat} {row : List Nat} {s : Nat} (ok : LotOk n row) (hn : n ≤ 7) (hs : s < n) : insL row s ≠ [] := fun e => by
  have := (mem_ins (x := s) ok hn hs).mpr (.inr rfl)
  rw [e] at this
  cases this
/-- the sorted numbers of a lot and one more -/
theorem sorted_ins {n : Nat} {row : List Nat} {s : Nat} (ok : LotOk n row) (hn : n ≤ 7) (hs : s < n) (hno : s ∉ row) {ns' : List Int} (hp : ns'.Perm ((row ++ [s]).map fun (k : Nat) => (k : Int))) (ho : ns'.Pairwise (· ≤ ·)) : ns'.map V.int = lotV (insL row s) := by
  have nd : (row ++ [s]).Nodup := List.nodup_append.mpr ⟨List.Nodup.sublist ok List.nodup_range, by simp, fun a ha b hb e => hno (by rw [← List.mem_singleton.mp hb, ← e]; exact ha)⟩
  obtain ⟨l, e1, ol, _⟩ := sorted_lot (n := n) hp ho nd fun k hk => by
    rcases List.mem_append.mp hk with z | z
    · exact ok.lt k z
    · rw [List.mem_singleton.mp z]; exact hs
  have e2 : l = insL row s := lot_ext ol (ins_ok ok hn hs) fun x => by
    rw [mem_ins ok hn hs]
    have hx : (x : Int) ∈ ns' ↔ x ∈ l := by
      rw [e1, List.mem_map]
      exact ⟨fun ⟨k, hk, e⟩ => by have : k = x := by omega
                                  exact this ▸ hk, fun h => ⟨x, h, rfl⟩⟩
    rw [← hx, hp.mem_iff, List.mem_map]
    constructor
    · rintro ⟨k, hk, e⟩
      have : k = x := by omega
      subst this
      exact (List.mem_append.mp hk).imp id List.mem_singleton.mp
    · intro z
      exact ⟨x, List.mem_append.mpr (z.imp id List.mem_singleton.mpr), rfl⟩
  rw [e1, e2, List.map_map]
  rfl
section
variable {P : Program} {w : World} {K : PySem.W.Frag} {mg : Str → Option Value} {base : Heap}
theorem cat_any {H : Hp} {a b : Addr} {xs ys : List V} {Q : VK} (ha : SqT K H a xs) (hb : SqT K H b ys) (hz : xs.length + ys.length ≤ 1000) (q : ∀ (H' : Hp) (r : Addr), Same H H' → SqT K H' r (xs ++ ys) → Q (.ref r) H') : rCatA K (.ref a) (.ref b) H Q := by
  refine ⟨a, b, xs, ys, rfl, rfl, ha, hb, Nat.le_of_lt (small1000 hz), fun e => ?_, fun _ e => ?_, fun _ _ p hp => ?_⟩
  · subst e
    exact q H b (Same.refl _) hb
  · subst e
    exact q H a (Same.refl _) (by rw [List.append_nil]; exact ha)
  · exact q _ p (same_upd hp) (SqT.up upd_same)
theorem slice_any {H : Hp} {a : Addr} {xs : List V} {lo hi : Option Int} {Q : VK} (ha : SqT K H a xs) (q : ∀ (H' : Hp) (r : Addr), Same H H' → SqT K H' r (cutV xs lo hi) → Q (.ref r) H') : rSlA K (.ref a) lo hi H Q := by
  refine ⟨a, xs, rfl, ha, fun e => ?_, fun _ p hp => q _ p (same_upd hp) (SqT.up upd_same)⟩
  refine q H a (Same.refl _) ?_
  have e2 : cutV xs lo hi = xs := by
    unfold cutV
    rw [e.1, e.2, List.drop_zero, Nat.sub_zero, List.take_length]
  rw [e2]
  exact ha
theorem cut_to (xs : List V) {i : Nat} (hi : i ≤ xs.length) : cutV xs none (some (i : Int)) = xs.take i := by
  unfold cutV
  rw [HT.sIx_none, HT.sIx_nat, List.drop_zero, Nat.sub_zero, Nat.min_eq_left hi]
theorem cut_from (xs : List V) {i : Nat} (hi : i ≤ xs.length) : cutV xs (some (i : Int)) none = xs.drop i := by
  unfold cutV
  rw [HT.sIx_none, HT.sIx_nat, Nat.min_eq_left hi, ← List.length_drop, List.take_length]
theorem paired_take {α β : Type} {F : α → β → Prop} : ∀ {as : List α} {bs : List β}, Paired F as bs → ∀ i, Paired F (as.take i) (bs.take i)
  | _, _, .nil, i => by rw [List.take_nil, List.take_nil]; exact .nil
  | _, _, .cons r t, 0 => .nil
  | _, _, .cons r t, i + 1 => .cons r (paired_take t i)
theorem paired_drop {α β : Type} {F : α → β → Prop} : ∀ {as : List α} {bs : List β}, Paired F as bs → ∀ i, Paired F (as.drop i) (bs.drop i)
  | _, _, .nil, i => by rw [List.drop_nil, List.drop_nil]; exact .nil
  | _, _, .cons r t, 0 => .cons r t
  | _, _, .cons r t, i + 1 => paired_drop t i
theorem house_row {H : Hp} {a : Addr} {h : List (List Nat)} {i : Nat} (hA : HouseAt K H a h) (hi : i < h.length) : ∃ (rs : List V) (rp : Addr), SqT K H a rs ∧ rs[i]? = some (.ref rp) ∧ LotAt K H rp (h.getD i []) := by
  obtain ⟨rs, h1, h2⟩ := hA
  have hl : rs.length = h.length := Paired.length h2
  have hr : rs[i]? = some rs[i] := List.getElem?_eq_getElem (by omega)
  obtain ⟨row, e1, e2⟩ := paired_at h2 hr
  refine ⟨_, rs[i], h1, by rw [List.getElem?_map, hr]; rfl, ?_⟩
  rw [List.getD_eq_getElem?_getD, e1]
  exact e2
/-- three parts of a tuple of rows make the house with another row -/
theorem house_parts {H : Hp} {p rp : Addr} {h : List (List Nat)} {rs : List Addr} {i : Nat} {l : List Nat} (hP : Paired (fun r row => LotAt K H r row) rs h) (hr : LotAt K H rp l) (hp : SqT K H p ((rs.map V.ref).take i ++ [V.ref rp] ++ (rs.map V.ref).drop (i + 1))) : HouseAt K H p (setH h i l) := by
  refine ⟨rs.take i ++ [rp] ++ rs.drop (i + 1), ?_, ?_⟩
  · have e : ((rs.take i ++ [rp] ++ rs.drop (i + 1)).map V.ref) = (rs.map V.ref).take i ++ [V.ref rp] ++ (rs.map V.ref).drop (i + 1) := by
      rw [List.map_append, List.map_append, List.map_take, List.map_drop]
      rfl
    rw [e]
    exact hp
  · unfold setH
    rw [List.append_assoc]
    exact paired_app (paired_take hP i) (.cons hr (paired_drop hP (i + 1)))
def sp_with_row (K : PySem.W.Frag) : Sp := fun vs H Q _ => ∃ (a r : Addr) (h : List (List Nat)) (i : Nat) (l : List Nat), vs = [.ref a, .int i, .ref r] ∧ HouseAt K H a h ∧ HouseOk h ∧ i < h.length ∧ SqL K H r (lotV l) ∧
  ∀ (H' : Hp) (p : Addr), Same H H' → HouseAt K H' p (setH h i l) → Q (.ref p) H'
theorem sc_with_row : FnScope ["house", "clerk", "row"] ["house", "clerk", "row"] (defScope s__with_row) := ⟨rfl, rfl, rfl, by decide +kernel, rfl, by decide +kernel, by decide +kernel⟩
theorem ok_with_row (T : Txt K mg) : FnOk P w K mg base CX0 1 T.d__with_row.f T.d__with_row.fd ["house", "clerk", "row"] (sp_with_row K) := by
  refine T.d__with_row.F.ok sc_with_row (fun vs H Q E h => ?_) (fun cdv A outer s H vs Q E hr h => ?_)
  · obtain ⟨a, r, h, i, l, rfl, _⟩ := h
    rfl
  · obtain ⟨a, r, hs, i, l, rfl, hA, ok, hi, hr', q⟩ := h
    have nd := sc_with_row.nd
    refine ⟨_, pss_one (ps_ret (pe_op op_catA (pe_op op_catA (pe_slice sl_tupA (pv 0) po_none (po_some (pv 1))) (pe_tup (pa_cons (pe_tupleOf (by rfl) T.n_tuple (pv 2)) pa_nil)))
      (pe_slice sl_tupA (pv 0) (po_some (pe_op op_add (pv 1) pe_int)) po_none))), ?_⟩
    have hn7 := ok.hi
    obtain ⟨rs, hR, hP⟩ := id hA
    have hl : rs.length = hs.length := Paired.length hP
    have hlv : (rs.map V.ref).length = hs.length := by rw [List.length_map, hl]
    refine ⟨.ref a, rfl, .int i, rfl, i, rfl, slice_any hR fun H1 p1 sm1 hp1 => ?_⟩
    rw [cut_to _ (by omega)] at hp1
    refine ⟨.ref r, rfl, .inl ⟨r, _, rfl, Same.seq sm1 hr', fun tp htp => ?_⟩⟩
    have sm2 := sm1.trans (same_upd (o := .tup (lotV l)) htp)
    have hp1' := Same.tup (same_upd (o := .tup (lotV l)) htp) hp1
    have hL2 : LotAt K (upd H1 tp (.tup (lotV l))) tp l := SqT.up upd_same
    generalize upd H1 tp (.tup (lotV l)) = H2 at sm2 hL2 hp1'
    refine ⟨by (show 1 ≤ sizeLine; decide), fun op hop => ?_⟩
    have s3 : Same H2 (upd H2 op (.tup [.ref tp])) := same_upd hop
    have hO : SqT K (upd H2 op (.tup [.ref tp])) op [.ref tp] := SqT.up upd_same
    generalize upd H2 op (.tup [.ref tp]) = H3 at s3 hO
    have htk : ((rs.map V.ref).take i).length ≤ 7 := by rw [List.length_take]; omega
    refine cat_any (Same.tup s3 hp1') hO (by show _ + 1 ≤ 1000; omega) fun H4 p4 sm4 hp4 => ?_
    have sm5 := (sm2.trans s3).trans sm4
    refine ⟨.ref a, rfl, .int i, rfl, i, 1, rfl, rfl, (i : Int) + 1, rfl, ?_⟩
    delta tNoPart
    refine slice_any (Same.tup sm5 hR) fun H6 p6 sm6 hp6 => ?_
    rw [show ((i : Int) + 1) = ((i + 1 : Nat) : Int) by omega, cut_from _ (by omega)] at hp6
    refine cat_any (Same.tup sm6 hp4) hp6 ?_ fun H7 p7 sm7 hp7 => ?_
    · rw [List.length_append, List.length_drop]
      show _ + 1 + _ ≤ 1000
      omega
    · have smA := (sm5.trans sm6).trans sm7
      exact q H7 p7 smA (house_parts (rs := rs) (paired_mono hP fun _ _ z => z.same smA) (((hL2.same s3).same sm4).same sm6 |>.same sm7) hp7)
def sp_without (K : PySem.W.Frag) : Sp := fun vs H Q _ => ∃ (a : Addr) (h : List (List Nat)) (i s : Nat), vs = [.ref a, .int i, .int s] ∧ HouseAt K H a h ∧ HouseOk h ∧ i < h.length ∧
  ∀ (H' : Hp) (p : Addr), Same H H' → HouseAt K H' p (setH h i ((h.getD i []).filter fun x => !decide (x = s))) → Q (.ref p) H'
theorem sc_without : FnScope ["house", "clerk", "slate", "other"] ["house", "clerk", "slate"] (defScope s__without) := ⟨rfl, rfl, rfl, by decide +kernel, rfl, by decide +kernel, by decide +kernel⟩
theorem ok_without (T : Txt K mg) : FnOk P w K mg base CX0 2 T.d__without.f T.d__without.fd ["house", "clerk", "slate"] (sp_without K) := by
  have G := ok_with_row (P := P) (w := w) (base := base) T
  refine T.d__without.F.ok sc_without (fun vs H Q E h => ?_) (fun cdv A outer s H vs Q E hr h => ?_)
  · obtain ⟨a, h, i, s, rfl, _⟩ := h
    rfl
  · obtain ⟨a, hs, i, s0, rfl, hA, ok, hi, q⟩ := h
    have nd := sc_without.nd
    refine ⟨_, pss_one (ps_ret (pe_call G hr (by rfl) T.d__with_row.g T.d__with_row.F.kp T.d__with_row.b .nil pass0 (pa_cons (pv 0) (pa_cons (pv 1) (pa_cons
      (pe_lc (own := [("other", 3)]) (g := gName 3) rfl nd (pi_tup (pe_ix (x_tup K) (pv 0) (pv 1) (fun _ _ => rfl)))
        (blkOk_by (N := ["house", "clerk", "slate", "other"]) (sc := defScope s__without) (by decide +kernel)) (fun _ _ _ _ _ => pg_name (i := 3) nd rfl (.inl rfl))
        (fun _ _ _ _ _ => pts_one (pt_cmpR op_ne (pv 3) (pv 2) (by rfl))) (fun _ _ _ _ _ => pv 3)) pa_nil))))), ?_⟩
    have hn7 := ok.hi
    obtain ⟨rsv, rp, hR, hrp, hat⟩ := house_row hA hi
    have hrl := (getD_row ok hi).2.len
    refine ⟨.ref a, rfl, .int i, rfl, .ref a, rfl, .int i, rfl, a, rsv, (i : Int), .ref rp, rfl, rfl, hR, atI_nat hrp, rp, rfl, ⟨_, hat⟩, fun D hD => ?_⟩
    generalize erow : hs.getD i [] = row at hat hrl q
    refine lc_tup (K := K) (a := rp) (xs := lotV row) (fun j H2 => H2 = upd H D (.lst (lotV ((row.take j).filter fun x => !decide (x = s0))))) rfl (fun j H2 _ e => by rw [e]; exact hat.same (same_upd hD)) ?_ ?_
    · rintro j y H2 hj rfl
      obtain ⟨x, hx, rfl⟩ := get_lotV hj
      refine ⟨rfl, .int (x : Int), rfl, .int (s0 : Int), rfl, rfl, !decide (x = s0), ?_, ?_⟩
      · have : decide (V.int (x : Int) = V.int (s0 : Int)) = decide (x = s0) := decide_eq_decide.mpr ⟨fun z => by have := V.int.inj z; omega, fun z => by rw [z]⟩
        rw [this]
      have etk : (row.take (j + 1)).filter (fun x => !decide (x = s0)) = (row.take j).filter (fun x => !decide (x = s0)) ++ if (!decide (x = s0)) = true then [x] else [] := by
        rw [take_succ' hx, List.filter_append, List.filter_cons]
        rfl
      refine ite2 (fun hb => ?_) (fun hb => ?_)
      · rw [if_pos hb] at etk
        refine ⟨_, rfl, _, upd_same, ?_, ?_⟩
        · rw [List.length_map]
          have h1 := List.length_filter_le (fun x => !decide (x = s0)) (row.take j)
          rw [List.length_take] at h1
          exact small1000 (by omega)
        · show upd _ _ _ = _
          rw [upd_upd, etk]
          unfold lotV
          rw [List.map_append]
          rfl
      · rw [if_neg hb, List.append_nil] at etk
        show _ = _
        rw [etk]
    · rintro H2 rfl
      rw [List.length_map, List.take_length]
      exact ⟨a, D, hs, i, row.filter fun x => !decide (x = s0), rfl, hA.same (same_upd hD), ok, hi, SqL.up upd_same, fun H3 p sm3 hp => q H3 p ((same_upd hD).trans sm3) hp⟩
def sp_with_sight (K : PySem.W.Frag) : Sp := fun vs H Q _ => ∃ (a : Addr) (h : List (List Nat)) (i s : Nat), vs = [.ref a, .int i, .int s] ∧ HouseAt K H a h ∧ HouseOk h ∧ i < h.length ∧ s < h.length ∧ s ∉ h.getD i [] ∧
  ∀ (H' : Hp) (p : Addr), Same H H' → HouseAt K H' p (setH h i (insL (h.getD i []) s)) → Q (.ref p) H'
theorem sc_with_sight : FnScope ["house", "clerk", "slate"] ["house", "clerk", "slate"] (defScope s_with_sight) := ⟨rfl, rfl, rfl, by decide +kernel, rfl, by decide +kernel, by decide +kernel⟩
theorem ok_with_sight (T : Txt K mg) : FnOk P w K mg base CX0 4 T.d_with_sight.f T.d_with_sight.fd ["house", "clerk", "slate"] (sp_with_sight K) := by
  have G1 := ok_check_house (P := P) (w := w) (base := base) T
  have G2 := ok_check_number (P := P) (w := w) (base := base) T
  have G3 := ok_with_row (P := P) (w := w) (base := base) T
  refine T.d_with_sight.F.ok sc_with_sight (fun vs H Q E h => ?_) (fun cdv A outer s H vs Q E hr h => ?_)
  · obtain ⟨a, h, i, s, rfl, _⟩ := h
    rfl
  · obtain ⟨a, hs, i, s0, rfl, hA, ok, hi, hs0, hno, q⟩ := h
    have nd := sc_with_sight.nd
    have hr1 : Room 1 _ := hr.mono (by decide)
    have hr2 : Room 2 _ := hr.mono (by decide)
    refine ⟨_, pss_cons (ps_expr (pe_call G1 hr (by rfl) T.d_check_house.g T.d_check_house.F.kp T.d_check_house.b .nil pass0 (pa_cons (pv 0) pa_nil)))
      (pss_cons (ps_expr (pe_call G2 hr2 (by rfl) T.d_check_number.g T.d_check_number.F.kp T.d_check_number.b .nil pass0 (pa_cons (pv 1) (pa_cons pe_int (pa_cons (pe_op op_sub (pe_callB call_len_seq (by rfl) T.n_len PySem.boot_len (pa_cons (pv 0) pa_nil)) pe_int) pa_nil)))))
      (pss_cons (ps_expr (pe_call G2 hr2 (by rfl) T.d_check_number.g T.d_check_number.F.kp T.d_check_number.b .nil pass0 (pa_cons (pv 2) (pa_cons pe_int (pa_cons (pe_op op_sub (pe_callB call_len_seq (by rfl) T.n_len PySem.boot_len (pa_cons (pv 0) pa_nil)) pe_int) pa_nil)))))
      (pss_cons (ps_if (pt_cmpR op_in_seq (pv 2) (pe_ix ix_tup (pv 0) (pv 1) (fun _ _ => rfl)) (by rfl)) (pss_one ps_never) pss_nil)
      (pss_one (ps_ret (pe_call G3 hr1 (by rfl) T.d__with_row.g T.d__with_row.F.kp T.d__with_row.b .nil pass0 (pa_cons (pv 0) (pa_cons (pv 1) (pa_cons
        (pe_callB cr_sortedTu (by rfl) T.n_sorted (by decide +kernel) (pa_cons (pe_op op_catA (pe_ix ix_tup (pv 0) (pv 1) (fun _ _ => rfl)) (pe_tup (pa_cons (pv 2) pa_nil))) pa_nil)) pa_nil))))))))), ?_⟩
    have hn7 := ok.hi
    refine ⟨.ref a, rfl, a, hs, rfl, hA, ok, fun H1 sm1 => ?_⟩
    have hA1 := hA.same sm1
    obtain ⟨rs, hR, hP⟩ := id hA1
    have hlv : (rs.map V.ref).length = hs.length := by rw [List.length_map]; exact Paired.length hP
    refine ⟨.int i, rfl, .ref a, rfl, a, _, rfl, .inr hR, _, 1, rfl, rfl, i, 0, ((rs.map V.ref).length : Int) - 1, rfl, by omega, by rw [hlv]; omega, ?_⟩
    refine ⟨.int s0, rfl, .ref a, rfl, a, _, rfl, .inr hR, _, 1, rfl, rfl, s0, 0, ((rs.map V.ref).length : Int) - 1, rfl, by omega, by rw [hlv]; omega, ?_⟩
    obtain ⟨rsv, rp, hR', hrp, hat⟩ := house_row hA1 hi
    have okr := (getD_row ok hi).2
    have hrl := okr.len
    generalize erow : hs.getD i [] = row at hat hrl hno q okr
    refine ⟨.int s0, rfl, .ref a, rfl, .int i, rfl, a, rsv, (i : Int), .ref rp, rfl, rfl, hR', atI_nat hrp, rp, lotV row, rfl, .inr hat, rfl, flat_lot _, ?_⟩
    refine ⟨false, by rw [if_neg Bool.false_ne_true, inV_lot, decide_eq_false hno], iteF ?_⟩
    refine ⟨.ref a, rfl, .int i, rfl, .ref a, rfl, .int i, rfl, a, rsv, (i : Int), .ref rp, rfl, rfl, hR', atI_nat hrp, .int s0, rfl, by (show 1 ≤ sizeLine; decide), fun op hop => ?_⟩
    have s2 : Same H1 (upd H1 op (.tup [.int (s0 : Int)])) := same_upd hop
    have hO : SqT K (upd H1 op (.tup [.int (s0 : Int)])) op (lotV [s0]) := SqT.up upd_same
    generalize upd H1 op (.tup [.int (s0 : Int)]) = H2 at s2 hO
    refine cat_any (hat.same s2) hO (by rw [List.length_map, List.length_map]; show _ + 1 ≤ 1000; omega) fun H3 p3 sm3 hp3 => ?_
    have ecat : lotV row ++ lotV [s0] = ((row ++ [s0]).map fun (k : Nat) => (k : Int)).map V.int := by
      rw [List.map_map, List.map_append]
      rfl
    rw [ecat] at hp3
    refine ⟨p3, _, rfl, hp3, by rw [List.length_map, List.length_append]; show _ + 1 < 64; omega, fun ns' sp hperm hsort hsp => ?_⟩
    rw [sorted_ins okr hn7 hs0 hno hperm hsort]
    have sm4 := (s2.trans sm3).trans (same_upd (o := .lst (lotV (insL row s0))) hsp)
    exact ⟨a, sp, hs, i, insL row s0, rfl, hA1.same sm4, ok, hi, SqL.up upd_same, fun H5 p sm5 hp => q H5 p ((sm1.trans sm4).trans sm5) hp⟩
end
end N

set_option Elab.async false
set_option linter.all false
set_option maxRecDepth 100000
set_option maxHeartbeats 2000000
/-! houses side by side -/
namespace N
open Cb (lotV combs combsOf combsOf_sub)
open PySem PySem.Spec PyProof.Rows L2
abbrev scBeside : Scope := { kind := .function, names := [((".0" : Str), .local), (("row" : Str), .local), (("tuple" : Str), .globalImplicit), (("one" : Str), .cell)], isGenerator := false, isCoroutine := false }
section
variable {P : Program} {w : World} {K : PySem.W.Frag} {mg : Str → Option Value} {base : Heap}
theorem shift_take {n : Nat} {l : List Nat} {j s : Nat} (h : l[j]? = some s) : shiftL n (l.take (j + 1)) = shiftL n (l.take j) ++ [s + n] := by
  rw [take_succ' h]
  unfold shiftL
  rw [List.map_append]
  rfl
theorem house_app {H : Hp} {p : Addr} {h1 h2 : List (List Nat)} {rs us : List Addr} (hP : Paired (fun r row => LotAt K H r row) rs h1) (hU : Paired (fun r row => LotAt K H r row) us (h2.map (shiftL h1.length))) (hp : SqT K H p (rs.map V.ref ++ us.map V.ref)) : HouseAt K H p (bothH h1 h2) :=
  ⟨rs ++ us, by rw [List.map_append]; exact hp, paired_app hP hU⟩
def sp_beside (K : PySem.W.Frag) : Sp := fun vs H Q _ => ∃ (a b : Addr) (h1 h2 : List (List Nat)), vs = [.ref a, .ref b] ∧ HouseAt K H a h1 ∧ HouseOk h1 ∧ HouseAt K H b h2 ∧ HouseOk h2 ∧ h1.length + h2.length ≤ 7 ∧
  ∀ (H' : Hp) (p : Addr), Same H H' → HouseAt K H' p (bothH h1 h2) → Q (.ref p) H'
theorem sc_beside : FnScope ["one", "other", "row", "slate"] ["one", "other"] (defScope s_beside) := ⟨rfl, rfl, rfl, by decide +kernel, rfl, by decide +kernel, by decide +kernel⟩
theorem ok_beside (T : Txt K mg) : FnOk P w K mg base CX0 4 T.d_beside.f T.d_beside.fd ["one", "other"] (sp_beside K) := by
  have G1 := ok_check_house (P := P) (w := w) (base := base) T
  obtain ⟨tm, gm⟩ := T.g_MOST_CLERKS
  refine T.d_beside.F.ok sc_beside (fun vs H Q E h => ?_) (fun cdv A outer s H vs Q E hr h => ?_)
  · obtain ⟨a, b, h1, h2, rfl, _⟩ := h
    rfl
  · obtain ⟨a, b, h1, h2, rfl, hA, o1, hB, o2, h7, q⟩ := h
    have nd := sc_beside.nd
    refine ⟨_, pss_cons (ps_expr (pe_call G1 hr (by rfl) T.d_check_house.g T.d_check_house.F.kp T.d_check_house.b .nil pass0 (pa_cons (pv 0) pa_nil)))
      (pss_cons (ps_expr (pe_call G1 hr (by rfl) T.d_check_house.g T.d_check_house.F.kp T.d_check_house.b .nil pass0 (pa_cons (pv 1) pa_nil)))
      (pss_cons (ps_if (pt_cmpR op_gt (pe_op op_add (pe_callB call_len_seq (by rfl) T.n_len PySem.boot_len (pa_cons (pv 0) pa_nil)) (pe_callB call_len_seq (by rfl) T.n_len PySem.boot_len (pa_cons (pv 1) pa_nil))) (pe_glob (v := .int 7) (by rfl) gm ⟨_, rfl⟩) (by rfl)) (pss_one ps_never) pss_nil)
      (pss_one (ps_ret (pe_op op_catA (pv 0) (pe_tupleOf (by rfl) T.n_tuple
        (pe_lc (own := [("row", 2)]) (g := gName 2) (tt := tYes) rfl nd (pi_tup (pv 1))
          (blkOk_by (N := ["one", "other", "row", "slate"]) (sc := defScope s_beside) (by decide +kernel)) (fun _ _ _ _ _ => pg_name (i := 2) nd rfl (.inl rfl)) (fun _ _ _ _ _ => pts_nil)
          (fun _ _ _ _ _ => p_tupleOf K (by rfl) T.n_tuple
            (pe_lc (own := [("slate", 3)]) (g := gName 3) (tt := tYes) (wi := iTup K (tVar 2)) rfl nd (p_iTup K (pv 2))
              (blkOk_by (N := ["one", "other", "row", "slate"]) (sc := scBeside) (by decide +kernel)) (fun _ _ _ _ _ => pg_name (i := 3) nd rfl (.inl rfl)) (fun _ _ _ _ _ => pts_nil)
              (fun _ _ _ _ _ => pe_op op_add (pv 3) (pe_callB (c_len K) (by rfl) T.n_len PySem.boot_len (pa_cons (pv 0) pa_nil)))))))))))), ?_⟩
    refine ⟨.ref a, rfl, a, h1, rfl, hA, o1, fun H1 sm1 => ?_⟩
    refine ⟨.ref b, rfl, b, h2, rfl, hB.same sm1, o2, fun H2 sm2 => ?_⟩
    have sm12 := sm1.trans sm2
    obtain ⟨rs, hR, hP⟩ := id (hA.same sm12)
    obtain ⟨rs2, hR2, hP2⟩ := id (hB.same sm12)
    have hl1 : (rs.map V.ref).length = h1.length := by rw [List.length_map]; exact Paired.length hP
    have hl2 : (rs2.map V.ref).length = h2.length := by rw [List.length_map]; exact Paired.length hP2
    refine ⟨.ref a, rfl, a, _, rfl, .inr hR, .ref b, rfl, b, _, rfl, .inr hR2, _, _, rfl, rfl, _, 7, rfl, rfl, false, ?_, iteF ?_⟩
    · have e : ¬ ((7 : Int) < ((rs.map V.ref).length : Int) + ((rs2.map V.ref).length : Int)) := by omega
      show V.bl (decide ((7 : Int) < ((rs.map V.ref).length : Int) + ((rs2.map V.ref).length : Int))) = _
      rw [decide_eq_false e]
    refine ⟨.ref a, rfl, .ref b, rfl, b, rfl, ⟨_, hR2⟩, fun D hD => ?_⟩
    refine lc_tup (K := K) (a := b) (xs := rs2.map V.ref) (fun i H3 => ∃ us : List Addr, Same H2 H3 ∧ H3 D = some (.lst (us.map V.ref)) ∧ Paired (fun r row => LotAt K H3 r row) us ((h2.take i).map (shiftL h1.length)))
      ⟨[], same_upd hD, upd_same, .nil⟩ (fun i H3 _ ⟨_, h3, _⟩ => Same.tup h3 hR2) ?_ ?_
    · rintro i x H3 hi ⟨us, sm3, hd3, hU⟩
      obtain ⟨rp, hri, rfl⟩ := get_refs hi
      obtain ⟨row, hrow, hat⟩ := paired_at hP2 hri
      have okr := (o2.ok row (List.mem_of_getElem? hrow)).2
      have hrl := okr.len
      have hat3 := hat.same sm3
      refine ⟨rfl, tYes_if ⟨.ref rp, rfl, rp, rfl, ⟨_, hat3⟩, fun D2 hD2 => ?_⟩⟩
      refine lc_tup (K := K) (a := rp) (xs := lotV row) (fun j H4 => H4 = upd H3 D2 (.lst (lotV (shiftL h1.length (row.take j))))) rfl (fun j H4 _ e => by rw [e]; exact hat3.same (same_upd hD2)) ?_ ?_
      · rintro j y H4 hj rfl
        obtain ⟨s0, hs0, rfl⟩ := get_lotV hj
        have smD : Same H3 (upd H3 D2 (.lst (lotV (shiftL h1.length (row.take j))))) := same_upd hD2
        refine ⟨rfl, tYes_if ⟨.int (s0 : Int), rfl, .ref a, rfl, a, _, rfl, .inr (Same.tup (sm3.trans smD) hR), _, _, rfl, rfl, _, upd_same, ?_, ?_⟩⟩
        · unfold shiftL
          rw [List.length_map, List.length_map, List.length_take]
          exact small1000 (by omega)
        · show upd _ _ _ = _
          rw [upd_upd, shift_take hs0, hl1]
          unfold lotV
          rw [List.map_append]
          have e : (s0 : Int) + (h1.length : Int) = ((s0 + h1.length : Nat) : Int) := by omega
          show upd H3 D2 (.lst (_ ++ [V.int ((s0 : Int) + (h1.length : Int))])) = _
          rw [e]
          rfl
      · rintro H4 rfl
        rw [List.length_map, List.take_length]
        have smD : Same H3 (upd H3 D2 (.lst (lotV (shiftL h1.length row)))) := same_upd hD2
        refine .inl ⟨D2, _, rfl, SqL.up upd_same, fun tp htp => ?_⟩
        have smT := smD.trans (same_upd (o := .tup (lotV (shiftL h1.length row))) htp)
        have hT : LotAt K (upd (upd H3 D2 (.lst (lotV (shiftL h1.length row)))) tp (.tup (lotV (shiftL h1.length row)))) tp (shiftL h1.length row) := SqT.up upd_same
        generalize upd (upd H3 D2 (.lst (lotV (shiftL h1.length row)))) tp (.tup (lotV (shiftL h1.length row))) = H5 at smT hT
        have hd5 := smT _ _ hd3
        refine ⟨_, hd5, ?_, us ++ [tp], fun b' o e => ?_, ?_, ?_⟩
        · have hul : us.length = _ := Paired.length hU
          rw [List.length_map, List.length_take] at hul
          rw [List.length_map]
          exact small1000 (by omega)
        · rw [upd_ne (ne_of_none e hD)]
          exact smT _ _ (sm3 _ _ e)
        · rw [upd_same, List.map_append]
          rfl
        · rw [take_succ' hrow, List.map_append]
          exact paired_app (paired_mono hU fun _ _ z => lot_off (z.same smT) hd5) (.cons (lot_off hT hd5) .nil)
    · rintro H3 ⟨us, sm3, hd3, hU⟩
      rw [List.length_map, show rs2.length = h2.length from Paired.length hP2, List.take_length] at hU
      refine .inl ⟨D, _, rfl, SqL.up hd3, fun tp htp => ?_⟩
      have sT : Same H3 (upd H3 tp (.tup (us.map V.ref))) := same_upd htp
      have hT : SqT K (upd H3 tp (.tup (us.map V.ref))) tp (us.map V.ref) := SqT.up upd_same
      generalize upd H3 tp (.tup (us.map V.ref)) = H4 at sT hT
      have sm4 := sm3.trans sT
      have hul : us.length = h2.length := by
        have : us.length = _ := Paired.length hU
        rw [List.length_map] at this
        exact this
      refine cat_any (Same.tup sm4 hR) hT (by rw [hl1, List.length_map, hul]; omega) fun H5 p sm5 hp => ?_
      exact q H5 p (sm12.trans (sm4.trans sm5)) (house_app (paired_mono hP fun _ _ z => (z.same sm4).same sm5) (paired_mono hU fun _ _ z => (z.same sT).same sm5) hp)
end
end N

set_option Elab.async false
set_option linter.all false
set_option maxRecDepth 100000
set_option maxHeartbeats 2000000
/-! the best sight, spare sights -/
namespace N
open Cb (lotV combs combsOf combsOf_sub)
open PySem PySem.Spec PyProof.Rows L2
def moreH (h : List (List Nat)) (i s : Nat) : List (List Nat) := setH h i (insL (h.getD i []) s)
def lessH (h : List (List Nat)) (i s : Nat) : List (List Nat) := setH h i ((h.getD i []).filter fun x => !decide (x = s))
theorem more_ok {h : List (List Nat)} {i s : Nat} (ok : HouseOk h) (hi : i < h.length) (hs : s < h.length) : HouseOk (moreH h i s) :=
  set_ok ok hi (ins_ne (getD_row ok hi).2 ok.hi hs) (ins_ok (getD_row ok hi).2 ok.hi hs)
theorem less_ne {n : Nat} {row : List Nat} {s : Nat} (ok : LotOk n row) (h1 : 1 < row.length) : row.filter (fun x => !decide (x = s)) ≠ [] := by
  match row, h1 with
  | x :: y :: l, _ =>
    have nd : (x :: y :: l).Nodup := List.Nodup.sublist ok List.nodup_range
    intro e
    have hx := List.filter_eq_nil_iff.mp e
    have ex : x = s := by simpa using hx x List.mem_cons_self
    have ey : y = s := by simpa using hx y (List.mem_cons_of_mem _ List.mem_cons_self)
    have := (List.nodup_cons.mp nd).1
    rw [ex, ey] at this
    exact this List.mem_cons_self
theorem less_ok {h : List (List Nat)} {i s : Nat} (ok : HouseOk h) (hi : i < h.length) (h1 : 1 < (h.getD i []).length) : HouseOk (lessH h i s) :=
  set_ok ok hi (less_ne (getD_row ok hi).2 h1) (List.filter_sublist.trans (getD_row ok hi).2)
noncomputable def bestStep (h : List (List Nat)) (i : Nat) (B : Option (Nat × Nat × Nat)) (s : Nat) : Option (Nat × Nat × Nat) :=
  if decide (s ∈ h.getD i []) = true then B else match B with
    | none => some (i, s, numF (moreH h i s))
    | some b => if decide (b.2.2 < numF (moreH h i s)) = true then some (i, s, numF (moreH h i s)) else some b
noncomputable def bestRow (h : List (List Nat)) (i : Nat) (B : Option (Nat × Nat × Nat)) (k : Nat) : Option (Nat × Nat × Nat) := (List.range k).foldl (bestStep h i) B
noncomputable def bestAll (h : List (List Nat)) (k : Nat) : Option (Nat × Nat × Nat) := (List.range k).foldl (fun B i => bestRow h i B h.length) none
theorem bestRow_succ {h : List (List Nat)} {i k : Nat} {B : Option (Nat × Nat × Nat)} : bestRow h i B (k + 1) = bestStep h i (bestRow h i B k) k := by
  unfold bestRow
  rw [List.range_succ, List.foldl_append]
  rfl
theorem bestAll_succ {h : List (List Nat)} {k : Nat} : bestAll h (k + 1) = bestRow h k (bestAll h k) h.length := by
  unfold bestAll
  rw [List.range_succ, List.foldl_append]
  rfl
noncomputable def spareRow (h : List (List Nat)) (i : Nat) : List (Nat × Nat) := if 1 < (h.getD i []).length then ((h.getD i []).filter fun s => decide (numF (lessH h i s) = numF h)).map fun s => (i, s) else []
noncomputable def spareTo (h : List (List Nat)) (k : Nat) : List (Nat × Nat) := (List.range k).flatMap (spareRow h)
theorem spareTo_succ {h : List (List Nat)} {k : Nat} : spareTo h (k + 1) = spareTo h k ++ spareRow h k := by
  unfold spareTo
  rw [List.range_succ, List.flatMap_append, List.flatMap_cons, List.flatMap_nil, List.append_nil]
theorem spareRow_len {h : List (List Nat)} {k : Nat} (ok : HouseOk h) (hk : k < h.length) : (spareRow h k).length ≤ 7 := by
  unfold spareRow
  split
  · rw [List.length_map]
    have h1 := List.length_filter_le (fun s => decide (numF (lessH h k s) = numF h)) (h.getD k [])
    have h2 := (getD_row ok hk).2.len
    have h3 := ok.hi
    omega
  · exact Nat.zero_le _
theorem spareTo_len {h : List (List Nat)} (ok : HouseOk h) : ∀ k, k ≤ h.length → (spareTo h k).length ≤ 7 * k
  | 0, _ => Nat.le_refl _
  | k + 1, hk => by
    have h1 := spareTo_len ok k (by omega)
    have h2 := spareRow_len ok (show k < h.length by omega)
    rw [spareTo_succ, List.length_append]
    omega
section
variable {P : Program} {w : World} {K : PySem.W.Frag} {mg : Str → Option Value} {base : Heap}
def TripIs (K : PySem.W.Frag) (H : Hp) (v : V) : Option (Nat × Nat × Nat) → Prop
  | none => v = .non
  | some b => ∃ p, v = .ref p ∧ SqT K H p [.int (b.1 : Int), .int (b.2.1 : Int), .int (b.2.2 : Int)]
theorem TripIs.same {H H' : Hp} {v : V} {B : Option (Nat × Nat × Nat)} (x : TripIs K H v B) (e : Same H H') : TripIs K H' v B := by
  cases B with
  | none => exact x
  | some b => exact let ⟨p, h1, h2⟩ := x; ⟨p, h1, Same.tup e h2⟩
def sp_best_sight (K : PySem.W.Frag) : Sp := fun vs H Q _ => ∃ (a : Addr) (h : List (List Nat)), vs = [.ref a] ∧ HouseAt K H a h ∧ HouseOk h ∧ ∀ (H' : Hp) (v : V), Same H H' → TripIs K H' v (bestAll h h.length) → Q v H'
theorem sc_best_sight : FnScope ["house", "best", "clerk", "row", "slate", "number"] ["house"] (defScope s_best_sight) := ⟨rfl, rfl, rfl, by decide +kernel, rfl, by decide +kernel, by decide +kernel⟩
theorem ok_best_sight (T : Txt K mg) : FnOk P w K mg base CX0 7 T.d_best_sight.f T.d_best_sight.fd ["house"] (sp_best_sight K) := by
  have G1 := ok_check_house (P := P) (w := w) (base := base) T
  have G2 := ok_with_sight (P := P) (w := w) (base := base) T
  have G3 := ok_slate_number (P := P) (w := w) (base := base) T
  refine T.d_best_sight.F.ok sc_best_sight (fun vs H Q E h => ?_) (fun cdv A outer s H vs Q E hr h => ?_)
  · obtain ⟨a, h, rfl, _⟩ := h
    rfl
  · obtain ⟨a, hs, rfl, hA, ok, q⟩ := h
    have nd := sc_best_sight.nd
    have hr3 : Room 3 _ := hr.mono (by decide)
    have hr4 : Room 4 _ := hr.mono (by decide)
    refine ⟨_, pss_cons (ps_expr (pe_call G1 hr3 (by rfl) T.d_check_house.g T.d_check_house.F.kp T.d_check_house.b .nil pass0 (pa_cons (pv 0) pa_nil)))
      (pss_cons (ps_set (i := 1) nd rfl (.inl rfl) pe_non)
      (pss_cons (ps_for PassesOwn.never rfl (En.pi_enumT (by rfl) T.n_enumerate (pa_cons (pv 0) pa_nil)) (pg_tup rfl (pgs_cons (pg_name (i := 2) nd rfl (.inl rfl)) (pgs_cons (pg_name (i := 3) nd rfl (.inl rfl)) pgs_nil)))
        (pss_one (ps_for PassesOwn.never rfl (pi_range1 (by rfl) T.n_range (pa_cons (pe_callB call_len_seq (by rfl) T.n_len PySem.boot_len (pa_cons (pv 0) pa_nil)) pa_nil)) (pg_name (i := 4) nd rfl (.inl rfl))
          (pss_one (ps_if (pt_cmpR op_notIn_seq (pv 4) (pv 3) (by rfl))
            (pss_cons (ps_set (i := 5) nd rfl (.inl rfl) (pe_call G3 hr (by rfl) T.d_slate_number.g T.d_slate_number.F.kp T.d_slate_number.b .nil pass0 (pa_cons (pe_call G2 hr4 (by rfl) T.d_with_sight.g T.d_with_sight.F.kp T.d_with_sight.b .nil pass0 (pa_cons (pv 0) (pa_cons (pv 2) (pa_cons (pv 4) pa_nil)))) pa_nil)))
            (pss_one (ps_if (PW.pt (pw_or (pt_cmpR op_isN (pv 1) pe_non (nomark _)) (pw_or1 (pt_cmpR op_gt (pv 5) (pe_ix ix_tup (pv 1) pe_int (fun _ _ => rfl)) (by rfl)))))
              (pss_one (ps_set (i := 1) nd rfl (.inl rfl) (pe_tup (pa_cons (pv 2) (pa_cons (pv 4) (pa_cons (pv 5) pa_nil)))))) pss_nil))) pss_nil)))))
      (pss_one (ps_ret (pv 1))))), ?_⟩
    have hn7 := ok.hi
    refine ⟨.ref a, rfl, a, hs, rfl, hA, ok, fun H1 sm1 => ?_⟩
    obtain ⟨rs, hR, hP⟩ := id (hA.same sm1)
    have hlv : (rs.map V.ref).length = hs.length := by rw [List.length_map]; exact Paired.length hP
    refine ⟨.ref a, rfl, a, _, rfl, hR, En.for_enumT (K := K) (a := a) (xs := rs.map V.ref) (fun i σ H2 => Same H1 H2 ∧ ∃ (vb : V) (v2 v3 v4 v5 : Option V), σ = [some (.ref a), some vb, v2, v3, v4, v5] ∧ TripIs K H2 vb (bestAll hs i))
      ⟨Same.refl _, .non, none, none, none, none, rfl, rfl⟩ (fun i σ H2 _ h3 => Same.tup h3.1 hR) ?_ ?_⟩
    · rintro i x T2 σ H2 hi ⟨sm2, vb, v2, v3, v4, v5, rfl, hB⟩ hT
      obtain ⟨rp, hri, rfl⟩ := get_refs hi
      obtain ⟨row, hrow, hat⟩ := paired_at hP hri
      have hlt : i < hs.length := (List.getElem?_eq_some_iff.mp hrow).1
      have egd : hs.getD i [] = row := by rw [List.getD_eq_getElem?_getD, hrow]; rfl
      have sT : Same H2 (upd H2 T2 (.tup [.int (i : Nat), .ref rp])) := same_upd hT
      refine ⟨T2, [.int (i : Nat), .ref rp], rfl, .inl (.inl upd_same), rfl, .int (i : Nat), [.ref rp], rfl, .ref rp, [], rfl, rfl, ?_⟩
      have sm3 := sm2.trans sT
      have hB3 := hB.same sT
      generalize upd H2 T2 (.tup [.int (i : Nat), .ref rp]) = H3 at sm3 hB3
      refine ⟨.ref a, rfl, a, _, rfl, .inr (Same.tup sm3 hR), _, rfl, by omega, by omega, ?_⟩
      show ∃ W, _
      rw [Int.toNat_natCast, hlv]
      refine for_range (lo := 0) (n := hs.length) (fun k σ H4 => Same H1 H4 ∧ ∃ (vb : V) (v4 v5 : Option V), σ = [some (.ref a), some vb, some (.int (i : Nat)), some (.ref rp), v4, v5] ∧ TripIs K H4 vb (bestRow hs i (bestAll hs i) k))
        ⟨sm3, vb, v4, v5, rfl, hB3⟩ ?_ ?_
      · rintro k σ H4 hk ⟨sm4, vb, v4, v5, rfl, hB4⟩
        have hat4 := hat.same sm4
        have hA4 := (hA.same sm1).same sm4
        refine ⟨_, rfl, .ref rp, rfl, rp, lotV row, rfl, .inr hat4, rfl, flat_lot _, ?_⟩
        refine ⟨!decide (k ∈ row), by rw [if_pos rfl, show (0 : Int) + (k : Int) = ((k : Nat) : Int) by omega, inV_lot], ?_⟩
        have eS : bestRow hs i (bestAll hs i) (k + 1) = bestStep hs i (bestRow hs i (bestAll hs i) k) k := bestRow_succ
        unfold bestStep at eS
        rw [egd] at eS
        by_cases hin : k ∈ row
        · rw [if_pos (decide_eq_true hin)] at eS
          rw [decide_eq_true hin]
          refine iteF ?_
          exact ⟨sm4, vb, _, v5, rfl, by rw [eS]; exact hB4⟩
        · rw [if_neg (by simp [hin])] at eS
          rw [decide_eq_false hin]
          refine iteT ?_
          have hno : k ∉ hs.getD i [] := by rw [egd]; exact hin
          refine ⟨.ref a, rfl, _, rfl, _, rfl, a, hs, i, k, by rw [show (0 : Int) + (k : Int) = ((k : Nat) : Int) by omega]; rfl, hA4, ok, hlt, hk, hno, fun H5 p5 sm5 hh5 => ?_⟩
          refine ⟨p5, moreH hs i k, rfl, hh5, more_ok ok hlt hk, fun H6 c sm6 hn hc => ?_⟩
          have ec : numF (moreH hs i k) = c := numF_is hn
          rw [ec] at eS
          have smA := sm4.trans (sm5.trans sm6)
          have hB6 := hB4.same (sm5.trans sm6)
          have mk : ∀ (H7 : Hp) (tp : Addr), H6 tp = none → TripIs K (upd H6 tp (.tup [.int (i : Nat), .int (0 + (k : Int)), .int (c : Int)])) (.ref tp) (some (i, k, c)) := fun H7 tp htp => ⟨tp, rfl, SqT.up (by rw [upd_same, Int.zero_add])⟩
          generalize bestRow hs i (bestAll hs i) k = B at hB6 eS
          cases B with
          | none =>
            have evb : vb = .non := hB6
            subst evb
            refine ⟨_, rfl, rfl, _, rfl, ?_⟩
            show (if decide (V.non = V.non) = true then _ else _)
            rw [decide_eq_true rfl, if_pos rfl]
            refine iteT ⟨_, rfl, _, rfl, _, rfl, by (show 3 ≤ sizeLine; decide), fun tp htp => ?_⟩
            exact ⟨smA.trans (same_upd htp), _, _, _, rfl, by rw [eS]; exact mk H6 tp htp⟩
          | some b =>
            obtain ⟨bp, rfl, hbp⟩ := hB6
            refine ⟨_, rfl, rfl, _, rfl, ?_⟩
            show (if decide (V.ref bp = V.non) = true then _ else _)
            rw [decide_eq_false (by intro z; cases z), if_neg Bool.false_ne_true]
            refine ⟨_, rfl, .ref bp, rfl, bp, _, 2, _, rfl, rfl, hbp, atI_nat (j := 2) rfl, _, _, rfl, rfl, decide (b.2.2 < c), ?_, ?_⟩
            · show V.bl (decide ((b.2.2 : Int) < (c : Int))) = _
              rw [show decide ((b.2.2 : Int) < (c : Int)) = decide (b.2.2 < c) from decide_eq_decide.mpr (by omega)]
            have eS' : bestRow hs i (bestAll hs i) (k + 1) = if decide (b.2.2 < c) = true then some (i, k, c) else some b := eS
            refine ite2 (fun hb => ?_) (fun hb => ?_)
            · rw [if_pos hb] at eS'
              refine ⟨_, rfl, _, rfl, _, rfl, by (show 3 ≤ sizeLine; decide), fun tp htp => ?_⟩
              exact ⟨smA.trans (same_upd htp), _, _, _, rfl, by rw [eS']; exact mk H6 tp htp⟩
            · rw [if_neg hb] at eS'
              exact ⟨smA, _, _, _, rfl, by rw [eS']; exact ⟨bp, rfl, hbp⟩⟩
      · rintro σ H4 ⟨sm4, vb, v4, v5, rfl, hB4⟩
        exact ⟨sm4, vb, _, _, _, _, rfl, by rw [bestAll_succ]; exact hB4⟩
    · rintro σ H2 ⟨sm2, vb, v2, v3, v4, v5, rfl, hB⟩
      rw [hlv] at hB
      exact ⟨_, rfl, q H2 vb (sm1.trans sm2) hB⟩
end
end N

set_option Elab.async false
set_option linter.all false
set_option maxRecDepth 100000
set_option maxHeartbeats 2000000
/-! spare sights -/
namespace N
open Cb (lotV combs combsOf combsOf_sub)
open PySem PySem.Spec PyProof.Rows L2
section
variable {P : Program} {w : World} {K : PySem.W.Frag} {mg : Str → Option Value} {base : Heap}
def PairIs (K : PySem.W.Frag) (H : Hp) (t : Addr) (b : Nat × Nat) : Prop := SqT K H t [.int (b.1 : Int), .int (b.2 : Int)]
theorem PairIs.same {H H' : Hp} {t : Addr} {b : Nat × Nat} (x : PairIs K H t b) (e : Same H H') : PairIs K H' t b := Same.tup e x
theorem PairIs.off {H : Hp} {D t : Addr} {b : Nat × Nat} {ys : List V} {o : HO} (x : PairIs K H t b) (hD : H D = some (.lst ys)) : PairIs K (upd H D o) t b := tup_but x hD but_upd
def PairsAt (K : PySem.W.Frag) (H : Hp) (p : Addr) (bs : List (Nat × Nat)) : Prop := ∃ ts : List Addr, SqT K H p (ts.map V.ref) ∧ Paired (fun t b => PairIs K H t b) ts bs
/-- the spare ones among the first of a row -/
noncomputable def spareCut (h : List (List Nat)) (i : Nat) (row : List Nat) : List (Nat × Nat) := (row.filter fun s => decide (numF (lessH h i s) = numF h)).map fun s => (i, s)
theorem spareCut_snoc {h : List (List Nat)} {i s : Nat} {row : List Nat} : spareCut h i (row ++ [s]) = spareCut h i row ++ if decide (numF (lessH h i s) = numF h) = true then [(i, s)] else [] := by
  unfold spareCut
  rw [List.filter_append, List.map_append, List.filter_cons]
  congr 1
  split <;> rfl
def sp_spare (K : PySem.W.Frag) : Sp := fun vs H Q _ => ∃ (a : Addr) (h : List (List Nat)), vs = [.ref a] ∧ HouseAt K H a h ∧ HouseOk h ∧ ∀ (H' : Hp) (p : Addr), Same H H' → PairsAt K H' p (spareTo h h.length) → Q (.ref p) H'
theorem sc_spare : FnScope ["house", "number", "spare", "clerk", "row", "slate"] ["house"] (defScope s_spare_sights) := ⟨rfl, rfl, rfl, by decide +kernel, rfl, by decide +kernel, by decide +kernel⟩
theorem ok_spare (T : Txt K mg) : FnOk P w K mg base CX0 7 T.d_spare_sights.f T.d_spare_sights.fd ["house"] (sp_spare K) := by
  have G2 := ok_without (P := P) (w := w) (base := base) T
  have G3 := ok_slate_number (P := P) (w := w) (base := base) T
  refine T.d_spare_sights.F.ok sc_spare (fun vs H Q E h => ?_) (fun cdv A outer s H vs Q E hr h => ?_)
  · obtain ⟨a, h, rfl, _⟩ := h
    rfl
  · obtain ⟨a, hs, rfl, hA, ok, q⟩ := h
    have nd := sc_spare.nd
    have hr2 : Room 2 _ := hr.mono (by decide)
    refine ⟨_, pss_cons (ps_set (i := 1) nd rfl (.inr rfl) (pe_call G3 hr (by rfl) T.d_slate_number.g T.d_slate_number.F.kp T.d_slate_number.b .nil pass0 (pa_cons (pv 0) pa_nil)))
      (pss_cons (ps_set (i := 2) nd rfl (.inl rfl) (pe_lst pa_nil))
      (pss_cons (ps_for PassesOwn.never rfl (En.pi_enumT (by rfl) T.n_enumerate (pa_cons (pv 0) pa_nil)) (pg_tup rfl (pgs_cons (pg_name (i := 3) nd rfl (.inr rfl)) (pgs_cons (pg_name (i := 4) nd rfl (.inl rfl)) pgs_nil)))
        (pss_one (ps_if (pt_cmpR op_gt (pe_callB call_len_seq (by rfl) T.n_len PySem.boot_len (pa_cons (pv 4) pa_nil)) pe_int (nomark _))
          (pss_one (ps_expr (pe_bm PySem.F.plainAttrs_list PySem.F.slot_list_extend PySem.F.type_list_extend mt_extend (pv 2) (pa_cons
            (pe_lc (own := [("slate", 5)]) (g := gName 5) rfl nd (pi_tup (pv 4))
              (blkOk_by (N := ["house", "number", "spare", "clerk", "row", "slate"]) (sc := defScope s_spare_sights) (by decide +kernel)) (fun _ _ _ _ _ => pg_name (i := 5) nd rfl (.inl rfl))
              (fun _ _ _ _ _ => pts_one (pt_cmpR op_eq (pe_call G3 hr (by rfl) T.d_slate_number.g T.d_slate_number.F.kp T.d_slate_number.b .nil pass0 (pa_cons (pe_call G2 hr2 (by rfl) T.d__without.g T.d__without.F.kp T.d__without.b .nil pass0 (pa_cons (pv 0) (pa_cons (pv 3) (pa_cons (pv 5) pa_nil)))) pa_nil)) (pv 1) (by rfl)))
              (fun _ _ _ _ _ => pe_tup (pa_cons (pv 3) (pa_cons (pv 5) pa_nil)))) pa_nil)))) pss_nil)))
      (pss_one (ps_ret (pe_callTy call_tuple_of (by rfl) T.n_tuple (by decide +kernel) (pa_cons (pv 2) pa_nil)))))), ?_⟩
    have hn7 := ok.hi
    refine ⟨.ref a, rfl, a, hs, rfl, hA, ok, fun H1 c0 sm1 hn0 _ => ?_⟩
    have ec0 : numF hs = c0 := numF_is hn0
    refine ⟨Nat.zero_le _, fun lp hlp => ?_⟩
    have s2 : Same H1 (upd H1 lp (.lst [])) := same_upd hlp
    have hA1 := hA.same sm1
    obtain ⟨rs, hR, hP⟩ := id hA1
    have hlv : (rs.map V.ref).length = hs.length := by rw [List.length_map]; exact Paired.length hP
    refine ⟨.ref a, rfl, a, _, rfl, Same.tup s2 hR, En.for_enumT (K := K) (a := a) (xs := rs.map V.ref) (fun i σ H2 => Same H1 H2 ∧ (∃ v3 v4 v5 : Option V, σ = [some (.ref a), some (.int (c0 : Int)), some (.ref lp), v3, v4, v5]) ∧ ∃ ts : List Addr, H2 lp = some (.lst (ts.map V.ref)) ∧ Paired (fun t b => PairIs K H2 t b) ts (spareTo hs i))
      ⟨s2, ⟨none, none, none, rfl⟩, [], upd_same, .nil⟩ (fun i σ H2 _ h3 => Same.tup h3.1 hR) ?_ ?_⟩
    · rintro i x T2 σ H2 hi ⟨sm2, ⟨v3, v4, v5, rfl⟩, ts, hl2, hts⟩ hT
      obtain ⟨rp, hri, rfl⟩ := get_refs hi
      obtain ⟨row, hrow, hat⟩ := paired_at hP hri
      have hlt : i < hs.length := (List.getElem?_eq_some_iff.mp hrow).1
      have egd : hs.getD i [] = row := by rw [List.getD_eq_getElem?_getD, hrow]; rfl
      have okr := (getD_row ok hlt).2
      rw [egd] at okr
      have hrl := okr.len
      have sT : Same H2 (upd H2 T2 (.tup [.int (i : Nat), .ref rp])) := same_upd hT
      refine ⟨T2, [.int (i : Nat), .ref rp], rfl, .inl (.inl upd_same), rfl, .int (i : Nat), [.ref rp], rfl, .ref rp, [], rfl, rfl, ?_⟩
      have sm3 := sm2.trans sT
      have hl3 := sT _ _ hl2
      have hts3 : Paired (fun t b => PairIs K (upd H2 T2 (.tup [.int (i : Nat), .ref rp])) t b) ts (spareTo hs i) := paired_mono hts fun _ _ z => z.same sT
      generalize upd H2 T2 (.tup [.int (i : Nat), .ref rp]) = H3 at sm3 hl3 hts3
      have hat3 := hat.same sm3
      have etl : ts.length = _ := Paired.length hts3
      have hsl := spareTo_len ok i (by omega)
      refine ⟨.ref rp, rfl, rp, _, rfl, .inr hat3, _, 1, rfl, rfl, decide (1 < row.length), ?_, ?_⟩
      · show V.bl (decide ((1 : Int) < ((lotV row).length : Int))) = _
        rw [show decide ((1 : Int) < ((lotV row).length : Int)) = decide (1 < row.length) from decide_eq_decide.mpr (by rw [List.length_map]; omega)]
      have eR : spareTo hs (i + 1) = spareTo hs i ++ if decide (1 < row.length) = true then spareCut hs i row else [] := by
        rw [spareTo_succ]
        congr 1
        unfold spareRow spareCut
        rw [egd]
        by_cases z : 1 < row.length
        · rw [if_pos z, if_pos (decide_eq_true z)]
        · rw [if_neg z, if_neg (by simp [z])]
      refine ite2 (fun hb => ?_) (fun hb => ?_)
      · rw [if_pos hb] at eR
        have hb1 : 1 < row.length := of_decide_eq_true hb
        refine ⟨.ref lp, rfl, .inl ⟨rfl, _, SqL.up hl3⟩, .ref rp, rfl, rp, rfl, ⟨_, hat3⟩, fun D hD => ?_⟩
        have lpD : lp ≠ D := ne_of_none hl3 hD
        refine lc_tup (K := K) (a := rp) (xs := lotV row) (fun j H4 => Same H3 H4 ∧ ∃ us : List Addr, H4 D = some (.lst (us.map V.ref)) ∧ Paired (fun t b => PairIs K H4 t b) us (spareCut hs i (row.take j)))
          ⟨same_upd hD, [], upd_same, .nil⟩ (fun j H4 _ h4 => hat3.same h4.1) ?_ ?_
        · rintro j y H4 hj ⟨sm4, us, hd4, hU⟩
          obtain ⟨s0, hs0, rfl⟩ := get_lotV hj
          have smA := sm3.trans sm4
          refine ⟨rfl, .ref a, rfl, _, rfl, _, rfl, a, hs, i, s0, rfl, hA1.same smA, ok, hlt, fun H5 p5 sm5 hh5 => ?_⟩
          refine ⟨p5, lessH hs i s0, rfl, hh5, less_ok ok hlt (by rw [egd]; exact hb1), fun H6 c sm6 hn hc => ?_⟩
          have ec : numF (lessH hs i s0) = c := numF_is hn
          refine ⟨_, rfl, rfl, decide (c = c0), ?_, ?_⟩
          · show V.bl (decide (V.int (c : Int) = V.int (c0 : Int))) = _
            rw [show decide (V.int (c : Int) = V.int (c0 : Int)) = decide (c = c0) from decide_eq_decide.mpr ⟨fun z => by have := V.int.inj z; omega, fun z => by rw [z]⟩]
          have eC : spareCut hs i (row.take (j + 1)) = spareCut hs i (row.take j) ++ if decide (c = c0) = true then [(i, s0)] else [] := by
            rw [take_succ' hs0, spareCut_snoc, ec, ec0]
          have sm56 := sm5.trans sm6
          have hd6 := sm56 _ _ hd4
          have hU6 : Paired (fun t b => PairIs K H6 t b) us (spareCut hs i (row.take j)) := paired_mono hU fun _ _ z => z.same sm56
          have eul : us.length = _ := Paired.length hU
          have hcl : (spareCut hs i (row.take j)).length ≤ 7 := by
            unfold spareCut
            rw [List.length_map]
            have h1 := List.length_filter_le (fun s => decide (numF (lessH hs i s) = numF hs)) (row.take j)
            rw [List.length_take] at h1
            omega
          refine ite2 (fun hb2 => ?_) (fun hb2 => ?_)
          · rw [if_pos hb2] at eC
            refine ⟨_, rfl, _, rfl, by (show 2 ≤ sizeLine; decide), fun tp htp => ?_⟩
            have s7 : Same H6 (upd H6 tp (.tup [.int (i : Nat), .int (s0 : Int)])) := same_upd htp
            have hT7 : PairIs K (upd H6 tp (.tup [.int (i : Nat), .int (s0 : Int)])) tp (i, s0) := SqT.up upd_same
            have hd7 := s7 _ _ hd6
            have hU7 : Paired (fun t b => PairIs K (upd H6 tp (.tup [.int (i : Nat), .int (s0 : Int)])) t b) us (spareCut hs i (row.take j)) := paired_mono hU6 fun _ _ z => z.same s7
            generalize upd H6 tp (.tup [.int (i : Nat), .int (s0 : Int)]) = H7 at s7 hT7 hd7 hU7
            refine ⟨_, hd7, by rw [List.length_map]; exact small1000 (by omega), fun b' o e => ?_, us ++ [tp], ?_, ?_⟩
            · rw [upd_ne (ne_of_none e hD)]
              exact s7 _ _ (sm56 _ _ (sm4 _ _ e))
            · rw [upd_same, List.map_append]
              rfl
            · rw [eC]
              exact paired_app (paired_mono hU7 fun _ _ z => z.off hd7) (.cons (hT7.off hd7) .nil)
          · rw [if_neg hb2, List.append_nil] at eC
            exact ⟨sm4.trans sm56, us, hd6, by rw [eC]; exact hU6⟩
        · rintro H4 ⟨sm4, us, hd4, hU⟩
          rw [List.length_map, List.take_length] at hU
          have hl4 := sm4 _ _ hl3
          have eul : us.length = _ := Paired.length hU
          have hcl : (spareCut hs i row).length ≤ 7 := by
            unfold spareCut
            rw [List.length_map]
            have h1 := List.length_filter_le (fun s => decide (numF (lessH hs i s) = numF hs)) row
            omega
          refine ⟨lp, D, ts.map V.ref, us.map V.ref, rfl, rfl, hl4, hd4, ?_, fun b' o e => ?_, ⟨_, _, _, rfl⟩, ts ++ us, ?_, ?_⟩
          · rw [List.length_map, List.length_map]
            exact Nat.le_of_lt (small1000 (by omega))
          · rw [upd_ne (ne_of_none e hlp)]
            exact sm4 _ _ (sm3 _ _ e)
          · rw [upd_same, List.map_append]
          · rw [eR]
            exact paired_app (paired_mono hts3 fun _ _ z => (z.same sm4).off hl4) (paired_mono hU fun _ _ z => z.off hl4)
      · rw [if_neg hb, List.append_nil] at eR
        exact ⟨sm3, ⟨_, _, _, rfl⟩, ts, hl3, by rw [eR]; exact hts3⟩
    · rintro σ H2 ⟨sm2, ⟨v3, v4, v5, rfl⟩, ts, hl2, hts⟩
      rw [hlv] at hts
      refine ⟨.ref lp, rfl, lp, _, rfl, .inl ⟨SqL.up hl2, fun p hp => ?_⟩⟩
      have sp := same_upd (o := .tup (ts.map V.ref)) hp
      exact q _ p ((sm1.trans sm2).trans sp) ⟨ts, SqT.up upd_same, paired_mono hts fun _ _ z => z.same sp⟩
end
end N

set_option Elab.async false
set_option linter.all false
set_option maxRecDepth 100000
set_option maxHeartbeats 2000000
/-! alike: None, tuples of numbers, tuples of such; what the law keeps -/
namespace N
open Cb (lotV combs combsOf combsOf_sub)
open PySem PySem.Spec PyProof.Rows L2
theorem FnOk_or {P : Program} {w : World} {K : PySem.W.Frag} {mg : Str → Option Value} {base : Heap} {CX : CXT} {k : Nat} {f : Addr} {fd : FuncData} {ps : List Str} {sp sp' : Sp} (F : FnOk P w K mg base CX k f fd ps sp) (G : FnOk P w K mg base CX k f fd ps sp') :
    FnOk P w K mg base CX k f fd ps (fun vs H Q E => sp vs H Q E ∨ sp' vs H Q E) :=
  ⟨fun vs H Q E h => h.elim (F.len vs H Q E) (G.len vs H Q E), fun A outer s H args us vs Q E hr he hb hv h => h.elim (F.run A outer s H args us vs Q E hr he hb hv) (G.run A outer s H args us vs Q E hr he hb hv)⟩
section
variable {K : PySem.W.Frag}
theorem isi_nf : PySem.W.kitAny K (.type "NoneType") [.type "tuple", .type "list"] = some false := kitAny_cons (b := false) (kit_ty (by decide +kernel)) (fun _ => kitAny_cons (b := false) (kit_ty (by decide +kernel)) (fun _ => kitAny_nil) (by decide)) (by decide)
end
section
variable {P : Program} {w : World} {K : PySem.W.Frag} {mg : Str → Option Value} {base : Heap}
def sp_alikeN : Sp := fun vs H Q _ => vs = [.non, .non] ∧ ∀ H', Same H H' → Q (.bl true) H'
theorem ok_alikeN (T : Txt K mg) : FnOk P w K mg base CX0 1 T.d__law_alike.f T.d__law_alike.fd ["found", "due"] sp_alikeN := by
  refine T.d__law_alike.F.ok sc_alike (fun vs H Q E h => ?_) (fun cdv A outer s H vs Q E hr h => ?_)
  · obtain ⟨rfl, _⟩ := h
    rfl
  · obtain ⟨rfl, q⟩ := h
    have nd := sc_alike.nd
    refine ⟨_, pss_cons (ps_if (pt_val (pe_callB call_isiT (by rfl) T.n_isinstance boot_isinstance (pa_cons (pv 1) (pa_cons (pe_tup (pa_cons (pe_bltn (v := .ty "tuple") (u := .type "tuple") (by rfl) T.n_tuple (by decide +kernel) rfl) (pa_cons (pe_bltn (v := .ty "list") (u := .type "list") (by rfl) T.n_list (by decide +kernel) rfl) pa_nil))) pa_nil))))
        (pss_cons ps_never (pss_cons ps_never (pss_one ps_never))) pss_nil)
      (pss_cons (ps_if (PW.pt (pw_or (pt_cmpR op_isN (pv 1) pe_non (nomark _)) (pw_or1 (pt_val (pe_callB call_isi (by rfl) T.n_isinstance boot_isinstance (pa_cons (pv 1) (pa_cons (pe_bltn (v := .ty "str") (u := .type "str") (by rfl) T.n_str (by decide +kernel) rfl) pa_nil)))))))
        (pss_one (ps_ret (pe_and (pe_cmpR op_eq (pv 0) (pv 1) (nomark _)) (pe_one (pe_cmpR op_eq (pe_callB call_isi (by rfl) T.n_isinstance boot_isinstance (pa_cons (pv 0) (pa_cons (pe_bltn (v := .ty "str") (u := .type "str") (by rfl) T.n_str (by decide +kernel) rfl) pa_nil)))
          (pe_callB call_isi (by rfl) T.n_isinstance boot_isinstance (pa_cons (pv 1) (pa_cons (pe_bltn (v := .ty "str") (u := .type "str") (by rfl) T.n_str (by decide +kernel) rfl) pa_nil))) (nomark _)))))) pss_nil)
      (pss_one ps_never)), ?_⟩
    refine ⟨.non, rfl, by decide, fun tp htp => ?_⟩
    have sm := same_upd (o := .tup [V.ty "tuple", V.ty "list"]) htp
    refine ⟨.non, tp, _, .type "NoneType", [.type "tuple", .type "list"], false, rfl, upd_same, .cons (.ty _) (.cons (.ty _) .nil), .base .non, isi_nf, _, rfl, iteF ?_⟩
    refine ⟨.non, rfl, rfl, _, rfl, ?_⟩
    show (if decide (V.non = V.non) = true then _ else _)
    rw [decide_eq_true rfl, if_pos rfl]
    refine iteT ⟨.non, rfl, .non, rfl, rfl, true, by rw [decide_eq_true rfl], iteT ?_⟩
    refine ⟨.non, rfl, .non, .ty "str", .type "NoneType", .type "str", false, rfl, .ty _, .base .non, kit_ty (by decide +kernel), ?_⟩
    refine ⟨.non, rfl, .non, .ty "str", .type "NoneType", .type "str", false, rfl, .ty _, .base .non, kit_ty (by decide +kernel), rfl, ?_⟩
    rw [decide_eq_true rfl]
    exact q _ sm
/-- two tuples of the same numbers -/
theorem nums_alike {H : Hp} {a b : Addr} {xs : List V} {Q : VK} {E : XK} (hA : SqT K H a xs) (hB : SqT K H b xs) (hx : ∀ x ∈ xs, ∃ i, x = V.int i) (hl : xs.length ≤ 1000) (q : ∀ H', Same H H' → Q (.bl true) H') : sp_alikeT K sp_alike0 [.ref a, .ref b] H Q E := by
  refine ⟨a, b, xs, xs, rfl, hA, hB, rfl, hl, fun i x y h1 h2 H1 Q' E' sm q' => ?_, q⟩
  have e : y = x := Option.some.inj (h2.symm.trans h1)
  exact ⟨x, by rw [e], .inl (hx x (List.mem_of_getElem? h1)), q'⟩
/-- two tuples of such tuples -/
theorem rows_sub {β : Type} {H : Hp} {val : β → List V} {ts us : List Addr} {ls : List β} (p1 : Paired (fun t l => SqT K H t (val l)) ts ls) (p2 : Paired (fun t l => SqT K H t (val l)) us ls) (hv : ∀ l ∈ ls, (∀ x ∈ val l, ∃ i, x = V.int i) ∧ (val l).length ≤ 1000) :
    ∀ (i : Nat) (x y : V), (ts.map V.ref)[i]? = some x → (us.map V.ref)[i]? = some y → ∀ (H1 : Hp) (Q' : VK) (E' : XK), Same H H1 → (∀ H', Same H1 H' → Q' (.bl true) H') → sp_alikeT K sp_alike0 [x, y] H1 Q' E' := fun i x y hx hy H1 Q' E' sm q' => by
  obtain ⟨t, ht, rfl⟩ := get_refs hx
  obtain ⟨u, hu, rfl⟩ := get_refs hy
  obtain ⟨l, hl1, z1⟩ := paired_at p1 ht
  obtain ⟨l', hl2, z2⟩ := paired_at p2 hu
  have e : l' = l := Option.some.inj (hl2.symm.trans hl1)
  subst e
  have hm := hv l' (List.mem_of_getElem? hl1)
  exact nums_alike (Same.tup sm z1) (Same.tup sm z2) hm.1 hm.2 q'
theorem lotV_ints (l : List Nat) : ∀ x ∈ lotV l, ∃ i, x = V.int i := fun x hx => by
  obtain ⟨k, _, rfl⟩ := List.mem_map.mp hx
  exact ⟨_, rfl⟩
/-- two houses that are one -/
theorem houses_alike {H : Hp} {a b : Addr} {h : List (List Nat)} (ok : HouseOk h) (hA : HouseAt K H a h) (hB : HouseAt K H b h) : ∃ xs ys : List V, SqT K H a xs ∧ SqT K H b ys ∧ xs.length = ys.length ∧ ys.length ≤ 1000 ∧
    ∀ (i : Nat) (x y : V), xs[i]? = some x → ys[i]? = some y → ∀ (H1 : Hp) (Q' : VK) (E' : XK), Same H H1 → (∀ H', Same H1 H' → Q' (.bl true) H') → sp_alikeT K sp_alike0 [x, y] H1 Q' E' := by
  obtain ⟨ts, h1, p1⟩ := hA
  obtain ⟨us, h2, p2⟩ := hB
  have l1 : ts.length = h.length := Paired.length p1
  have l2 : us.length = h.length := Paired.length p2
  have := ok.hi
  refine ⟨_, _, h1, h2, by rw [List.length_map, List.length_map, l1, l2], by rw [List.length_map, l2]; omega, rows_sub p1 p2 fun l hl => ⟨lotV_ints l, ?_⟩⟩
  rw [List.length_map]
  have := (ok.ok l hl).2.len
  omega
/-- two tuples of the same pairs -/
theorem pairs_alike {H : Hp} {a b : Addr} {bs : List (Nat × Nat)} (hl : bs.length ≤ 1000) (hA : PairsAt K H a bs) (hB : PairsAt K H b bs) : ∃ xs ys : List V, SqT K H a xs ∧ SqT K H b ys ∧ xs.length = ys.length ∧ ys.length ≤ 1000 ∧
    ∀ (i : Nat) (x y : V), xs[i]? = some x → ys[i]? = some y → ∀ (H1 : Hp) (Q' : VK) (E' : XK), Same H H1 → (∀ H', Same H1 H' → Q' (.bl true) H') → sp_alikeT K sp_alike0 [x, y] H1 Q' E' := by
  obtain ⟨ts, h1, p1⟩ := hA
  obtain ⟨us, h2, p2⟩ := hB
  have l1 : ts.length = bs.length := Paired.length p1
  have l2 : us.length = bs.length := Paired.length p2
  refine ⟨_, _, h1, h2, by rw [List.length_map, List.length_map, l1, l2], by rw [List.length_map, l2]; omega, rows_sub (val := fun b : Nat × Nat => [V.int (b.1 : Int), V.int (b.2 : Int)]) p1 p2 fun b _ => ⟨fun x hx => ?_, by (show 2 ≤ 1000; decide)⟩⟩
  rcases List.mem_cons.mp hx with z | z
  · exact ⟨_, z⟩
  · exact ⟨_, List.mem_singleton.mp z⟩
end
/-! ### the law's way through the sights -/
noncomputable def spareLaw (h : List (List Nat)) (i k : Nat) : List (Nat × Nat) := ((List.range k).filter fun s => decide (s ∈ h.getD i [] ∧ 1 < (h.getD i []).length ∧ numF (lessH h i s) = numF h)).map fun s => (i, s)
theorem spareLaw_succ {h : List (List Nat)} {i k : Nat} : spareLaw h i (k + 1) = spareLaw h i k ++ if decide (k ∈ h.getD i [] ∧ 1 < (h.getD i []).length ∧ numF (lessH h i k) = numF h) = true then [(i, k)] else [] := by
  unfold spareLaw
  rw [List.range_succ, List.filter_append, List.map_append, List.filter_cons]
  congr 1
  split <;> rfl
theorem spareLaw_all {h : List (List Nat)} {i : Nat} (ok : HouseOk h) (hi : i < h.length) : spareLaw h i h.length = spareRow h i := by
  have okr := (getD_row ok hi).2
  unfold spareLaw spareRow
  by_cases z : 1 < (h.getD i []).length
  · rw [if_pos z]
    congr 1
    refine lot_ext (n := h.length) List.filter_sublist (List.filter_sublist.trans okr) fun s => ?_
    rw [List.mem_filter, List.mem_filter, List.mem_range, decide_eq_true_eq, decide_eq_true_eq]
    exact ⟨fun y => ⟨y.2.1, y.2.2.2⟩, fun y => ⟨okr.lt s y.1, y.1, z, y.2⟩⟩
  · rw [if_neg z]
    have e : (List.range h.length).filter (fun s => decide (s ∈ h.getD i [] ∧ 1 < (h.getD i []).length ∧ numF (lessH h i s) = numF h)) = [] := List.filter_eq_nil_iff.mpr fun s _ y => z (of_decide_eq_true y).2.1
    rw [e]
    rfl
theorem more_le {h : List (List Nat)} {i s a b : Nat} (ok : HouseOk h) (hi : i < h.length) (hs : s < h.length) (x : IsNum h (List.range h.length) a) (y : IsNum (moreH h i s) (List.range (moreH h i s).length) b) : a ≤ b := by
  have hl : (moreH h i s).length = h.length := set_len hi
  rw [hl] at y
  refine sight_le hl (fun j t ht => ?_) x y
  unfold moreH
  rw [set_get hi]
  split
  · rename_i e
    subst e
    exact (mem_ins (getD_row ok hi).2 ok.hi hs).mpr (.inl ht)
  · exact ht
end N

set_option Elab.async false
set_option linter.all false
set_option maxRecDepth 100000
set_option maxHeartbeats 8000000
/-! the law -/
namespace N
open Cb (lotV combs combsOf combsOf_sub)
open PySem PySem.Spec PyProof.Rows L2
abbrev scLawB : Scope := { kind := .function, names := [((".0" : Str), .local), (("sights" : Str), .local), (("tuple" : Str), .globalImplicit), (("one" : Str), .cell)], isGenerator := false, isCoroutine := false }
section
variable {P : Program} {w : World} {K : PySem.W.Frag} {mg : Str → Option Value} {base : Heap}
theorem TabS.but {H H' : Hp} {PT rp : Addr} {q : Str} {xs : List V} (t : LamX.TabS H PT q) (hr : H rp = some (.lst xs)) (k : SameBut rp H H') : LamX.TabS H' PT q := by
  obtain ⟨ps, b1, b2, b3⟩ := t
  refine ⟨ps, k _ _ (ne_of b1 hr (by intro z; cases z)) b1, b2, fun pos cv hcv => ?_⟩
  obtain ⟨c0, c1, c2⟩ := b3 pos cv hcv
  exact ⟨c0, c1, k _ _ (ne_of c2 hr (by intro z; unfold LamX.CodeO at z; cases z)) c2⟩
theorem TripIs.ext {H H' : Hp} {v : V} {B : Option (Nat × Nat × Nat)} (x : TripIs K H v B) (e : LamX.ExtN H H') : TripIs K H' v B := by
  cases B with
  | none => exact x
  | some b => exact let ⟨p, h1, h2⟩ := x; ⟨p, h1, So.extN_seqT e h2⟩
theorem TripIs.off {H : Hp} {D : Addr} {v : V} {B : Option (Nat × Nat × Nat)} {ys : List V} {o : HO} (x : TripIs K H v B) (hD : H D = some (.lst ys)) : TripIs K (upd H D o) v B := by
  cases B with
  | none => exact x
  | some b => exact let ⟨p, h1, h2⟩ := x; ⟨p, h1, tup_but h2 hD but_upd⟩
/-- what stands while the law goes through the sights -/
structure LI (K : PySem.W.Frag) (PT lp : Addr) (Hb H : Hp) (vb : V) (B : Option (Nat × Nat × Nat)) (sp : List (Nat × Nat)) : Prop where
  e : LamX.ExtN Hb H
  t : LamX.TabS H PT lamQ
  l : ∃ ts : List Addr, H lp = some (.lst (ts.map V.ref)) ∧ Paired (fun t b => PairIs K H t b) ts sp
  b : TripIs K H vb B
theorem LI.ext {PT lp : Addr} {Hb H H' : Hp} {vb : V} {B : Option (Nat × Nat × Nat)} {sp : List (Nat × Nat)} (x : LI K PT lp Hb H vb B sp) (e : LamX.ExtN H H') (t : LamX.TabS H' PT lamQ) : LI K PT lp Hb H' vb B sp := by
  obtain ⟨ts, h1, h2⟩ := x.l
  exact ⟨x.e.trans e, t, ⟨ts, e _ _ h1 (fun ps z => by cases z), paired_mono h2 fun _ _ z => So.extN_seqT e z⟩, x.b.ext e⟩
theorem LI.same {PT lp : Addr} {Hb H H' : Hp} {vb : V} {B : Option (Nat × Nat × Nat)} {sp : List (Nat × Nat)} (x : LI K PT lp Hb H vb B sp) (e : Same H H') : LI K PT lp Hb H' vb B sp := x.ext (Same.extN e) (x.t.ext e)
theorem nums_sub {H : Hp} {xs : List V} (hx : ∀ x ∈ xs, ∃ i, x = V.int i) (i : Nat) (x y : V) (h1 : xs[i]? = some x) (h2 : xs[i]? = some y) (H1 : Hp) (Q' : VK) (E' : XK) (sm : Same H H1) (q' : ∀ H', Same H1 H' → Q' (.bl true) H') : sp_alike0 [x, y] H1 Q' E' := by
  have e : y = x := Option.some.inj (h2.symm.trans h1)
  exact ⟨x, by rw [e], .inl (hx x (List.mem_of_getElem? h1)), q'⟩
def spLaw (K : PySem.W.Frag) (PT : Addr) : Sp := fun vs H Q _ => ∃ (a : Addr) (ns : List Int), vs = [.ref a] ∧ SqL K H a (ns.map V.int) ∧ LamX.TabS H PT lamQ ∧ ∀ H', Q (.bl true) H'
abbrev NLaw : List Str := ["script", "row", "one", "other", "sights", "slate", "both", "many", "house", "number", "best", "spare", "clerk", "more", "found", "place", "less"]
theorem sc_law : FnScope ["script", "row", "one", "other", "sights", "slate", "both", "many", "house", "number", "best", "spare", "clerk", "more", "found", "place", "less"] ["script"] (defScope s_law) := ⟨rfl, rfl, rfl, by decide +kernel, rfl, by decide +kernel, by decide +kernel⟩
theorem ok_law {f c PT : Addr} {fd : FuncData} (F : Fun K "law" "law" s_law f fd) (T : Txt K mg) (hc : T.d__law_lots.fd.code = .ref c) (TB : LamX.TabB base mg c PT) : FnOk P w K mg base CX0 8 f fd ["script"] (spLaw K PT) := by
  have Gt := ok_taken (P := P) (w := w) (base := base) T
  have Gh := ok_house (P := P) (w := w) (base := base) T
  have Gn := ok_number (P := P) (w := w) (base := base) T hc TB
  have Gb := ok_beside (P := P) (w := w) (base := base) T
  have Gs := ok_slate_number (P := P) (w := w) (base := base) T
  have Gw := ok_with_sight (P := P) (w := w) (base := base) T
  have Gbs := ok_best_sight (P := P) (w := w) (base := base) T
  have Gsp := ok_spare (P := P) (w := w) (base := base) T
  have Gd := ok_days_to (P := P) (w := w) (base := base) T
  have Gz := ok_alike2 (P := P) (w := w) (base := base) T
  have Go := FnOk_or ((ok_alikeN (P := P) (w := w) (base := base) T).mono (by decide : 1 ≤ 2)) (ok_alike1 (P := P) (w := w) (base := base) T)
  refine F.ok sc_law (fun vs H Q E h => ?_) (fun cdv A outer s H vs Q E hr h => ?_)
  · obtain ⟨a, ns, rfl, _⟩ := h
    rfl
  · obtain ⟨a, ns, rfl, hS, hT, q⟩ := h
    have nd := sc_law.nd
    have hr1 : Room 1 _ := hr.mono (by decide)
    have hr2 : Room 2 _ := hr.mono (by decide)
    have hr3 : Room 3 _ := hr.mono (by decide)
    have hr4 : Room 4 _ := hr.mono (by decide)
    have hr5 : Room 5 _ := hr.mono (by decide)
    have hr6 : Room 6 _ := hr.mono (by decide)
    refine ⟨_, pss_cons (ps_set (i := 1) nd rfl (.inl rfl) (pe_lst (pa_cons (pv 0) (pa_cons pe_int (pa_cons pe_int (pa_cons pe_int pa_nil))))))
      (pss_cons (ps_asg (pe_tup (pa_cons (pe_call Gh hr2 (by rfl) T.d__law_house.g T.d__law_house.F.kp T.d__law_house.b .nil pass0 (pa_cons (pv 1) (pa_cons (pe_op op_add pe_int (pe_call Gt hr1 (by rfl) T.d__law_taken.g T.d__law_taken.F.kp T.d__law_taken.b .nil pass0 (pa_cons (pv 1) (pa_cons pe_int pa_nil)))) (pa_cons pe_int pa_nil))))
          (pa_cons (pe_call Gh hr2 (by rfl) T.d__law_house.g T.d__law_house.F.kp T.d__law_house.b .nil pass0 (pa_cons (pv 1) (pa_cons (pe_op op_add pe_int (pe_call Gt hr1 (by rfl) T.d__law_taken.g T.d__law_taken.F.kp T.d__law_taken.b .nil pass0 (pa_cons (pv 1) (pa_cons pe_int pa_nil)))) (pa_cons pe_int pa_nil)))) pa_nil)))
          (pg_tup rfl (pgs_cons (pg_name (i := 2) nd rfl (.inr rfl)) (pgs_cons (pg_name (i := 3) nd rfl (.inl rfl)) pgs_nil))))
      (pss_cons (ps_set (i := 6) nd rfl (.inl rfl) (pe_op op_catA (pv 2) (pe_tupleOf (by rfl) T.n_tuple
        (pe_lc (own := [("sights", 4)]) (g := gName 4) (tt := tYes) rfl nd (pi_tup (pv 3))
          (blkOk_by (N := NLaw) (sc := defScope s_law) (by decide +kernel)) (fun _ _ _ _ _ => pg_name (i := 4) nd rfl (.inl rfl)) (fun _ _ _ _ _ => pts_nil)
          (fun _ _ _ _ _ => p_tupleOf K (by rfl) T.n_tuple
            (pe_lc (own := [("slate", 5)]) (g := gName 5) (tt := tYes) (wi := iTup K (tVar 4)) rfl nd (p_iTup K (pv 4))
              (blkOk_by (N := NLaw) (sc := scLawB) (by decide +kernel)) (fun _ _ _ _ _ => pg_name (i := 5) nd rfl (.inl rfl)) (fun _ _ _ _ _ => pts_nil)
              (fun _ _ _ _ _ => pe_op op_add (pe_callB (c_len K) (by rfl) T.n_len PySem.boot_len (pa_cons (pv 2) pa_nil)) (pv 5))))))))
      (pss_cons (ps_if (pt_not (pt_val (pe_call Gz hr3 (by rfl) T.d__law_alike.g T.d__law_alike.F.kp T.d__law_alike.b .nil pass0
            (pa_cons (pe_call Gb hr4 (by rfl) T.d_beside.g T.d_beside.F.kp T.d_beside.b .nil pass0 (pa_cons (pv 2) (pa_cons (pv 3) pa_nil))) (pa_cons (pv 6) pa_nil))))) (pss_one ps_never) pss_nil)
      (pss_cons (ps_if (pt_cmpR op_ne (pe_call Gs hr6 (by rfl) T.d_slate_number.g T.d_slate_number.F.kp T.d_slate_number.b .nil pass0 (pa_cons (pv 6) pa_nil))
          (pe_callB (call_max2 rfl) (by rfl) T.n_max (by decide +kernel) (pa_cons (pe_call Gs hr6 (by rfl) T.d_slate_number.g T.d_slate_number.F.kp T.d_slate_number.b .nil pass0 (pa_cons (pv 2) pa_nil)) (pa_cons (pe_call Gs hr6 (by rfl) T.d_slate_number.g T.d_slate_number.F.kp T.d_slate_number.b .nil pass0 (pa_cons (pv 3) pa_nil)) pa_nil))) (by rfl)) (pss_one ps_never) pss_nil)
      (pss_cons (ps_set (i := 7) nd rfl (.inl rfl) (pe_op op_add pe_int (pe_call Gt hr1 (by rfl) T.d__law_taken.g T.d__law_taken.F.kp T.d__law_taken.b .nil pass0 (pa_cons (pv 1) (pa_cons pe_int pa_nil)))))
      (pss_cons (ps_set (i := 8) nd rfl (.inl rfl) (pe_call Gh hr2 (by rfl) T.d__law_house.g T.d__law_house.F.kp T.d__law_house.b .nil pass0 (pa_cons (pv 1) (pa_cons (pv 7) (pa_cons pe_int pa_nil)))))
      (pss_cons (ps_par3 (i := 9) (j := 10) (l := 11) rfl nd rfl rfl rfl (by decide) (by decide) (by decide) rfl rfl rfl
          (pa_cons (pe_call Gn hr5 (by rfl) T.d__law_number.g T.d__law_number.F.kp T.d__law_number.b .nil pass0 (pa_cons (pv 8) (pa_cons (pe_tupRg rfl (by rfl) T.n_tuple (prg_1 (by rfl) T.n_range (pv 7))) pa_nil))) (pa_cons pe_non (pa_cons (pe_lst pa_nil) pa_nil))) (by rfl))
      (pss_cons (ps_for PassesOwn.never rfl (En.pi_enumT (by rfl) T.n_enumerate (pa_cons (pv 8) pa_nil)) (pg_tup rfl (pgs_cons (pg_name (i := 12) nd rfl (.inl rfl)) (pgs_cons (pg_name (i := 4) nd rfl (.inl rfl)) pgs_nil)))
        (pss_one (ps_for PassesOwn.never rfl (pi_range1 (by rfl) T.n_range (pa_cons (pv 7) pa_nil)) (pg_name (i := 5) nd rfl (.inr rfl))
          (pss_one (ps_if (pt_cmpR op_notIn_seq (pv 5) (pv 4) (by rfl))
            (pss_cons (ps_set (i := 13) nd rfl (.inl rfl) (pe_op op_catA (pe_op op_catA (pe_slice sl_tupA (pv 8) po_none (po_some (pv 12))) (pe_tup (pa_cons (pe_tupleOf (by rfl) T.n_tuple
                (pe_callB cr_sortedTu (by rfl) T.n_sorted (by decide +kernel) (pa_cons (pe_op op_catA (pv 4) (pe_tup (pa_cons (pv 5) pa_nil))) pa_nil))) pa_nil))) (pe_slice sl_tupA (pv 8) (po_some (pe_op op_add (pv 12) pe_int)) po_none)))
            (pss_cons (ps_set (i := 14) nd rfl (.inl rfl) (pe_call Gn hr5 (by rfl) T.d__law_number.g T.d__law_number.F.kp T.d__law_number.b .nil pass0 (pa_cons (pv 13) (pa_cons (pe_tupRg rfl (by rfl) T.n_tuple (prg_1 (by rfl) T.n_range (pv 7))) pa_nil))))
            (pss_cons (ps_if (PW.pt (pw_or (pt_not (pt_val (pe_call Gz hr3 (by rfl) T.d__law_alike.g T.d__law_alike.F.kp T.d__law_alike.b .nil pass0
                (pa_cons (pe_call Gw hr4 (by rfl) T.d_with_sight.g T.d_with_sight.F.kp T.d_with_sight.b .nil pass0 (pa_cons (pv 8) (pa_cons (pv 12) (pa_cons (pv 5) pa_nil)))) (pa_cons (pv 13) pa_nil)))))
                (pw_or1 (pt_cmpR op_lt (pv 14) (pv 9) (by rfl))))) (pss_one ps_never) pss_nil)
            (pss_one (ps_set (i := 10) nd rfl (.inl rfl) (pe_ifExp (PW.pt (pw_or (pt_cmpR op_isN (pv 10) pe_non (nomark _)) (pw_or1 (pt_cmpR op_gt (pv 14) (pe_ix ix_tup (pv 10) pe_int (fun _ _ => rfl)) (by rfl)))))
                (pe_tup (pa_cons (pv 12) (pa_cons (pv 5) (pa_cons (pv 14) pa_nil)))) (pv 10)))))))
            (pss_one (ps_if (pt_cmpR op_gt (pe_callB call_len_seq (by rfl) T.n_len PySem.boot_len (pa_cons (pv 4) pa_nil)) pe_int (nomark _))
              (pss_cons (ps_set (i := 16) nd rfl (.inl rfl) (pe_tupleOf (by rfl) T.n_tuple (pe_lc (own := [("place", 15)]) (g := gName 15) rfl nd (pi_tup (pv 4))
                (blkOk_by (N := NLaw) (sc := defScope s_law) (by decide +kernel)) (fun _ _ _ _ _ => pg_name (i := 15) nd rfl (.inl rfl))
                (fun _ _ _ _ _ => pts_one (pt_cmpR op_ne (pv 15) (pv 5) (by rfl))) (fun _ _ _ _ _ => pv 15))))
              (pss_one (ps_if (pt_cmpR op_eq (pe_call Gn hr5 (by rfl) T.d__law_number.g T.d__law_number.F.kp T.d__law_number.b .nil pass0
                  (pa_cons (pe_op op_catA (pe_op op_catA (pe_slice sl_tupA (pv 8) po_none (po_some (pv 12))) (pe_tup (pa_cons (pv 16) pa_nil))) (pe_slice sl_tupA (pv 8) (po_some (pe_op op_add (pv 12) pe_int)) po_none))
                  (pa_cons (pe_tupRg rfl (by rfl) T.n_tuple (prg_1 (by rfl) T.n_range (pv 7))) pa_nil))) (pv 9) (by rfl))
                (pss_one (ps_expr (pe_bm PySem.F.plainAttrs_list PySem.F.slot_list_append PySem.F.type_list_append mt_append (pv 11) (pa_cons (pe_tup (pa_cons (pv 12) (pa_cons (pv 5) pa_nil))) pa_nil)))) pss_nil))) pss_nil)))))))
      (pss_cons (ps_if (PW.pt (pw_or (pt_not (pt_val (pe_call Go hr2 (by rfl) T.d__law_alike.g T.d__law_alike.F.kp T.d__law_alike.b .nil pass0
            (pa_cons (pe_call Gbs hr (by rfl) T.d_best_sight.g T.d_best_sight.F.kp T.d_best_sight.b .nil pass0 (pa_cons (pv 8) pa_nil)) (pa_cons (pv 10) pa_nil)))))
          (pw_or1 (pt_not (pt_val (pe_call Gz hr3 (by rfl) T.d__law_alike.g T.d__law_alike.F.kp T.d__law_alike.b .nil pass0
            (pa_cons (pe_call Gsp hr (by rfl) T.d_spare_sights.g T.d_spare_sights.F.kp T.d_spare_sights.b .nil pass0 (pa_cons (pv 8) pa_nil)) (pa_cons (pe_tupleOf (by rfl) T.n_tuple (pv 11)) pa_nil)))))))) (pss_one ps_never) pss_nil)
      (pss_one (ps_ret (pe_cmpR op_gt (pe_call Gd hr (by rfl) T.d_days_to.g T.d_days_to.F.kp T.d_days_to.b .nil pass0 (pa_cons (pv 8) (pa_cons (pv 9) (pa_cons (pe_tupRg rfl (by rfl) T.n_tuple (prg_1 (by rfl) T.n_range (pv 7))) pa_nil)))) pe_int (nomark _))))))))))))), ?_⟩
    -- row
    refine ⟨.ref a, rfl, by (show 4 ≤ sizeLine; decide), fun rp hrp => ?_⟩
    have s1 : Same H (upd H rp (.lst [.ref a, .int 0, .int 1605, .int 0])) := same_upd hrp
    have hT1 := hT.ext s1
    have row1 : RowAt K a ns (upd H rp (.lst [.ref a, .int 0, .int 1605, .int 0])) rp := by
      refine ⟨0, 1605, 0, upd_same, Same.seq s1 hS, Int.le_refl _, ?_⟩
      rcases hS with (z | ⟨o', z⟩) | z
      · exact .inl (ne_of_none z hrp).symm
      · exact .inl (ne_of_none z hrp).symm
      · exact .inr fun H' => .inr z
    generalize upd H rp (.lst [.ref a, .int 0, .int 1605, .int 0]) = H1 at row1 hT1
    -- one
    refine ⟨.ref rp, rfl, .ref rp, rfl, a, ns, rp, 3, rfl, row1, by omega, by omega, fun H2 m1 row2 sb2 hm1 => ?_⟩
    obtain ⟨xs1, hr1'⟩ := row1.lst
    have hT2 := TabS.but hT1 hr1' sb2
    refine ⟨1, m1, rfl, rfl, a, ns, rp, m1 + 1, 3, by show [V.ref rp, V.int ((1 : Int) + (m1 : Int)), V.int 3] = _; rw [show (1 : Int) + (m1 : Int) = ((m1 + 1 : Nat) : Int) by omega]; rfl, row2, by omega, by omega, by omega, by omega, fun H3 op h1 row3 sb3 hh1 o1 hlen1 => ?_⟩
    obtain ⟨xs2, hr2'⟩ := row2.lst
    have hT3 := TabS.but hT2 hr2' sb3
    -- other
    refine ⟨.ref rp, rfl, .ref rp, rfl, a, ns, rp, 3, rfl, row3, by omega, by omega, fun H4 m2 row4 sb4 hm2 => ?_⟩
    obtain ⟨xs3, hr3'⟩ := row3.lst
    have hT4 := TabS.but hT3 hr3' sb4
    have hh14 := hh1.but hr3' sb4
    refine ⟨1, m2, rfl, rfl, a, ns, rp, m2 + 1, 3, by show [V.ref rp, V.int ((1 : Int) + (m2 : Int)), V.int 3] = _; rw [show (1 : Int) + (m2 : Int) = ((m2 + 1 : Nat) : Int) by omega]; rfl, row4, by omega, by omega, by omega, by omega, fun H5 qp h2 row5 sb5 hh2 o2 hlen2 => ?_⟩
    obtain ⟨xs4, hr4'⟩ := row4.lst
    have hT5 := TabS.but hT4 hr4' sb5
    have hh15 := hh14.but hr4' sb5
    refine ⟨by (show 2 ≤ sizeLine; decide), fun tp htp => ?_⟩
    have s6 : Same H5 (upd H5 tp (.tup [.ref op, .ref qp])) := same_upd htp
    refine ⟨tp, [.ref op, .ref qp], rfl, .inl (.inl upd_same), rfl, .ref op, [.ref qp], rfl, .ref qp, [], rfl, rfl, ?_⟩
    have hA := hh15.same s6
    have hB := hh2.same s6
    have hT6 := hT5.ext s6
    have row6 := row5.keep s6
    generalize upd H5 tp (.tup [.ref op, .ref qp]) = H6 at hA hB hT6 row6
    -- both
    obtain ⟨rs, hR, hP⟩ := id hA
    obtain ⟨rs2, hR2, hP2⟩ := id hB
    have hl1 : (rs.map V.ref).length = h1.length := by rw [List.length_map]; exact Paired.length hP
    have hl2 : (rs2.map V.ref).length = h2.length := by rw [List.length_map]; exact Paired.length hP2
    refine ⟨.ref op, rfl, .ref qp, rfl, qp, rfl, ⟨_, hR2⟩, fun D hD => ?_⟩
    refine lc_tup (K := K) (a := qp) (xs := rs2.map V.ref) (fun i H7 => ∃ us : List Addr, Same H6 H7 ∧ H7 D = some (.lst (us.map V.ref)) ∧ Paired (fun r row => LotAt K H7 r row) us ((h2.take i).map (shiftL h1.length)))
      ⟨[], same_upd hD, upd_same, .nil⟩ (fun i H7 _ ⟨_, h3, _⟩ => Same.tup h3 hR2) ?_ ?_
    · rintro i x H7 hi ⟨us, sm3, hd3, hU⟩
      obtain ⟨rwp, hri, rfl⟩ := get_refs hi
      obtain ⟨row, hrow, hat⟩ := paired_at hP2 hri
      have okr := (o2.ok row (List.mem_of_getElem? hrow)).2
      have hrl := okr.len
      have hat3 := hat.same sm3
      refine ⟨rfl, tYes_if ⟨.ref rwp, rfl, rwp, rfl, ⟨_, hat3⟩, fun D2 hD2 => ?_⟩⟩
      refine lc_tup (K := K) (a := rwp) (xs := lotV row) (fun j H8 => H8 = upd H7 D2 (.lst (lotV (shiftL h1.length (row.take j))))) rfl (fun j H8 _ e => by rw [e]; exact hat3.same (same_upd hD2)) ?_ ?_
      · rintro j y H8 hj rfl
        obtain ⟨s0, hs0, rfl⟩ := get_lotV hj
        have smD : Same H7 (upd H7 D2 (.lst (lotV (shiftL h1.length (row.take j))))) := same_upd hD2
        refine ⟨rfl, tYes_if ⟨.ref op, rfl, op, _, rfl, .inr (Same.tup (sm3.trans smD) hR), .int (s0 : Int), rfl, _, _, rfl, rfl, _, upd_same, ?_, ?_⟩⟩
        · unfold shiftL
          rw [List.length_map, List.length_map, List.length_take]
          exact small1000 (by omega)
        · show upd _ _ _ = _
          rw [upd_upd, shift_take hs0, hl1]
          unfold lotV
          rw [List.map_append]
          have e : (h1.length : Int) + (s0 : Int) = ((s0 + h1.length : Nat) : Int) := by omega
          show upd H7 D2 (.lst (_ ++ [V.int ((h1.length : Int) + (s0 : Int))])) = _
          rw [e]
          rfl
      · rintro H8 rfl
        rw [List.length_map, List.take_length]
        have smD : Same H7 (upd H7 D2 (.lst (lotV (shiftL h1.length row)))) := same_upd hD2
        refine .inl ⟨D2, _, rfl, SqL.up upd_same, fun tp htp => ?_⟩
        have smT := smD.trans (same_upd (o := .tup (lotV (shiftL h1.length row))) htp)
        have hT' : LotAt K (upd (upd H7 D2 (.lst (lotV (shiftL h1.length row)))) tp (.tup (lotV (shiftL h1.length row)))) tp (shiftL h1.length row) := SqT.up upd_same
        generalize upd (upd H7 D2 (.lst (lotV (shiftL h1.length row)))) tp (.tup (lotV (shiftL h1.length row))) = H9 at smT hT'
        have hd5 := smT _ _ hd3
        refine ⟨_, hd5, ?_, us ++ [tp], fun b' o e => ?_, ?_, ?_⟩
        · have hul : us.length = _ := Paired.length hU
          rw [List.length_map, List.length_take] at hul
          rw [List.length_map]
          exact small1000 (by omega)
        · rw [upd_ne (ne_of_none e hD)]
          exact smT _ _ (sm3 _ _ e)
        · rw [upd_same, List.map_append]
          rfl
        · rw [take_succ' hrow, List.map_append]
          exact paired_app (paired_mono hU fun _ _ z => lot_off (z.same smT) hd5) (.cons (lot_off hT' hd5) .nil)
    rintro H7 ⟨us, sm7, hd7, hU⟩
    rw [List.length_map, show rs2.length = h2.length from Paired.length hP2, List.take_length] at hU
    refine .inl ⟨D, _, rfl, SqL.up hd7, fun tp htp => ?_⟩
    have sT : Same H7 (upd H7 tp (.tup (us.map V.ref))) := same_upd htp
    have hTu : SqT K (upd H7 tp (.tup (us.map V.ref))) tp (us.map V.ref) := SqT.up upd_same
    generalize upd H7 tp (.tup (us.map V.ref)) = H8 at sT hTu
    have sm8 := sm7.trans sT
    have hul : us.length = h2.length := by
      have : us.length = _ := Paired.length hU
      rw [List.length_map] at this
      exact this
    refine cat_any (Same.tup sm8 hR) hTu (by rw [hl1, List.length_map, hul]; omega) fun H9 bp sm9 hbp => ?_
    have hBoth : HouseAt K H9 bp (bothH h1 h2) := house_app (paired_mono hP fun _ _ z => (z.same sm8).same sm9) (paired_mono hU fun _ _ z => (z.same sT).same sm9) hbp
    have smA := sm8.trans sm9
    have oB : HouseOk (bothH h1 h2) := both_ok o1 o2 (by omega)
    -- beside
    refine ⟨.ref op, rfl, .ref qp, rfl, op, qp, h1, h2, rfl, hA.same smA, o1, hB.same smA, o2, by omega, fun H10 pb sm10 hpb => ?_⟩
    obtain ⟨xs, ys, k1, k2, k3, k4, k5⟩ := houses_alike oB hpb (hBoth.same sm10)
    refine ⟨.ref bp, rfl, pb, bp, xs, ys, rfl, k1, k2, k3, k4, k5, fun H11 sm11 => ⟨true, rfl, iteF ?_⟩⟩
    have smB := smA.trans (sm10.trans sm11)
    -- numbers of both
    refine ⟨.ref bp, rfl, bp, bothH h1 h2, rfl, (hBoth.same sm10).same sm11, oB, fun H12 cB sm12 hnB _ => ?_⟩
    have smC := smB.trans sm12
    refine ⟨.ref op, rfl, op, h1, rfl, hA.same smC, o1, fun H13 c1 sm13 hn1 _ => ?_⟩
    have smD := smC.trans sm13
    refine ⟨.ref qp, rfl, qp, h2, rfl, hB.same smD, o2, fun H14 c2 sm14 hn2 _ => ?_⟩
    have smE := smD.trans sm14
    have ecB : cB = max c1 c2 := hnB.inj (num_both o1 o2 hn1 hn2)
    refine ⟨_, _, rfl, rfl, false, ?_, iteF ?_⟩
    · have e2 : (cB : Int) = if (c2 : Int) > (c1 : Int) then (c2 : Int) else (c1 : Int) := by
        rw [ecB]
        by_cases z : (c2 : Int) > (c1 : Int)
        · rw [if_pos z, Nat.max_eq_right (by omega)]
        · rw [if_neg z, Nat.max_eq_left (by omega)]
      show V.bl (!decide (V.int (cB : Int) = V.int (if (c2 : Int) > (c1 : Int) then (c2 : Int) else (c1 : Int)))) = _
      rw [← e2, decide_eq_true rfl]
      rfl
    have row14 := row6.keep smE
    have hT14 := hT6.ext smE
    clear hnB hn1 hn2 hBoth hpb k5 k1 k2 hP2 hR2 hP hR
    -- many
    refine ⟨.ref rp, rfl, a, ns, rp, 4, rfl, row14, by omega, by omega, fun H15 mm row15 sb15 hmm => ?_⟩
    obtain ⟨xs14, hr14'⟩ := row14.lst
    have hT15 := TabS.but hT14 hr14' sb15
    refine ⟨1, mm, rfl, rfl, ?_⟩
    have em : (1 : Int) + (mm : Int) = ((mm + 1 : Nat) : Int) := by omega
    refine ⟨.ref rp, rfl, _, rfl, a, ns, rp, mm + 1, 3, by show [V.ref rp, V.int ((1 : Int) + (mm : Int)), V.int 3] = _; rw [em]; rfl, row15, by omega, by omega, by omega, by omega, fun H16 hp hs row16 sb16 hh16 ok hlen => ?_⟩
    obtain ⟨xs15, hr15'⟩ := row15.lst
    have hT16 := TabS.but hT15 hr15' sb16
    have hn4 : hs.length ≤ 4 := by omega
    have em2 : (1 : Int) + (mm : Int) = (hs.length : Int) := by omega
    have hrn : List.range hs.length ≠ [] := fun z => by
      have z2 := congrArg List.length z
      rw [List.length_range] at z2
      have z3 : hs.length = 0 := z2
      omega
    -- number
    have hrg : ∀ (H' : Hp) (gp : Addr), (upd H' gp (.tup (rgV 0 ((1 : Int) + (mm : Int))))) gp = some (.tup (lotV (List.range hs.length))) := fun H' gp => by rw [upd_same, em2, rgV_lot]
    refine ⟨.ref hp, rfl, _, rfl, _, rfl, RgOk.of_le (by decide) (by omega) (by decide) (by omega), fun gp hgp => ?_⟩
    have s17 : Same H16 (upd H16 gp (.tup (rgV 0 ((1 : Int) + (mm : Int))))) := same_upd hgp
    refine ⟨hp, gp, hs, List.range hs.length, rfl, hh16.same s17, ok, by omega, SqT.up (hrg _ _), List.Sublist.refl _, hT16.ext s17, fun Hb c0 e17 hTb hn0 hc0 => ?_⟩
    have hhb : HouseAt K Hb hp hs := (hh16.same s17).ext e17
    clear hh16 row16 hT16 hT15 row15 s17
    have ec0 : numF hs = c0 := numF_is hn0
    refine ⟨Nat.zero_le _, fun lp hlp => ⟨_, _, _, rfl, ?_⟩⟩
    have s18 : Same Hb (upd Hb lp (.lst [])) := same_upd hlp
    have L0 : LI K PT lp Hb (upd Hb lp (.lst [])) .non (bestAll hs 0) (spareTo hs 0) := ⟨Same.extN s18, hTb.ext s18, ⟨[], upd_same, .nil⟩, rfl⟩
    generalize upd Hb lp (.lst []) = H18 at L0
    obtain ⟨rs, hR, hP⟩ := id hhb
    have hlv : (rs.map V.ref).length = hs.length := by rw [List.length_map]; exact Paired.length hP
    refine ⟨.ref hp, rfl, hp, _, rfl, So.extN_seqT L0.e hR, En.for_enumT (K := K) (a := hp) (xs := rs.map V.ref) (fun i σ H2 => ∃ (vb : V) (v4 v5 v12 v13 v14 v15 v16 : Option V), σ = [some (.ref a), some (.ref rp), some (.ref op), some (.ref qp), v4, v5, some (.ref bp), some (.int ((1 : Int) + (mm : Int))), some (.ref hp), some (.int (c0 : Int)), some vb, some (.ref lp), v12, v13, v14, v15, v16] ∧ LI K PT lp Hb H2 vb (bestAll hs i) (spareTo hs i))
      ⟨.non, none, none, none, none, none, none, none, rfl, L0⟩ (fun i σ H2 _ h3 => ?_) ?_ ?_⟩
    · obtain ⟨_, _, _, _, _, _, _, _, _, L⟩ := h3
      exact So.extN_seqT L.e hR
    · rintro i x T2 σ H2 hi ⟨vb, v4, v5, v12, v13, v14, v15, v16, rfl, L2⟩ hT2'
      obtain ⟨rwp, hri, rfl⟩ := get_refs hi
      obtain ⟨row, hrow, hat⟩ := paired_at hP hri
      have hlt : i < hs.length := (List.getElem?_eq_some_iff.mp hrow).1
      have egd : hs.getD i [] = row := by rw [List.getD_eq_getElem?_getD, hrow]; rfl
      have okr := (getD_row ok hlt).2
      rw [egd] at okr
      have hrl := okr.len
      have sT : Same H2 (upd H2 T2 (.tup [.int (i : Nat), .ref rwp])) := same_upd hT2'
      refine ⟨T2, [.int (i : Nat), .ref rwp], rfl, .inl (.inl upd_same), rfl, .int (i : Nat), [.ref rwp], rfl, .ref rwp, [], rfl, rfl, ?_⟩
      have L3 := L2.same sT
      generalize upd H2 T2 (.tup [.int (i : Nat), .ref rwp]) = H3 at L3
      refine ⟨_, rfl, _, rfl, by omega, by omega, ?_⟩
      show ∃ W, _
      rw [show ((1 : Int) + (mm : Int)).toNat = hs.length by omega]
      have es0 : spareTo hs i ++ spareLaw hs i 0 = spareTo hs i := by
        unfold spareLaw
        rw [List.range_zero, List.filter_nil, List.map_nil, List.append_nil]
      refine for_range (lo := 0) (n := hs.length) (fun k σ H4 => ∃ (vb : V) (v5 v13 v14 v15 v16 : Option V), σ = [some (.ref a), some (.ref rp), some (.ref op), some (.ref qp), some (.ref rwp), v5, some (.ref bp), some (.int ((1 : Int) + (mm : Int))), some (.ref hp), some (.int (c0 : Int)), some vb, some (.ref lp), some (.int (i : Nat)), v13, v14, v15, v16] ∧ LI K PT lp Hb H4 vb (bestRow hs i (bestAll hs i) k) (spareTo hs i ++ spareLaw hs i k))
        ⟨vb, v5, v13, v14, v15, v16, rfl, by rw [es0]; exact L3⟩ ?_ ?_
      · rintro k σ H4 hk ⟨vb, v5, v13, v14, v15, v16, rfl, L4⟩
        have ek : (0 : Int) + (k : Int) = ((k : Nat) : Int) := by omega
        have hat4 : LotAt K H4 rwp row := hat.ext L4.e
        have hh4 : HouseAt K H4 hp hs := hhb.ext L4.e
        have hR4 := So.extN_seqT L4.e hR
        refine ⟨_, rfl, .ref rwp, rfl, rwp, lotV row, rfl, .inr hat4, rfl, flat_lot _, ?_⟩
        refine ⟨!decide (k ∈ row), by rw [if_pos rfl, ek, inV_lot], ?_⟩
        have eS : bestRow hs i (bestAll hs i) (k + 1) = bestStep hs i (bestRow hs i (bestAll hs i) k) k := bestRow_succ
        unfold bestStep at eS
        rw [egd] at eS
        have eSp : spareTo hs i ++ spareLaw hs i (k + 1) = (spareTo hs i ++ spareLaw hs i k) ++ if decide (k ∈ row ∧ 1 < row.length ∧ numF (lessH hs i k) = numF hs) = true then [(i, k)] else [] := by
          rw [spareLaw_succ, egd, List.append_assoc]
        by_cases hin : k ∈ row
        · -- looked at
          rw [if_pos (decide_eq_true hin)] at eS
          rw [decide_eq_true hin]
          refine iteF ?_
          refine ⟨.ref rwp, rfl, rwp, _, rfl, .inr hat4, _, 1, rfl, rfl, decide (1 < row.length), ?_, ?_⟩
          · show V.bl (decide ((1 : Int) < ((lotV row).length : Int))) = _
            rw [show decide ((1 : Int) < ((lotV row).length : Int)) = decide (1 < row.length) from decide_eq_decide.mpr (by rw [List.length_map]; omega)]
          refine ite2 (fun hb => ?_) (fun hb => ?_)
          · have hb1 : 1 < row.length := of_decide_eq_true hb
            refine ⟨.ref rwp, rfl, rwp, rfl, ⟨_, hat4⟩, fun D hD => ?_⟩
            refine lc_tup (K := K) (a := rwp) (xs := lotV row) (fun j H5 => H5 = upd H4 D (.lst (lotV ((row.take j).filter fun x => !decide (x = k))))) rfl (fun j H5 _ e => by rw [e]; exact hat4.same (same_upd hD)) ?_ ?_
            · rintro j y H5 hj rfl
              obtain ⟨x, hx, rfl⟩ := get_lotV hj
              refine ⟨rfl, .int (x : Int), rfl, _, rfl, rfl, !decide (x = k), ?_, ?_⟩
              · have : decide (V.int (x : Int) = V.int (0 + (k : Int))) = decide (x = k) := decide_eq_decide.mpr ⟨fun z => by have := V.int.inj z; omega, fun z => by rw [z, ek]⟩
                rw [this]
              have etk : (row.take (j + 1)).filter (fun x => !decide (x = k)) = (row.take j).filter (fun x => !decide (x = k)) ++ if (!decide (x = k)) = true then [x] else [] := by
                rw [take_succ' hx, List.filter_append, List.filter_cons]
                rfl
              refine ite2 (fun hb => ?_) (fun hb => ?_)
              · rw [if_pos hb] at etk
                refine ⟨_, rfl, _, upd_same, ?_, ?_⟩
                · rw [List.length_map]
                  have h1 := List.length_filter_le (fun x => !decide (x = k)) (row.take j)
                  rw [List.length_take] at h1
                  exact small1000 (by omega)
                · show upd _ _ _ = _
                  rw [upd_upd, etk]
                  unfold lotV
                  rw [List.map_append]
                  rfl
              · rw [if_neg hb, List.append_nil] at etk
                show _ = _
                rw [etk]
            rintro H5 rfl
            rw [List.length_map, List.take_length]
            have s5 : Same H4 (upd H4 D (.lst (lotV (row.filter fun x => !decide (x = k))))) := same_upd hD
            refine .inl ⟨D, _, rfl, SqL.up upd_same, fun lsp hlsp => ?_⟩
            have s6 := s5.trans (same_upd (o := .tup (lotV (row.filter fun x => !decide (x = k)))) hlsp)
            have hLs : LotAt K (upd (upd H4 D (.lst (lotV (row.filter fun x => !decide (x = k))))) lsp (.tup (lotV (row.filter fun x => !decide (x = k))))) lsp (row.filter fun x => !decide (x = k)) := SqT.up upd_same
            generalize upd (upd H4 D (.lst (lotV (row.filter fun x => !decide (x = k))))) lsp (.tup (lotV (row.filter fun x => !decide (x = k)))) = H6 at s6 hLs
            -- the house with less
            refine ⟨.ref hp, rfl, _, rfl, i, rfl, slice_any (Same.tup s6 hR4) fun H7 p7 sm7 hp7 => ?_⟩
            rw [cut_to _ (by omega)] at hp7
            refine ⟨.ref lsp, rfl, by (show 1 ≤ sizeLine; decide), fun op' hop => ?_⟩
            have s8 : Same H7 (upd H7 op' (.tup [.ref lsp])) := same_upd hop
            have hO : SqT K (upd H7 op' (.tup [.ref lsp])) op' [.ref lsp] := SqT.up upd_same
            generalize upd H7 op' (.tup [.ref lsp]) = H8 at s8 hO
            refine cat_any (Same.tup s8 hp7) hO (by rw [List.length_take]; show _ + 1 ≤ 1000; omega) fun H9 p9 sm9 hp9 => ?_
            have sm10 := ((s6.trans sm7).trans s8).trans sm9
            refine ⟨.ref hp, rfl, _, rfl, i, 1, rfl, rfl, (i : Int) + 1, rfl, ?_⟩
            delta tNoPart
            refine slice_any (Same.tup sm10 hR4) fun H11 p11 sm11 hp11 => ?_
            rw [show ((i : Int) + 1) = ((i + 1 : Nat) : Int) by omega, cut_from _ (by omega)] at hp11
            refine cat_any (Same.tup sm11 hp9) hp11 (by rw [List.length_append, List.length_drop, List.length_take]; show _ + 1 + _ ≤ 1000; omega) fun H12 hp' sm12 hhp => ?_
            have smF := (sm10.trans sm11).trans sm12
            have hLess : HouseAt K H12 hp' (lessH hs i k) := by
              unfold lessH
              rw [egd]
              exact house_parts (rs := rs) (paired_mono hP fun _ _ z => (LotAt.ext z L4.e).same smF) ((((hLs.same sm7).same s8).same sm9).same sm11 |>.same sm12) hhp
            have oL : HouseOk (lessH hs i k) := less_ok ok hlt (by rw [egd]; exact hb1)
            have elen : (lessH hs i k).length = hs.length := set_len hlt
            have L12 := L4.same smF
            refine ⟨_, rfl, _, rfl, RgOk.of_le (by decide) (by omega) (by decide) (by omega), fun gp hgp => ?_⟩
            have s13 : Same H12 (upd H12 gp (.tup (rgV 0 ((1 : Int) + (mm : Int))))) := same_upd hgp
            refine ⟨hp', gp, lessH hs i k, List.range hs.length, rfl, hLess.same s13, oL, by omega, SqT.up (hrg _ _), by rw [elen]; exact List.Sublist.refl _, (L12.same s13).t, fun H14 c e14 hT14 hn hc => ?_⟩
            have L14 := (L12.same s13).ext e14 hT14
            have ec : numF (lessH hs i k) = c := numF_is (by rw [elen]; exact hn)
            rw [ec, ec0] at eSp
            refine ⟨_, rfl, rfl, decide (c = c0), ?_, ?_⟩
            · show V.bl (decide (V.int (c : Int) = V.int (c0 : Int))) = _
              rw [show decide (V.int (c : Int) = V.int (c0 : Int)) = decide (c = c0) from decide_eq_decide.mpr ⟨fun z => by have := V.int.inj z; omega, fun z => by rw [z]⟩]
            refine ite2 (fun hb2 => ?_) (fun hb2 => ?_)
            · rw [if_pos (decide_eq_true ⟨hin, hb1, of_decide_eq_true hb2⟩)] at eSp
              obtain ⟨ts, hl14, hts⟩ := L14.l
              refine ⟨.ref lp, rfl, .inl ⟨rfl, _, SqL.up hl14⟩, _, rfl, _, rfl, by (show 2 ≤ sizeLine; decide), fun tp2 htp2 => ?_⟩
              have s15 : Same H14 (upd H14 tp2 (.tup [.int (i : Nat), .int (0 + (k : Int))])) := same_upd htp2
              have hT15 : PairIs K (upd H14 tp2 (.tup [.int (i : Nat), .int (0 + (k : Int))])) tp2 (i, k) := SqT.up (by rw [upd_same, ek])
              have L15 := L14.same s15
              generalize upd H14 tp2 (.tup [.int (i : Nat), .int (0 + (k : Int))]) = H15 at s15 hT15 L15
              have hl15 := s15 _ _ hl14
              have hts15 : Paired (fun t b => PairIs K H15 t b) ts (spareTo hs i ++ spareLaw hs i k) := paired_mono hts fun _ _ z => z.same s15
              have etl : ts.length = _ := Paired.length hts
              have hsl := spareTo_len ok i (by omega)
              have hll : (spareLaw hs i k).length ≤ k := by
                unfold spareLaw
                rw [List.length_map]
                have := List.length_filter_le (fun s => decide (s ∈ hs.getD i [] ∧ 1 < (hs.getD i []).length ∧ numF (lessH hs i s) = numF hs)) (List.range k)
                rwa [List.length_range] at this
              rw [List.length_append] at etl
              refine ⟨lp, _, _, rfl, rfl, hl15, by rw [List.length_map]; exact small1000 (by omega), vb, _, _, _, _, _, rfl, ?_⟩
              refine ⟨fun b' o e n => ?_, TabS.but L15.t hl15 but_upd, ⟨ts ++ [tp2], ?_, ?_⟩, ?_⟩
              · rw [upd_ne (ne_of_none e hlp)]
                exact L15.e _ _ e n
              · rw [upd_same, List.map_append]
                rfl
              · rw [eSp]
                exact paired_app (paired_mono hts15 fun _ _ z => z.off hl15) (.cons (hT15.off hl15) .nil)
              · rw [eS]
                exact L15.b.off hl15
            · rw [if_neg (by simp only [decide_eq_true_eq]; exact fun z => hb2 (decide_eq_true z.2.2)), List.append_nil] at eSp
              exact ⟨vb, _, _, _, _, _, rfl, by rw [eS, eSp]; exact L14⟩
          · rw [if_neg (by simp only [decide_eq_true_eq]; exact fun z => hb (decide_eq_true z.2.1)), List.append_nil] at eSp
            exact ⟨vb, _, _, _, _, _, rfl, by rw [eS, eSp]; exact L4⟩
        · -- not looked at
          rw [if_neg (by simp [hin])] at eS
          rw [if_neg (by simp [hin]), List.append_nil] at eSp
          rw [decide_eq_false hin]
          refine iteT ?_
          have hno : k ∉ hs.getD i [] := by rw [egd]; exact hin
          refine ⟨.ref hp, rfl, _, rfl, i, rfl, slice_any hR4 fun H5 p5 sm5 hp5 => ?_⟩
          rw [cut_to _ (by omega)] at hp5
          refine ⟨.ref rwp, rfl, _, rfl, by (show 1 ≤ sizeLine; decide), fun op1 hop1 => ?_⟩
          have s6 : Same H5 (upd H5 op1 (.tup [.int (0 + (k : Int))])) := same_upd hop1
          have hO1 : SqT K (upd H5 op1 (.tup [.int (0 + (k : Int))])) op1 (lotV [k]) := SqT.up (by rw [upd_same, ek]; rfl)
          generalize upd H5 op1 (.tup [.int (0 + (k : Int))]) = H6 at s6 hO1
          refine cat_any ((hat4.same sm5).same s6) hO1 (by rw [List.length_map, List.length_map]; show _ + 1 ≤ 1000; omega) fun H7 p7 sm7 hp7 => ?_
          have ecat : lotV row ++ lotV [k] = ((row ++ [k]).map fun (n : Nat) => (n : Int)).map V.int := by
            rw [List.map_map, List.map_append]
            rfl
          rw [ecat] at hp7
          refine ⟨p7, _, rfl, hp7, by rw [List.length_map, List.length_append]; show _ + 1 < 64; omega, fun ns' sp hperm hsort hsp => ?_⟩
          rw [sorted_ins okr ok.hi hk hin hperm hsort]
          have s8 : Same H7 (upd H7 sp (.lst (lotV (insL row k)))) := same_upd hsp
          have hSp : SqL K (upd H7 sp (.lst (lotV (insL row k)))) sp (lotV (insL row k)) := SqL.up upd_same
          generalize upd H7 sp (.lst (lotV (insL row k))) = H8 at s8 hSp
          refine .inl ⟨sp, _, rfl, hSp, fun lsp hlsp => ?_⟩
          have s9 : Same H8 (upd H8 lsp (.tup (lotV (insL row k)))) := same_upd hlsp
          have hLs : LotAt K (upd H8 lsp (.tup (lotV (insL row k)))) lsp (insL row k) := SqT.up upd_same
          generalize upd H8 lsp (.tup (lotV (insL row k))) = H9 at s9 hLs
          refine ⟨by (show 1 ≤ sizeLine; decide), fun op2 hop2 => ?_⟩
          have s10 : Same H9 (upd H9 op2 (.tup [.ref lsp])) := same_upd hop2
          have hO2 : SqT K (upd H9 op2 (.tup [.ref lsp])) op2 [.ref lsp] := SqT.up upd_same
          generalize upd H9 op2 (.tup [.ref lsp]) = H10 at s10 hO2
          have sm10 := (((s6.trans sm7).trans s8).trans s9).trans s10
          refine cat_any (Same.tup sm10 hp5) hO2 (by rw [List.length_take]; show _ + 1 ≤ 1000; omega) fun H11 p11 sm11 hp11 => ?_
          have sm12 := (sm5.trans sm10).trans sm11
          refine ⟨.ref hp, rfl, _, rfl, i, 1, rfl, rfl, (i : Int) + 1, rfl, ?_⟩
          delta tNoPart
          refine slice_any (Same.tup sm12 hR4) fun H13 p13 sm13 hp13 => ?_
          rw [show ((i : Int) + 1) = ((i + 1 : Nat) : Int) by omega, cut_from _ (by omega)] at hp13
          refine cat_any (Same.tup sm13 hp11) hp13 (by rw [List.length_append, List.length_drop, List.length_take]; show _ + 1 + _ ≤ 1000; omega) fun H14 mp sm14 hmp => ?_
          have smF := (sm12.trans sm13).trans sm14
          have hMore : HouseAt K H14 mp (moreH hs i k) := by
            unfold moreH
            rw [egd]
            exact house_parts (rs := rs) (paired_mono hP fun _ _ z => (LotAt.ext z L4.e).same smF) (((hLs.same s10).same sm11).same sm13 |>.same sm14) hmp
          have oM : HouseOk (moreH hs i k) := more_ok ok hlt hk
          have elen : (moreH hs i k).length = hs.length := set_len hlt
          have L14 := L4.same smF
          -- found
          refine ⟨.ref mp, rfl, _, rfl, _, rfl, RgOk.of_le (by decide) (by omega) (by decide) (by omega), fun gp hgp => ?_⟩
          have s15 : Same H14 (upd H14 gp (.tup (rgV 0 ((1 : Int) + (mm : Int))))) := same_upd hgp
          refine ⟨mp, gp, moreH hs i k, List.range hs.length, rfl, hMore.same s15, oM, by omega, SqT.up (hrg _ _), by rw [elen]; exact List.Sublist.refl _, (L14.same s15).t, fun H16 c e16 hT16 hn hc => ?_⟩
          have L16 := (L14.same s15).ext e16 hT16
          have hn' : IsNum (moreH hs i k) (List.range (moreH hs i k).length) c := by rw [elen]; exact hn
          have ec : numF (moreH hs i k) = c := numF_is hn'
          have hle := more_le ok hlt hk hn0 hn'
          rw [ec] at eS
          have hMore16 := (hMore.same s15).ext e16
          -- with_sight
          refine ⟨.ref hp, rfl, _, rfl, _, rfl, hp, hs, i, k, by rw [ek]; rfl, hhb.ext L16.e, ok, hlt, hk, hno, fun H17 pw sm17 hpw => ?_⟩
          obtain ⟨xs, ys, k1, k2, k3, k4, k5⟩ := houses_alike oM (show HouseAt K H17 pw (moreH hs i k) from hpw) (hMore16.same sm17)
          refine ⟨.ref mp, rfl, pw, mp, xs, ys, rfl, k1, k2, k3, k4, k5, fun H18 sm18 => ⟨true, rfl, iteF ?_⟩⟩
          refine ⟨_, rfl, _, rfl, _, _, rfl, rfl, false, ?_, iteF ?_⟩
          · show V.bl (decide ((c : Int) < (c0 : Int))) = _
            rw [decide_eq_false (by omega)]
          have L18 := (L16.same sm17).same sm18
          have mk : ∀ (H7 : Hp) (tp : Addr), TripIs K (upd H7 tp (.tup [.int (i : Nat), .int (0 + (k : Int)), .int (c : Int)])) (.ref tp) (some (i, k, c)) := fun H7 tp => ⟨tp, rfl, SqT.up (by rw [upd_same, ek])⟩
          have fin : ∀ (H19 : Hp) (v : V), LI K PT lp Hb H19 v (bestRow hs i (bestAll hs i) (k + 1)) (spareTo hs i ++ spareLaw hs i k) → LI K PT lp Hb H19 v (bestRow hs i (bestAll hs i) (k + 1)) (spareTo hs i ++ spareLaw hs i (k + 1)) := fun H19 v x => by rw [eSp]; exact x
          have hB18 := L18.b
          have L18' := fun (v : V) (B : Option (Nat × Nat × Nat)) (H19 : Hp) (s : Same H18 H19) (b : TripIs K H19 v B) => (LI.mk (L18.same s).e (L18.same s).t (L18.same s).l b : LI K PT lp Hb H19 v B (spareTo hs i ++ spareLaw hs i k))
          generalize bestRow hs i (bestAll hs i) k = B at hB18 eS
          cases B with
          | none =>
            have evb : vb = .non := hB18
            subst evb
            refine ⟨_, rfl, rfl, _, rfl, ?_⟩
            show (if decide (V.non = V.non) = true then _ else _)
            rw [decide_eq_true rfl, if_pos rfl]
            refine iteT ⟨_, rfl, _, rfl, _, rfl, by (show 3 ≤ sizeLine; decide), fun tp2 htp2 => ?_⟩
            exact ⟨_, _, _, _, _, _, rfl, fin _ _ (L18' _ _ _ (same_upd htp2) (by rw [eS]; exact mk H18 tp2))⟩
          | some b =>
            obtain ⟨bq, rfl, hbq⟩ := hB18
            refine ⟨_, rfl, rfl, _, rfl, ?_⟩
            show (if decide (V.ref bq = V.non) = true then _ else _)
            rw [decide_eq_false (by intro z; cases z), if_neg Bool.false_ne_true]
            refine ⟨_, rfl, .ref bq, rfl, bq, _, 2, _, rfl, rfl, hbq, atI_nat (j := 2) rfl, _, _, rfl, rfl, decide (b.2.2 < c), ?_, ?_⟩
            · show V.bl (decide ((b.2.2 : Int) < (c : Int))) = _
              rw [show decide ((b.2.2 : Int) < (c : Int)) = decide (b.2.2 < c) from decide_eq_decide.mpr (by omega)]
            have eS' : bestRow hs i (bestAll hs i) (k + 1) = if decide (b.2.2 < c) = true then some (i, k, c) else some b := eS
            refine ite2 (fun hb => ?_) (fun hb => ?_)
            · rw [if_pos hb] at eS'
              refine ⟨_, rfl, _, rfl, _, rfl, by (show 3 ≤ sizeLine; decide), fun tp2 htp2 => ?_⟩
              exact ⟨_, _, _, _, _, _, rfl, fin _ _ (L18' _ _ _ (same_upd htp2) (by rw [eS']; exact mk H18 tp2))⟩
            · rw [if_neg hb] at eS'
              exact ⟨_, rfl, _, _, _, _, _, _, rfl, fin _ _ (L18' _ _ _ (Same.refl _) (by rw [eS']; exact ⟨bq, rfl, hbq⟩))⟩
      · rintro σ H4 ⟨vb, v5, v13, v14, v15, v16, rfl, L4⟩
        rw [spareLaw_all ok hlt, ← bestAll_succ, ← spareTo_succ] at L4
        exact ⟨vb, _, _, _, _, _, _, _, rfl, L4⟩
    · rintro σ H2 ⟨vb, v4, v5, v12, v13, v14, v15, v16, rfl, L2⟩
      rw [hlv] at L2
      refine ⟨.ref hp, rfl, hp, hs, rfl, hhb.ext L2.e, ok, fun H3 v sm3 hv => ?_⟩
      have L3 := L2.same sm3
      refine ⟨_, rfl, ?_⟩
      have hlen2 := spareTo_len ok hs.length (Nat.le_refl _)
      have o7 := ok.hi
      -- what follows the best sight
      have hvb := L3.b
      cases eB : bestAll hs hs.length with
      | none =>
        rw [eB] at hv hvb
        have e1 : v = .non := hv
        have e2 : vb = .non := hvb
        subst e1
        subst e2
        refine .inl ⟨rfl, fun H4 sm4 => ⟨true, rfl, iteF ?_⟩⟩
        have L4 := L3.same sm4
        refine ⟨.ref hp, rfl, hp, hs, rfl, hhb.ext L4.e, ok, fun H5 ps sm5 hps => ?_⟩
        have L5 := L4.same sm5
        obtain ⟨ts, hl5, hts⟩ := L5.l
        refine ⟨.ref lp, rfl, .inl ⟨lp, _, rfl, SqL.up hl5, fun tp2 htp2 => ?_⟩⟩
        have s6 : Same H5 (upd H5 tp2 (.tup (ts.map V.ref))) := same_upd htp2
        have hPs : PairsAt K (upd H5 tp2 (.tup (ts.map V.ref))) tp2 (spareTo hs hs.length) := ⟨ts, SqT.up upd_same, paired_mono hts fun _ _ z => z.same s6⟩
        have hPp : PairsAt K (upd H5 tp2 (.tup (ts.map V.ref))) ps (spareTo hs hs.length) := by
          obtain ⟨ts', y1, y2⟩ := hps
          exact ⟨ts', Same.tup s6 y1, paired_mono y2 fun _ _ z => z.same s6⟩
        have L6 := L5.same s6
        generalize upd H5 tp2 (.tup (ts.map V.ref)) = H6 at s6 hPs hPp L6
        obtain ⟨xs, ys, k1, k2, k3, k4, k5⟩ := pairs_alike (by omega) hPp hPs
        refine ⟨ps, tp2, xs, ys, rfl, k1, k2, k3, k4, k5, fun H7 sm7 => ⟨true, rfl, iteF ?_⟩⟩
        have L7 := L6.same sm7
        refine ⟨.ref hp, rfl, _, rfl, _, rfl, _, rfl, RgOk.of_le (by decide) (by omega) (by decide) (by omega), fun gp2 hgp2 => ?_⟩
        have s8 : Same H7 (upd H7 gp2 (.tup (rgV 0 ((1 : Int) + (mm : Int))))) := same_upd hgp2
        refine ⟨hp, gp2, hs, c0, List.range hs.length, rfl, (hhb.ext L7.e).same s8, ok, by omega, SqT.up (hrg _ _), List.Sublist.refl _, hrn, fun H9 o sm9 hd => ?_⟩
        have hno : o ≠ none := fun z => (isDays_none hd).mp z hn0.1
        cases o with
        | none => exact absurd rfl hno
        | some d =>
          have hpos := days_pos hrn hd
          refine ⟨_, 0, rfl, rfl, ?_⟩
          show Q (.bl (decide ((0 : Int) < (d : Int)))) H9
          rw [decide_eq_true (show (0 : Int) < (d : Int) by omega)]
          exact q _
      | some b =>
        rw [eB] at hv hvb
        obtain ⟨p1, rfl, hp1⟩ := hv
        obtain ⟨p2, rfl, hp2⟩ := hvb
        refine .inr ⟨p1, p2, _, _, rfl, hp1, hp2, rfl, by (show 3 ≤ 1000; decide), nums_sub (fun x hx => ?_), fun H4 sm4 => ⟨true, rfl, iteF ?_⟩⟩
        · rcases List.mem_cons.mp hx with z | z
          · exact ⟨_, z⟩
          · rcases List.mem_cons.mp z with z | z
            · exact ⟨_, z⟩
            · exact ⟨_, List.mem_singleton.mp z⟩
        have L4 := L3.same sm4
        refine ⟨.ref hp, rfl, hp, hs, rfl, hhb.ext L4.e, ok, fun H5 ps sm5 hps => ?_⟩
        have L5 := L4.same sm5
        obtain ⟨ts, hl5, hts⟩ := L5.l
        refine ⟨.ref lp, rfl, .inl ⟨lp, _, rfl, SqL.up hl5, fun tp2 htp2 => ?_⟩⟩
        have s6 : Same H5 (upd H5 tp2 (.tup (ts.map V.ref))) := same_upd htp2
        have hPs : PairsAt K (upd H5 tp2 (.tup (ts.map V.ref))) tp2 (spareTo hs hs.length) := ⟨ts, SqT.up upd_same, paired_mono hts fun _ _ z => z.same s6⟩
        have hPp : PairsAt K (upd H5 tp2 (.tup (ts.map V.ref))) ps (spareTo hs hs.length) := by
          obtain ⟨ts', y1, y2⟩ := hps
          exact ⟨ts', Same.tup s6 y1, paired_mono y2 fun _ _ z => z.same s6⟩
        have L6 := L5.same s6
        generalize upd H5 tp2 (.tup (ts.map V.ref)) = H6 at s6 hPs hPp L6
        obtain ⟨xs, ys, k1, k2, k3, k4, k5⟩ := pairs_alike (by omega) hPp hPs
        refine ⟨ps, tp2, xs, ys, rfl, k1, k2, k3, k4, k5, fun H7 sm7 => ⟨true, rfl, iteF ?_⟩⟩
        have L7 := L6.same sm7
        refine ⟨.ref hp, rfl, _, rfl, _, rfl, _, rfl, RgOk.of_le (by decide) (by omega) (by decide) (by omega), fun gp2 hgp2 => ?_⟩
        have s8 : Same H7 (upd H7 gp2 (.tup (rgV 0 ((1 : Int) + (mm : Int))))) := same_upd hgp2
        refine ⟨hp, gp2, hs, c0, List.range hs.length, rfl, (hhb.ext L7.e).same s8, ok, by omega, SqT.up (hrg _ _), List.Sublist.refl _, hrn, fun H9 o sm9 hd => ?_⟩
        have hno : o ≠ none := fun z => (isDays_none hd).mp z hn0.1
        cases o with
        | none => exact absurd rfl hno
        | some d =>
          have hpos := days_pos hrn hd
          refine ⟨_, 0, rfl, rfl, ?_⟩
          show Q (.bl (decide ((0 : Int) < (d : Int)))) H9
          rw [decide_eq_true (show (0 : Int) < (d : Int) by omega)]
          exact q _
end
end N

set_option Elab.async false
set_option linter.all false
set_option maxRecDepth 100000
set_option maxHeartbeats 8000000
namespace N
open PySem PySem.Spec PyProof.Rows L2
def def_mk {K : PySem.W.Frag} {h : Heap} {mg : Str → Option Value} {x : String} {st : Stmt} {ps : List Str} {f : Addr} {od an : Option Addr} {sl : Array (Option Value)} {oc kV dc pm cd ct : Value} (X : K.In h) (G : h.Ns mainGlobals mg)
    (a : PySem.W.nsIn K mainGlobals x = some (some (.ref f))) (l : K.lookup f = some ⟨oc, od, .func (PySem.W.fnOf x x (defArgs st) (defBody st) (defScope st) .none kV dc pm an cd ct), sl⟩) (c : PySem.W.codeIn K cd x = true) (k : PySem.W.keepIn K (.ref f) = true)
    (hb : ∀ (kV doc pm : Value) (an : Option Addr) (cdv ct : Value) (us : List Value), us.length = ps.length → bindArgs (PySem.W.fnOf x x (defArgs st) (defBody st) (defScope st) .none kV doc pm an cdv ct) ⟨us, []⟩ = pure (ps.zip us)) : Def K mg x st ps :=
  ⟨f, PySem.W.fnOf x x (defArgs st) (defBody st) (defScope st) .none kV dc pm an cd ct, fun_mk l c k, PySem.W.mg_of X G a, (fun_mk l c k).binds hb⟩
theorem all_mk {l : PySem.W.OpenLaw} {w : World} {K : PySem.W.Frag} {h : Heap} {mg : Str → Option Value} {fa cL PT : Addr} (X : K.In h) (G : h.Ns mainGlobals mg) (hfa : mg "law" = some (.ref fa))
    {f0 : Addr} {od0 an0 : Option Addr} {sl0 : Array (Option Value)} {oc0 kV0 dc0 pm0 ct0 cd0 : Value}
    {f1 : Addr} {od1 an1 : Option Addr} {sl1 : Array (Option Value)} {oc1 kV1 dc1 pm1 ct1 cd1 : Value}
    {f2 : Addr} {od2 an2 : Option Addr} {sl2 : Array (Option Value)} {oc2 kV2 dc2 pm2 ct2 cd2 : Value}
    {f3 : Addr} {od3 an3 : Option Addr} {sl3 : Array (Option Value)} {oc3 kV3 dc3 pm3 ct3 cd3 : Value}
    {f4 : Addr} {od4 an4 : Option Addr} {sl4 : Array (Option Value)} {oc4 kV4 dc4 pm4 ct4 cd4 : Value}
    {f5 : Addr} {od5 an5 : Option Addr} {sl5 : Array (Option Value)} {oc5 kV5 dc5 pm5 ct5 cd5 : Value}
    {f6 : Addr} {od6 an6 : Option Addr} {sl6 : Array (Option Value)} {oc6 kV6 dc6 pm6 ct6 cd6 : Value}
    {f7 : Addr} {od7 an7 : Option Addr} {sl7 : Array (Option Value)} {oc7 kV7 dc7 pm7 ct7 cd7 : Value}
    {f8 : Addr} {od8 an8 : Option Addr} {sl8 : Array (Option Value)} {oc8 kV8 dc8 pm8 ct8 cd8 : Value}
    {f9 : Addr} {od9 an9 : Option Addr} {sl9 : Array (Option Value)} {oc9 kV9 dc9 pm9 ct9 cd9 : Value}
    {f10 : Addr} {od10 an10 : Option Addr} {sl10 : Array (Option Value)} {oc10 kV10 dc10 pm10 ct10 cd10 : Value}
    {f11 : Addr} {od11 an11 : Option Addr} {sl11 : Array (Option Value)} {oc11 kV11 dc11 pm11 ct11 cd11 : Value}
    {f12 : Addr} {od12 an12 : Option Addr} {sl12 : Array (Option Value)} {oc12 kV12 dc12 pm12 ct12 cd12 : Value}
    {f13 : Addr} {od13 an13 : Option Addr} {sl13 : Array (Option Value)} {oc13 kV13 dc13 pm13 ct13 cd13 : Value}
    {f14 : Addr} {od14 an14 : Option Addr} {sl14 : Array (Option Value)} {oc14 kV14 dc14 pm14 ct14 cd14 : Value}
    {f15 : Addr} {od15 an15 : Option Addr} {sl15 : Array (Option Value)} {oc15 kV15 dc15 pm15 ct15 cd15 : Value}
    {f16 : Addr} {od16 an16 : Option Addr} {sl16 : Array (Option Value)} {oc16 kV16 dc16 pm16 ct16 cd16 : Value}
    {f17 : Addr} {od17 an17 : Option Addr} {sl17 : Array (Option Value)} {oc17 kV17 dc17 pm17 ct17 cd17 : Value}
    {f18 : Addr} {od18 an18 : Option Addr} {sl18 : Array (Option Value)} {oc18 kV18 dc18 pm18 ct18 cd18 : Value}
    {f19 : Addr} {od19 an19 : Option Addr} {sl19 : Array (Option Value)} {oc19 kV19 dc19 pm19 ct19 cd19 : Value}
    {f20 : Addr} {od20 an20 : Option Addr} {sl20 : Array (Option Value)} {oc20 kV20 dc20 pm20 ct20 cd20 : Value}
    {f21 : Addr} {od21 an21 : Option Addr} {sl21 : Array (Option Value)} {oc21 kV21 dc21 pm21 ct21 cd21 : Value}
    {f22 : Addr} {od22 an22 : Option Addr} {sl22 : Array (Option Value)} {oc22 kV22 dc22 pm22 ct22 cd22 : Value}
    {f23 : Addr} {od23 an23 : Option Addr} {sl23 : Array (Option Value)} {oc23 kV23 dc23 pm23 ct23 cd23 : Value}
    {f24 : Addr} {od24 an24 : Option Addr} {sl24 : Array (Option Value)} {oc24 kV24 dc24 pm24 ct24 cd24 : Value}
    {f25 : Addr} {od25 an25 : Option Addr} {sl25 : Array (Option Value)} {oc25 kV25 dc25 pm25 ct25 cd25 : Value}
    {f26 : Addr} {od26 an26 : Option Addr} {sl26 : Array (Option Value)} {oc26 kV26 dc26 pm26 ct26 cd26 : Value}
    {f27 : Addr} {od27 an27 : Option Addr} {sl27 : Array (Option Value)} {oc27 kV27 dc27 pm27 ct27 cd27 : Value}
    {f28 : Addr} {od28 an28 : Option Addr} {sl28 : Array (Option Value)} {oc28 kV28 dc28 pm28 ct28 cd28 : Value}
    {f29 : Addr} {od29 an29 : Option Addr} {sl29 : Array (Option Value)} {oc29 kV29 dc29 pm29 ct29 cd29 : Value}
    {f30 : Addr} {od30 an30 : Option Addr} {sl30 : Array (Option Value)} {oc30 kV30 dc30 pm30 ct30 cd30 : Value}
    {f31 : Addr} {od31 an31 : Option Addr} {sl31 : Array (Option Value)} {oc31 kV31 dc31 pm31 ct31 : Value}
    {f32 : Addr} {od32 an32 : Option Addr} {sl32 : Array (Option Value)} {oc32 kV32 dc32 pm32 ct32 cd32 : Value}
    {f33 : Addr} {od33 an33 : Option Addr} {sl33 : Array (Option Value)} {oc33 kV33 dc33 pm33 ct33 cd33 : Value}
    {f34 : Addr} {od34 an34 : Option Addr} {sl34 : Array (Option Value)} {oc34 kV34 dc34 pm34 ct34 cd34 : Value}
    {f35 : Addr} {od35 an35 : Option Addr} {sl35 : Array (Option Value)} {oc35 kV35 dc35 pm35 ct35 cd35 : Value}
    {f36 : Addr} {od36 an36 : Option Addr} {sl36 : Array (Option Value)} {oc36 kV36 dc36 pm36 ct36 cd36 : Value}
    {f37 : Addr} {od37 an37 : Option Addr} {sl37 : Array (Option Value)} {oc37 kV37 dc37 pm37 ct37 cd37 : Value}
    {tk0 : Tok}
    (hT : h.get? PT = some (PySem.W.tabObj #[]))
    (a0 : PySem.W.nsIn K mainGlobals "is_number" = some (some (.ref f0))) (l0 : K.lookup f0 = some ⟨oc0, od0, .func (PySem.W.fnOf "is_number" "is_number" (defArgs s_is_number) (defBody s_is_number) (defScope s_is_number) .none kV0 dc0 pm0 an0 cd0 ct0), sl0⟩) (c0 : PySem.W.codeIn K cd0 "is_number" = true) (k0 : PySem.W.keepIn K (.ref f0) = true)
    (a1 : PySem.W.nsIn K mainGlobals "is_lot" = some (some (.ref f1))) (l1 : K.lookup f1 = some ⟨oc1, od1, .func (PySem.W.fnOf "is_lot" "is_lot" (defArgs s_is_lot) (defBody s_is_lot) (defScope s_is_lot) .none kV1 dc1 pm1 an1 cd1 ct1), sl1⟩) (c1 : PySem.W.codeIn K cd1 "is_lot" = true) (k1 : PySem.W.keepIn K (.ref f1) = true)
    (a2 : PySem.W.nsIn K mainGlobals "check_number" = some (some (.ref f2))) (l2 : K.lookup f2 = some ⟨oc2, od2, .func (PySem.W.fnOf "check_number" "check_number" (defArgs s_check_number) (defBody s_check_number) (defScope s_check_number) .none kV2 dc2 pm2 an2 cd2 ct2), sl2⟩) (c2 : PySem.W.codeIn K cd2 "check_number" = true) (k2 : PySem.W.keepIn K (.ref f2) = true)
    (a3 : PySem.W.nsIn K mainGlobals "check_house" = some (some (.ref f3))) (l3 : K.lookup f3 = some ⟨oc3, od3, .func (PySem.W.fnOf "check_house" "check_house" (defArgs s_check_house) (defBody s_check_house) (defScope s_check_house) .none kV3 dc3 pm3 an3 cd3 ct3), sl3⟩) (c3 : PySem.W.codeIn K cd3 "check_house" = true) (k3 : PySem.W.keepIn K (.ref f3) = true)
    (a4 : PySem.W.nsIn K mainGlobals "check_lot" = some (some (.ref f4))) (l4 : K.lookup f4 = some ⟨oc4, od4, .func (PySem.W.fnOf "check_lot" "check_lot" (defArgs s_check_lot) (defBody s_check_lot) (defScope s_check_lot) .none kV4 dc4 pm4 an4 cd4 ct4), sl4⟩) (c4 : PySem.W.codeIn K cd4 "check_lot" = true) (k4 : PySem.W.keepIn K (.ref f4) = true)
    (a5 : PySem.W.nsIn K mainGlobals "check_goal" = some (some (.ref f5))) (l5 : K.lookup f5 = some ⟨oc5, od5, .func (PySem.W.fnOf "check_goal" "check_goal" (defArgs s_check_goal) (defBody s_check_goal) (defScope s_check_goal) .none kV5 dc5 pm5 an5 cd5 ct5), sl5⟩) (c5 : PySem.W.codeIn K cd5 "check_goal" = true) (k5 : PySem.W.keepIn K (.ref f5) = true)
    (a6 : PySem.W.nsIn K mainGlobals "slate_number" = some (some (.ref f6))) (l6 : K.lookup f6 = some ⟨oc6, od6, .func (PySem.W.fnOf "slate_number" "slate_number" (defArgs s_slate_number) (defBody s_slate_number) (defScope s_slate_number) .none kV6 dc6 pm6 an6 cd6 ct6), sl6⟩) (c6 : PySem.W.codeIn K cd6 "slate_number" = true) (k6 : PySem.W.keepIn K (.ref f6) = true)
    (a7 : PySem.W.nsIn K mainGlobals "days_to" = some (some (.ref f7))) (l7 : K.lookup f7 = some ⟨oc7, od7, .func (PySem.W.fnOf "days_to" "days_to" (defArgs s_days_to) (defBody s_days_to) (defScope s_days_to) .none kV7 dc7 pm7 an7 cd7 ct7), sl7⟩) (c7 : PySem.W.codeIn K cd7 "days_to" = true) (k7 : PySem.W.keepIn K (.ref f7) = true)
    (a8 : PySem.W.nsIn K mainGlobals "cover_row" = some (some (.ref f8))) (l8 : K.lookup f8 = some ⟨oc8, od8, .func (PySem.W.fnOf "cover_row" "cover_row" (defArgs s_cover_row) (defBody s_cover_row) (defScope s_cover_row) .none kV8 dc8 pm8 an8 cd8 ct8), sl8⟩) (c8 : PySem.W.codeIn K cd8 "cover_row" = true) (k8 : PySem.W.keepIn K (.ref f8) = true)
    (a9 : PySem.W.nsIn K mainGlobals "all_slates" = some (some (.ref f9))) (l9 : K.lookup f9 = some ⟨oc9, od9, .func (PySem.W.fnOf "all_slates" "all_slates" (defArgs s_all_slates) (defBody s_all_slates) (defScope s_all_slates) .none kV9 dc9 pm9 an9 cd9 ct9), sl9⟩) (c9 : PySem.W.codeIn K cd9 "all_slates" = true) (k9 : PySem.W.keepIn K (.ref f9) = true)
    (a10 : PySem.W.nsIn K mainGlobals "lots_within" = some (some (.ref f10))) (l10 : K.lookup f10 = some ⟨oc10, od10, .func (PySem.W.fnOf "lots_within" "lots_within" (defArgs s_lots_within) (defBody s_lots_within) (defScope s_lots_within) .none kV10 dc10 pm10 an10 cd10 ct10), sl10⟩) (c10 : PySem.W.codeIn K cd10 "lots_within" = true) (k10 : PySem.W.keepIn K (.ref f10) = true)
    (a11 : PySem.W.nsIn K mainGlobals "can_cover" = some (some (.ref f11))) (l11 : K.lookup f11 = some ⟨oc11, od11, .func (PySem.W.fnOf "can_cover" "can_cover" (defArgs s_can_cover) (defBody s_can_cover) (defScope s_can_cover) .none kV11 dc11 pm11 an11 cd11 ct11), sl11⟩) (c11 : PySem.W.codeIn K cd11 "can_cover" = true) (k11 : PySem.W.keepIn K (.ref f11) = true)
    (a12 : PySem.W.nsIn K mainGlobals "least_coins" = some (some (.ref f12))) (l12 : K.lookup f12 = some ⟨oc12, od12, .func (PySem.W.fnOf "least_coins" "least_coins" (defArgs s_least_coins) (defBody s_least_coins) (defScope s_least_coins) .none kV12 dc12 pm12 an12 cd12 ct12), sl12⟩) (c12 : PySem.W.codeIn K cd12 "least_coins" = true) (k12 : PySem.W.keepIn K (.ref f12) = true)
    (a13 : PySem.W.nsIn K mainGlobals "quickest_row" = some (some (.ref f13))) (l13 : K.lookup f13 = some ⟨oc13, od13, .func (PySem.W.fnOf "quickest_row" "quickest_row" (defArgs s_quickest_row) (defBody s_quickest_row) (defScope s_quickest_row) .none kV13 dc13 pm13 an13 cd13 ct13), sl13⟩) (c13 : PySem.W.codeIn K cd13 "quickest_row" = true) (k13 : PySem.W.keepIn K (.ref f13) = true)
    (a14 : PySem.W.nsIn K mainGlobals "_check_cover" = some (some (.ref f14))) (l14 : K.lookup f14 = some ⟨oc14, od14, .func (PySem.W.fnOf "_check_cover" "_check_cover" (defArgs s__check_cover) (defBody s__check_cover) (defScope s__check_cover) .none kV14 dc14 pm14 an14 cd14 ct14), sl14⟩) (c14 : PySem.W.codeIn K cd14 "_check_cover" = true) (k14 : PySem.W.keepIn K (.ref f14) = true)
    (a15 : PySem.W.nsIn K mainGlobals "_mask_of" = some (some (.ref f15))) (l15 : K.lookup f15 = some ⟨oc15, od15, .func (PySem.W.fnOf "_mask_of" "_mask_of" (defArgs s__mask_of) (defBody s__mask_of) (defScope s__mask_of) .none kV15 dc15 pm15 an15 cd15 ct15), sl15⟩) (c15 : PySem.W.codeIn K cd15 "_mask_of" = true) (k15 : PySem.W.keepIn K (.ref f15) = true)
    (a16 : PySem.W.nsIn K mainGlobals "_lot_of" = some (some (.ref f16))) (l16 : K.lookup f16 = some ⟨oc16, od16, .func (PySem.W.fnOf "_lot_of" "_lot_of" (defArgs s__lot_of) (defBody s__lot_of) (defScope s__lot_of) .none kV16 dc16 pm16 an16 cd16 ct16), sl16⟩) (c16 : PySem.W.codeIn K cd16 "_lot_of" = true) (k16 : PySem.W.keepIn K (.ref f16) = true)
    (a17 : PySem.W.nsIn K mainGlobals "_holds" = some (some (.ref f17))) (l17 : K.lookup f17 = some ⟨oc17, od17, .func (PySem.W.fnOf "_holds" "_holds" (defArgs s__holds) (defBody s__holds) (defScope s__holds) .none kV17 dc17 pm17 an17 cd17 ct17), sl17⟩) (c17 : PySem.W.codeIn K cd17 "_holds" = true) (k17 : PySem.W.keepIn K (.ref f17) = true)
    (a18 : PySem.W.nsIn K mainGlobals "_coin_masks" = some (some (.ref f18))) (l18 : K.lookup f18 = some ⟨oc18, od18, .func (PySem.W.fnOf "_coin_masks" "_coin_masks" (defArgs s__coin_masks) (defBody s__coin_masks) (defScope s__coin_masks) .none kV18 dc18 pm18 an18 cd18 ct18), sl18⟩) (c18 : PySem.W.codeIn K cd18 "_coin_masks" = true) (k18 : PySem.W.keepIn K (.ref f18) = true)
    (a19 : PySem.W.nsIn K mainGlobals "_next_cover" = some (some (.ref f19))) (l19 : K.lookup f19 = some ⟨oc19, od19, .func (PySem.W.fnOf "_next_cover" "_next_cover" (defArgs s__next_cover) (defBody s__next_cover) (defScope s__next_cover) .none kV19 dc19 pm19 an19 cd19 ct19), sl19⟩) (c19 : PySem.W.codeIn K cd19 "_next_cover" = true) (k19 : PySem.W.keepIn K (.ref f19) = true)
    (a20 : PySem.W.nsIn K mainGlobals "_ways" = some (some (.ref f20))) (l20 : K.lookup f20 = some ⟨oc20, od20, .func (PySem.W.fnOf "_ways" "_ways" (defArgs s__ways) (defBody s__ways) (defScope s__ways) .none kV20 dc20 pm20 an20 cd20 ct20), sl20⟩) (c20 : PySem.W.codeIn K cd20 "_ways" = true) (k20 : PySem.W.keepIn K (.ref f20) = true)
    (a21 : PySem.W.nsIn K mainGlobals "_first_cover" = some (some (.ref f21))) (l21 : K.lookup f21 = some ⟨oc21, od21, .func (PySem.W.fnOf "_first_cover" "_first_cover" (defArgs s__first_cover) (defBody s__first_cover) (defScope s__first_cover) .none kV21 dc21 pm21 an21 cd21 ct21), sl21⟩) (c21 : PySem.W.codeIn K cd21 "_first_cover" = true) (k21 : PySem.W.keepIn K (.ref f21) = true)
    (a22 : PySem.W.nsIn K mainGlobals "beside" = some (some (.ref f22))) (l22 : K.lookup f22 = some ⟨oc22, od22, .func (PySem.W.fnOf "beside" "beside" (defArgs s_beside) (defBody s_beside) (defScope s_beside) .none kV22 dc22 pm22 an22 cd22 ct22), sl22⟩) (c22 : PySem.W.codeIn K cd22 "beside" = true) (k22 : PySem.W.keepIn K (.ref f22) = true)
    (a23 : PySem.W.nsIn K mainGlobals "with_sight" = some (some (.ref f23))) (l23 : K.lookup f23 = some ⟨oc23, od23, .func (PySem.W.fnOf "with_sight" "with_sight" (defArgs s_with_sight) (defBody s_with_sight) (defScope s_with_sight) .none kV23 dc23 pm23 an23 cd23 ct23), sl23⟩) (c23 : PySem.W.codeIn K cd23 "with_sight" = true) (k23 : PySem.W.keepIn K (.ref f23) = true)
    (a24 : PySem.W.nsIn K mainGlobals "best_sight" = some (some (.ref f24))) (l24 : K.lookup f24 = some ⟨oc24, od24, .func (PySem.W.fnOf "best_sight" "best_sight" (defArgs s_best_sight) (defBody s_best_sight) (defScope s_best_sight) .none kV24 dc24 pm24 an24 cd24 ct24), sl24⟩) (c24 : PySem.W.codeIn K cd24 "best_sight" = true) (k24 : PySem.W.keepIn K (.ref f24) = true)
    (a25 : PySem.W.nsIn K mainGlobals "spare_sights" = some (some (.ref f25))) (l25 : K.lookup f25 = some ⟨oc25, od25, .func (PySem.W.fnOf "spare_sights" "spare_sights" (defArgs s_spare_sights) (defBody s_spare_sights) (defScope s_spare_sights) .none kV25 dc25 pm25 an25 cd25 ct25), sl25⟩) (c25 : PySem.W.codeIn K cd25 "spare_sights" = true) (k25 : PySem.W.keepIn K (.ref f25) = true)
    (a26 : PySem.W.nsIn K mainGlobals "_with_row" = some (some (.ref f26))) (l26 : K.lookup f26 = some ⟨oc26, od26, .func (PySem.W.fnOf "_with_row" "_with_row" (defArgs s__with_row) (defBody s__with_row) (defScope s__with_row) .none kV26 dc26 pm26 an26 cd26 ct26), sl26⟩) (c26 : PySem.W.codeIn K cd26 "_with_row" = true) (k26 : PySem.W.keepIn K (.ref f26) = true)
    (a27 : PySem.W.nsIn K mainGlobals "_without" = some (some (.ref f27))) (l27 : K.lookup f27 = some ⟨oc27, od27, .func (PySem.W.fnOf "_without" "_without" (defArgs s__without) (defBody s__without) (defScope s__without) .none kV27 dc27 pm27 an27 cd27 ct27), sl27⟩) (c27 : PySem.W.codeIn K cd27 "_without" = true) (k27 : PySem.W.keepIn K (.ref f27) = true)
    (a28 : PySem.W.nsIn K mainGlobals "_law_taken" = some (some (.ref f28))) (l28 : K.lookup f28 = some ⟨oc28, od28, .func (PySem.W.fnOf "_law_taken" "_law_taken" (defArgs s__law_taken) (defBody s__law_taken) (defScope s__law_taken) .none kV28 dc28 pm28 an28 cd28 ct28), sl28⟩) (c28 : PySem.W.codeIn K cd28 "_law_taken" = true) (k28 : PySem.W.keepIn K (.ref f28) = true)
    (a29 : PySem.W.nsIn K mainGlobals "_law_house" = some (some (.ref f29))) (l29 : K.lookup f29 = some ⟨oc29, od29, .func (PySem.W.fnOf "_law_house" "_law_house" (defArgs s__law_house) (defBody s__law_house) (defScope s__law_house) .none kV29 dc29 pm29 an29 cd29 ct29), sl29⟩) (c29 : PySem.W.codeIn K cd29 "_law_house" = true) (k29 : PySem.W.keepIn K (.ref f29) = true)
    (a30 : PySem.W.nsIn K mainGlobals "_law_alike" = some (some (.ref f30))) (l30 : K.lookup f30 = some ⟨oc30, od30, .func (PySem.W.fnOf "_law_alike" "_law_alike" (defArgs s__law_alike) (defBody s__law_alike) (defScope s__law_alike) .none kV30 dc30 pm30 an30 cd30 ct30), sl30⟩) (c30 : PySem.W.codeIn K cd30 "_law_alike" = true) (k30 : PySem.W.keepIn K (.ref f30) = true)
    (a31 : PySem.W.nsIn K mainGlobals "_law_lots" = some (some (.ref f31))) (l31 : K.lookup f31 = some ⟨oc31, od31, .func (PySem.W.fnOf "_law_lots" "_law_lots" (defArgs s__law_lots) (defBody s__law_lots) (defScope s__law_lots) .none kV31 dc31 pm31 an31 (.ref cL) ct31), sl31⟩) (c31 : PySem.W.codeIn K (.ref cL) "_law_lots" = true) (k31 : PySem.W.keepIn K (.ref f31) = true)
    (a32 : PySem.W.nsIn K mainGlobals "_law_next" = some (some (.ref f32))) (l32 : K.lookup f32 = some ⟨oc32, od32, .func (PySem.W.fnOf "_law_next" "_law_next" (defArgs s__law_next) (defBody s__law_next) (defScope s__law_next) .none kV32 dc32 pm32 an32 cd32 ct32), sl32⟩) (c32 : PySem.W.codeIn K cd32 "_law_next" = true) (k32 : PySem.W.keepIn K (.ref f32) = true)
    (a33 : PySem.W.nsIn K mainGlobals "_law_covered" = some (some (.ref f33))) (l33 : K.lookup f33 = some ⟨oc33, od33, .func (PySem.W.fnOf "_law_covered" "_law_covered" (defArgs s__law_covered) (defBody s__law_covered) (defScope s__law_covered) .none kV33 dc33 pm33 an33 cd33 ct33), sl33⟩) (c33 : PySem.W.codeIn K cd33 "_law_covered" = true) (k33 : PySem.W.keepIn K (.ref f33) = true)
    (a34 : PySem.W.nsIn K mainGlobals "_law_holds" = some (some (.ref f34))) (l34 : K.lookup f34 = some ⟨oc34, od34, .func (PySem.W.fnOf "_law_holds" "_law_holds" (defArgs s__law_holds) (defBody s__law_holds) (defScope s__law_holds) .none kV34 dc34 pm34 an34 cd34 ct34), sl34⟩) (c34 : PySem.W.codeIn K cd34 "_law_holds" = true) (k34 : PySem.W.keepIn K (.ref f34) = true)
    (a35 : PySem.W.nsIn K mainGlobals "_law_days" = some (some (.ref f35))) (l35 : K.lookup f35 = some ⟨oc35, od35, .func (PySem.W.fnOf "_law_days" "_law_days" (defArgs s__law_days) (defBody s__law_days) (defScope s__law_days) .none kV35 dc35 pm35 an35 cd35 ct35), sl35⟩) (c35 : PySem.W.codeIn K cd35 "_law_days" = true) (k35 : PySem.W.keepIn K (.ref f35) = true)
    (a36 : PySem.W.nsIn K mainGlobals "_law_number" = some (some (.ref f36))) (l36 : K.lookup f36 = some ⟨oc36, od36, .func (PySem.W.fnOf "_law_number" "_law_number" (defArgs s__law_number) (defBody s__law_number) (defScope s__law_number) .none kV36 dc36 pm36 an36 cd36 ct36), sl36⟩) (c36 : PySem.W.codeIn K cd36 "_law_number" = true) (k36 : PySem.W.keepIn K (.ref f36) = true)
    (a37 : PySem.W.nsIn K mainGlobals "law" = some (some (.ref f37))) (l37 : K.lookup f37 = some ⟨oc37, od37, .func (PySem.W.fnOf "law" "law" (defArgs s_law) (defBody s_law) (defScope s_law) .none kV37 dc37 pm37 an37 cd37 ct37), sl37⟩) (c37 : PySem.W.codeIn K cd37 "law" = true) (k37 : PySem.W.keepIn K (.ref f37) = true)
    (z0 : PySem.W.nsIn K mainGlobals "len" = some none)
    (z1 : PySem.W.nsIn K mainGlobals "range" = some none)
    (z2 : PySem.W.nsIn K mainGlobals "tuple" = some none)
    (z3 : PySem.W.nsIn K mainGlobals "list" = some none)
    (z4 : PySem.W.nsIn K mainGlobals "sorted" = some none)
    (z5 : PySem.W.nsIn K mainGlobals "enumerate" = some none)
    (z6 : PySem.W.nsIn K mainGlobals "min" = some none)
    (z7 : PySem.W.nsIn K mainGlobals "max" = some none)
    (z8 : PySem.W.nsIn K mainGlobals "type" = some none)
    (z9 : PySem.W.nsIn K mainGlobals "int" = some none)
    (z10 : PySem.W.nsIn K mainGlobals "isinstance" = some none)
    (z11 : PySem.W.nsIn K mainGlobals "bool" = some none)
    (z12 : PySem.W.nsIn K mainGlobals "str" = some none)
    (m0 : PySem.W.nsIn K mainGlobals "MOST_CLERKS" = some (some (.int 7 tk0)))
    (gc : PySem.W.nsIn K mainGlobals "combinations" = some (some (.type Cb.TC)))
    (nT : K.lookup PT = none) (hC : PySem.W.codeHdIn K cL PT = true) :
    LamX.LawAtS l w K CX0 8 63 "script" mg fa h := by
  have e := hfa.symm.trans (PySem.W.mg_of X G a37)
  cases e
  have F := fun_mk (st := s_law) l37 c37 k37
  have key : ∀ T : Txt K mg, T.d__law_lots.fd.code = .ref cL → LamX.LawAtS l w K CX0 8 63 "script" mg fa h := fun T hc => by
    refine ⟨PySem.W.fnOf "law" "law" (defArgs s_law) (defBody s_law) (defScope s_law) .none kV37 dc37 pm37 an37 cd37 ct37, [(cL, PT)], spLaw K PT, fun p hp => ?_, fun p hp => ?_, fun p hp => ?_, fun s u => .of_eq rfl, fun H a ns _ _ hH hS => ⟨a, ns, rfl, hS, LamX.TabS.nil (hH _ (List.mem_singleton.mpr rfl)), fun _ => rfl⟩, fun base _ _ TBs => ok_law F T hc (TBs _ (List.mem_singleton.mpr rfl))⟩
    · rw [List.mem_singleton.mp hp]
      exact hT
    · rw [List.mem_singleton.mp hp]
      exact nT
    · rw [List.mem_singleton.mp hp]
      exact PySem.W.codeHd_of_K X hC
  exact key ⟨def_mk X G a0 l0 c0 k0 fun _ _ _ _ _ _ us hl => match us, hl with | [_, _, _], _ => rfl,
    def_mk X G a1 l1 c1 k1 fun _ _ _ _ _ _ us hl => match us, hl with | [_, _], _ => rfl,
    def_mk X G a2 l2 c2 k2 fun _ _ _ _ _ _ us hl => match us, hl with | [_, _, _], _ => rfl,
    def_mk X G a3 l3 c3 k3 fun _ _ _ _ _ _ us hl => match us, hl with | [_], _ => rfl,
    def_mk X G a4 l4 c4 k4 fun _ _ _ _ _ _ us hl => match us, hl with | [_, _], _ => rfl,
    def_mk X G a5 l5 c5 k5 fun _ _ _ _ _ _ us hl => match us, hl with | [_, _], _ => rfl,
    def_mk X G a6 l6 c6 k6 fun _ _ _ _ _ _ us hl => match us, hl with | [_], _ => rfl,
    def_mk X G a7 l7 c7 k7 fun _ _ _ _ _ _ us hl => match us, hl with | [_, _, _], _ => rfl,
    def_mk X G a8 l8 c8 k8 fun _ _ _ _ _ _ us hl => match us, hl with | [_, _, _], _ => rfl,
    def_mk X G a9 l9 c9 k9 fun _ _ _ _ _ _ us hl => match us, hl with | [_], _ => rfl,
    def_mk X G a10 l10 c10 k10 fun _ _ _ _ _ _ us hl => match us, hl with | [_, _], _ => rfl,
    def_mk X G a11 l11 c11 k11 fun _ _ _ _ _ _ us hl => match us, hl with | [_, _, _, _], _ => rfl,
    def_mk X G a12 l12 c12 k12 fun _ _ _ _ _ _ us hl => match us, hl with | [_, _, _], _ => rfl,
    def_mk X G a13 l13 c13 k13 fun _ _ _ _ _ _ us hl => match us, hl with | [_, _, _], _ => rfl,
    def_mk X G a14 l14 c14 k14 fun _ _ _ _ _ _ us hl => match us, hl with | [_, _, _], _ => rfl,
    def_mk X G a15 l15 c15 k15 fun _ _ _ _ _ _ us hl => match us, hl with | [_], _ => rfl,
    def_mk X G a16 l16 c16 k16 fun _ _ _ _ _ _ us hl => match us, hl with | [_], _ => rfl,
    def_mk X G a17 l17 c17 k17 fun _ _ _ _ _ _ us hl => match us, hl with | [_, _], _ => rfl,
    def_mk X G a18 l18 c18 k18 fun _ _ _ _ _ _ us hl => match us, hl with | [_, _], _ => rfl,
    def_mk X G a19 l19 c19 k19 fun _ _ _ _ _ _ us hl => match us, hl with | [_, _], _ => rfl,
    def_mk X G a20 l20 c20 k20 fun _ _ _ _ _ _ us hl => match us, hl with | [_, _, _], _ => rfl,
    def_mk X G a21 l21 c21 k21 fun _ _ _ _ _ _ us hl => match us, hl with | [_, _], _ => rfl,
    def_mk X G a22 l22 c22 k22 fun _ _ _ _ _ _ us hl => match us, hl with | [_, _], _ => rfl,
    def_mk X G a23 l23 c23 k23 fun _ _ _ _ _ _ us hl => match us, hl with | [_, _, _], _ => rfl,
    def_mk X G a24 l24 c24 k24 fun _ _ _ _ _ _ us hl => match us, hl with | [_], _ => rfl,
    def_mk X G a25 l25 c25 k25 fun _ _ _ _ _ _ us hl => match us, hl with | [_], _ => rfl,
    def_mk X G a26 l26 c26 k26 fun _ _ _ _ _ _ us hl => match us, hl with | [_, _, _], _ => rfl,
    def_mk X G a27 l27 c27 k27 fun _ _ _ _ _ _ us hl => match us, hl with | [_, _, _], _ => rfl,
    def_mk X G a28 l28 c28 k28 fun _ _ _ _ _ _ us hl => match us, hl with | [_, _], _ => rfl,
    def_mk X G a29 l29 c29 k29 fun _ _ _ _ _ _ us hl => match us, hl with | [_, _, _], _ => rfl,
    def_mk X G a30 l30 c30 k30 fun _ _ _ _ _ _ us hl => match us, hl with | [_, _], _ => rfl,
    def_mk X G a31 l31 c31 k31 fun _ _ _ _ _ _ us hl => match us, hl with | [_], _ => rfl,
    def_mk X G a32 l32 c32 k32 fun _ _ _ _ _ _ us hl => match us, hl with | [_, _, _], _ => rfl,
    def_mk X G a33 l33 c33 k33 fun _ _ _ _ _ _ us hl => match us, hl with | [_, _], _ => rfl,
    def_mk X G a34 l34 c34 k34 fun _ _ _ _ _ _ us hl => match us, hl with | [_, _], _ => rfl,
    def_mk X G a35 l35 c35 k35 fun _ _ _ _ _ _ us hl => match us, hl with | [_, _, _], _ => rfl,
    def_mk X G a36 l36 c36 k36 fun _ _ _ _ _ _ us hl => match us, hl with | [_, _], _ => rfl,
    PySem.W.mg_none_of X G z0,
    PySem.W.mg_none_of X G z1,
    PySem.W.mg_none_of X G z2,
    PySem.W.mg_none_of X G z3,
    PySem.W.mg_none_of X G z4,
    PySem.W.mg_none_of X G z5,
    PySem.W.mg_none_of X G z6,
    PySem.W.mg_none_of X G z7,
    PySem.W.mg_none_of X G z8,
    PySem.W.mg_none_of X G z9,
    PySem.W.mg_none_of X G z10,
    PySem.W.mg_none_of X G z11,
    PySem.W.mg_none_of X G z12,
    ⟨_, PySem.W.mg_of X G m0⟩,
    PySem.W.mg_of X G gc⟩ rfl
end N
open PySem PySem.W PyProof.Rows
set_option maxHeartbeats 0 in
theorem PySem.Challenge.cw_nightslates_k05_whole_sights_holds : PySem.Challenge.rw_nightslates_k05_whole_sights.Holds := by
  w_on; o_law; k_head; (case hw => w_witness2)
  k_fill
  refine LamX.walk_ofTs (l := PySem.Challenge.rw_nightslates_k05_whole_sights) (n := 63) (k := 8) (x := "script") (CX := fun _ => L2.CX0) rfl (by decide) rfl ⟨rfl, by decide, by decide⟩ (fun w h Y => PySem.W.km_in_of Y) ?F (fun _ _ _ _ _ h => h)
  case F =>
    intro w mg fa h Y KX G hmg
    refine' N.all_mk KX G hmg ?hT ?a0 ?l0 ?c0 ?k0 ?a1 ?l1 ?c1 ?k1 ?a2 ?l2 ?c2 ?k2 ?a3 ?l3 ?c3 ?k3 ?a4 ?l4 ?c4 ?k4 ?a5 ?l5 ?c5 ?k5 ?a6 ?l6 ?c6 ?k6 ?a7 ?l7 ?c7 ?k7 ?a8 ?l8 ?c8 ?k8 ?a9 ?l9 ?c9 ?k9 ?a10 ?l10 ?c10 ?k10 ?a11 ?l11 ?c11 ?k11 ?a12 ?l12 ?c12 ?k12 ?a13 ?l13 ?c13 ?k13 ?a14 ?l14 ?c14 ?k14 ?a15 ?l15 ?c15 ?k15 ?a16 ?l16 ?c16 ?k16 ?a17 ?l17 ?c17 ?k17 ?a18 ?l18 ?c18 ?k18 ?a19 ?l19 ?c19 ?k19 ?a20 ?l20 ?c20 ?k20 ?a21 ?l21 ?c21 ?k21 ?a22 ?l22 ?c22 ?k22 ?a23 ?l23 ?c23 ?k23 ?a24 ?l24 ?c24 ?k24 ?a25 ?l25 ?c25 ?k25 ?a26 ?l26 ?c26 ?k26 ?a27 ?l27 ?c27 ?k27 ?a28 ?l28 ?c28 ?k28 ?a29 ?l29 ?c29 ?k29 ?a30 ?l30 ?c30 ?k30 ?a31 ?l31 ?c31 ?k31 ?a32 ?l32 ?c32 ?k32 ?a33 ?l33 ?c33 ?k33 ?a34 ?l34 ?c34 ?k34 ?a35 ?l35 ?c35 ?k35 ?a36 ?l36 ?c36 ?k36 ?a37 ?l37 ?c37 ?k37 ?z0 ?z1 ?z2 ?z3 ?z4 ?z5 ?z6 ?z7 ?z8 ?z9 ?z10 ?z11 ?z12 ?m0 ?gc ?nT ?hC
    (case hT => exact PySem.W.km_tabs_of Y _ (List.Mem.head _))
    (case a0 => k_is)
    (case l0 => k_is)
    (case c0 => k_is)
    (case k0 => k_is)
    (case a1 => k_is)
    (case l1 => k_is)
    (case c1 => k_is)
    (case k1 => k_is)
    (case a2 => k_is)
    (case l2 => k_is)
    (case c2 => k_is)
    (case k2 => k_is)
    (case a3 => k_is)
    (case l3 => k_is)
    (case c3 => k_is)
    (case k3 => k_is)
    (case a4 => k_is)
    (case l4 => k_is)
    (case c4 => k_is)
    (case k4 => k_is)
    (case a5 => k_is)
    (case l5 => k_is)
    (case c5 => k_is)
    (case k5 => k_is)
    (case a6 => k_is)
    (case l6 => k_is)
    (case c6 => k_is)
    (case k6 => k_is)
    (case a7 => k_is)
    (case l7 => k_is)
    (case c7 => k_is)
    (case k7 => k_is)
    (case a8 => k_is)
    (case l8 => k_is)
    (case c8 => k_is)
    (case k8 => k_is)
    (case a9 => k_is)
    (case l9 => k_is)
    (case c9 => k_is)
    (case k9 => k_is)
    (case a10 => k_is)
    (case l10 => k_is)
    (case c10 => k_is)
    (case k10 => k_is)
    (case a11 => k_is)
    (case l11 => k_is)
    (case c11 => k_is)
    (case k11 => k_is)
    (case a12 => k_is)
    (case l12 => k_is)
    (case c12 => k_is)
    (case k12 => k_is)
    (case a13 => k_is)
    (case l13 => k_is)
    (case c13 => k_is)
    (case k13 => k_is)
    (case a14 => k_is)
    (case l14 => k_is)
    (case c14 => k_is)
    (case k14 => k_is)
    (case a15 => k_is)
    (case l15 => k_is)
    (case c15 => k_is)
    (case k15 => k_is)
    (case a16 => k_is)
    (case l16 => k_is)
    (case c16 => k_is)
    (case k16 => k_is)
    (case a17 => k_is)
    (case l17 => k_is)
    (case c17 => k_is)
    (case k17 => k_is)
    (case a18 => k_is)
    (case l18 => k_is)
    (case c18 => k_is)
    (case k18 => k_is)
    (case a19 => k_is)
    (case l19 => k_is)
    (case c19 => k_is)
    (case k19 => k_is)
    (case a20 => k_is)
    (case l20 => k_is)
    (case c20 => k_is)
    (case k20 => k_is)
    (case a21 => k_is)
    (case l21 => k_is)
    (case c21 => k_is)
    (case k21 => k_is)
    (case a22 => k_is)
    (case l22 => k_is)
    (case c22 => k_is)
    (case k22 => k_is)
    (case a23 => k_is)
    (case l23 => k_is)
    (case c23 => k_is)
    (case k23 => k_is)
    (case a24 => k_is)
    (case l24 => k_is)
    (case c24 => k_is)
    (case k24 => k_is)
    (case a25 => k_is)
    (case l25 => k_is)
    (case c25 => k_is)
    (case k25 => k_is)
    (case a26 => k_is)
    (case l26 => k_is)
    (case c26 => k_is)
    (case k26 => k_is)
    (case a27 => k_is)
    (case l27 => k_is)
    (case c27 => k_is)
    (case k27 => k_is)
    (case a28 => k_is)
    (case l28 => k_is)
    (case c28 => k_is)
    (case k28 => k_is)
    (case a29 => k_is)
    (case l29 => k_is)
    (case c29 => k_is)
    (case k29 => k_is)
    (case a30 => k_is)
    (case l30 => k_is)
    (case c30 => k_is)
    (case k30 => k_is)
    (case a31 => k_is)
    (case l31 => k_is)
    (case c31 => k_is)
    (case k31 => k_is)
    (case a32 => k_is)
    (case l32 => k_is)
    (case c32 => k_is)
    (case k32 => k_is)
    (case a33 => k_is)
    (case l33 => k_is)
    (case c33 => k_is)
    (case k33 => k_is)
    (case a34 => k_is)
    (case l34 => k_is)
    (case c34 => k_is)
    (case k34 => k_is)
    (case a35 => k_is)
    (case l35 => k_is)
    (case c35 => k_is)
    (case k35 => k_is)
    (case a36 => k_is)
    (case l36 => k_is)
    (case c36 => k_is)
    (case k36 => k_is)
    (case a37 => k_is)
    (case l37 => k_is)
    (case c37 => k_is)
    (case k37 => k_is)
    (case z0 => k_is)
    (case z1 => k_is)
    (case z2 => k_is)
    (case z3 => k_is)
    (case z4 => k_is)
    (case z5 => k_is)
    (case z6 => k_is)
    (case z7 => k_is)
    (case z8 => k_is)
    (case z9 => k_is)
    (case z10 => k_is)
    (case z11 => k_is)
    (case z12 => k_is)
    (case m0 => k_is)
    (case gc => k_is)
    (case nT => kernel_rfl)
    (case hC => kernel_rfl)

