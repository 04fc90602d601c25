import PyProof.Rows.All
import Wide.All
import OpenK.AllK
import Wide.FinOn
import HandS.ForMost
import HandS.Conv
import HandS.Gcd
import HandS.ListItems
import HandS.MapObj
import KE.GoesEnum
import HandS.Zip
import HandS.More
import HandS.TupAny
import HandS.Style
import HandS.Text
import HandS.NoneIn
import HandS.WideBits
import HandS.TupSets
import PySem.Challenge.RW_nightslates_k04_whole_crews
import HandS.Walk
import KE.SortKeyHeap
import KE.KSortKey
import HandS.Lambda
import HandS.EndTab
import HandS.IsInst
set_option Elab.async false
set_option linter.all false
set_option maxRecDepth 100000
set_option maxHeartbeats 2000000
/-! combinations of a range, listed -/
namespace Cb
open PySem PySem.Spec PyProof.Rows
abbrev TC : String := "itertools.combinations"
theorem mroC : mroOf (.type TC) = pure [.type TC, .type "object"] := by rw [mroOf_type]; kernel_rfl
theorem newC : typeLookup (.type TC) "__new__" = pure (some (.builtin "itertools.combinations.__new__")) := by rw [typeLookup_type, builtinLookup_eq_fast]; kernel_rfl
theorem initC : Slot TC "__init__" "object.__init__" :=
  .of (owner := "object") (n := "__init__") (by rw [typeLookup_type, builtinLookup_eq_fast]; kernel_rfl) (by decide +kernel) (by decide +kernel) (by decide +kernel)
    (by first | exact .inl (by decide +kernel) | exact .inr (by decide +kernel)) (by rw [isSubtype_type]; kernel_rfl)
theorem subC : isSubtype (.type TC) (.type TC) = pure true := by rw [isSubtype_type]; kernel_rfl
theorem calledC : TypeCalled TC "itertools.combinations.__new__" "object.__init__" :=
  ⟨by decide +kernel, by decide +kernel, ⟨_, _, mroC⟩, madeBy_type mroC newC (by decide +kernel), by decide +kernel, subC, initC⟩
theorem typeCallC (a b : Value) : checkTypeCall TC ⟨[a, b], []⟩ = pure () := by kernel_rfl
theorem newCallC (a b : Value) : checkBuiltinCall "itertools.combinations.__new__" ⟨[.type TC, a, b], []⟩ = pure () := by kernel_rfl
theorem entryNewC : entryFor table "itertools.combinations.__new__" = some Builtin.«itertools.combinations.__new__» := entryFor_of_tree (by kernel_rfl)
theorem slotIterC : Slot TC "__iter__" "itertools.combinations.__iter__" :=
  .of (owner := TC) (n := "__iter__") (by rw [typeLookup_type, builtinLookup_eq_fast]; kernel_rfl) (by decide +kernel) (by decide +kernel) (by decide +kernel)
    (by first | exact .inl (by decide +kernel) | exact .inr (by decide +kernel)) subC
theorem slotNextC : Slot TC "__next__" "itertools.combinations.__next__" :=
  .of (owner := TC) (n := "__next__") (by rw [typeLookup_type, builtinLookup_eq_fast]; kernel_rfl) (by decide +kernel) (by decide +kernel) (by decide +kernel)
    (by first | exact .inl (by decide +kernel) | exact .inr (by decide +kernel)) subC
theorem entryIterC : entryFor table "itertools.combinations.__iter__" = some Builtin.«dict_keyiterator.__iter__» :=
  entryFor_alias (id' := "dict_keyiterator.__iter__") (by kernel_rfl) (by first | rfl | decide +kernel | (unfold String.splitOn; simp +decide [String.splitOnAux])) (by decide +kernel) (by kernel_rfl)
theorem entryNextC : entryFor table "itertools.combinations.__next__" = some Builtin.«itertools.combinations.__next__» := entryFor_of_tree (by kernel_rfl)
theorem ownerC : Manifest.owners.lookup (String.ofList ['s', 'n', 'o', 'i', 't', 'a', 'n', 'i', 'b', 'm', 'o', 'c', '.', 's', 'l', 'o', 'o', 't', 'r', 'e', 't', 'i'].reverse) = some Manifest.sig_itertools_combinations := by kernel_rfl
theorem argsIterC (a : Value) : argsOk "itertools.combinations.__iter__" ⟨[a], []⟩ := by
  unfold argsOk
  rw [signature?_of (id := "itertools.combinations.__iter__") (n := ['_', '_', 'r', 'e', 't', 'i', '_', '_']) (o := ['s', 'n', 'o', 'i', 't', 'a', 'n', 'i', 'b', 'm', 'o', 'c', '.', 's', 'l', 'o', 'o', 't', 'r', 'e', 't', 'i']) (by kernel_rfl) ownerC]
  kernel_rfl
theorem argsNextC (a : Value) : argsOk "itertools.combinations.__next__" ⟨[a], []⟩ := by
  unfold argsOk
  rw [signature?_of (id := "itertools.combinations.__next__") (n := ['_', '_', 't', 'x', 'e', 'n', '_', '_']) (o := ['s', 'n', 'o', 'i', 't', 'a', 'n', 'i', 'b', 'm', 'o', 'c', '.', 's', 'l', 'o', 'o', 't', 'r', 'e', 't', 'i']) (by kernel_rfl) ownerC]
  kernel_rfl
theorem noDictC : typeHasDict (.type TC) = false := by decide +kernel
theorem noLenC : typeLookup (.type TC) "__len__" = pure none := by rw [typeLookup_type, builtinLookup_eq_fast]; kernel_rfl
theorem noHintC : typeLookup (.type TC) "__length_hint__" = pure none := by rw [typeLookup_type, builtinLookup_eq_fast]; kernel_rfl

/-- the next row of places -/
def nxt (n : Nat) (l : List Nat) : Option (List Nat) :=
  match (List.range l.length).reverse.find? (fun i => l.getD i 0 != i + n - l.length) with
  | none => none
  | some i => some (l.take i ++ (List.range (l.length - i)).map (l.getD i 0 + 1 + ·))
/-- the object: its pool, how it stands, what it gave last, its places -/
abbrev IsC (h : Heap) (it : Addr) (pool last : Value) (st : Int) (ix : List Nat) : Prop :=
  h.get? it = some { cls := .type TC, dict := none, data := .fields (#[pool, rawInt st, last] ++ (ix.map fun (i : Nat) => rawInt i).toArray), slots := #[] }
section
variable {prog : Program} {w : World} {A : Around} {E : Value → Shared → Prop} {s : Shared}
theorem bindC (a b : Value) : Builtin.Itertools.itBindNamed "combinations" ["iterable", "r"] 2 2 [a, b] [] = pure [some a, some b] := by kernel_rfl
theorem clsC (a b : Value) : Builtin.Itertools.itClassAndRest "combinations" ⟨[.type TC, a, b], []⟩ = pure (.type TC, [a, b]) := by
  unfold Builtin.Itertools.itClassAndRest
  simp only [isType, subC, pure_bind]
  rw [show ("itertools." ++ "combinations" : String) = TC from by decide]
  simp only [isType, subC, pure_bind, Bool.not_true, Bool.false_eq_true, if_false]
end
end Cb

set_option Elab.async false
set_option linter.all false
set_option maxRecDepth 100000
set_option maxHeartbeats 2000000
namespace Cb
open PySem PySem.Spec PyProof.Rows L2
abbrev tupObj (acc : Array Value) : Obj := { cls := .type "tuple", data := .seq acc }
abbrev cObj (pool last : Value) (st : Int) (ix : List Nat) : Obj := { cls := .type TC, dict := none, data := .fields (#[pool, rawInt st, last] ++ (ix.map fun (i : Nat) => rawInt i).toArray), slots := #[] }
section
variable {prog : Program} {w : World}
theorem ssizeC (r : Nat) (t : Tok) (hr : r ≤ 7) : Builtin.Itertools.itSsizeArg (.int (r : Int) t) = pure (r : Int) := by
  unfold Builtin.Itertools.itSsizeArg
  have e : asIndex (Value.int (r : Int) t) = pure (r : Int) := by first | rfl | kernel_rfl
  rw [e, pure_bind]
  have h1 : ((decide ((r : Int) < -(2 ^ 63 : Int)) || decide ((r : Int) ≥ 2 ^ 63)) = true) = False := by
    simp only [Bool.or_eq_true, decide_eq_true_eq, eq_iff_iff, iff_false]
    omega
  simp only [h1, if_false, pure_bind]
theorem new_c (R : Addr) (vs : List Value) (r : Nat) (t : Tok) (hr : r ≤ vs.length) (hn : vs.length ≤ 7) : MeetsIn prog w (Builtin.«itertools.combinations.__new__» ⟨[.type TC, .ref R, .int r t], []⟩)
    (fun A G s => s.heap.IsList R vs.toArray ∧ ∀ (h' : Heap), (∀ b o, s.heap.get? b = some o → h'.get? b = some o) →
      G (.ok (.ret (.ref (h'.push (tupObj vs.toArray)).objs.size))) { s with heap := (h'.push (tupObj vs.toArray)).push (cObj (.ref h'.objs.size) .none 0 (List.range r)) }) :=
  .of_wp fun A G s h => by
    obtain ⟨hR, h⟩ := h
    show wpAny _ _ (((Builtin.Itertools.itClassAndRest "combinations" _) >>= _) >>= _) _ _ _
    refine wpAny_bind (wpAny_bind (wpAny_of_eq (clsC _ _) ?_))
    try dsimp only
    refine wpAny_bind (wpAny_of_eq (bindC _ _) ?_)
    try dsimp only
    refine wpAny_bind (wpAny_of_eq (ssizeC r t (by omega)) ?_)
    refine wpAny_bind (collect_list hR ?_ (by rw [sizeLine_eq]; omega))
    rw [if_neg (by omega)]
    rw [if_neg (show ¬ (Builtin.Itertools.itTooMany (r : Int) = true) by
      unfold Builtin.Itertools.itTooMany
      simp only [decide_eq_true_eq]
      omega)]
    refine wpAny_bind (wpAny_newTuple ?_ (by rw [sizeLine_eq]; omega))
    refine wpAny_pure ?_
    dsimp only
    rw [Int.toNat_natCast, if_neg (by omega)]
    refine wpAny_bind ?_
    unfold Builtin.Itertools.itNewRecord
    rw [noDictC]
    simp only [Bool.not_false, if_true]
    have hlr : (((List.range r).map fun (i : Nat) => rawInt i)).length = r := by rw [List.length_map, List.length_range]
    refine wpAny_newObj_type ?_ (by
      show _ ≤ _
      simp only [List.size_toArray, List.length_append, List.length_cons, List.length_nil, hlr, sizeLine_eq]
      omega)
    refine wpAny_pure ⟨_, rfl, ?_⟩
    have kk : ∀ b o, s.heap.get? b = some o → ((s.heap.push (seqObj "list" #[] 0)).update s.heap.objs.size (Obj.mapSeq (· ++ vs.toArray))).get? b = some o := fun b o e => by
      rw [Heap.get?_update_other _ _ (Ne.symm (Nat.ne_of_lt (Heap.lt_size e)))]
      exact Heap.get?_push_of_some _ e
    have q := h _ kk
    rw [Heap.size_update] at q ⊢
    have e3 : ∀ hs : Nat, ([Value.ref hs, rawInt 0, Value.none] ++ (List.range r).map fun (i : Nat) => rawInt i).toArray = #[Value.ref hs, rawInt 0, Value.none] ++ ((List.range r).map fun (i : Nat) => rawInt i).toArray := fun hs => by simp
    rw [e3]
    exact q
end
section
variable {prog : Program} {w : World} {A : Around} {E : Value → Shared → Prop} {s : Shared}
/-- combinations(list, r) -/
theorem call_c {R : Addr} {vs : List Value} {r : Nat} {t : Tok} {Q : Value → Shared → Prop} (hr : r ≤ vs.length) (hn : vs.length ≤ 7) (hR : s.heap.IsList R vs.toArray)
    (h : ∀ (h' : Heap), (∀ b o, s.heap.get? b = some o → h'.get? b = some o) →
      Q (.ref (h'.push (tupObj vs.toArray)).objs.size) { s with heap := (h'.push (tupObj vs.toArray)).push (cObj (.ref h'.objs.size) .none 0 (List.range r)) }) :
    wpAny (model prog w) A (call (.type TC) [.ref R, .int r t]) Q E s := by
  refine callType_newIn calledC (by decide +kernel) (typeCallC _ _) (newCallC _ _) (fun obj => F.args_object_init_3 obj _ _) entryNewC (new_c R vs r t hr hn) ?_
  refine ⟨hR, fun h' hk => ?_⟩
  exact ⟨⟨_, Heap.get?_push_size _ rfl, rfl⟩, h h' hk⟩
/-! ### what comes next -/
theorem getC {h : Heap} {it : Addr} {pool last : Value} {st : Int} {ix : List Nat} (e : h.get? it = some (cObj pool last st ix)) {Q : List Nat → Shared → Prop} {g d tk os} (hQ : Q ix ⟨h, g, d, tk, os⟩) :
    wpAny (model prog w) A (Builtin.Itertools.itNumbersFrom (.ref it) 3) Q E ⟨h, g, d, tk, os⟩ := by
  unfold Builtin.Itertools.itNumbersFrom
  refine wpAny_bind (wpAny_load e ?_)
  dsimp only
  refine wpAny_pure ?_
  have e2 : ((#[pool, rawInt st, last] ++ (ix.map fun (i : Nat) => rawInt i).toArray).toList.drop 3).map (fun | Value.int n _ => n.toNat | _ => 0) = ix := by
    have z : (#[pool, rawInt st, last] ++ (ix.map fun (i : Nat) => rawInt i).toArray).toList.drop 3 = ix.map fun (i : Nat) => rawInt i := by simp
    rw [z, List.map_map]
    conv => rhs; rw [← List.map_id ix]
    refine List.map_congr_left fun i _ => ?_
    simp [rawInt]
  exact Eq.mpr (congrArg (fun l => Q l _) e2) hQ
end
end Cb

set_option Elab.async false
set_option linter.all false
set_option maxRecDepth 100000
set_option maxHeartbeats 2000000
namespace Cb
open PySem PySem.Spec PyProof.Rows L2
theorem set1 (a b c y : Value) (xs : List Value) : (#[a, b, c] ++ xs.toArray).setIfInBounds 1 y = #[a, y, c] ++ xs.toArray := by
  apply Array.ext'
  simp [Array.toList_setIfInBounds]
theorem set2 (a b c y : Value) (xs : List Value) : (#[a, b, c] ++ xs.toArray).setIfInBounds 2 y = #[a, b, y] ++ xs.toArray := by
  apply Array.ext'
  simp [Array.toList_setIfInBounds]
theorem ext3 (a b c : Value) (xs ys : List Value) : (#[a, b, c] ++ xs.toArray).extract 0 3 ++ ys.toArray = #[a, b, c] ++ ys.toArray := by
  apply Array.ext'
  simp
section
variable {prog : Program} {w : World} {A : Around} {E : Value → Shared → Prop} {s : Shared}
def pick1 (pool : Value) (ix : List Nat) : Sem Value := do
  let items ← Builtin.Itertools.itPoolItems pool
  newTuple (ix.map fun i => items.getD i .none)
def hand1 (it pool : Value) (ix : List Nat) : Sem Fin := do
  let result ← pick1 pool ix
  let before ← field it 2
  setField it 2 result
  letGo [before] [result]
  ret result
theorem wp_pool {T : Addr} {items : Array Value} {Q : Array Value → Shared → Prop} (hT : s.heap.get? T = some (tupObj items)) (h : Q items s) : wpAny (model prog w) A (Builtin.Itertools.itPoolItems (.ref T)) Q E s := by
  unfold Builtin.Itertools.itPoolItems
  refine wpAny_bind (wpAny_seqItems hT rfl ?_)
  exact wpAny_pure h
/-- the tuple of the pool's items at some places -/
abbrev picked (items : Array Value) (ix : List Nat) : Obj := tupObj (ix.map fun i => items.getD i .none).toArray
theorem wp_hand {it T : Addr} {last : Value} {st : Int} {ix : List Nat} {items : Array Value} {Q : Fin → Shared → Prop} (hit : s.heap.get? it = some (cObj (.ref T) last st ix)) (hT : s.heap.get? T = some (tupObj items)) (hz : ix.length ≤ 7)
    (hQ : ∀ h', h'.get? it = some (cObj (.ref T) (.ref s.heap.objs.size) st ix) → h'.get? s.heap.objs.size = some (picked items ix) → h'.objs.size = s.heap.objs.size + 1 → (∀ b o, b ≠ it → s.heap.get? b = some o → h'.get? b = some o) → Q (.done (.ret (.ref s.heap.objs.size))) { s with heap := h' }) :
    wpAny (model prog w) A (hand1 (.ref it) (.ref T) ix) Q E s := by
  unfold hand1
  refine wpAny_bind ?_
  unfold pick1
  refine wpAny_bind (wp_pool hT ?_)
  refine wpAny_newTuple ?_ (by rw [List.length_map, sizeLine_eq]; omega)
  have hl : it < s.heap.objs.size := Heap.lt_size hit
  have h1 : (s.heap.push (picked items ix)).get? it = some (cObj (.ref T) last st ix) := Heap.get?_push_of_some _ hit
  have h2 : (s.heap.push (picked items ix)).get? s.heap.objs.size = some (picked items ix) := Heap.get?_push_size _ rfl
  have hz1 : (s.heap.push (picked items ix)).objs.size = s.heap.objs.size + 1 := Heap.size_push ..
  show wpAny _ _ (field (.ref it) 2 >>= _) _ _ _
  refine wpAny_bind (wpAny_field h1 rfl (x := last) (by simp) ?_)
  refine wpAny_bind (wpAny_setField h1 rfl (by simp) ?_)
  refine wpAny_bind (wpAny_letGo ?_)
  refine wpAny_pure ?_
  refine hQ _ ?_ ?_ ?_ ?_
  · rw [Heap.get?_update_self _ h1 rfl]
    simp only [Obj.mapFields, set2]
  · rw [Heap.get?_update_other _ _ (Nat.ne_of_lt hl)]
    exact h2
  · rw [Heap.size_update, hz1]
  · intro b o hb e
    rw [Heap.get?_update_other _ _ (Ne.symm hb)]
    exact Heap.get?_push_of_some _ e
theorem wp_int {it : Addr} {pool last : Value} {st : Int} {ix : List Nat} {Q : Int → Shared → Prop} (hit : s.heap.get? it = some (cObj pool last st ix)) (h : Q st s) : wpAny (model prog w) A (Builtin.Itertools.itIntField (.ref it) 1) Q E s := by
  unfold Builtin.Itertools.itIntField
  refine wpAny_bind (wpAny_field hit rfl (x := rawInt st) (by simp) ?_)
  exact wpAny_pure h
theorem next_first {it T : Addr} {last : Value} {ix : List Nat} {items : Array Value} {Q : Option Value → Shared → Prop} (hit : s.heap.get? it = some (cObj (.ref T) last 0 ix)) (hT : s.heap.get? T = some (tupObj items)) (hne : T ≠ it) (hz : ix.length ≤ 7)
    (hQ : ∀ h', h'.get? it = some (cObj (.ref T) (.ref s.heap.objs.size) 1 ix) → h'.get? s.heap.objs.size = some (picked items ix) → h'.objs.size = s.heap.objs.size + 1 → (∀ b o, b ≠ it → s.heap.get? b = some o → h'.get? b = some o) → Q (some (.ref s.heap.objs.size)) { s with heap := h' }) :
    wpAny (model prog w) A (pyNext (.ref it)) Q E s := by
  have hTy : s.TypeIs (.ref it) TC := ⟨_, hit, rfl⟩
  obtain ⟨hp, g, d, tk, os⟩ := s
  unfold pyNext
  refine wpAny_bind (wpAny_attempt (wpAny_callSpecial?_slot (name := Str.ofString "__next__") hTy slotNextC
    (wpAny_call_entry slotNextC hTy entryNextC ?_ (argsNextC _))))
  show wpAny _ _ (field (.ref it) 0 >>= _) _ _ _
  refine wpAny_bind (wpAny_field hit rfl (x := .ref T) (by simp) ?_)
  show wpAny _ _ (Builtin.Itertools.itNumbersFrom (.ref it) 3 >>= _) _ _ _
  refine wpAny_bind (getC hit ?_)
  show wpAny _ _ (Builtin.Itertools.itIntField (.ref it) 1 >>= _) _ _ _
  refine wpAny_bind (wp_int hit ?_)
  show wpAny _ _ (setField (.ref it) 1 (rawInt 1) >>= fun _ => hand1 (.ref it) (.ref T) ix) _ _ _
  refine wpAny_bind (wpAny_setField hit rfl (by simp) ?_)
  have h1 : (hp.update it (Obj.mapFields fun x => x.setIfInBounds 1 (rawInt 1))).get? it = some (cObj (.ref T) last 1 ix) := by
    rw [Heap.get?_update_self _ hit rfl]
    simp only [Obj.mapFields, set1]
  have h2 : (hp.update it (Obj.mapFields fun x => x.setIfInBounds 1 (rawInt 1))).get? T = some (tupObj items) := by
    rw [Heap.get?_update_other _ _ (Ne.symm hne)]
    exact hT
  have hz1 : (hp.update it (Obj.mapFields fun x => x.setIfInBounds 1 (rawInt 1))).objs.size = hp.objs.size := Heap.size_update ..
  refine wp_hand h1 h2 hz fun h' a1 a2 a3 a4 => ⟨_, rfl, ?_⟩
  dsimp only at a1 a2 a3 a4 ⊢
  rw [hz1] at a1 a2 a3 ⊢
  refine wpAny_pure (hQ h' a1 a2 a3 fun b o hb e => a4 b o hb ?_)
  rw [Heap.get?_update_other _ _ (Ne.symm hb)]
  exact e
theorem next_more {it T : Addr} {last : Value} {ix iy : List Nat} {items : Array Value} {Q : Option Value → Shared → Prop} (hit : s.heap.get? it = some (cObj (.ref T) last 1 ix)) (hT : s.heap.get? T = some (tupObj items)) (hne : T ≠ it) (hz : iy.length ≤ 7)
    (hn : nxt items.size ix = some iy)
    (hQ : ∀ h', h'.get? it = some (cObj (.ref T) (.ref s.heap.objs.size) 1 iy) → h'.get? s.heap.objs.size = some (picked items iy) → h'.objs.size = s.heap.objs.size + 1 → (∀ b o, b ≠ it → s.heap.get? b = some o → h'.get? b = some o) → Q (some (.ref s.heap.objs.size)) { s with heap := h' }) :
    wpAny (model prog w) A (pyNext (.ref it)) Q E s := by
  have hTy : s.TypeIs (.ref it) TC := ⟨_, hit, rfl⟩
  obtain ⟨hp, g, d, tk, os⟩ := s
  unfold pyNext
  refine wpAny_bind (wpAny_attempt (wpAny_callSpecial?_slot (name := Str.ofString "__next__") hTy slotNextC
    (wpAny_call_entry slotNextC hTy entryNextC ?_ (argsNextC _))))
  show wpAny _ _ (field (.ref it) 0 >>= _) _ _ _
  refine wpAny_bind (wpAny_field hit rfl (x := .ref T) (by simp) ?_)
  show wpAny _ _ (Builtin.Itertools.itNumbersFrom (.ref it) 3 >>= _) _ _ _
  refine wpAny_bind (getC hit ?_)
  show wpAny _ _ (Builtin.Itertools.itIntField (.ref it) 1 >>= _) _ _ _
  refine wpAny_bind (wp_int hit ?_)
  show wpAny _ _ (Builtin.Itertools.itPoolItems (.ref T) >>= _) _ _ _
  refine wpAny_bind (wp_pool hT ?_)
  show wpAny _ _ (match nxt items.size ix with | some next => (Builtin.Itertools.itSetNumbersFrom (.ref it) 3 next >>= fun _ => hand1 (.ref it) (.ref T) next) | none => _) _ _ _
  rw [hn]
  dsimp only
  refine wpAny_bind ?_
  unfold Builtin.Itertools.itSetNumbersFrom
  refine wpAny_updateFields hit rfl ?_ (by
    have z := ext3 (.ref T) (rawInt 1) last (ix.map fun (i : Nat) => rawInt i) (iy.map fun (i : Nat) => rawInt i)
    rw [z]
    simp only [Array.size_append, List.size_toArray, List.length_map, sizeLine_eq]
    simp
    omega)
  have h1 : (hp.update it (Obj.mapFields fun fs => fs.extract 0 3 ++ (iy.map fun (n : Nat) => rawInt n).toArray)).get? it = some (cObj (.ref T) last 1 iy) := by
    rw [Heap.get?_update_self _ hit rfl]
    simp only [Obj.mapFields, ext3]
  have h2 : (hp.update it (Obj.mapFields fun fs => fs.extract 0 3 ++ (iy.map fun (n : Nat) => rawInt n).toArray)).get? T = some (tupObj items) := by
    rw [Heap.get?_update_other _ _ (Ne.symm hne)]
    exact hT
  have hz1 : (hp.update it (Obj.mapFields fun fs => fs.extract 0 3 ++ (iy.map fun (n : Nat) => rawInt n).toArray)).objs.size = hp.objs.size := Heap.size_update ..
  refine wp_hand h1 h2 hz fun h' a1 a2 a3 a4 => ⟨_, rfl, ?_⟩
  dsimp only at a1 a2 a3 a4 ⊢
  rw [hz1] at a1 a2 a3 ⊢
  refine wpAny_pure (hQ h' a1 a2 a3 fun b o hb e => a4 b o hb ?_)
  rw [Heap.get?_update_other _ _ (Ne.symm hb)]
  exact e
theorem next_end {it T : Addr} {last : Value} {ix : List Nat} {items : Array Value} {Q : Option Value → Shared → Prop} (hh : A.handled = none) (hit : s.heap.get? it = some (cObj (.ref T) last 1 ix)) (hT : s.heap.get? T = some (tupObj items))
    (hn : nxt items.size ix = none) (hQ : ∀ h', Heap.ExtBut it s.heap h' → Q none { s with heap := h' }) :
    wpAny (model prog w) A (pyNext (.ref it)) Q E s := by
  have hTy : s.TypeIs (.ref it) TC := ⟨_, hit, rfl⟩
  obtain ⟨hp, g, d, tk, os⟩ := s
  unfold pyNext
  refine wpAny_bind (wpAny_attempt (wpAny_callSpecial?_slot (name := Str.ofString "__next__") hTy slotNextC
    (wpAny_call_entry slotNextC hTy entryNextC ?_ (argsNextC _))))
  show wpAny _ _ (field (.ref it) 0 >>= _) _ _ _
  refine wpAny_bind (wpAny_field hit rfl (x := .ref T) (by simp) ?_)
  show wpAny _ _ (Builtin.Itertools.itNumbersFrom (.ref it) 3 >>= _) _ _ _
  refine wpAny_bind (getC hit ?_)
  show wpAny _ _ (Builtin.Itertools.itIntField (.ref it) 1 >>= _) _ _ _
  refine wpAny_bind (wp_int hit ?_)
  show wpAny _ _ (Builtin.Itertools.itPoolItems (.ref T) >>= _) _ _ _
  refine wpAny_bind (wp_pool hT ?_)
  show wpAny _ _ (match nxt items.size ix with | some next => (Builtin.Itertools.itSetNumbersFrom (.ref it) 3 next >>= fun _ => hand1 (.ref it) (.ref T) next) | none => (setField (.ref it) 1 (rawInt 2) >>= fun _ => Builtin.Itertools.itStop)) _ _ _
  rw [hn]
  dsimp only
  refine wpAny_bind (wpAny_setField hit rfl (by simp) ?_)
  show wpAny _ _ (newExc (.type "StopIteration") [] >>= _) _ _ _
  refine wpAny_bind ?_
  simp only [newExc, newTuple]
  refine wpAny_bind (wpAny_newObj_type ?_ (by size_fits))
  refine wpAny_bind (m := firstArgMember _ _) (wpAny_of_eq (a := Value.none) (by first | rfl | (simp only [firstArgMember]; rfl)) ?_)
  refine wpAny_newObj_type ?_ (by size_fits)
  simp only [raiseNew]
  refine wpAny_bind (wpAny_handled ?_)
  rw [show A.in1.handled = none from hh]
  refine wpAny_bind (wpAny_pure (wpAny_throw ?_))
  refine wpAny_bind (wpAny_isInstance (T := "StopIteration") (b := true) ⟨_, Heap.get?_push_size _ rfl, rfl⟩ isSubtype_stop ?_)
  exact wpAny_pure (hQ _ (((Heap.SameBut.update ..).extBut.push _).push _))
theorem iter_c {it : Addr} {pool last : Value} {st : Int} {ix : List Nat} {Q : Value → Shared → Prop} (hit : s.heap.get? it = some (cObj pool last st ix)) (h : Q (.ref it) s) : wpAny (model prog w) A (pyIter (.ref it)) Q E s := by
  have hTy : s.TypeIs (.ref it) TC := ⟨_, hit, rfl⟩
  refine wpAny_pyIter_slot hTy slotIterC (wpAny_call_entry slotIterC hTy entryIterC ?_ (argsIterC _))
  show wpAny _ _ (ret (.ref it)) _ _ s
  exact wpAny_pure ⟨_, rfl, TC, _, hTy, slotNextC.lookup, h⟩
end
end Cb

set_option Elab.async false
set_option linter.all false
set_option maxRecDepth 100000
set_option maxHeartbeats 2000000
namespace Cb
open PySem PySem.Spec PyProof.Rows L2
/-- what rows of places come behind one -/
inductive Seq (n : Nat) : List Nat → List (List Nat) → Prop
  | stop {ix : List Nat} : nxt n ix = none → Seq n ix []
  | step {ix iy : List Nat} {rest : List (List Nat)} : nxt n ix = some iy → Seq n iy rest → Seq n ix (iy :: rest)
/-- how the object stands: these rows are to come -/
def St (h : Heap) (it T : Addr) (n : Nat) (rows : List (List Nat)) : Prop :=
  ∃ last ix, (h.get? it = some (cObj (.ref T) last 0 ix) ∧ ∃ rest, rows = ix :: rest ∧ Seq n ix rest) ∨ (h.get? it = some (cObj (.ref T) last 1 ix) ∧ Seq n ix rows)
theorem St.typed {s : Shared} {it T : Addr} {n : Nat} {rows : List (List Nat)} (x : St s.heap it T n rows) : s.TypeIs (.ref it) TC := by
  obtain ⟨last, ix, ⟨e, _⟩ | ⟨e, _⟩⟩ := x
  · exact ⟨_, e, rfl⟩
  · exact ⟨_, e, rfl⟩
theorem St.at' {h h' : Heap} {it T : Addr} {n : Nat} {rows : List (List Nat)} (x : St h it T n rows) (k : ∀ o, h.get? it = some o → h'.get? it = some o) : St h' it T n rows := by
  obtain ⟨last, ix, ⟨e, r⟩ | ⟨e, r⟩⟩ := x
  · exact ⟨last, ix, .inl ⟨k _ e, r⟩⟩
  · exact ⟨last, ix, .inr ⟨k _ e, r⟩⟩
theorem St.lt {h : Heap} {it T : Addr} {n : Nat} {rows : List (List Nat)} (x : St h it T n rows) : it < h.objs.size := by
  obtain ⟨last, ix, ⟨e, _⟩ | ⟨e, _⟩⟩ := x
  · exact Heap.lt_size e
  · exact Heap.lt_size e
section
variable {prog : Program} {w : World} {A : Around} {E : Value → Shared → Prop} {s : Shared}
theorem st_next {it T : Addr} {row : List Nat} {rows : List (List Nat)} {items : Array Value} {Q : Option Value → Shared → Prop} (x : St s.heap it T items.size (row :: rows)) (hT : s.heap.get? T = some (tupObj items)) (hne : T ≠ it) (hz : row.length ≤ 7)
    (hQ : ∀ h', St h' it T items.size rows → h'.get? s.heap.objs.size = some (picked items row) → h'.objs.size = s.heap.objs.size + 1 → (∀ b o, b ≠ it → s.heap.get? b = some o → h'.get? b = some o) → Q (some (.ref s.heap.objs.size)) { s with heap := h' }) :
    wpAny (model prog w) A (pyNext (.ref it)) Q E s := by
  obtain ⟨last, ix, ⟨e, rest, er, sq⟩ | ⟨e, sq⟩⟩ := x
  · cases er
    exact next_first e hT hne hz fun h' a1 a2 a3 a4 => hQ h' ⟨_, _, .inr ⟨a1, sq⟩⟩ a2 a3 a4
  · cases sq with
    | step hn sq => exact next_more e hT hne hz hn fun h' a1 a2 a3 a4 => hQ h' ⟨_, _, .inr ⟨a1, sq⟩⟩ a2 a3 a4
theorem st_end {it T : Addr} {items : Array Value} {Q : Option Value → Shared → Prop} (hh : A.handled = none) (x : St s.heap it T items.size []) (hT : s.heap.get? T = some (tupObj items))
    (hQ : ∀ h', Heap.ExtBut it s.heap h' → Q none { s with heap := h' }) : wpAny (model prog w) A (pyNext (.ref it)) Q E s := by
  obtain ⟨last, ix, ⟨e, rest, er, sq⟩ | ⟨e, sq⟩⟩ := x
  · cases er
  · cases sq with
    | stop hn => exact next_end hh e hT hn hQ
theorem st_iter {it T : Addr} {n : Nat} {rows : List (List Nat)} {Q : Value → Shared → Prop} (x : St s.heap it T n rows) (h : Q (.ref it) s) : wpAny (model prog w) A (pyIter (.ref it)) Q E s := by
  obtain ⟨last, ix, ⟨e, _⟩ | ⟨e, _⟩⟩ := x
  · exact iter_c e h
  · exact iter_c e h
end
/-- the tuples made so far -/
structure Made (items : Array Value) (lo : Addr) (h : Heap) (as : List Addr) (rows : List (List Nat)) : Prop where
  rise : as.Pairwise (· < ·)
  above : ∀ a ∈ as, lo ≤ a
  pairs : Paired (fun (a : Addr) (row : List Nat) => h.get? a = some (picked items row)) as rows
theorem paired_snoc {α β : Type} {F : α → β → Prop} {a : α} {b : β} (h : F a b) : ∀ {as : List α} {bs : List β}, Paired F as bs → Paired F (as ++ [a]) (bs ++ [b])
  | _, _, .nil => .cons h .nil
  | _, _, .cons r t => .cons r (paired_snoc h t)
theorem paired_of_mem {α β : Type} {F G : α → β → Prop} : ∀ {as : List α} {bs : List β}, Paired F as bs → (∀ a ∈ as, ∀ b, F a b → G a b) → Paired G as bs
  | _, _, .nil, _ => .nil
  | _, _, .cons r t, f => .cons (f _ List.mem_cons_self _ r) (paired_of_mem t fun a ha => f a (List.mem_cons_of_mem _ ha))
theorem Made.there {items : Array Value} {lo : Addr} {h : Heap} {as : List Addr} {rows : List (List Nat)} (m : Made items lo h as rows) : ∀ a ∈ as, a < h.objs.size := fun a ha => by
  obtain ⟨j, y, _, _, e⟩ := LiI.paired_ix m.pairs ha
  exact Heap.lt_size e
theorem Made.keep {items : Array Value} {lo : Addr} {h h' : Heap} {as : List Addr} {rows : List (List Nat)} (m : Made items lo h as rows) (k : ∀ a ∈ as, ∀ o, h.get? a = some o → h'.get? a = some o) : Made items lo h' as rows :=
  ⟨m.rise, m.above, paired_of_mem m.pairs fun a ha b e => k a ha _ e⟩
abbrev lstObj (acc : Array Value) (c : Nat) : Obj := { cls := .type "list", dict := none, data := .seq acc c, slots := #[] }
section
variable {prog : Program} {w : World} {A : Around} {s : Shared} {G : Result → Shared → Prop} {items : Array Value}
theorem loop_c {S I T : Addr} {lo : Addr} (hh : A.handled = none) (hSI : S ≠ I) (hTS : T ≠ S) (hTI : T ≠ I) (hlo : S < lo) (hloI : I < lo) (res : Value) {h₁ : Heap} {all : List (List Nat)} (hall : all.length ≤ sizeLine) (hr : ∀ row ∈ all, row.length ≤ 7)
    (hG : ∀ h' tk acc c as, (∀ b o, b ≠ S → b ≠ I → h₁.get? b = some o → h'.get? b = some o) → h'.get? S = some (lstObj acc c) → Made items lo h' as all → acc.toList = as.map Value.ref → G (.ok (.ret res)) { s with heap := h', toks := tk }) :
    ∀ (rows done : List (List Nat)) (h : Heap) (tk c : Nat) (acc : Array Value) (as : List Addr), all = done ++ rows → St h I T items.size rows → h.get? T = some (tupObj items) → (∀ b o, b ≠ S → b ≠ I → h₁.get? b = some o → h.get? b = some o) →
      h.get? S = some (lstObj acc c) → acc.toList = as.map Value.ref → Made items lo h as done → lo ≤ h.objs.size →
      codeAny (model prog w) A (.builtin "list.extend.loop" ⟨[.ref S, .ref I, res], []⟩) G { s with heap := h, toks := tk } := by
  intro rows
  induction rows with
  | nil =>
    intro done h tk c acc as ha x hT hk hS hacc m hl
    rw [List.append_nil] at ha
    refine codeAny_builtin F.entry_extend_loop ?_
    rw [Around.under_plainId F.plain_extend_loop _]
    show wpAny _ A.in1 (pyNext (.ref I) >>= _) _ _ _
    refine wpAny_bind (st_end (s := { s with heap := h, toks := tk }) (A := A.in1) hh x hT fun h' he => ?_)
    refine wpAny_pure (hG h' tk acc c as (fun b o h1 h2 e => he b o h2 (hk b o h1 h2 e)) (he S _ hSI hS) ?_ hacc)
    rw [ha]
    exact m.keep fun a hm o e => he a o (Nat.ne_of_gt (Nat.lt_of_lt_of_le hloI (m.above a hm))) e
  | cons row rows ih =>
    intro done h tk c acc as ha x hT hk hS hacc m hl
    have hrow : row.length ≤ 7 := hr row (by rw [ha]; simp)
    have hlen : acc.size = done.length := by
      rw [← Array.length_toList, hacc, List.length_map]
      exact Paired.length m.pairs
    have hlt : done.length < sizeLine := by
      have z : all.length = done.length + (rows.length + 1) := by rw [ha, List.length_append, List.length_cons]
      omega
    refine codeAny_builtin F.entry_extend_loop ?_
    rw [Around.under_plainId F.plain_extend_loop _]
    show wpAny _ A.in1 (pyNext (.ref I) >>= _) _ _ _
    refine wpAny_bind (st_next (s := { s with heap := h, toks := tk }) x hT hTI hrow fun h' x' ht hz hkp => ?_)
    dsimp only at ht hz hkp ⊢
    have hS' := hkp S _ hSI hS
    have up : ∀ b o, b ≠ S → h'.get? b = some o → (h'.update S (Obj.mapSeq (·.push (Value.ref h.objs.size)))).get? b = some o := fun b o hb e => (Heap.get?_update_other _ _ (Ne.symm hb)).trans e
    have hSl : S < h.objs.size := Heap.lt_size hS
    have hnS : h.objs.size ≠ S := Nat.ne_of_gt hSl
    show wpAny _ A.in1 (updateSeq S (·.push (Value.ref h.objs.size)) >>= _) _ _ _
    refine wpAny_bind ?_
    refine wpAny_updateSeq hS' rfl (wpAny_pure ⟨plainId_quiet F.plain_extend_loop _, ih (done ++ [row]) _ tk _ (acc.push (Value.ref h.objs.size)) (as ++ [h.objs.size]) (by rw [ha, List.append_assoc]; rfl) (x'.at' fun o e => up I o (Ne.symm hSI) e)
      (up T _ hTS (hkp T _ hTI hT)) (fun b o h1 h2 e => up b o h1 (hkp b o h2 (hk b o h1 h2 e))) (Heap.get?_update_self _ hS' rfl) (by rw [Array.toList_push, hacc, List.map_append]; rfl) ⟨?_, ?_, ?_⟩ ?_⟩) (by omega) (by show (acc.push (Value.ref h.objs.size)).size ≤ sizeLine + 1; rw [Array.size_push]; omega)
    · refine List.pairwise_append.mpr ⟨m.rise, List.pairwise_singleton _ _, fun a ha' b hb => ?_⟩
      rw [List.mem_singleton.mp hb]
      exact m.there a ha'
    · intro a ha'
      rcases List.mem_append.mp ha' with z | z
      · exact m.above a z
      · rw [List.mem_singleton.mp z]
        exact hl
    · refine paired_snoc (F := fun (a : Addr) (row : List Nat) => (h'.update S (Obj.mapSeq (·.push (Value.ref h.objs.size)))).get? a = some (picked items row)) (up _ _ hnS ht) (paired_of_mem (F := fun (a : Addr) (row : List Nat) => h.get? a = some (picked items row)) m.pairs fun a hm b e => ?_)
      have hab := m.above a hm
      exact up a _ (Nat.ne_of_gt (Nat.lt_of_lt_of_le hlo hab)) (hkp a _ (Nat.ne_of_gt (Nat.lt_of_lt_of_le hloI hab)) e)
    · rw [Heap.size_update, hz]
      exact Nat.le_succ_of_le hl
end
section
variable {prog : Program} {w : World} {A : Around} {s : Shared} {G : Result → Shared → Prop} {items : Array Value}
theorem extend_c {S I T : Addr} (hh : A.handled = none) (hSI : S ≠ I) (hTS : T ≠ S) (hTI : T ≠ I) (res : Value) (c₀ : Nat) {all : List (List Nat)} (hall : all.length ≤ sizeLine) (hr : ∀ row ∈ all, row.length ≤ 7)
    (x : St s.heap I T items.size all) (hT : s.heap.get? T = some (tupObj items)) (hS : s.heap.get? S = some (lstObj #[] c₀))
    (hG : ∀ h' tk acc c as, (∀ b o, b ≠ S → b ≠ I → s.heap.get? b = some o → h'.get? b = some o) → h'.get? S = some (lstObj acc c) → Made items s.heap.objs.size h' as all → acc.toList = as.map Value.ref → G (.ok (.ret res)) { s with heap := h', toks := tk }) :
    wpAny (model prog w) A.in1 (Builtin.List.listExtendWith (.ref S) (.ref I) res)
      (fun fin s' => match fin with | .done f => G (.ok f) s' | .again c' => c'.quiet = true ∧ codeAny (model prog w) A c' G s') (fun e s' => G (.error e) s') s := by
  unfold Builtin.List.listExtendWith
  refine wpAny_bind (wpAny_typeOf x.typed ?_)
  have h1 : Builtin.List.listSameRef (.ref S) (.ref I) = false := by simp [Builtin.List.listSameRef, hSI]
  have h2 : (Value.type TC == Value.type "list") = false := by decide
  have h3 : (Value.type TC == Value.type "tuple") = false := by decide
  simp only [h1, h2, h3, Bool.or_false, Bool.false_eq_true, if_false]
  refine wpAny_bind (st_iter x ?_)
  refine wpAny_bind (wpAny_holding ?_)
  unfold Builtin.List.listLengthHint
  refine wpAny_bind (wpAny_specialOf x.typed noLenC ?_)
  show wpAny _ A.in1 (specialOf (Value.ref I) (Str.ofString "__length_hint__") >>= _) _ _ _
  refine wpAny_bind (wpAny_specialOf x.typed noHintC ?_)
  refine wpAny_pure ?_
  show wpAny _ A.in1 (rule "list.extend.makes-room" >>= fun _ => Builtin.List.listTouch (.ref S) >>= fun _ => again (.builtin "list.extend.loop" ⟨[.ref S, .ref I, res], []⟩)) _ _ _
  refine wpAny_bind (wpAny_rule ?_)
  refine wpAny_bind ?_
  show wpAny _ A.in1 (updateSeq S (·.push .none) >>= fun _ => updateSeq S (·.pop)) _ _ _
  refine wpAny_bind (wpAny_updateSeq hS rfl ?_)
  have hS₂ := Heap.get?_update_self (Obj.mapSeq (·.push Value.none)) hS rfl
  refine wpAny_updateSeq (hz := by seq_fits) hS₂ rfl ?_
  have hS₃ := Heap.get?_update_self (Obj.mapSeq (·.pop)) hS₂ rfl
  have oth : ∀ b o, b ≠ S → s.heap.get? b = some o → ((s.heap.update S (Obj.mapSeq (·.push Value.none))).update S (Obj.mapSeq (·.pop))).get? b = some o :=
    fun b o hb e => (Heap.get?_update_other _ _ (Ne.symm hb)).trans ((Heap.get?_update_other _ _ (Ne.symm hb)).trans e)
  refine wpAny_pure ⟨plainId_quiet F.plain_extend_loop _, loop_c (lo := s.heap.objs.size) hh hSI hTS hTI (Heap.lt_size hS) x.lt res hall hr (h₁ := s.heap) hG all [] _ s.toks _ #[] [] rfl (x.at' fun o e => oth I o (Ne.symm hSI) e) (oth T _ hTS hT) (fun b o h1 _ e => oth b o h1 e) hS₃ rfl ⟨List.Pairwise.nil, (fun a ha => by cases ha), Paired.nil⟩ ?_⟩
  rw [Heap.size_update, Heap.size_update]
  exact Nat.le_refl _
end
section
variable {prog : Program} {w : World} {A : Around} {E : Value → Shared → Prop} {s : Shared} {items : Array Value}
/-- list(it) -/
theorem list_c {I T : Addr} {all : List (List Nat)} {Q : Value → Shared → Prop} (hh : A.handled = none) (hTI : T ≠ I) (hall : all.length ≤ sizeLine) (hr : ∀ row ∈ all, row.length ≤ 7)
    (x : St s.heap I T items.size all) (hT : s.heap.get? T = some (tupObj items))
    (hQ : ∀ h' tk acc c as, (∀ b o, b ≠ I → s.heap.get? b = some o → h'.get? b = some o) → h'.get? s.heap.objs.size = some (lstObj acc c) → Made items (s.heap.objs.size + 1) h' as all → acc.toList = as.map Value.ref → Q (.ref s.heap.objs.size) { s with heap := h', toks := tk }) :
    wpAny (model prog w) A (call (.type "list") [.ref I]) Q E s := by
  refine callType_codes (Q₁ := fun obj s₁ => obj = .ref s.heap.objs.size ∧ s₁ = { s with heap := s.heap.push { cls := .type "list", data := .seq #[] } }) F.called_list (F.typeCall_list_1 _) F.entry_list_init
    (code_list_new _ ⟨rfl, rfl⟩) fun obj s₁ h₁ => ?_
  obtain ⟨rfl, rfl⟩ := h₁
  have hS : (s.heap.push { cls := .type "list", data := .seq #[] }).get? s.heap.objs.size = some { cls := .type "list", data := .seq #[] } := Heap.get?_push_size _ rfl
  have hz : (s.heap.push { cls := .type "list", data := .seq #[] }).objs.size = s.heap.objs.size + 1 := Heap.size_push ..
  have nI : s.heap.objs.size ≠ I := Nat.ne_of_gt x.lt
  have nT : T ≠ s.heap.objs.size := Nat.ne_of_lt (Heap.lt_size hT)
  refine ⟨⟨_, hS, rfl⟩, F.args_list_init_2 _ _, ?_⟩
  show wpAny _ A.in1.in1 (do let old ← Builtin.List.listItems (.ref s.heap.objs.size); Builtin.List.listUpdate (.ref s.heap.objs.size) (fun _ => #[]); letGo old.toList.reverse; Builtin.List.listExtendWith (.ref s.heap.objs.size) (.ref I) .none) _ _ _
  refine wpAny_bind ?_
  unfold Builtin.List.listItems
  refine wpAny_bind (wpAny_seqItems hS rfl (wpAny_pure ?_))
  show wpAny _ A.in1.in1 (updateSeq s.heap.objs.size (fun _ => #[]) >>= fun _ => letGo (#[] : Array Value).toList.reverse >>= fun _ => Builtin.List.listExtendWith (.ref s.heap.objs.size) (.ref I) .none) _ _ _
  refine wpAny_bind (wpAny_updateSeq hS rfl ?_)
  have hS₂ := Heap.get?_update_self (Obj.mapSeq (fun _ => (#[] : Array Value))) hS rfl
  have oth : ∀ b o, b ≠ s.heap.objs.size → s.heap.get? b = some o → ((s.heap.push { cls := .type "list", data := .seq #[] }).update s.heap.objs.size (Obj.mapSeq (fun _ => (#[] : Array Value)))).get? b = some o :=
    fun b o hb e => (Heap.get?_update_other _ _ (Ne.symm hb)).trans (Heap.get?_push_of_some _ e)
  have hz2 : ((s.heap.push { cls := .type "list", data := .seq #[] }).update s.heap.objs.size (Obj.mapSeq (fun _ => (#[] : Array Value)))).objs.size = s.heap.objs.size + 1 := by rw [Heap.size_update, hz]
  refine wpAny_bind (wpAny_letGo ?_)
  refine extend_c (A := A.in1) (s := { s with heap := (s.heap.push { cls := .type "list", data := .seq #[] }).update s.heap.objs.size (Obj.mapSeq (fun _ => (#[] : Array Value))) }) hh nI nT hTI .none _ hall hr (x.at' fun o e => oth I o (Ne.symm nI) e) (oth T _ nT hT) hS₂ fun h' tk acc c as a1 a2 a3 a4 => ⟨rfl, ?_⟩
  rw [show ({ s with heap := (s.heap.push { cls := .type "list", data := .seq #[] }).update s.heap.objs.size (Obj.mapSeq (fun _ => (#[] : Array Value))) } : Shared).heap.objs.size = s.heap.objs.size + 1 from hz2] at a3
  exact hQ h' tk acc c as (fun b o hb e => a1 b o (Nat.ne_of_lt (Heap.lt_size e)) hb (oth b o (Nat.ne_of_lt (Heap.lt_size e)) e)) a2 a3 a4
end
end Cb

set_option Elab.async false
set_option linter.all false
set_option maxRecDepth 100000
set_option maxHeartbeats 2000000
namespace Cb
open PySem PySem.Spec PyProof.Rows L2
/-- the rows of r places of a pool, ascending -/
def combsOf : List Nat → Nat → List (List Nat)
  | _, 0 => [[]]
  | [], _ + 1 => []
  | x :: xs, r + 1 => (combsOf xs r).map (x :: ·) ++ combsOf xs (r + 1)
def combs (n r : Nat) : List (List Nat) := combsOf (List.range n) r
def seqB (n : Nat) : List Nat → List (List Nat) → Bool
  | ix, [] => nxt n ix == none
  | ix, iy :: rest => nxt n ix == some iy && seqB n iy rest
theorem seq_of : ∀ {n : Nat} {rest : List (List Nat)} {ix : List Nat}, seqB n ix rest = true → Seq n ix rest
  | n, [], ix, h => .stop (by simpa [seqB] using h)
  | n, iy :: rest, ix, h => by
    unfold seqB at h
    rw [Bool.and_eq_true] at h
    exact .step (by simpa using h.1) (seq_of h.2)
def combsB (n r : Nat) : Bool := match combs n r with
  | [] => false
  | ix :: rest => ix == List.range r && seqB n ix rest && decide ((ix :: rest).length ≤ 128) && (ix :: rest).all fun l => decide (l.length ≤ 7)
theorem combs_all : ((List.range 8).all fun n => (List.range (n + 1)).all fun r => combsB n r) = true := by decide +kernel
theorem combs_ok {n r : Nat} (hr : r ≤ n) (hn : n ≤ 7) : ∃ rest, combs n r = List.range r :: rest ∧ Seq n (List.range r) rest ∧ (combs n r).length ≤ 128 ∧ ∀ l ∈ combs n r, l.length ≤ 7 := by
  have h1 := List.all_eq_true.mp combs_all n (List.mem_range.mpr (by omega))
  have h2 := List.all_eq_true.mp h1 r (List.mem_range.mpr (by omega))
  unfold combsB at h2
  cases e : combs n r with
  | nil => rw [e] at h2; cases h2
  | cons ix rest =>
    rw [e] at h2
    dsimp only at h2
    rw [Bool.and_eq_true, Bool.and_eq_true, Bool.and_eq_true] at h2
    obtain ⟨⟨⟨a1, a2⟩, a3⟩, a4⟩ := h2
    have e1 : ix = List.range r := by simpa using a1
    subst e1
    exact ⟨rest, rfl, seq_of a2, of_decide_eq_true a3, fun l hl => of_decide_eq_true (List.all_eq_true.mp a4 l hl)⟩
theorem combsOf_sub : ∀ {pool : List Nat} {r : Nat} {l : List Nat}, l ∈ combsOf pool r ↔ l.Sublist pool ∧ l.length = r
  | pool, 0, l => by
    have e : combsOf pool 0 = [[]] := by cases pool <;> rfl
    rw [e]
    constructor
    · intro h
      rw [List.mem_singleton.mp h]
      exact ⟨List.nil_sublist _, rfl⟩
    · intro h
      rw [List.eq_nil_of_length_eq_zero h.2]
      exact List.mem_singleton.mpr rfl
  | [], r + 1, l => by
    show l ∈ ([] : List (List Nat)) ↔ _
    constructor
    · intro h; cases h
    · intro h
      have := List.sublist_nil.mp h.1
      subst this
      cases h.2
  | x :: xs, r + 1, l => by
    show l ∈ (combsOf xs r).map (x :: ·) ++ combsOf xs (r + 1) ↔ _
    rw [List.mem_append, List.mem_map, combsOf_sub (pool := xs) (r := r + 1)]
    constructor
    · rintro (⟨m, hm, rfl⟩ | h)
      · have q := combsOf_sub.mp hm
        exact ⟨q.1.cons_cons x, by rw [List.length_cons, q.2]⟩
      · exact ⟨h.1.cons x, h.2⟩
    · rintro ⟨h, hl⟩
      cases h with
      | cons _ h => exact .inr ⟨h, hl⟩
      | cons_cons _ h => exact .inl ⟨_, combsOf_sub.mpr ⟨h, by simpa using hl⟩, rfl⟩
/-- a lot as values -/
abbrev lotV (l : List Nat) : List V := l.map fun (i : Nat) => V.int i
/-- rows of places of a pool, by what stands there -/
theorem combsOf_map (f : Nat → Nat) : ∀ (pool : List Nat) (r : Nat), combsOf (pool.map f) r = (combsOf pool r).map (·.map f)
  | pool, 0 => by
    cases pool <;> rfl
  | [], r + 1 => rfl
  | x :: xs, r + 1 => by
    show (combsOf (xs.map f) r).map (f x :: ·) ++ combsOf (xs.map f) (r + 1) = ((combsOf xs r).map (x :: ·) ++ combsOf xs (r + 1)).map (·.map f)
    rw [combsOf_map f xs r, combsOf_map f xs (r + 1), List.map_append, List.map_map, List.map_map]
    rfl
theorem pool_map (pool : List Nat) : (List.range pool.length).map (pool.getD · 0) = pool := by
  apply List.ext_getElem?
  intro i
  rw [List.getElem?_map]
  by_cases h : i < pool.length
  · rw [List.getElem?_range h, List.getElem?_eq_getElem h]
    simp [List.getD_eq_getElem?_getD, List.getElem?_eq_getElem h]
  · rw [List.getElem?_eq_none (by rw [List.length_range]; omega), List.getElem?_eq_none (by omega)]
    rfl
theorem combsOf_pool (pool : List Nat) (r : Nat) : combsOf pool r = (combs pool.length r).map (·.map (pool.getD · 0)) := by
  unfold combs
  rw [← combsOf_map, pool_map]
theorem paired_map_right {α β γ : Type} {F : α → γ → Prop} (f : β → γ) : ∀ {as : List α} {bs : List β}, Paired (fun a b => F a (f b)) as bs → Paired F as (bs.map f)
  | _, _, .nil => .nil
  | _, _, .cons r t => .cons r (paired_map_right f t)
theorem picked_vals {pool : List Nat} {acc : List Value} (hi : Vals (lotV pool) acc) : ∀ {l : List Nat}, (∀ i ∈ l, i < pool.length) → Vals (lotV (l.map (pool.getD · 0))) (l.map fun i => acc.toArray.getD i .none)
  | [], _ => .nil
  | i :: l, h => by
    have hip : i < pool.length := h i List.mem_cons_self
    refine Paired.cons ?_ (picked_vals hi fun j hj => h j (List.mem_cons_of_mem _ hj))
    have e1 : (lotV pool)[i]? = some (.int (pool[i] : Nat)) := by rw [List.getElem?_map, List.getElem?_eq_getElem hip]; rfl
    obtain ⟨v, hv, rv⟩ := LiI.paired_get hi e1
    have e2 : acc.toArray.getD i .none = v := by
      rw [Array.getD_eq_getD_getElem?, List.getElem?_toArray, hv]
      rfl
    have e3 : pool.getD i 0 = pool[i] := by rw [List.getD_eq_getElem?_getD, List.getElem?_eq_getElem hip]; rfl
    show RelV (V.int ((pool.getD i 0 : Nat) : Int)) (acc.toArray.getD i .none)
    rw [e2, e3]
    exact rv
theorem mem_lt_of_sub {n : Nat} {l : List Nat} (h : l.Sublist (List.range n)) : ∀ i ∈ l, i < n := fun i hi => List.mem_range.mp (h.subset hi)
/-- lots tracked at their addresses -/
def putL : Hp → List Addr → List (List Nat) → Hp
  | H, a :: as, l :: ls => putL (upd H a (.tup (lotV l))) as ls
  | H, _, _ => H
theorem putL_off {b : Addr} : ∀ (as : List Addr) (ls : List (List Nat)) (H : Hp), b ∉ as → putL H as ls b = H b
  | [], _, _, _ => rfl
  | _ :: _, [], _, _ => rfl
  | a :: as, l :: ls, H, h => by
    show putL (upd H a (.tup (lotV l))) as ls b = H b
    rw [putL_off as ls _ (fun z => h (List.mem_cons_of_mem _ z)), upd_ne (fun z => h (by rw [z]; exact List.mem_cons_self))]
theorem putL_at : ∀ (as : List Addr) (ls : List (List Nat)) (H : Hp), as.length = ls.length → as.Nodup → Paired (fun (t : Addr) (l : List Nat) => putL H as ls t = some (.tup (lotV l))) as ls
  | [], [], _, _, _ => .nil
  | [], _ :: _, _, h, _ => by cases h
  | _ :: _, [], _, h, _ => by cases h
  | a :: as, l :: ls, H, h, hn => by
    have hn' := List.nodup_cons.mp hn
    refine .cons ?_ (putL_at as ls (upd H a (.tup (lotV l))) (Nat.succ.inj h) hn'.2)
    show putL (upd H a (.tup (lotV l))) as ls a = some (.tup (lotV l))
    rw [putL_off as ls _ hn'.1, upd_same]
def tListComb (K : PySem.W.Frag) (ta tb : TE) : TE := fun σ H Q => ta σ H fun x H1 => tb σ H1 fun y H2 => ∃ (R : Addr) (pool : List Nat) (r : Nat), x = .ref R ∧ y = .int r ∧ H2 R = some (.lst (lotV pool)) ∧ r ≤ pool.length ∧ pool.length ≤ 7 ∧
  ∀ (H' : Hp) (p : Addr) (ts : List Addr), Same H2 H' → H2 p = none → (∀ t ∈ ts, H2 t = none) → p ∉ ts → H' p = some (.lst (ts.map V.ref)) → Paired (fun (t : Addr) (l : List Nat) => H' t = some (.tup (lotV l))) ts (combsOf pool r) → Q (.ref p) H'
section
variable {X : Cx} {a b : Expr} {ta tb : TE} {p0 p1 p2 pr pos : Pos}
theorem combs_laid {pins : List (Addr × Obj)} {σ : L2.St} {H : Hp} {s : Shared} {h' : Heap} {tk : Nat} {its : List Value} {acc : Array Value} {c r : Nat} {pool : List Nat} {as : List Addr} (I : Inv X pins σ H s) (hr : r ≤ pool.length) (hn : pool.length ≤ 7) (hi : Vals (lotV pool) its) (p : Addr) (hp : s.heap.objs.size ≤ p)
    (hk : ∀ b o, s.heap.get? b = some o → h'.get? b = some o) (hS : h'.get? p = some (lstObj acc c)) (hM : Made its.toArray (p + 1) h' as (combs pool.length r)) (hacc : acc.toList = as.map Value.ref) :
    ∃ H' : Hp, Same H H' ∧ H p = none ∧ (∀ t ∈ as, H t = none) ∧ p ∉ as ∧ H' p = some (.lst (as.map V.ref)) ∧ Paired (fun (t : Addr) (l : List Nat) => H' t = some (.tup (lotV l))) as (combsOf pool r) ∧ Inv X pins σ H' { s with heap := h', toks := tk } := by
  obtain ⟨rest, _, _, hlen, hrow⟩ := combs_ok hr hn
  have lk : as.length = (combs pool.length r).length := Paired.length hM.pairs
  have lkp : as.length = (combsOf pool r).length := by rw [combsOf_pool, List.length_map]; exact lk
  have hSn : p ∉ as := fun z => Nat.lt_irrefl _ (hM.above _ z)
  have nd : as.Nodup := List.Pairwise.imp (fun {a b} (h : a < b) => Nat.ne_of_lt h) hM.rise
  have new : ∀ t ∈ as, H t = none := fun t ht => I.hok.fresh (Nat.le_trans hp (Nat.le_of_succ_le (hM.above t ht)))
  have newS : H p = none := I.hok.fresh hp
  have atP := putL_at as (combsOf pool r) (upd H p (.lst (as.map V.ref))) lkp nd
  have off : ∀ b, b ∉ as → b ≠ p → putL (upd H p (.lst (as.map V.ref))) as (combsOf pool r) b = H b := fun b h1 h2 => by rw [putL_off as _ _ h1, upd_ne h2]
  have low : ∀ b o, s.heap.get? b = some o → b ∉ as ∧ b ≠ p := fun b o e => by
    have hl := Nat.lt_of_lt_of_le (Heap.lt_size e) hp
    exact ⟨fun z => Nat.lt_irrefl _ (Nat.lt_trans hl (hM.above b z)), Nat.ne_of_lt hl⟩
  have kp : ∀ b u, H b = some u → (putL (upd H p (.lst (as.map V.ref))) as (combsOf pool r)) b = some u := fun b u e => by
    rw [off b (fun z => by rw [new b z] at e; cases e) (fun z => by rw [z, newS] at e; cases e)]
    exact e
  have eS : putL (upd H p (.lst (as.map V.ref))) as (combsOf pool r) p = some (.lst (as.map V.ref)) := by rw [putL_off as _ _ hSn, upd_same]
  have hit : its.length = pool.length := by rw [← Paired.length hi, List.length_map]
  refine ⟨putL (upd H p (.lst (as.map V.ref))) as (combsOf pool r), kp, newS, new, hSn, eS, atP, ?_⟩
  refine I.call' (ch := []) rfl ⟨fun b o q _ _ _ => hk b o q, fun b o q _ _ _ => ⟨o.slots, hk b o q⟩, fun b o q n _ => ?_, fun b o q _ => ⟨o, hk b o q⟩, fun b xs q => kp b _ q, fun b o u q => kp b _ q, fun b ps q => ⟨#[], by rw [kp b _ q]; simp⟩⟩ (fun b u q => ?_) I.bare fun b z => by simp at z
  · obtain ⟨z1, z2⟩ := low b o q
    rw [off b z1 z2]
    exact n
  · by_cases hb : b ∈ as
    · obtain ⟨j, l, e1, e2, e3⟩ := LiI.paired_ix atP hb
      rw [e3] at q
      cases q
      obtain ⟨l', g1, g2⟩ := LiI.paired_get hM.pairs e1
      rw [combsOf_pool, List.getElem?_map, g1] at e2
      have e2' := Option.some.inj e2
      subst e2'
      have hm := List.mem_of_getElem? g1
      have hsub := (combsOf_sub.mp hm).1
      refine ⟨by rw [List.length_map, List.length_map]; have := hrow l' hm; rw [sizeLine_eq]; omega, (l'.map fun i => its.toArray.getD i .none), picked_vals hi (mem_lt_of_sub hsub), ?_⟩
      exact ⟨_, g2, rfl, _, rfl⟩
    · by_cases hb2 : b = p
      · rw [hb2] at q ⊢
        rw [eS] at q
        cases q
        refine ⟨by rw [List.length_map, sizeLine_eq]; omega, acc.toList, c, by rw [hacc]; exact LiI.vals_refs as, ?_⟩
        rw [Array.toArray_toList]
        exact hS
      · rw [off b hb hb2] at q
        exact (I.hok b u q).stay (fun d v _ y => hk d v y) (fun d y => kp d _ y) fun d xs y => kp d _ y
/-- list(combinations(l, b)), l a list -/
theorem pe_listComb (hc : X.calm = true) (ha : PE X a ta) (hb : PE X b tb) (hgl : Gl X "list") (hml : X.mg "list" = none) (hgc : Gl X "combinations") (hmc : X.mg "combinations" = some (.type TC))
    (n1 : starEach [.Call (.Name "combinations" p1) [a, b] [] p0] X.env = (false, eval (.Call (.Name "combinations" p1) [a, b] [] p0) X.env) :: starEach [] X.env := by rfl)
    (n2 : starEach [a, b] X.env = (false, eval a X.env) :: starEach [b] X.env := by rfl)
    (n4 : starEach [b] X.env = (false, eval b X.env) :: starEach [] X.env := by rfl) (n5 : (backTo p0 (starEach [b] X.env)).any (·.1) = false := by rfl) {pl : Pos} :
    PE X (.Call (.Name "list" pl) [.Call (.Name "combinations" p1) [a, b] [] p0] [] pos) (tListComb X.K ta tb) := by
  refine ⟨fun pins s σ H Q I h => ?_⟩
  refine Call_ (ld_blt I hgl hml boot_list (PyProof.Rows.callWith_type1 (args_cons ?_ n1) n1))
  refine Call_ (ld_glob I hgc hmc (PyProof.Rows.callWith_type1 (args_cons ?_ n2) n2 n5))
  refine thn (ha.run pins s σ H _ I h) fun v s1 ⟨x, H1, I1, r, q⟩ => ?_
  refine one_arg hb I1 q (fun v2 s2 y H2 I3 r2 q => ?_) n4
  obtain ⟨R, pool, r', rfl, rfl, hRt, hr, hn, q⟩ := q
  obtain ⟨t', rfl⟩ := r2
  cases r
  obtain ⟨hle, its, nn, hi, hR2⟩ := I3.hok _ _ hRt
  have hit : its.length = pool.length := by rw [← Paired.length hi, List.length_map]
  refine call_c (by rw [hit]; exact hr) (by rw [hit]; exact hn) ⟨_, hR2, rfl, _, rfl⟩ fun h1 hk => ?_
  refine args_nil ?_
  obtain ⟨rest, hcs, hsq, hlen, hrow⟩ := combs_ok hr hn
  have hz1 : (h1.push (tupObj its.toArray)).objs.size = h1.objs.size + 1 := Heap.size_push ..
  have gT : ((h1.push (tupObj its.toArray)).push (cObj (.ref h1.objs.size) .none 0 (List.range r'))).get? h1.objs.size = some (tupObj its.toArray) := Heap.get?_push_of_some _ (Heap.get?_push_size _ rfl)
  have gC : ((h1.push (tupObj its.toArray)).push (cObj (.ref h1.objs.size) .none 0 (List.range r'))).get? (h1.push (tupObj its.toArray)).objs.size = some (cObj (.ref h1.objs.size) .none 0 (List.range r')) := Heap.get?_push_size _ rfl
  have hz2 : ((h1.push (tupObj its.toArray)).push (cObj (.ref h1.objs.size) .none 0 (List.range r'))).objs.size = h1.objs.size + 2 := by rw [Heap.size_push, hz1]
  have hac : its.toArray.size = pool.length := by rw [List.size_toArray, hit]
  have I4 : Inv X pins σ H2 { s2 with heap := h1 } := I3.kept hk
  refine list_c (s := { s2 with heap := (h1.push (tupObj its.toArray)).push (cObj (.ref h1.objs.size) .none 0 (List.range r')) }) (items := its.toArray) (T := h1.objs.size) (all := combs pool.length r') (I3.ok.hd hc) (by rw [hz1]; exact Nat.ne_of_lt (Nat.lt_succ_self _)) (by rw [sizeLine_eq]; omega) hrow
    ⟨_, _, .inl ⟨gC, rest, hcs, by rw [hac]; exact hsq⟩⟩ gT fun h2 tk2 acc2 c as b1 b2 b3 b4 => ?_
  dsimp only at b1 b2 b3 ⊢
  have kk : ∀ b o, h1.get? b = some o → h2.get? b = some o := fun b o e => by
    have hl := Heap.lt_size e
    exact b1 b o (by rw [hz1]; exact Nat.ne_of_lt (Nat.lt_succ_of_lt hl)) (Heap.get?_push_of_some _ (Heap.get?_push_of_some _ e))
  obtain ⟨H', k1, k2, k3, k4, k5, k6, J⟩ := combs_laid (tk := tk2) I4 hr hn hi ((h1.push (tupObj its.toArray)).push (cObj (.ref h1.objs.size) .none 0 (List.range r'))).objs.size (by show h1.objs.size ≤ _; rw [hz2]; exact Nat.le_add_right _ _) kk b2 b3 b4
  exact ⟨.ref _, H', J, rfl, q H' _ as k1 k2 k3 k4 k5 k6⟩
end
end Cb

set_option Elab.async false
set_option linter.all false
set_option maxRecDepth 100000
set_option maxHeartbeats 2000000
/-! enumerate of a tuple, walked -/
namespace En
open PySem PySem.Spec PyProof.Rows L2
abbrev tIt (t : Addr) : Obj := { cls := .type "tuple_iterator", data := .fields #[.ref t, .int 0 0] }
abbrev eIt (it : Addr) : Obj := { cls := .type "enumerate", data := .fields #[.none, .bool false, .ref it, rawInt 0, .none, .none] }
theorem new_t (t : Addr) (items : Array Value) :
    Meets (Builtin.«enumerate.__new__» ⟨[.type "enumerate", .ref t], []⟩) (fun _ R s => s.heap.IsTuple t items ∧
      R (.ok (.ret (.ref (s.heap.push (tIt t)).objs.size))) { s with heap := (s.heap.push (tIt t)).push (eIt s.heap.objs.size) }) :=
  .of_wp fun prog w A R s h => by
    obtain ⟨hp, g, d, tk, os⟩ := s
    obtain ⟨h1, h⟩ := h
    have hsub := sub_enumerate
    have q1 : ∀ {A' : Around} {E : Value → Shared → Prop} {Q : Value → Shared → Prop}, Q (.ref hp.objs.size) ⟨hp.push (tIt t), g, d, tk, os⟩ → wpAny (model prog w) A' (pyIter (.ref t)) Q E ⟨hp, g, d, tk, os⟩ :=
      fun q => wpAny_pyIter_tuple (s := ⟨hp, g, d, tk, os⟩) h1 q
    wp_walk using q1
    refine wpAny_stack_any fun st => wpAny_pure ?_
    split
    · rename_i c _ _ _ _ _
      cases (c == Value.type "enumerate")
      · wp_walk using q1
        exact ⟨_, rfl, h⟩
      · wp_walk using q1
        exact ⟨_, rfl, h⟩
    · wp_walk using q1
      exact ⟨_, rfl, h⟩
section
variable {prog : Program} {w : World} {A : Around} {E : Value → Shared → Prop} {s : Shared}
theorem call_enum_tup {t : Addr} {items : Array Value} {Q : Value → Shared → Prop} (hT : s.heap.IsTuple t items)
    (h : ∀ h', IsEnum h' (s.heap.objs.size + 1) s.heap.objs.size 0 .none → h'.IsTupleIter s.heap.objs.size t 0 → (∀ b o, s.heap.get? b = some o → h'.get? b = some o) → Q (.ref (s.heap.objs.size + 1)) { s with heap := h' }) :
    wpAny (model prog w) A (call (.type "enumerate") [.ref t]) Q E s := by
  refine callType_new F.called_enumerate (by decide) (F.typeCall_enumerate_1 _) (F.newCall_enumerate_1 _) (fun obj => F.args_object_init_2 obj _) F.entry_enumerate_new (new_t t items) ⟨hT, ?_⟩
  have hz : (s.heap.push (tIt t)).objs.size = s.heap.objs.size + 1 := Heap.size_push ..
  show _ ∧ _
  rw [hz]
  have he : IsEnum ((s.heap.push (tIt t)).push (eIt s.heap.objs.size)) (s.heap.objs.size + 1) s.heap.objs.size 0 .none := by
    have z := Heap.get?_push_size (s.heap.push (tIt t)) (o := eIt s.heap.objs.size) rfl
    rw [hz] at z
    exact z
  exact ⟨⟨_, he, rfl⟩, h _ he ⟨_, Heap.get?_push_of_some _ (Heap.get?_push_size _ rfl), rfl, rfl⟩ fun b o x => Heap.get?_push_of_some _ (Heap.get?_push_of_some _ x)⟩
end
/-- the tuple at a as it stands at each turn, each item in a new pair -/
def IteT (K : PySem.W.Frag) (a : Addr) : It :=
  ⟨fun i H => ∃ (xs : List V) (x : V), SqT K H a xs ∧ xs[i]? = some x, fun i H v H' => ∃ T x, v = .ref T ∧ H T = none ∧ H' = upd H T (.tup [.int (i : Nat), x]) ∧ ∀ xs, SqT K H a xs → xs[i]? = some x, fun i H => ∃ xs : List V, SqT K H a xs ∧ xs.length = i⟩
theorem turn_enumT {P : Program} {w : World} {K : PySem.W.Frag} {elts : List Expr} {kk : Nat} {tpos : Pos} (a e it : Addr) :
    Turn P w K (.Tuple elts kk tpos) (IteT K a) [e, it] e (fun i h => (∃ old, IsEnum h e it ((i : Nat) : Int) old) ∧ h.IsTupleIter it a i ∧ e ≠ it) where
  mem := by simp
  obj := fun i h st b hb => by
    obtain ⟨⟨old, he⟩, ⟨o, ho, hc, hd⟩, _⟩ := st
    have e' : b = e ∨ b = it := by simpa using hb
    rcases e' with z | z
    · rw [z]; exact ⟨_, he, fun v q => nomatch q⟩
    · rw [z]; exact ⟨o, ho, fun v q => by rw [hd] at q; cases q⟩
  keep := fun i h h' st k => let ⟨⟨old, he⟩, hi, hne⟩ := st; ⟨⟨old, k e (by simp) _ he⟩, hi.at fun o q => k it (by simp) o q, hne⟩
  item := by
    intro X hP hw hK hc i pins s σ H E I hf st hg
    subst hP hw hK
    obtain ⟨⟨old, he⟩, hit, hne⟩ := st
    obtain ⟨xs, x, hq, hx⟩ := hg
    obtain ⟨its, rv, p, hz⟩ := I.tuple hq
    obtain ⟨u, hu, ru⟩ := rv.get hx
    have hel : e < s.heap.objs.size := Heap.lt_size he
    have hil : it < s.heap.objs.size := by obtain ⟨_, q, _⟩ := hit; exact Heap.lt_size q
    have hnt : a ≠ it := by
      rintro rfl
      obtain ⟨_, q, c1, _⟩ := hit
      obtain ⟨_, q', c2, _⟩ := p
      rw [q] at q'
      cases q'
      rw [c1] at c2
      exact absurd c2 (by decide)
    have hea : e ≠ a := by
      rintro rfl
      obtain ⟨_, q', c2, _⟩ := p
      rw [he] at q'
      cases q'
      exact absurd (show Value.type "enumerate" = Value.type "tuple" from c2) (by decide)
    have hui : its.toArray[i]? = some u := by simpa using hu
    have hlt : i < its.toArray.size := by
      rcases Nat.lt_or_ge i its.toArray.size with z | z
      · exact z
      · rw [Array.getElem?_eq_none z] at hui; cases hui
    refine wpAny_pyNext_enum_itemD (Draws.tuple (A := X.A.in1) (I.ok.hd hc) it a hnt its.toArray) he ⟨hit, p⟩ hlt hne (by simp [hne, hea]) fun u' h' tk hpu ho hst' hT hsz hk => ?_
    have eu : u' = u := Option.some.inj (hpu.symm.trans hui)
    subst eu
    refine ⟨_, rfl, wpAny_letOwnedTupleGo_enum (s := { s with heap := h', toks := tk + 1 }) ho fun h'' he' sb => ?_⟩
    have hT2 : h''.get? s.heap.objs.size = some { cls := .type "tuple", data := .seq #[.int i tk, u'] } := (sb.2 _ (Nat.ne_of_gt hel)).trans hT
    have new : ObjOk X.prog X.w (upd H s.heap.objs.size (.tup [.int (i : Nat), x])) h'' s.heap.objs.size (.tup [.int (i : Nat), x]) :=
      ⟨by show 2 ≤ sizeLine; decide, [.int i tk, u'], .cons ⟨_, rfl⟩ (.cons ru .nil), ⟨_, hT2, rfl, _, rfl⟩⟩
    have I1 : Inv X pins σ (upd H s.heap.objs.size (.tup [.int (i : Nat), x])) { s with heap := h'', toks := tk + 1 } :=
      I.turnedNew (ch := [e, it]) (fun b ob hb q => (sb.2 b (fun z => hb (by simp [z]))).trans (hk b ob (fun z => hb (by simp [z])) (fun z => hb (by simp [z])) q)) hf (Nat.le_refl _) new
    refine ⟨.ref s.heap.objs.size, _, I1, rfl, ⟨_, x, rfl, I.hok.fresh (Nat.le_refl _), rfl, fun ys hy => by rw [I.tuple_inj hy hq]; exact hx⟩, ⟨⟨u', ?_⟩, hst'.1.at fun o q => (sb.2 it (Ne.symm hne)).trans q, hne⟩, fun b hb => ?_⟩
    · have e1 : ((i + 1 : Nat) : Int) = (i : Int) + 1 := by omega
      rw [e1]; exact he'
    · have hb' : b < s.heap.objs.size := by
        have e' : b = e ∨ b = it := by simpa using hb
        rcases e' with z | z
        · rw [z]; exact hel
        · rw [z]; exact hil
      rw [upd_ne (Nat.ne_of_lt hb')]
      exact (hf b hb).1
  done := by
    intro X hP hw hK hc i pins s σ H E I hf st hg
    subst hP hw hK
    obtain ⟨⟨old, he⟩, hit, hne⟩ := st
    obtain ⟨xs, hq, hx⟩ := hg
    obtain ⟨its, rv, p, hz⟩ := I.tuple hq
    obtain ⟨f0, f1, f2, f3, f4, f5⟩ := hf it (by simp)
    have hl := rv.length
    have hnt : a ≠ it := by
      rintro rfl
      obtain ⟨_, q, c1, _⟩ := hit
      obtain ⟨_, q', c2, _⟩ := p
      rw [q] at q'
      cases q'
      rw [c1] at c2
      exact absurd c2 (by decide)
    have hi : i = its.toArray.size := by rw [List.size_toArray]; omega
    subst hi
    exact wpAny_pyNext_enum_endD (Draws.tuple (A := X.A.in1) (I.ok.hd hc) it a hnt its.toArray) he ⟨hit, p⟩ fun h' eb => ⟨rfl, I.turned (t' := s.toks) (fun b o hb q => eb b o hb q) f0 f1 f3 f4 f5⟩
  self := fun A i s Q E st h => let ⟨⟨_, he⟩, _⟩ := st; wpAny_pyIter_enum he h
def iEnumT (K : PySem.W.Frag) (ta : TA) : TI := fun σ H R => ta σ H fun vs H1 => ∃ a xs, vs = [.ref a] ∧ SqT K H1 a xs ∧ R (IteT K a) H1
theorem pi_enumT {X : Cx} {e : Expr} {ta : TA} {p pos tpos : Pos} {elts : List Expr} {kk : Nat} (hg : Gl X "enumerate") (hm : X.mg "enumerate" = none) (ha : PA X [e] ta) (hs : starEach [e] X.env = [(false, eval e X.env)] := by rfl) :
    PI X (.Tuple elts kk tpos) (.Call (.Name "enumerate" p) [e] [] pos) (iEnumT X.K ta) := by
  refine ⟨fun pins s σ H R I h => ?_⟩
  refine Call_ (ld_blt I hg hm boot_enumerate (PyProof.Rows.callWith_type1 (thn (ha.run pos pins s σ H _ I h) fun us s1 ⟨vs, H1, I1, r1, q1⟩ => ?_) hs rfl))
  obtain ⟨a, xs, ex, hq, q⟩ := q1
  subst ex
  cases r1 with
  | cons r rr =>
    cases rr
    cases r
    obtain ⟨its, rv, p', hz⟩ := I1.tuple hq
    refine call_enum_tup p' fun h' he hit hk => wpAny_pyIter_enum he ?_
    have I2 : Inv X pins σ H1 { s1 with heap := h' } := I1.kept (t' := s1.toks) hk
    refine ⟨s1.heap.objs.size + 1, [s1.heap.objs.size + 1, s1.heap.objs.size], _, _, H1, rfl, I2, turn_enumT a (s1.heap.objs.size + 1) s1.heap.objs.size, ⟨⟨.none, he⟩, hit, Nat.succ_ne_self _⟩, fun b hb => ?_, q⟩
    have e' : b = s1.heap.objs.size + 1 ∨ b = s1.heap.objs.size := by simpa using hb
    have hle : s1.heap.objs.size ≤ b := by
      rcases e' with z | z
      · rw [z]; exact Nat.le_add_right _ _
      · rw [z]; exact Nat.le_refl _
    exact I1.fpOk hle (I1.hok.fresh hle)
/-- a loop over enumerate(t) with a pair as target, by what holds between two turns -/
theorem for_enumT {K : PySem.W.Frag} {a : Addr} {xs : List V} {g : TG} {tb : TS} {D : Ends} {σ : L2.St} {H : Hp} (Pv : Nat → L2.St → Hp → Prop) (h0 : Pv 0 σ H) (hl : ∀ i σ H, i ≤ xs.length → Pv i σ H → SqT K H a xs)
    (hs : ∀ i x T σ H, xs[i]? = some x → Pv i σ H → H T = none → g (.ref T) σ (upd H T (.tup [.int (i : Nat), x])) fun σ2 H2 => tb { D with nx := Pv (i + 1), ct := Pv (i + 1), bk := D.nx } σ2 H2) (hd : ∀ σ H, Pv xs.length σ H → D.nx σ H) :
    ∃ W : Nat → Nat → L2.St → Hp → Prop, (∃ m, W 0 m σ H) ∧ ∀ i m σ H, W i m σ H →
      ((IteT K a).stop i H ∧ D.nx σ H) ∨ ((IteT K a).go i H ∧ ∃ N : L2.St → Hp → Prop, (∀ σ' H', N σ' H' → ∃ m', m' < m ∧ W (i + 1) m' σ' H') ∧ ∀ x H', (IteT K a).yld i H x H' → g x σ H' fun σ2 H2 => tb { D with nx := N, ct := N, bk := D.nx } σ2 H2) := by
  refine ⟨fun i m σ H => m = xs.length - i ∧ i ≤ xs.length ∧ Pv i σ H, ⟨xs.length, rfl, Nat.zero_le _, h0⟩, ?_⟩
  rintro i m σ H ⟨rfl, hi, p⟩
  have q := hl i σ H hi p
  by_cases hlt : i < xs.length
  · refine .inr ⟨⟨xs, xs[i], q, List.getElem?_eq_getElem hlt⟩, Pv (i + 1), fun σ' H' p' => ⟨xs.length - (i + 1), by omega, rfl, hlt, p'⟩, fun x H' y => ?_⟩
    obtain ⟨T, x, rfl, hT, rfl, hx⟩ := y
    exact hs i x T σ H (hx xs q) p hT
  · have e : i = xs.length := by omega
    subst e
    exact .inl ⟨⟨xs, q, rfl⟩, hd σ H p⟩
end En

set_option Elab.async false
set_option linter.all false
set_option maxRecDepth 100000
set_option maxHeartbeats 2000000
/-! what all the defs lean on -/
namespace N
open Cb (lotV combs combsOf combsOf_sub)
open PySem PySem.Spec PyProof.Rows L2
structure Def (K : PySem.W.Frag) (mg : Str → Option Value) (x : String) (st : Stmt) (ps : List Str) where
  f : Addr
  fd : FuncData
  F : Fun K x x st f fd
  g : mg x = some (.ref f)
  b : Binds K fd ps []
theorem Same.tup {K : PySem.W.Frag} {H H' : Hp} {a : Addr} {xs : List V} (e : Same H H') (h : SqT K H a xs) : SqT K H' a xs := by
  rcases h with (h | ⟨o, h⟩) | h
  · exact .inl (.inl (e _ _ h))
  · exact .inl (.inr ⟨o, e _ _ h⟩)
  · exact .inr h
theorem same_upd {H : Hp} {p : Addr} {o : HO} (h : H p = none) : Same H (upd H p o) := fun b x e => by
  rw [upd_ne (ne_of_none e h)]
  exact e
theorem SqT.up {K : PySem.W.Frag} {H : Hp} {a : Addr} {xs : List V} (h : H a = some (.tup xs)) : SqT K H a xs := .inl (.inl h)
theorem SqL.up {K : PySem.W.Frag} {H : Hp} {a : Addr} {xs : List V} (h : H a = some (.lst xs)) : SqL K H a xs := .inl (.inl h)
/-- a lot stands at a -/
def LotAt (K : PySem.W.Frag) (H : Hp) (a : Addr) (l : List Nat) : Prop := SqT K H a (lotV l)
theorem LotAt.same {K : PySem.W.Frag} {H H' : Hp} {a : Addr} {l : List Nat} (h : LotAt K H a l) (e : Same H H') : LotAt K H' a l := Same.tup e h
/-- a house stands at a -/
def HouseAt (K : PySem.W.Frag) (H : Hp) (a : Addr) (h : List (List Nat)) : Prop := ∃ rs : List Addr, SqT K H a (rs.map V.ref) ∧ Paired (fun r row => LotAt K H r row) rs h
theorem paired_mono {α β : Type} {F G : α → β → Prop} : ∀ {as : List α} {bs : List β}, Paired F as bs → (∀ a b, F a b → G a b) → Paired G as bs
  | _, _, .nil, _ => .nil
  | _, _, .cons r t, f => .cons (f _ _ r) (paired_mono t f)
theorem HouseAt.same {K : PySem.W.Frag} {H H' : Hp} {a : Addr} {h : List (List Nat)} (x : HouseAt K H a h) (e : Same H H') : HouseAt K H' a h := by
  obtain ⟨rs, h1, h2⟩ := x
  exact ⟨rs, Same.tup e h1, paired_mono h2 fun _ _ z => z.same e⟩
/-- a lot of n clerks -/
def LotOk (n : Nat) (l : List Nat) : Prop := l.Sublist (List.range n)
structure HouseOk (h : List (List Nat)) : Prop where
  lo : 1 ≤ h.length
  hi : h.length ≤ 7
  ok : ∀ row ∈ h, row ≠ [] ∧ LotOk h.length row
theorem LotOk.lt {n : Nat} {l : List Nat} (h : LotOk n l) : ∀ i ∈ l, i < n := fun i hi => List.mem_range.mp (h.subset hi)
theorem LotOk.len {n : Nat} {l : List Nat} (h : LotOk n l) : l.length ≤ n := by
  have := h.length_le
  rwa [List.length_range] at this
theorem LotOk.rise {n : Nat} {l : List Nat} (h : LotOk n l) : l.Pairwise (· < ·) := List.Pairwise.sublist h List.pairwise_lt_range
theorem get_lotV {l : List Nat} {i : Nat} {x : V} (h : (lotV l)[i]? = some x) : ∃ k, l[i]? = some k ∧ x = .int (k : Int) := by
  rw [List.getElem?_map] at h
  cases e : l[i]? with
  | none => rw [e] at h; cases h
  | some k => rw [e] at h; exact ⟨k, rfl, (Option.some.inj h).symm⟩
theorem get_refs {as : List Addr} {i : Nat} {x : V} (h : (as.map V.ref)[i]? = some x) : ∃ a, as[i]? = some a ∧ x = .ref a := by
  rw [List.getElem?_map] at h
  cases e : as[i]? with
  | none => rw [e] at h; cases h
  | some k => rw [e] at h; exact ⟨k, rfl, (Option.some.inj h).symm⟩
end N

set_option Elab.async false
set_option linter.all false
set_option maxRecDepth 100000
set_option maxHeartbeats 2000000
/-! more rules: bits of whole numbers, enumerate of a list -/
namespace N
open Cb (lotV combs combsOf combsOf_sub)
open PySem PySem.Spec PyProof.Rows L2
section
variable {X : Cx}
theorem ip_orN : PIp X .BitOr (fun x y H Q => ∃ m n : Nat, x = .int m ∧ y = .int n ∧ Q (.int ((m ||| n : Nat) : Int)) H) := by
  intro pins s σ H x y v u Q I r1 r2 h
  obtain ⟨m, n, e1, e2, q⟩ := h
  subst e1; subst e2
  obtain ⟨t, rfl⟩ := r1
  obtain ⟨t', rfl⟩ := r2
  have e : Builtin.bitOr (m : Int) (n : Int) = ((m ||| n : Nat) : Int) := by
    rw [bitOr_nn (Int.natCast_nonneg _) (Int.natCast_nonneg _), Int.toNat_natCast, Int.toNat_natCast]
  refine ior_int ?_
  rw [e]
  exact ⟨.int ((m ||| n : Nat) : Int), H, I.tok _, ⟨_, rfl⟩, q⟩
theorem op_orN : OpR X (binaryOp .BitOr) (fun x y H Q => ∃ m n : Nat, x = .int m ∧ y = .int n ∧ Q (.int ((m ||| n : Nat) : Int)) H) := by
  intro pins s σ H x y v u Q I r1 r2 h
  obtain ⟨m, n, e1, e2, q⟩ := h
  refine op_or pins s σ H x y v u Q I r1 r2 ⟨m, n, e1, e2, ?_⟩
  show Q (.int (Builtin.bitOr (m : Int) (n : Int))) H
  rw [bitOr_nn (Int.natCast_nonneg _) (Int.natCast_nonneg _), Int.toNat_natCast, Int.toNat_natCast]
  exact q
theorem op_andN : OpR X (binaryOp .BitAnd) (fun x y H Q => ∃ m n : Nat, x = .int m ∧ y = .int n ∧ Q (.int ((m &&& n : Nat) : Int)) H) := by
  intro pins s σ H x y v u Q I r1 r2 h
  obtain ⟨m, n, e1, e2, q⟩ := h
  refine op_and pins s σ H x y v u Q I r1 r2 ⟨m, n, e1, e2, ?_⟩
  show Q (.int (Builtin.bitAnd (m : Int) (n : Int))) H
  rw [show Builtin.bitAnd (m : Int) (n : Int) = ((m &&& n : Nat) : Int) by simp [Builtin.bitAnd]]
  exact q
theorem op_shl1 : OpR X (binaryOp .LShift) (fun x y H Q => ∃ n : Nat, x = .int 1 ∧ y = .int n ∧ n ≤ 1000 ∧ Q (.int ((2 ^ n : Nat) : Int)) H) := by
  intro pins s σ H x y v u Q I r1 r2 h
  obtain ⟨n, e1, e2, hn, q⟩ := h
  refine op_shl pins s σ H x y v u Q I r1 r2 ⟨1, n, e1, e2, ⟨Int.natCast_nonneg _, by omega, by decide⟩, ?_⟩
  show Q (.int (1 * 2 ^ (n : Int).toNat)) H
  rw [Int.toNat_natCast, Int.one_mul]
  have e : ((2 : Int) ^ n) = ((2 ^ n : Nat) : Int) := by rw [Int.natCast_pow]; rfl
  rw [e]
  exact q
end
/-- a loop over enumerate(l), l a list that stands still -/
theorem for_enumL {K : PySem.W.Frag} {a : Addr} {xs : List V} {g : TG} {tb : TS} {D : Ends} {σ : L2.St} {H : Hp} (Pv : Nat → L2.St → Hp → Prop) (h0 : Pv 0 σ H) (hl : ∀ i σ H, i ≤ xs.length → Pv i σ H → SqL K H a xs)
    (hs : ∀ i x T σ H, xs[i]? = some x → Pv i σ H → H T = none → g (.ref T) σ (upd H T (.tup [.int (i : Nat), x])) fun σ2 H2 => tb { D with nx := Pv (i + 1), ct := Pv (i + 1), bk := D.nx } σ2 H2) (hd : ∀ σ H, Pv xs.length σ H → D.nx σ H) :
    ∃ W : Nat → Nat → L2.St → Hp → Prop, (∃ m, W 0 m σ H) ∧ ∀ i m σ H, W i m σ H →
      ((Ite K a).stop i H ∧ D.nx σ H) ∨ ((Ite K a).go i H ∧ ∃ N : L2.St → Hp → Prop, (∀ σ' H', N σ' H' → ∃ m', m' < m ∧ W (i + 1) m' σ' H') ∧ ∀ x H', (Ite K a).yld i H x H' → g x σ H' fun σ2 H2 => tb { D with nx := N, ct := N, bk := D.nx } σ2 H2) := by
  refine ⟨fun i m σ H => m = xs.length - i ∧ i ≤ xs.length ∧ Pv i σ H, ⟨xs.length, rfl, Nat.zero_le _, h0⟩, ?_⟩
  rintro i m σ H ⟨rfl, hi, p⟩
  have q := hl i σ H hi p
  by_cases hlt : i < xs.length
  · refine .inr ⟨⟨xs, xs[i], q, List.getElem?_eq_getElem hlt⟩, Pv (i + 1), fun σ' H' p' => ⟨xs.length - (i + 1), by omega, rfl, hlt, p'⟩, fun x H' y => ?_⟩
    obtain ⟨T, x, rfl, hT, rfl, hx⟩ := y
    exact hs i x T σ H (hx xs q) p hT
  · have e : i = xs.length := by omega
    subst e
    exact .inl ⟨⟨xs, q, Nat.le_refl _⟩, hd σ H p⟩
theorem tt_if {A B : Hp → Prop} {H : Hp} (h : A H) : (fun (b : Bool) (H3 : Hp) => if b = true then A H3 else B H3) true H := by
  show (if true = true then A H else B H)
  rw [if_pos rfl]
  exact h
theorem ff_if {A B : Hp → Prop} {H : Hp} (h : B H) : (fun (b : Bool) (H3 : Hp) => if b = true then A H3 else B H3) false H := by
  show (if false = true then A H else B H)
  rw [if_neg Bool.false_ne_true]
  exact h
/-! ### rules with the written part named, for use within a comprehension -/
theorem c_len (K : PySem.W.Frag) {X : Cx} (hK : X.K = K := by rfl) : CallR X (.builtin "len") (fun xs H Q => ∃ p ys, xs = [.ref p] ∧ (SqL K H p ys ∨ SqT K H p ys) ∧ Q (.int ys.length) H) := by
  subst hK
  exact call_len_seq
theorem x_list (K : PySem.W.Frag) {X : Cx} (hK : X.K = K := by rfl) : IxR X (rIxL K) := by
  subst hK
  exact ix_list
theorem x_tup (K : PySem.W.Frag) {X : Cx} (hK : X.K = K := by rfl) : IxR X (rIxT K) := by
  subst hK
  exact ix_tup
/-! ### masks -/
def maskOf (l : List Nat) : Nat := l.foldl (fun m i => m ||| 2 ^ i) 0
def natsV (ms : List Nat) : List V := ms.map fun (m : Nat) => V.int m
def holdsB (m : Nat) (l : List Nat) : Bool := (m &&& maskOf l) == maskOf l
/-- the clerks from a place on whose sights are all held, above some already found -/
def nextFrom (held : Nat) : Nat → List Nat → Nat → Nat
  | _, [], acc => acc
  | i, s :: ss, acc => nextFrom held (i + 1) ss (if (s &&& held) = s then acc ||| 2 ^ i else acc)
def nextM (ss : List Nat) (held : Nat) : Nat := nextFrom held 0 ss 0
theorem maskOf_take {l : List Nat} {i k : Nat} (h : l[i]? = some k) : maskOf (l.take (i + 1)) = maskOf (l.take i) ||| 2 ^ k := by
  unfold maskOf
  rw [List.take_add_one, h, List.foldl_append]
  rfl
theorem natsV_take {l : List Nat} {i m : Nat} (h : l[i]? = some m) : natsV (l.take (i + 1)) = natsV (l.take i) ++ [V.int m] := by
  unfold natsV
  rw [List.take_add_one, h, List.map_append]
  rfl
/-- the masks of the lots within a lot that may bear coins -/
def coinMasks (lot : List Nat) (c : Nat) : List Nat := (combsOf lot (min c lot.length)).map maskOf
/-- .. by the day of an allowance -/
def cmsOf (lot alw : List Nat) : List (List Nat) := alw.map (coinMasks lot)
end N

set_option Elab.async false
set_option linter.all false
set_option maxRecDepth 100000
set_option maxHeartbeats 2000000
/-! what can be covered: the search by masks -/
namespace N
open Cb (lotV combs combsOf combsOf_sub)
open L2 (nat_nodup_len)
/-- where coins lead from a place: the mask covered, the day of the allowance -/
def nx (ss : List Nat) (n : Nat) (p : Nat × Nat) (cm : Nat) : Nat × Nat := (nextM ss (p.1 ||| cm), (p.2 + 1) % n)
/-- places that come on a day -/
def Rch (ss : List Nat) (cms : List (List Nat)) : Nat → Nat × Nat → Prop
  | 0, p => p = (0, 0)
  | t + 1, p => ∃ c cm, Rch ss cms t c ∧ cm ∈ cms.getD c.2 [] ∧ p = nx ss cms.length c cm
def FD (ss : List Nat) (cms : List (List Nat)) (m : Nat × Nat) (d : Nat) : Prop := Rch ss cms d m ∧ ∀ d', d' < d → ¬ Rch ss cms d' m
theorem FD.inj {ss : List Nat} {cms : List (List Nat)} {m : Nat × Nat} {d d' : Nat} (h : FD ss cms m d) (h' : FD ss cms m d') : d = d' := by
  rcases Nat.lt_trichotomy d d' with z | z | z
  · exact absurd h.1 (h'.2 d z)
  · exact z
  · exact absurd h'.1 (h.2 d' z)
theorem first_day {ss : List Nat} {cms : List (List Nat)} {m : Nat × Nat} : ∀ {t : Nat}, Rch ss cms t m → ∃ d, d ≤ t ∧ FD ss cms m d := by
  intro t
  induction t using Nat.strongRecOn with
  | ind t ih =>
    intro h
    by_cases c : ∃ d', d' < t ∧ Rch ss cms d' m
    · obtain ⟨d', h1, h2⟩ := c
      obtain ⟨d, h3, h4⟩ := ih d' h1 h2
      exact ⟨d, by omega, h4⟩
    · exact ⟨t, Nat.le_refl _, h, fun d' hd hr => c ⟨d', hd, hr⟩⟩
theorem FD.pred {ss : List Nat} {cms : List (List Nat)} {m : Nat × Nat} {d : Nat} (h : FD ss cms m (d + 1)) : ∃ c cm, FD ss cms c d ∧ cm ∈ cms.getD c.2 [] ∧ m = nx ss cms.length c cm := by
  obtain ⟨⟨c, cm, h1, h2, h3⟩, h4⟩ := h
  refine ⟨c, cm, ⟨h1, fun d' hd hr => h4 (d' + 1) (by omega) ⟨c, cm, hr, h2, h3⟩⟩, h2, h3⟩
theorem FD.below {ss : List Nat} {cms : List (List Nat)} : ∀ {d : Nat} {m : Nat × Nat} {k : Nat}, FD ss cms m d → k ≤ d → ∃ c, FD ss cms c k
  | 0, m, k, h, hk => by
    have : k = 0 := by omega
    subst this
    exact ⟨m, h⟩
  | d + 1, m, k, h, hk => by
    by_cases e : k = d + 1
    · subst e; exact ⟨m, h⟩
    · obtain ⟨c, _, hc, _⟩ := h.pred
      exact FD.below hc (by omega)
/-- an entry: a mask, its first day, where it comes from -/
structure Ent where
  p : Nat × Nat
  d : Nat
  b : Option ((Nat × Nat) × Nat)
abbrev Ent.m (e : Ent) : Nat := e.p.1
def BackOk (ss : List Nat) (cms : List (List Nat)) (e : Ent) : Prop := match e.b with
  | none => e.p = (0, 0) ∧ e.d = 0
  | some (c, cm) => ∃ d, e.d = d + 1 ∧ FD ss cms c d ∧ cm ∈ cms.getD c.2 [] ∧ e.p = nx ss cms.length c cm
structure BInv (ss : List Nat) (cms : List (List Nat)) (k : Nat) (es : List Ent) : Prop where
  fd : ∀ e ∈ es, FD ss cms e.p e.d ∧ e.d ≤ k
  all : ∀ m d, d ≤ k → FD ss cms m d → ∃ e ∈ es, e.p = m
  nd : (es.map (·.p)).Nodup
  mono : es.Pairwise (fun e f => e.d ≤ f.d)
  back : ∀ e ∈ es, BackOk ss cms e
def LatestOk (ss : List Nat) (cms : List (List Nat)) (k : Nat) (L : List (Nat × Nat)) : Prop := ∀ m, m ∈ L ↔ FD ss cms m k
theorem fd_zero {ss : List Nat} {cms : List (List Nat)} {m : Nat × Nat} : FD ss cms m 0 ↔ m = (0, 0) := by
  constructor
  · intro h; exact h.1
  · intro h; exact ⟨h, fun d' hd => by omega⟩
theorem binv_start (ss : List Nat) (cms : List (List Nat)) : BInv ss cms 0 [⟨(0, 0), 0, none⟩] ∧ LatestOk ss cms 0 [(0, 0)] := by
  refine ⟨⟨fun e he => ?_, fun m d hd h => ?_, by simp, by simp, fun e he => ?_⟩, fun m => ?_⟩
  · rw [List.mem_singleton.mp he]
    exact ⟨fd_zero.mpr rfl, Nat.le_refl _⟩
  · have : d = 0 := by omega
    subst this
    exact ⟨_, List.mem_singleton.mpr rfl, (fd_zero.mp h).symm⟩
  · rw [List.mem_singleton.mp he]
    exact ⟨rfl, rfl⟩
  · rw [List.mem_singleton, fd_zero]
/-- in the middle of a day's search: new entries behind the old ones; done says for which pairs the outcome is in -/
structure Mid (ss : List Nat) (cms : List (List Nat)) (k : Nat) (es new : List Ent) (Done : Nat × Nat → Nat → Prop) : Prop where
  nw : ∀ e ∈ new, e.d = k + 1 ∧ FD ss cms e.p (k + 1) ∧ BackOk ss cms e
  nd : ((es ++ new).map (·.p)).Nodup
  done : ∀ c cm, Done c cm → ∃ e ∈ es ++ new, e.p = nx ss cms.length c cm
theorem mid_start {ss : List Nat} {cms : List (List Nat)} {k : Nat} {es : List Ent} (B : BInv ss cms k es) : Mid ss cms k es [] (fun _ _ => False) :=
  ⟨(fun e he => by cases he), (by rw [List.append_nil]; exact B.nd), fun _ _ h => h.elim⟩
theorem Mid.weaken {ss : List Nat} {cms : List (List Nat)} {k : Nat} {es new : List Ent} {D D' : Nat × Nat → Nat → Prop} (M : Mid ss cms k es new D) (h : ∀ c cm, D' c cm → D c cm) : Mid ss cms k es new D' :=
  ⟨M.nw, M.nd, fun c cm hd => M.done c cm (h c cm hd)⟩
theorem Mid.skip {ss : List Nat} {cms : List (List Nat)} {k : Nat} {es new : List Ent} {D D' : Nat × Nat → Nat → Prop} (M : Mid ss cms k es new D) {c : Nat × Nat} {cm : Nat} (hin : ∃ e ∈ es ++ new, e.p = nx ss cms.length c cm) (h : ∀ c' cm', D' c' cm' → D c' cm' ∨ (c' = c ∧ cm' = cm)) : Mid ss cms k es new D' :=
  ⟨M.nw, M.nd, fun c' cm' hd => by
    rcases h c' cm' hd with z | ⟨rfl, rfl⟩
    · exact M.done _ _ z
    · exact hin⟩
theorem Mid.add {ss : List Nat} {cms : List (List Nat)} {k : Nat} {es new : List Ent} {D D' : Nat × Nat → Nat → Prop} (B : BInv ss cms k es) (M : Mid ss cms k es new D) {c : Nat × Nat} {cm : Nat} (hc : FD ss cms c k) (hcm : cm ∈ cms.getD c.2 []) (hout : ¬ ∃ e ∈ es ++ new, e.p = nx ss cms.length c cm)
    (h : ∀ c' cm', D' c' cm' → D c' cm' ∨ (c' = c ∧ cm' = cm)) : Mid ss cms k es (new ++ [⟨nx ss cms.length c cm, k + 1, some (c, cm)⟩]) D' := by
  have hfd : FD ss cms (nx ss cms.length c cm) (k + 1) := by
    refine ⟨⟨c, cm, hc.1, hcm, rfl⟩, fun d' hd hr => ?_⟩
    obtain ⟨d, hd2, hf⟩ := first_day hr
    obtain ⟨e, he, em⟩ := B.all _ d (by omega) hf
    exact hout ⟨e, List.mem_append_left _ he, em⟩
  refine ⟨fun e he => ?_, ?_, fun c' cm' hd => ?_⟩
  · rcases List.mem_append.mp he with z | z
    · exact M.nw e z
    · rw [List.mem_singleton.mp z]
      exact ⟨rfl, hfd, k, rfl, hc, hcm, rfl⟩
  · rw [← List.append_assoc, List.map_append]
    refine List.nodup_append.mpr ⟨M.nd, by simp, fun x hx y hy => ?_⟩
    obtain ⟨e, he, rfl⟩ := List.mem_map.mp hx
    have ey : y = nx ss cms.length c cm := by simpa using hy
    rw [ey]
    exact fun z => hout ⟨e, he, z⟩
  · rw [← List.append_assoc]
    rcases h c' cm' hd with z | ⟨rfl, rfl⟩
    · obtain ⟨e, he, em⟩ := M.done _ _ z
      exact ⟨e, List.mem_append_left _ he, em⟩
    · exact ⟨_, List.mem_append_right _ (List.mem_singleton.mpr rfl), rfl⟩
theorem mid_end {ss : List Nat} {cms : List (List Nat)} {k : Nat} {es new : List Ent} {L : List (Nat × Nat)} {D : Nat × Nat → Nat → Prop} (B : BInv ss cms k es) (hL : LatestOk ss cms k L) (M : Mid ss cms k es new D) (h : ∀ c ∈ L, ∀ cm ∈ cms.getD c.2 [], D c cm) :
    BInv ss cms (k + 1) (es ++ new) ∧ LatestOk ss cms (k + 1) (new.map (·.p)) := by
  have hall : ∀ m d, d ≤ k + 1 → FD ss cms m d → ∃ e ∈ es ++ new, e.p = m := by
    intro m d hd hf
    by_cases e : d = k + 1
    · subst e
      obtain ⟨c, cm, hc, hcm, rfl⟩ := hf.pred
      exact M.done c cm (h c ((hL c).mpr hc) cm hcm)
    · obtain ⟨e, he, em⟩ := B.all m d (by omega) hf
      exact ⟨e, List.mem_append_left _ he, em⟩
  refine ⟨⟨fun e he => ?_, hall, M.nd, ?_, fun e he => ?_⟩, fun m => ?_⟩
  · rcases List.mem_append.mp he with z | z
    · obtain ⟨h1, h2⟩ := B.fd e z
      exact ⟨h1, by omega⟩
    · obtain ⟨h1, h2, _⟩ := M.nw e z
      rw [h1]
      exact ⟨h2, Nat.le_refl _⟩
  · refine List.pairwise_append.mpr ⟨B.mono, ?_, fun e he f hf => ?_⟩
    · refine List.Pairwise.imp_of_mem (R := fun _ _ => True) (fun {a b} ha hb _ => ?_) (List.pairwise_of_forall fun _ _ => trivial)
      rw [(M.nw a ha).1, (M.nw b hb).1]
      exact Nat.le_refl _
    · have h1 := (B.fd e he).2
      have h2 := (M.nw f hf).1
      omega
  · rcases List.mem_append.mp he with z | z
    · exact B.back e z
    · exact (M.nw e z).2.2
  · constructor
    · intro hm
      obtain ⟨e, he, rfl⟩ := List.mem_map.mp hm
      exact (M.nw e he).2.1
    · intro hf
      obtain ⟨e, he, em⟩ := hall m (k + 1) (Nat.le_refl _) hf
      rcases List.mem_append.mp he with z | z
      · obtain ⟨h1, h2⟩ := B.fd e z
        rw [em] at h1
        have := h1.inj hf
        omega
      · exact List.mem_map.mpr ⟨e, z, em⟩
/-- the whole search -/
structure WaysOk (ss : List Nat) (cms : List (List Nat)) (es : List Ent) : Prop where
  fd : ∀ e ∈ es, FD ss cms e.p e.d
  all : ∀ m t, Rch ss cms t m → ∃ e ∈ es, e.p = m
  nd : (es.map (·.p)).Nodup
  mono : es.Pairwise (fun e f => e.d ≤ f.d)
  back : ∀ e ∈ es, BackOk ss cms e
theorem ways_end {ss : List Nat} {cms : List (List Nat)} {k : Nat} {es : List Ent} (B : BInv ss cms k es) (hL : LatestOk ss cms k []) : WaysOk ss cms es := by
  refine ⟨fun e he => (B.fd e he).1, fun m t h => ?_, B.nd, B.mono, B.back⟩
  obtain ⟨d, _, hf⟩ := first_day h
  rcases Nat.lt_or_ge k d with z | z
  · obtain ⟨c, hc⟩ := FD.below hf (Nat.le_of_lt z)
    exact absurd ((hL c).mpr hc) (by simp)
  · exact B.all m d z hf
theorem nextFrom_lt {held n : Nat} : ∀ {ss : List Nat} {i acc : Nat}, i + ss.length ≤ n → acc < 2 ^ n → nextFrom held i ss acc < 2 ^ n
  | [], _, _, _, h => h
  | s :: ss, i, acc, hi, h => by
    rw [List.length_cons] at hi
    have h2 : (if (s &&& held) = s then acc ||| 2 ^ i else acc) < 2 ^ n := by
      split
      · exact Nat.or_lt_two_pow h (Nat.pow_lt_pow_of_lt (by decide) (by omega))
      · exact h
    exact nextFrom_lt (ss := ss) (i := i + 1) (by omega) h2
theorem nextM_lt (ss : List Nat) (held : Nat) : nextM ss held < 2 ^ ss.length := nextFrom_lt (by omega) (Nat.two_pow_pos _)
theorem rch_lt {ss : List Nat} {cms : List (List Nat)} (hc : 1 ≤ cms.length) : ∀ {t : Nat} {m : Nat × Nat}, Rch ss cms t m → m.1 < 2 ^ ss.length ∧ m.2 < cms.length
  | 0, m, h => by
    rw [show m = (0, 0) from h]
    exact ⟨Nat.two_pow_pos _, hc⟩
  | t + 1, m, ⟨c, cm, _, _, e⟩ => by
    rw [e]
    exact ⟨nextM_lt _ _, Nat.mod_lt _ hc⟩
theorem nodup_le : ∀ (n : Nat) (l : List Nat), l.Nodup → (∀ x ∈ l, x < n) → l.length ≤ n := fun n l h1 h2 => by
  have z := nat_nodup_len l (List.range n) h1 (fun x hx => List.mem_range.mpr (h2 x hx))
  rwa [List.length_range] at z
theorem nodup_on {α β : Type} (f : α → β) : ∀ {l : List α}, l.Nodup → (∀ a ∈ l, ∀ b ∈ l, f a = f b → a = b) → (l.map f).Nodup
  | [], _, _ => List.nodup_nil
  | x :: l, nd, inj => by
    obtain ⟨h1, h2⟩ := List.nodup_cons.mp nd
    rw [List.map_cons]
    refine List.nodup_cons.mpr ⟨fun z => ?_, nodup_on f h2 fun a ha b hb => inj a (List.mem_cons_of_mem _ ha) b (List.mem_cons_of_mem _ hb)⟩
    obtain ⟨y, hy, e⟩ := List.mem_map.mp z
    have := inj y (List.mem_cons_of_mem _ hy) x List.mem_cons_self e
    rw [this] at hy
    exact h1 hy
/-- a place as a number -/
def plN (p : Nat × Nat) : Nat := p.1 * 6 + p.2
theorem binv_len {ss : List Nat} {cms : List (List Nat)} {k : Nat} {es new : List Ent} {D : Nat × Nat → Nat → Prop} (hs : ss.length ≤ 7) (hc : 1 ≤ cms.length) (hc6 : cms.length ≤ 6) (B : BInv ss cms k es) (M : Mid ss cms k es new D) : (es ++ new).length ≤ 768 := by
  have lt : ∀ e ∈ es ++ new, e.p.1 < 2 ^ ss.length ∧ e.p.2 < cms.length := fun e he => by
    rcases List.mem_append.mp he with z | z
    · exact rch_lt hc (B.fd e z).1.1
    · exact rch_lt hc (M.nw e z).2.1.1
  have h2 : 2 ^ ss.length ≤ 2 ^ 7 := Nat.pow_le_pow_right (by decide) hs
  have nd : (((es ++ new).map (·.p)).map plN).Nodup := nodup_on plN M.nd fun a ha b hb h => by
    obtain ⟨e, he, rfl⟩ := List.mem_map.mp ha
    obtain ⟨f, hf, rfl⟩ := List.mem_map.mp hb
    have h1 := lt e he
    have h3 := lt f hf
    unfold plN at h
    exact Prod.ext (by omega) (by omega)
  have h := nodup_le 768 _ nd (fun x hx => by
    obtain ⟨p, hp, rfl⟩ := List.mem_map.mp hx
    obtain ⟨e, he, rfl⟩ := List.mem_map.mp hp
    have := lt e he
    unfold plN
    omega)
  rw [List.length_map, List.length_map] at h
  exact h
end N

set_option Elab.async false
set_option linter.all false
set_option maxRecDepth 100000
set_option maxHeartbeats 2000000
/-! lots and masks -/
namespace N
open Cb (lotV combs combsOf combsOf_sub)
/-- the lot covered behind a day -/
def nextL (h : List (List Nat)) (S L : List Nat) : List Nat := (List.range h.length).filter fun i => (h.getD i []).all fun s => decide (s ∈ S) || decide (s ∈ L)
def RchL (h : List (List Nat)) (c : Nat) : Nat → List Nat → Prop
  | 0, S => S = []
  | t + 1, S => ∃ S' L, RchL h c t S' ∧ LotOk h.length L ∧ L.length ≤ c ∧ S = nextL h S' L
/-- so many coins can cover a goal in just so many days -/
def Cov (h : List (List Nat)) (c : Nat) (goal : List Nat) (t : Nat) : Prop := ∃ S, RchL h c t S ∧ ∀ i ∈ goal, i ∈ S
def IsDays (h : List (List Nat)) (c : Nat) (goal : List Nat) : Option Nat → Prop
  | some d => Cov h c goal d ∧ ∀ d', d' < d → ¬ Cov h c goal d'
  | none => ∀ d, ¬ Cov h c goal d
theorem IsDays.inj {h : List (List Nat)} {c : Nat} {goal : List Nat} {o o' : Option Nat} (x : IsDays h c goal o) (y : IsDays h c goal o') : o = o' := by
  cases o with
  | none =>
    cases o' with
    | none => rfl
    | some d => exact absurd y.1 (x d)
  | some d =>
    cases o' with
    | none => exact absurd x.1 (y d)
    | some d' =>
      rcases Nat.lt_trichotomy d d' with z | z | z
      · exact absurd x.1 (y.2 d z)
      · rw [z]
      · exact absurd y.1 (x.2 d' z)
def Can (h : List (List Nat)) (c : Nat) (goal : List Nat) : Prop := ∃ t, Cov h c goal t
def IsNum (h : List (List Nat)) (goal : List Nat) (c : Nat) : Prop := Can h c goal ∧ ∀ c', c' < c → ¬ Can h c' goal
theorem IsNum.inj {h : List (List Nat)} {goal : List Nat} {c c' : Nat} (x : IsNum h goal c) (y : IsNum h goal c') : c = c' := by
  rcases Nat.lt_trichotomy c c' with z | z | z
  · exact absurd x.1 (y.2 c z)
  · exact z
  · exact absurd y.1 (x.2 c' z)
theorem isDays_none {h : List (List Nat)} {c : Nat} {goal : List Nat} {o : Option Nat} (x : IsDays h c goal o) : o = none ↔ ¬ Can h c goal := by
  cases o with
  | none => exact ⟨fun _ ⟨t, z⟩ => x t z, fun _ => rfl⟩
  | some d => exact ⟨fun z => by (cases z), fun z => absurd ⟨d, x.1⟩ z⟩
theorem mem_nextL {h : List (List Nat)} {S L : List Nat} {i : Nat} : i ∈ nextL h S L ↔ i < h.length ∧ ∀ s ∈ h.getD i [], s ∈ S ∨ s ∈ L := by
  unfold nextL
  rw [List.mem_filter, List.mem_range, List.all_eq_true]
  simp
theorem nextL_ok (h : List (List Nat)) (S L : List Nat) : LotOk h.length (nextL h S L) := List.filter_sublist
theorem rchL_ok {h : List (List Nat)} {c : Nat} : ∀ {t : Nat} {S : List Nat}, RchL h c t S → LotOk h.length S
  | 0, S, e => by rw [show S = [] from e]; exact List.nil_sublist _
  | t + 1, S, ⟨_, _, _, _, _, e⟩ => by rw [e]; exact nextL_ok _ _ _
/-! ### bits -/
theorem testBit_maskFrom {l : List Nat} {i acc : Nat} : (l.foldl (fun m j => m ||| 2 ^ j) acc).testBit i = (acc.testBit i || decide (i ∈ l)) := by
  induction l generalizing acc with
  | nil => simp
  | cons x l ih =>
    rw [List.foldl_cons, ih, Nat.testBit_or, Nat.testBit_two_pow]
    by_cases e : x = i
    · subst e; simp
    · have e2 : ¬ i = x := fun z => e z.symm
      simp [e, e2]
theorem testBit_mask {l : List Nat} {i : Nat} : (maskOf l).testBit i = decide (i ∈ l) := by
  unfold maskOf
  rw [testBit_maskFrom]
  simp
theorem mask_sub {m : Nat} {l : List Nat} : (m &&& maskOf l) = maskOf l ↔ ∀ i ∈ l, m.testBit i = true := by
  constructor
  · intro h i hi
    have z : (m &&& maskOf l).testBit i = true := by rw [h, testBit_mask]; exact decide_eq_true hi
    rw [Nat.testBit_and, Bool.and_eq_true] at z
    exact z.1
  · intro h
    apply Nat.eq_of_testBit_eq
    intro i
    rw [Nat.testBit_and, testBit_mask]
    by_cases hi : i ∈ l
    · rw [h i hi]; rfl
    · simp [hi]
theorem sub_mask {m : Nat} {l : List Nat} : (maskOf l &&& m) = maskOf l ↔ ∀ i ∈ l, m.testBit i = true := by
  rw [Nat.and_comm]
  exact mask_sub
theorem holds_iff {m : Nat} {l : List Nat} : holdsB m l = true ↔ ∀ i ∈ l, m.testBit i = true := by
  unfold holdsB
  rw [beq_iff_eq]
  exact mask_sub
theorem holds_lot {S l : List Nat} : holdsB (maskOf S) l = true ↔ ∀ i ∈ l, i ∈ S := by
  rw [holds_iff]
  simp only [testBit_mask, decide_eq_true_eq]
theorem testBit_nextFrom {held : Nat} : ∀ {ss : List Nat} {i acc j : Nat}, (nextFrom held i ss acc).testBit j = (acc.testBit j || decide (i ≤ j ∧ j < i + ss.length ∧ (ss.getD (j - i) 0 &&& held) = ss.getD (j - i) 0))
  | [], i, acc, j => by
    have e : ¬ (i ≤ j ∧ j < i + ([] : List Nat).length ∧ (([] : List Nat).getD (j - i) 0 &&& held) = ([] : List Nat).getD (j - i) 0) := fun z => by
      have := z.1
      have := z.2.1
      simp at this
      omega
    rw [decide_eq_false e]
    show acc.testBit j = _
    simp
  | s :: ss, i, acc, j => by
    show (nextFrom held (i + 1) ss (if (s &&& held) = s then acc ||| 2 ^ i else acc)).testBit j = _
    rw [testBit_nextFrom]
    by_cases e : j = i
    · subst e
      have e1 : ¬ (j + 1 ≤ j ∧ j < j + 1 + ss.length ∧ (ss.getD (j - (j + 1)) 0 &&& held) = ss.getD (j - (j + 1)) 0) := fun z => by omega
      rw [decide_eq_false e1, Bool.or_false, Nat.sub_self]
      by_cases hb : (s &&& held) = s
      · rw [if_pos hb, Nat.testBit_or, Nat.testBit_two_pow]
        have e2 : j ≤ j ∧ j < j + (s :: ss).length ∧ ((s :: ss).getD 0 0 &&& held) = (s :: ss).getD 0 0 := ⟨Nat.le_refl _, by rw [List.length_cons]; omega, hb⟩
        rw [decide_eq_true e2]
        simp
      · rw [if_neg hb]
        have e2 : ¬ (j ≤ j ∧ j < j + (s :: ss).length ∧ ((s :: ss).getD 0 0 &&& held) = (s :: ss).getD 0 0) := fun z => hb z.2.2
        rw [decide_eq_false e2, Bool.or_false]
    · have ea : (if (s &&& held) = s then acc ||| 2 ^ i else acc).testBit j = acc.testBit j := by
        split
        · rw [Nat.testBit_or, Nat.testBit_two_pow]
          have : ¬ i = j := fun z => e z.symm
          simp [this]
        · rfl
      rw [ea]
      congr 1
      rw [decide_eq_decide]
      by_cases hl : i + 1 ≤ j
      · have ej : j - i = (j - (i + 1)) + 1 := by omega
        rw [ej, List.getD_cons_succ, List.length_cons]
        constructor
        · rintro ⟨h1, h2, h3⟩; exact ⟨by omega, by omega, h3⟩
        · rintro ⟨h1, h2, h3⟩; exact ⟨hl, by omega, h3⟩
      · constructor
        · rintro ⟨h1, _⟩; omega
        · rintro ⟨h1, _⟩; omega
theorem testBit_nextM {ss : List Nat} {held j : Nat} : (nextM ss held).testBit j = decide (j < ss.length ∧ (ss.getD j 0 &&& held) = ss.getD j 0) := by
  unfold nextM
  rw [testBit_nextFrom]
  simp
theorem next_mask (h : List (List Nat)) (S L : List Nat) : nextM (h.map maskOf) (maskOf S ||| maskOf L) = maskOf (nextL h S L) := by
  apply Nat.eq_of_testBit_eq
  intro i
  rw [testBit_nextM, testBit_mask, decide_eq_decide, mem_nextL, List.length_map]
  by_cases hi : i < h.length
  · have eg : (h.map maskOf).getD i 0 = maskOf (h.getD i []) := by
      rw [List.getD_eq_getElem?_getD, List.getElem?_map, List.getD_eq_getElem?_getD, List.getElem?_eq_getElem hi]
      rfl
    rw [eg, sub_mask]
    simp only [hi, true_and, Nat.testBit_or, testBit_mask, Bool.or_eq_true, decide_eq_true_eq]
  · simp [hi]
theorem nextL_mono {h : List (List Nat)} {S S' L L' : List Nat} (h1 : ∀ i ∈ S, i ∈ S') (h2 : ∀ i ∈ L, i ∈ L') : ∀ i ∈ nextL h S L, i ∈ nextL h S' L' := by
  intro i hi
  rw [mem_nextL] at hi ⊢
  exact ⟨hi.1, fun s hs => (hi.2 s hs).elim (fun z => .inl (h1 s z)) (fun z => .inr (h2 s z))⟩
/-- a lot within a pool can be made greater -/
theorem grow {pool : List Nat} (hp : pool.Nodup) : ∀ {l : List Nat}, l.Sublist pool → ∀ {r : Nat}, l.length ≤ r → r ≤ pool.length → ∃ l' : List Nat, l'.Sublist pool ∧ l'.length = r ∧ ∀ i ∈ l, i ∈ l' := by
  induction pool with
  | nil =>
    intro l hl r h1 h2
    exact ⟨l, hl, by have := List.sublist_nil.mp hl; subst this; simp at h1 h2 ⊢; omega, fun i hi => hi⟩
  | cons x pool ih =>
    have hp' := (List.nodup_cons.mp hp).2
    intro l hl r h1 h2
    rw [List.length_cons] at h2
    cases hl with
    | cons _ hl =>
      by_cases hr : r ≤ pool.length
      · obtain ⟨l', a, b, c⟩ := ih hp' hl h1 hr
        exact ⟨l', a.cons x, b, c⟩
      · exact ⟨x :: pool, List.Sublist.refl _, by rw [List.length_cons]; omega, fun i hi => List.mem_cons_of_mem _ (hl.subset hi)⟩
    | cons_cons _ hl =>
      rename_i l
      rw [List.length_cons] at h1
      obtain ⟨l', a, b, c⟩ := ih hp' hl (r := r - 1) (by omega) (by omega)
      refine ⟨x :: l', a.cons_cons x, by rw [List.length_cons]; omega, fun i hi => ?_⟩
      rcases List.mem_cons.mp hi with z | z
      · rw [z]; exact List.mem_cons_self
      · exact List.mem_cons_of_mem _ (c i z)
theorem lot_growA {lot L : List Nat} {c : Nat} (nd : lot.Nodup) (hL : L.Sublist lot) (hc : L.length ≤ c) : ∃ L', L' ∈ combsOf lot (min c lot.length) ∧ ∀ i ∈ L, i ∈ L' := by
  have hn := hL.length_le
  obtain ⟨L', a, b, d⟩ := grow nd hL (r := min c lot.length) (by omega) (by omega)
  exact ⟨L', combsOf_sub.mpr ⟨a, b⟩, d⟩
theorem lot_grow {n c : Nat} {L : List Nat} (hL : LotOk n L) (hc : L.length ≤ c) : ∃ L', L' ∈ combs n (min c n) ∧ ∀ i ∈ L, i ∈ L' := by
  obtain ⟨L', a, b⟩ := lot_growA (c := c) List.nodup_range hL hc
  rw [List.length_range] at a
  exact ⟨L', a, b⟩
/-! ### coins on slates of a lot, by an allowance -/
def RchA (h : List (List Nat)) (lot alw : List Nat) : Nat → List Nat → Prop
  | 0, S => S = []
  | t + 1, S => ∃ S' L, RchA h lot alw t S' ∧ L.Sublist lot ∧ L.length ≤ alw.getD (t % alw.length) 0 ∧ S = nextL h S' L
def CovA (h : List (List Nat)) (lot alw goal : List Nat) (t : Nat) : Prop := ∃ S, RchA h lot alw t S ∧ ∀ i ∈ goal, i ∈ S
def CanA (h : List (List Nat)) (lot alw goal : List Nat) : Prop := ∃ t, CovA h lot alw goal t
/-- the first day of those of which something holds -/
def IsFirst (C : Nat → Prop) : Option Nat → Prop
  | some d => C d ∧ ∀ d', d' < d → ¬ C d'
  | none => ∀ d, ¬ C d
theorem IsFirst.inj {C : Nat → Prop} {o o' : Option Nat} (x : IsFirst C o) (y : IsFirst C o') : o = o' := by
  cases o with
  | none =>
    cases o' with
    | none => rfl
    | some d => exact absurd y.1 (x d)
  | some d =>
    cases o' with
    | none => exact absurd x.1 (y d)
    | some d' =>
      rcases Nat.lt_trichotomy d d' with z | z | z
      · exact absurd x.1 (y.2 d z)
      · rw [z]
      · exact absurd y.1 (x.2 d' z)
theorem IsFirst.none_iff {C : Nat → Prop} {o : Option Nat} (x : IsFirst C o) : o = none ↔ ¬ ∃ t, C t := by
  cases o with
  | none => exact ⟨fun _ ⟨t, z⟩ => x t z, fun _ => rfl⟩
  | some d => exact ⟨fun z => by (cases z), fun z => absurd ⟨d, x.1⟩ z⟩
theorem IsFirst.iff {C D : Nat → Prop} (h : ∀ t, C t ↔ D t) {o : Option Nat} (x : IsFirst C o) : IsFirst D o := by
  have e : C = D := funext fun t => propext (h t)
  rw [← e]
  exact x
theorem isDays_first {h : List (List Nat)} {c : Nat} {goal : List Nat} {o : Option Nat} : IsDays h c goal o ↔ IsFirst (Cov h c goal) o := by
  cases o <;> exact Iff.rfl
theorem rchA_ok {h : List (List Nat)} {lot alw : List Nat} : ∀ {t : Nat} {S : List Nat}, RchA h lot alw t S → LotOk h.length S
  | 0, S, e => by rw [show S = [] from e]; exact List.nil_sublist _
  | t + 1, S, ⟨_, _, _, _, _, e⟩ => by rw [e]; exact nextL_ok _ _ _
/-- as many coins each day, on all slates -/
theorem rchA_one {h : List (List Nat)} {c : Nat} : ∀ {t : Nat} {S : List Nat}, RchA h (List.range h.length) [c] t S ↔ RchL h c t S
  | 0, S => Iff.rfl
  | t + 1, S => by
    have e : ([c] : List Nat).getD (t % ([c] : List Nat).length) 0 = c := by
      rw [show ([c] : List Nat).length = 1 from rfl, Nat.mod_one]
      rfl
    constructor
    · rintro ⟨S', L, h1, h2, h3, h4⟩
      rw [e] at h3
      exact ⟨S', L, rchA_one.mp h1, h2, h3, h4⟩
    · rintro ⟨S', L, h1, h2, h3, h4⟩
      rw [← e] at h3
      exact ⟨S', L, rchA_one.mpr h1, h2, h3, h4⟩
theorem covA_one {h : List (List Nat)} {c : Nat} {goal : List Nat} {t : Nat} : CovA h (List.range h.length) [c] goal t ↔ Cov h c goal t :=
  ⟨fun ⟨S, a, b⟩ => ⟨S, rchA_one.mp a, b⟩, fun ⟨S, a, b⟩ => ⟨S, rchA_one.mpr a, b⟩⟩
theorem canA_one {h : List (List Nat)} {c : Nat} {goal : List Nat} : CanA h (List.range h.length) [c] goal ↔ Can h c goal :=
  ⟨fun ⟨t, a⟩ => ⟨t, covA_one.mp a⟩, fun ⟨t, a⟩ => ⟨t, covA_one.mpr a⟩⟩
/-- no lot holds more than the lot of all its slates -/
theorem rchA_min {h : List (List Nat)} {lot : List Nat} {c : Nat} : ∀ {t : Nat} {S : List Nat}, RchA h lot [c] t S → RchA h lot [min c lot.length] t S
  | 0, S, e => e
  | t + 1, S, ⟨S', L, h1, h2, h3, h4⟩ => by
    have e : ∀ c : Nat, ([c] : List Nat).getD (t % ([c] : List Nat).length) 0 = c := fun c => by
      rw [show ([c] : List Nat).length = 1 from rfl, Nat.mod_one]
      rfl
    rw [e] at h3
    refine ⟨S', L, rchA_min h1, h2, ?_, h4⟩
    rw [e]
    have := h2.length_le
    omega
theorem canA_min {h : List (List Nat)} {lot goal : List Nat} {c : Nat} (x : CanA h lot [c] goal) : CanA h lot [min c lot.length] goal := by
  obtain ⟨t, S, a, b⟩ := x
  exact ⟨t, S, rchA_min a, b⟩
theorem cms_len (lot alw : List Nat) : (cmsOf lot alw).length = alw.length := List.length_map ..
theorem cms_get {lot alw : List Nat} {i : Nat} (hi : i < alw.length) : (cmsOf lot alw).getD i [] = coinMasks lot (alw.getD i 0) := by
  rw [List.getD_eq_getElem?_getD, List.getD_eq_getElem?_getD, cmsOf, List.getElem?_map, List.getElem?_eq_getElem hi]
  rfl
/-- the search by masks finds lots -/
theorem rch_lotA {h : List (List Nat)} {lot alw : List Nat} (ha : 1 ≤ alw.length) : ∀ {t : Nat} {p : Nat × Nat}, Rch (h.map maskOf) (cmsOf lot alw) t p → ∃ S, RchA h lot alw t S ∧ p = (maskOf S, t % alw.length)
  | 0, p, e => ⟨[], rfl, by rw [show p = (0, 0) from e, Nat.zero_mod]; rfl⟩
  | t + 1, p, ⟨c, cm, h1, h2, e⟩ => by
    obtain ⟨S, hS, rfl⟩ := rch_lotA ha h1
    dsimp only at h2
    rw [cms_get (Nat.mod_lt _ ha)] at h2
    obtain ⟨L, hL, rfl⟩ := List.mem_map.mp h2
    have hm := combsOf_sub.mp hL
    refine ⟨nextL h S L, ⟨S, L, hS, hm.1, by rw [hm.2]; exact Nat.min_le_left _ _, rfl⟩, ?_⟩
    rw [e, nx, cms_len, next_mask, Nat.mod_add_mod]
theorem lot_rchA {h : List (List Nat)} {lot alw : List Nat} (nd : lot.Nodup) (ha : 1 ≤ alw.length) : ∀ {t : Nat} {S : List Nat}, RchA h lot alw t S → ∃ S', Rch (h.map maskOf) (cmsOf lot alw) t (maskOf S', t % alw.length) ∧ ∀ i ∈ S, i ∈ S'
  | 0, S, e => ⟨[], by rw [Nat.zero_mod]; rfl, fun i hi => by rw [show S = [] from e] at hi; exact hi⟩
  | t + 1, S, ⟨S1, L, h1, h2, h3, e⟩ => by
    obtain ⟨S', hS', hsub⟩ := lot_rchA nd ha h1
    obtain ⟨L', hL', hsub2⟩ := lot_growA nd h2 h3
    refine ⟨nextL h S' L', ⟨_, maskOf L', hS', ?_, ?_⟩, ?_⟩
    · dsimp only
      rw [cms_get (Nat.mod_lt _ ha)]
      exact List.mem_map.mpr ⟨L', hL', rfl⟩
    · rw [nx, cms_len, next_mask, Nat.mod_add_mod]
    · rw [e]
      exact nextL_mono hsub hsub2
theorem covA_iff {h : List (List Nat)} {lot alw goal : List Nat} {t : Nat} (nd : lot.Nodup) (ha : 1 ≤ alw.length) : CovA h lot alw goal t ↔ ∃ p, Rch (h.map maskOf) (cmsOf lot alw) t p ∧ holdsB p.1 goal = true := by
  constructor
  · rintro ⟨S, h1, h2⟩
    obtain ⟨S', h3, h4⟩ := lot_rchA nd ha h1
    exact ⟨_, h3, holds_lot.mpr fun i hi => h4 i (h2 i hi)⟩
  · rintro ⟨p, h1, h2⟩
    obtain ⟨S, hS, rfl⟩ := rch_lotA ha h1
    exact ⟨S, hS, holds_lot.mp h2⟩
/-- the first entry that holds a goal -/
def firstOf (es : List Ent) (goal : List Nat) : Option Ent := es.find? fun e => holdsB e.p.1 goal
theorem first_daysA {h : List (List Nat)} {lot alw goal : List Nat} {es : List Ent} (nd : lot.Nodup) (ha : 1 ≤ alw.length) (W : WaysOk (h.map maskOf) (cmsOf lot alw) es) : IsFirst (CovA h lot alw goal) ((firstOf es goal).map (·.d)) := by
  unfold firstOf
  cases e : es.find? fun e => holdsB e.p.1 goal with
  | none =>
    intro d hc
    obtain ⟨m, h1, h2⟩ := (covA_iff nd ha).mp hc
    obtain ⟨x, hx, rfl⟩ := W.all m d h1
    have z := List.find?_eq_none.mp e x hx
    exact z h2
  | some x =>
    have hx := List.mem_of_find?_eq_some e
    have hh : holdsB x.p.1 goal = true := by have := List.find?_some e; exact this
    refine ⟨(covA_iff nd ha).mpr ⟨x.p, (W.fd x hx).1, hh⟩, fun d' hd hc => ?_⟩
    obtain ⟨m, h1, h2⟩ := (covA_iff nd ha).mp hc
    obtain ⟨d, hd2, hf⟩ := first_day h1
    obtain ⟨y, hy, rfl⟩ := W.all m d hf.1
    have ed : y.d = d := (W.fd y hy).inj hf
    have hd' : d' < x.d := hd
    obtain ⟨_, as, bs, rfl, hn⟩ := List.find?_eq_some_iff_append.mp e
    rcases List.mem_append.mp hy with z | z
    · have q := hn y z
      rw [h2] at q
      exact absurd q (by decide)
    · rcases List.mem_cons.mp z with z | z
      · have hdx : y.d = x.d := by rw [z]
        omega
      · have q := (List.pairwise_cons.mp (List.pairwise_append.mp W.mono).2.1).1 y z
        omega
theorem first_canA {h : List (List Nat)} {lot alw goal : List Nat} {es : List Ent} (nd : lot.Nodup) (ha : 1 ≤ alw.length) (W : WaysOk (h.map maskOf) (cmsOf lot alw) es) : firstOf es goal = none ↔ ¬ CanA h lot alw goal := by
  have q := (first_daysA (goal := goal) nd ha W).none_iff
  rw [Option.map_eq_none_iff] at q
  exact q
theorem first_days {h : List (List Nat)} {c : Nat} {goal : List Nat} {es : List Ent} (W : WaysOk (h.map maskOf) (cmsOf (List.range h.length) [c]) es) : IsDays h c goal ((firstOf es goal).map (·.d)) :=
  isDays_first.mpr ((first_daysA (alw := [c]) List.nodup_range (Nat.le_refl 1) W).iff fun _ => covA_one)
theorem LotOk.nodup {n : Nat} {l : List Nat} (h : LotOk n l) : l.Nodup := List.Pairwise.sublist h List.nodup_range
/-- the least number of coins on slates of a lot -/
def IsNumL (h : List (List Nat)) (goal lot : List Nat) : Option Nat → Prop
  | some c => CanA h lot [c] goal ∧ ∀ c', c' < c → ¬ CanA h lot [c'] goal
  | none => ∀ c, ¬ CanA h lot [c] goal
theorem isNumL_first {h : List (List Nat)} {goal lot : List Nat} {o : Option Nat} : IsNumL h goal lot o ↔ IsFirst (fun c => CanA h lot [c] goal) o := by
  cases o <;> exact Iff.rfl
theorem isNumL_le {h : List (List Nat)} {goal lot : List Nat} {c : Nat} (x : IsNumL h goal lot (some c)) : c ≤ lot.length := by
  rcases Nat.lt_or_ge lot.length c with z | z
  · have q := canA_min x.1
    rw [Nat.min_eq_right (Nat.le_of_lt z)] at q
    exact absurd q (x.2 _ z)
  · exact z
/-- as many coins as clerks cover all -/
theorem can_all {h : List (List Nat)} (ok : HouseOk h) {goal : List Nat} (hg : LotOk h.length goal) : Can h h.length goal := by
  refine ⟨1, nextL h [] (List.range h.length), ⟨[], List.range h.length, rfl, List.Sublist.refl _, by rw [List.length_range]; exact Nat.le_refl _, rfl⟩, fun i hi => ?_⟩
  rw [mem_nextL]
  have hlt := hg.lt i hi
  refine ⟨hlt, fun s hs => .inr ?_⟩
  have hm : h.getD i [] ∈ h := by
    rw [List.getD_eq_getElem?_getD, List.getElem?_eq_getElem hlt]
    exact List.getElem_mem hlt
  exact (ok.ok _ hm).2.subset hs
theorem isNumL_all {h : List (List Nat)} (ok : HouseOk h) {goal : List Nat} (hg : LotOk h.length goal) {o : Option Nat} (x : IsNumL h goal (List.range h.length) o) : ∃ c, o = some c ∧ IsNum h goal c ∧ c ≤ h.length := by
  cases o with
  | none => exact absurd (canA_one.mpr (can_all ok hg)) (x _)
  | some c =>
    have hl := isNumL_le x
    rw [List.length_range] at hl
    exact ⟨c, rfl, ⟨canA_one.mp x.1, fun c' hc z => x.2 c' hc (canA_one.mpr z)⟩, hl⟩
end N

set_option Elab.async false
set_option linter.all false
set_option maxRecDepth 100000
set_option maxHeartbeats 2000000
namespace N
open Cb (lotV combs combsOf combsOf_sub)
open PySem PySem.Spec PyProof.Rows L2
def topS (i : Nat) : Stmt := PySem.Challenge.pw_nightslates_k04_whole_crews.main.body.getD i (.Pass ⟨0, 0, 0, 0⟩)
abbrev s_is_number : Stmt := topS 7
abbrev s_is_lot : Stmt := topS 8
abbrev s_check_number : Stmt := topS 9
abbrev s_check_house : Stmt := topS 10
abbrev s_slate_number : Stmt := topS 12
abbrev s_all_slates : Stmt := topS 13
abbrev s_lots_within : Stmt := topS 14
abbrev s_can_cover : Stmt := topS 15
abbrev s_least_coins : Stmt := topS 16
abbrev s__mask_of : Stmt := topS 17
abbrev s__holds : Stmt := topS 18
abbrev s__coin_masks : Stmt := topS 19
abbrev s__next_cover : Stmt := topS 20
abbrev s__ways : Stmt := topS 21
abbrev s__first_cover : Stmt := topS 22
abbrev s_crew : Stmt := topS 24
abbrev s_crew_number : Stmt := topS 25
abbrev s__who_look : Stmt := topS 26
abbrev s__law_taken : Stmt := topS 28
abbrev s__law_house : Stmt := topS 29
abbrev s__law_lots : Stmt := topS 30
abbrev s__law_alike : Stmt := topS 31
abbrev s_law : Stmt := topS 32
structure Txt (K : PySem.W.Frag) (mg : Str → Option Value) where
  d_is_number : Def K mg "is_number" s_is_number ["value", "low", "high"]
  d_is_lot : Def K mg "is_lot" s_is_lot ["house", "value"]
  d_check_number : Def K mg "check_number" s_check_number ["value", "low", "high"]
  d_check_house : Def K mg "check_house" s_check_house ["house"]
  d_slate_number : Def K mg "slate_number" s_slate_number ["house"]
  d_all_slates : Def K mg "all_slates" s_all_slates ["house"]
  d_lots_within : Def K mg "lots_within" s_lots_within ["lot", "size"]
  d_can_cover : Def K mg "can_cover" s_can_cover ["house", "coins", "goal", "lot"]
  d_least_coins : Def K mg "least_coins" s_least_coins ["house", "goal", "lot"]
  d__mask_of : Def K mg "_mask_of" s__mask_of ["lot"]
  d__holds : Def K mg "_holds" s__holds ["mask", "goal"]
  d__coin_masks : Def K mg "_coin_masks" s__coin_masks ["lot", "coins"]
  d__next_cover : Def K mg "_next_cover" s__next_cover ["sights", "held"]
  d__ways : Def K mg "_ways" s__ways ["house", "lot", "allowance"]
  d__first_cover : Def K mg "_first_cover" s__first_cover ["ways", "goal"]
  d_crew : Def K mg "crew" s_crew ["house", "least"]
  d_crew_number : Def K mg "crew_number" s_crew_number ["house"]
  d__who_look : Def K mg "_who_look" s__who_look ["house", "lot", "least"]
  d__law_taken : Def K mg "_law_taken" s__law_taken ["row", "many"]
  d__law_house : Def K mg "_law_house" s__law_house ["row", "many", "most"]
  d__law_lots : Def K mg "_law_lots" s__law_lots ["many"]
  d__law_alike : Def K mg "_law_alike" s__law_alike ["found", "due"]
  n_len : mg "len" = none
  n_range : mg "range" = none
  n_tuple : mg "tuple" = none
  n_list : mg "list" = none
  n_sorted : mg "sorted" = none
  n_enumerate : mg "enumerate" = none
  n_min : mg "min" = none
  n_max : mg "max" = none
  n_type : mg "type" = none
  n_int : mg "int" = none
  n_isinstance : mg "isinstance" = none
  n_bool : mg "bool" = none
  n_str : mg "str" = none
  g_MOST_CLERKS : ∃ t, mg "MOST_CLERKS" = some (.int 7 t)
  g_combinations : mg "combinations" = some (.type Cb.TC)
end N

set_option Elab.async false
set_option linter.all false
set_option maxRecDepth 100000
set_option maxHeartbeats 2000000
namespace N
open Cb (lotV combs combsOf combsOf_sub)
open PySem PySem.Spec PyProof.Rows L2
section
variable {P : Program} {w : World} {K : PySem.W.Frag} {mg : Str → Option Value} {base : Heap}
/-- is_number -/
def isNum (x : V) (lo hi : Int) : Bool := match x with
  | .int i => decide (lo ≤ i) && decide (i ≤ hi)
  | _ => false
theorem tyb_not {H : Hp} {x : V} {T : String} (t : TyB K H x T) (h : T ≠ "int") (lo hi : Int) : isNum x lo hi = false := by
  cases t <;> first | rfl | exact absurd rfl h
theorem tyb_int {H : Hp} {x : V} (t : TyB K H x "int") : ∃ i, x = .int i := by
  generalize e : ("int" : String) = T at t
  cases t <;> first | exact ⟨_, rfl⟩ | exact absurd e (by decide)
def sp_is_number (K : PySem.W.Frag) : Sp := fun vs H Q _ => ∃ (x : V) (T : String) (lo hi : Int), vs = [x, .int lo, .int hi] ∧ TyB K H x T ∧ Q (.bl (isNum x lo hi)) H
theorem sc_is_number : FnScope ["value", "low", "high"] ["value", "low", "high"] (defScope s_is_number) := ⟨rfl, rfl, rfl, by decide +kernel, rfl, by decide +kernel, by decide +kernel⟩
theorem ok_is_number (T : Txt K mg) : FnOk P w K mg base CX0 1 T.d_is_number.f T.d_is_number.fd ["value", "low", "high"] (sp_is_number K) := by
  refine T.d_is_number.F.ok sc_is_number (fun vs H Q E h => ?_) (fun cdv A outer s H vs Q E hr h => ?_)
  · obtain ⟨x, _, lo, hi, rfl, _⟩ := h
    rfl
  · obtain ⟨x, ty, lo, hi, rfl, ht, q⟩ := h
    refine ⟨_, pss_one (ps_ret (pe_and (pe_cmpR op_isTyB (pe_callTy call_type1 (by rfl) T.n_type (by decide +kernel) (pa_cons (pv 0) pa_nil)) (pe_bltn (v := .ty "int") (u := .type "int") (by rfl) T.n_int (by decide +kernel) rfl) (nomark _))
      (pe_one (pe_chain op_le op_le (pv 1) (pv 0) (pv 2))))), ?_⟩
    refine ⟨x, rfl, x, ty, rfl, ht, ty, "int", rfl, rfl, _, rfl, ?_⟩
    by_cases e : ty = "int"
    · subst e
      obtain ⟨i, rfl⟩ := tyb_int ht
      rw [decide_eq_true rfl]
      refine iteT ⟨.int lo, rfl, .int i, rfl, lo, i, rfl, rfl, _, rfl, ?_⟩
      by_cases h1 : lo ≤ i
      · rw [decide_eq_true h1]
        refine iteT ⟨.int hi, rfl, i, hi, rfl, rfl, ?_⟩
        have e2 : isNum (.int i) lo hi = decide (i ≤ hi) := by simp [isNum, h1]
        rw [e2] at q
        exact q
      · rw [decide_eq_false h1]
        refine iteF ?_
        have e2 : isNum (.int i) lo hi = false := by simp [isNum, h1]
        rw [e2] at q
        exact q
    · rw [decide_eq_false e]
      refine iteF ?_
      rw [tyb_not ht e] at q
      exact q
/-- is_lot, of any value -/
def lotB (n : Int) : Int → List V → Bool
  | _, [] => true
  | least, y :: ys => isNum y least (n - 1) && match y with
    | .int i => lotB n (i + 1) ys
    | _ => false
def sp_is_lot (K : PySem.W.Frag) : Sp := fun vs H Q _ => ∃ (hp : Addr) (hs : List V) (x : V), vs = [.ref hp, x] ∧ SqT K H hp hs ∧
  ((∃ ty, TyB K H x ty ∧ ty ≠ "tuple" ∧ Q (.bl false) H) ∨ ∃ (a : Addr) (xs : List V), x = .ref a ∧ SqT K H a xs ∧ (∀ y ∈ xs, ∃ ty, TyB K H y ty) ∧ Q (.bl (lotB hs.length 0 xs)) H)
theorem sc_is_lot : FnScope ["house", "value", "least", "clerk"] ["house", "value"] (defScope s_is_lot) := ⟨rfl, rfl, rfl, by decide +kernel, rfl, by decide +kernel, by decide +kernel⟩
theorem ok_is_lot (T : Txt K mg) : FnOk P w K mg base CX0 2 T.d_is_lot.f T.d_is_lot.fd ["house", "value"] (sp_is_lot K) := by
  have G := ok_is_number (P := P) (w := w) (base := base) T
  refine T.d_is_lot.F.ok sc_is_lot (fun vs H Q E h => ?_) (fun cdv A outer s H vs Q E hr h => ?_)
  · obtain ⟨hp, hs, x, rfl, _⟩ := h
    rfl
  · obtain ⟨hp, hs, x, rfl, hh, h⟩ := h
    refine ⟨_, pss_cons (ps_if (pt_cmpR op_notTyB (pe_callTy call_type1 (by rfl) T.n_type (by decide +kernel) (pa_cons (pv 1) pa_nil)) (pe_bltn (v := .ty "tuple") (u := .type "tuple") (by rfl) T.n_tuple (by decide +kernel) rfl) (nomark _)) (pss_one (ps_ret pe_bl)) pss_nil)
      (pss_cons (ps_set (i := 2) sc_is_lot.nd rfl (.inl rfl) pe_int)
      (pss_cons (ps_for PassesOwn.never rfl (pi_tup (pv 1)) (pg_name (i := 3) sc_is_lot.nd rfl (.inl rfl))
        (pss_cons (ps_if (pt_not (pt_val (pe_call G hr (by rfl) T.d_is_number.g T.d_is_number.F.kp T.d_is_number.b .nil pass0 (pa_cons (pv 3) (pa_cons (pv 2) (pa_cons (pe_op op_sub (pe_callB call_len_seq (by rfl) T.n_len PySem.boot_len (pa_cons (pv 0) pa_nil)) pe_int) pa_nil)))))) (pss_one (ps_ret pe_bl)) pss_nil)
        (pss_one (ps_set (i := 2) sc_is_lot.nd rfl (.inl rfl) (pe_op op_add (pv 3) pe_int)))))
      (pss_one (ps_ret pe_bl)))), ?_⟩
    rcases h with ⟨ty, ht, hne, q⟩ | ⟨a, xs, rfl, hx, hty, q⟩
    · refine ⟨x, rfl, x, ty, rfl, ht, ty, "tuple", rfl, rfl, _, rfl, ?_⟩
      rw [decide_eq_false hne]
      exact iteT q
    · refine ⟨.ref a, rfl, .ref a, "tuple", rfl, .tup hx, "tuple", "tuple", rfl, rfl, _, rfl, ?_⟩
      rw [decide_eq_true rfl]
      refine iteF ?_
      refine ⟨.ref a, rfl, a, rfl, ⟨_, hx⟩, for_tup (K := K) (a := a) (xs := xs) (fun i σ H2 => H2 = H ∧ ∃ (least : Int) (c : Option V), σ = [some (.ref hp), some (.ref a), some (.int least), c] ∧ lotB hs.length 0 xs = lotB hs.length least (xs.drop i))
        ⟨rfl, 0, none, rfl, rfl⟩ (fun i σ H2 _ h2 => by rw [h2.1]; exact hx) ?_ ?_⟩
      · rintro i y σ H2 hi ⟨rfl, least, c, rfl, e⟩
        have hlt : i < xs.length := (List.getElem?_eq_some_iff.mp hi).1
        have ey : xs.drop i = y :: xs.drop (i + 1) := by
          rw [List.drop_eq_getElem_cons hlt]
          congr 1
          exact (List.getElem?_eq_some_iff.mp hi).2
        rw [ey] at e
        obtain ⟨ty, ht⟩ := hty y (List.mem_of_getElem? hi)
        refine ⟨y, rfl, .int least, rfl, .ref hp, rfl, hp, hs, rfl, .inr hh, hs.length, 1, rfl, rfl, y, ty, least, (hs.length : Int) - 1, rfl, ht, isNum y least ((hs.length : Int) - 1), rfl, ?_⟩
        cases hb : isNum y least ((hs.length : Int) - 1) with
        | false =>
          refine iteT ?_
          have e2 : lotB hs.length 0 xs = false := by
            rw [e]
            show (isNum y least ((hs.length : Int) - 1) && _) = false
            rw [hb]
            rfl
          rw [e2] at q
          exact q
        | true =>
          refine iteF ?_
          obtain ⟨k, rfl⟩ : ∃ k, y = .int k := by
            cases y <;> first | exact ⟨_, rfl⟩ | (simp [isNum] at hb)
          refine ⟨.int k, rfl, k, 1, rfl, rfl, rfl, k + 1, _, rfl, ?_⟩
          rw [e]
          show (isNum (.int k) least ((hs.length : Int) - 1) && _) = _
          rw [hb]
          rfl
      · rintro σ H2 ⟨rfl, least, c, rfl, e⟩
        rw [List.drop_length] at e
        have e2 : lotB hs.length 0 xs = true := e
        rw [e2] at q
        exact q
theorem lotB_ok {n : Nat} : ∀ {l : List Nat} {least : Int}, (∀ i ∈ l, i < n) → l.Pairwise (· < ·) → (∀ i ∈ l, least ≤ i) → lotB n least (lotV l) = true
  | [], _, _, _, _ => rfl
  | i :: l, least, h1, h2, h3 => by
    have hi := h1 i List.mem_cons_self
    have hl := h3 i List.mem_cons_self
    obtain ⟨p1, p2⟩ := List.pairwise_cons.mp h2
    show (isNum (.int (i : Int)) least ((n : Int) - 1) && lotB n ((i : Int) + 1) (lotV l)) = true
    rw [lotB_ok (fun j hj => h1 j (List.mem_cons_of_mem _ hj)) p2 (fun j hj => by have := p1 j hj; omega), Bool.and_true]
    simp only [isNum, Bool.and_eq_true, decide_eq_true_eq]
    exact ⟨hl, by omega⟩
theorem LotOk.b {n : Nat} {l : List Nat} (h : LotOk n l) : lotB n 0 (lotV l) = true := lotB_ok h.lt h.rise fun i _ => by omega
theorem tyb_lot {H : Hp} {l : List Nat} : ∀ y ∈ lotV l, ∃ ty, TyB K H y ty := fun y hy => by
  obtain ⟨i, _, rfl⟩ := List.mem_map.mp hy
  exact ⟨"int", .int _⟩
end
end N

set_option Elab.async false
set_option linter.all false
set_option maxRecDepth 100000
set_option maxHeartbeats 2000000
namespace N
open Cb (lotV combs combsOf combsOf_sub)
open PySem PySem.Spec PyProof.Rows L2
section
variable {P : Program} {w : World} {K : PySem.W.Frag} {mg : Str → Option Value} {base : Heap}
def sp_check_number (K : PySem.W.Frag) : Sp := fun vs H Q _ => ∃ (i lo hi : Int), vs = [.int i, .int lo, .int hi] ∧ lo ≤ i ∧ i ≤ hi ∧ Q .non H
theorem sc_check_number : FnScope ["value", "low", "high"] ["value", "low", "high"] (defScope s_check_number) := ⟨rfl, rfl, rfl, by decide +kernel, rfl, by decide +kernel, by decide +kernel⟩
theorem ok_check_number (T : Txt K mg) : FnOk P w K mg base CX0 2 T.d_check_number.f T.d_check_number.fd ["value", "low", "high"] (sp_check_number K) := by
  have G := ok_is_number (P := P) (w := w) (base := base) T
  refine T.d_check_number.F.ok sc_check_number (fun vs H Q E h => ?_) (fun cdv A outer s H vs Q E hr h => ?_)
  · obtain ⟨i, lo, hi, rfl, _⟩ := h
    rfl
  · obtain ⟨i, lo, hi, rfl, h1, h2, q⟩ := h
    refine ⟨_, pss_one (ps_if (pt_not (pt_val (pe_call G hr (by rfl) T.d_is_number.g T.d_is_number.F.kp T.d_is_number.b .nil pass0 (pa_cons (pv 0) (pa_cons (pv 1) (pa_cons (pv 2) pa_nil)))))) (pss_one ps_never) pss_nil), ?_⟩
    refine ⟨.int i, rfl, .int lo, rfl, .int hi, rfl, .int i, "int", lo, hi, rfl, .int i, isNum (.int i) lo hi, rfl, ?_⟩
    rw [show isNum (.int i) lo hi = true by simp [isNum, h1, h2]]
    exact iteF q
def sp_check_house (K : PySem.W.Frag) : Sp := fun vs H Q _ => ∃ (a : Addr) (h : List (List Nat)), vs = [.ref a] ∧ HouseAt K H a h ∧ HouseOk h ∧ ∀ H', Same H H' → Q .non H'
theorem sc_check_house : FnScope ["house", "clerk", "row"] ["house"] (defScope s_check_house) := ⟨rfl, rfl, rfl, by decide +kernel, rfl, by decide +kernel, by decide +kernel⟩
theorem paired_at {α β : Type} {F : α → β → Prop} : ∀ {xs : List α} {ys : List β}, Paired F xs ys → ∀ {i : Nat} {x : α}, xs[i]? = some x → ∃ y, ys[i]? = some y ∧ F x y
  | _, _, .nil, i, x, h => by cases h
  | _, _, .cons r t, 0, x, h => by
    have e := Option.some.inj h
    subst e
    exact ⟨_, rfl, r⟩
  | _, _, .cons r t, i + 1, x, h => paired_at t h
theorem ok_check_house (T : Txt K mg) : FnOk P w K mg base CX0 3 T.d_check_house.f T.d_check_house.fd ["house"] (sp_check_house K) := by
  have G := ok_is_lot (P := P) (w := w) (base := base) T
  obtain ⟨tm, gm⟩ := T.g_MOST_CLERKS
  refine T.d_check_house.F.ok sc_check_house (fun vs H Q E h => ?_) (fun cdv A outer s H vs Q E hr h => ?_)
  · obtain ⟨a, h, rfl, _⟩ := h
    rfl
  · obtain ⟨a, hs, rfl, ⟨rs, hA, hP⟩, ok, q⟩ := h
    have hl : rs.length = hs.length := Paired.length hP
    have hlv : (rs.map V.ref).length = hs.length := by rw [List.length_map, hl]
    refine ⟨_, pss_cons (ps_if (PW.pt (pw_or (pt_cmpR op_notTyB (pe_callTy call_type1 (by rfl) T.n_type (by decide +kernel) (pa_cons (pv 0) pa_nil)) (pe_bltn (v := .ty "tuple") (u := .type "tuple") (by rfl) T.n_tuple (by decide +kernel) rfl) (nomark _))
        (pw_or1 (pt_not (pt_chain op_le op_le pe_int (pe_callB call_len_seq (by rfl) T.n_len PySem.boot_len (pa_cons (pv 0) pa_nil)) (pe_glob (v := .int 7) (by rfl) gm ⟨_, rfl⟩)))))) (pss_one ps_never) pss_nil)
      (pss_one (ps_for PassesOwn.never rfl (En.pi_enumT (by rfl) T.n_enumerate (pa_cons (pv 0) pa_nil)) (pg_tup rfl (pgs_cons (pg_name (i := 1) sc_check_house.nd rfl (.inl rfl)) (pgs_cons (pg_name (i := 2) sc_check_house.nd rfl (.inl rfl)) pgs_nil)))
        (pss_one (ps_if (PW.pt (pw_or (pt_not (pt_val (pe_call G hr (by rfl) T.d_is_lot.g T.d_is_lot.F.kp T.d_is_lot.b .nil pass0 (pa_cons (pv 0) (pa_cons (pv 2) pa_nil)))))
          (pw_or1 (pt_cmpR op_eq (pe_callB call_len_seq (by rfl) T.n_len PySem.boot_len (pa_cons (pv 2) pa_nil)) pe_int (nomark _))))) (pss_one ps_never) pss_nil)))), ?_⟩
    refine ⟨.ref a, rfl, .ref a, "tuple", rfl, .tup hA, "tuple", "tuple", rfl, rfl, _, rfl, ?_⟩
    rw [decide_eq_true rfl]
    refine iteF ⟨.ref a, rfl, a, _, rfl, .inr hA, 1, _, rfl, rfl, _, rfl, ?_⟩
    have h1 := ok.lo
    have h2 := ok.hi
    rw [hlv]
    rw [decide_eq_true (by omega : (1 : Int) ≤ (hs.length : Int))]
    refine iteT ⟨_, 7, rfl, rfl, _, rfl, ?_⟩
    rw [decide_eq_true (by omega : (hs.length : Int) ≤ 7)]
    refine iteF ?_
    refine ⟨.ref a, rfl, a, _, rfl, hA, En.for_enumT (K := K) (a := a) (xs := rs.map V.ref) (fun i σ H2 => Same H H2 ∧ ∃ c r : Option V, σ = [some (.ref a), c, r]) ⟨Same.refl _, none, none, rfl⟩ (fun i σ H2 _ h3 => Same.tup h3.1 hA) ?_ ?_⟩
    · rintro i x T2 σ H2 hi ⟨sm, c, r, rfl⟩ hT
      obtain ⟨rp, hri, rfl⟩ := get_refs hi
      obtain ⟨row, hrow, hat⟩ := paired_at hP hri
      have okr := ok.ok row (List.mem_of_getElem? hrow)
      have sm2 : Same H (upd H2 T2 (.tup [.int (i : Nat), .ref rp])) := sm.trans (same_upd hT)
      refine ⟨T2, [.int (i : Nat), .ref rp], rfl, .inl (.inl upd_same), rfl, .int (i : Nat), [.ref rp], rfl, .ref rp, [], rfl, rfl, ?_⟩
      have hat2 : LotAt K (upd H2 T2 (.tup [.int (i : Nat), .ref rp])) rp row := hat.same sm2
      refine ⟨.ref a, rfl, .ref rp, rfl, a, _, .ref rp, rfl, Same.tup sm2 hA, .inr ⟨rp, _, rfl, hat2, tyb_lot, ?_⟩⟩
      rw [hlv, okr.2.b]
      refine ⟨true, rfl, iteF ?_⟩
      refine ⟨.ref rp, rfl, rp, _, rfl, .inr hat2, rfl, _, rfl, ?_⟩
      have hne : ¬ ((V.int ((lotV row).length : Int)) = V.int 0) := fun z => by
        have z2 := V.int.inj z
        rw [List.length_map] at z2
        exact okr.1 (List.length_eq_zero_iff.mp (by omega))
      rw [decide_eq_false hne]
      refine iteF ?_
      exact ⟨sm2, _, _, rfl⟩
    · rintro σ H2 ⟨sm, c, r, rfl⟩
      exact q H2 sm
def sp_check_lot (K : PySem.W.Frag) : Sp := fun vs H Q _ => ∃ (a g : Addr) (h : List (List Nat)) (l : List Nat), vs = [.ref a, .ref g] ∧ HouseAt K H a h ∧ LotAt K H g l ∧ LotOk h.length l ∧ Q .non H
def sp_check_goal (K : PySem.W.Frag) : Sp := fun vs H Q _ => ∃ (a g : Addr) (h : List (List Nat)) (l : List Nat), vs = [.ref a, .ref g] ∧ HouseAt K H a h ∧ LotAt K H g l ∧ LotOk h.length l ∧ l ≠ [] ∧ Q .non H
end
end N

set_option Elab.async false
set_option linter.all false
set_option maxRecDepth 100000
set_option maxHeartbeats 2000000
namespace N
open Cb (lotV combs combsOf combsOf_sub)
open PySem PySem.Spec PyProof.Rows L2
section
variable {P : Program} {w : World} {K : PySem.W.Frag} {mg : Str → Option Value} {base : Heap}
theorem tYes_if {σ : L2.St} {H : Hp} {A B : Hp → Prop} (h : A H) : tYes σ H (fun b H3 => if b = true then A H3 else B H3) := by
  show (if true = true then A H else B H)
  rw [if_pos rfl]
  exact h
def sp_mask_of (K : PySem.W.Frag) : Sp := fun vs H Q _ => ∃ (g : Addr) (l : List Nat), vs = [.ref g] ∧ LotAt K H g l ∧ (∀ i ∈ l, i ≤ 1000) ∧ Q (.int (maskOf l : Nat)) H
theorem sc_mask_of : FnScope ["lot", "mask", "clerk"] ["lot"] (defScope s__mask_of) := ⟨rfl, rfl, rfl, by decide +kernel, rfl, by decide +kernel, by decide +kernel⟩
theorem ok_mask_of (T : Txt K mg) : FnOk P w K mg base CX0 1 T.d__mask_of.f T.d__mask_of.fd ["lot"] (sp_mask_of K) := by
  refine T.d__mask_of.F.ok sc_mask_of (fun vs H Q E h => ?_) (fun cdv A outer s H vs Q E hr h => ?_)
  · obtain ⟨g, l, rfl, _⟩ := h
    rfl
  · obtain ⟨g, l, rfl, hL, hb, q⟩ := h
    refine ⟨_, pss_cons (ps_set (i := 1) sc_mask_of.nd rfl (.inl rfl) pe_int)
      (pss_cons (ps_for PassesOwn.never rfl (pi_tup (pv 0)) (pg_name (i := 2) sc_mask_of.nd rfl (.inl rfl))
        (pss_one (ps_aug (i := 1) sc_mask_of.nd rfl (.inl rfl) (pe_op op_shl1 pe_int (pv 2)) ip_orN)))
      (pss_one (ps_ret (pv 1)))), ?_⟩
    refine ⟨.ref g, rfl, g, rfl, ⟨_, hL⟩, for_tup (K := K) (a := g) (xs := lotV l) (fun i σ H2 => H2 = H ∧ ∃ c : Option V, σ = [some (.ref g), some (.int (maskOf (l.take i) : Nat)), c])
      ⟨rfl, none, rfl⟩ (fun i σ H2 _ h2 => by rw [h2.1]; exact hL) ?_ ?_⟩
    · rintro i y σ H2 hi ⟨rfl, c, rfl⟩
      obtain ⟨k, hk, rfl⟩ := get_lotV hi
      refine ⟨.int (maskOf (l.take i) : Nat), rfl, .int k, rfl, k, rfl, rfl, hb k (List.mem_of_getElem? hk), maskOf (l.take i), 2 ^ k, rfl, rfl, rfl, some (.int k), ?_⟩
      rw [maskOf_take hk]
      rfl
    · rintro σ H2 ⟨rfl, c, rfl⟩
      have e : l.take (lotV l).length = l := by rw [List.length_map, List.take_length]
      rw [e]
      exact ⟨_, rfl, q⟩
def sp_holds (K : PySem.W.Frag) : Sp := fun vs H Q _ => ∃ (m : Nat) (g : Addr) (l : List Nat), vs = [.int m, .ref g] ∧ LotAt K H g l ∧ (∀ i ∈ l, i ≤ 1000) ∧ Q (.bl (holdsB m l)) H
theorem sc_holds : FnScope ["mask", "goal", "wanted"] ["mask", "goal"] (defScope s__holds) := ⟨rfl, rfl, rfl, by decide +kernel, rfl, by decide +kernel, by decide +kernel⟩
theorem ok_holds (T : Txt K mg) : FnOk P w K mg base CX0 2 T.d__holds.f T.d__holds.fd ["mask", "goal"] (sp_holds K) := by
  have G := ok_mask_of (P := P) (w := w) (base := base) T
  refine T.d__holds.F.ok sc_holds (fun vs H Q E h => ?_) (fun cdv A outer s H vs Q E hr h => ?_)
  · obtain ⟨m, g, l, rfl, _⟩ := h
    rfl
  · obtain ⟨m, g, l, rfl, hL, hb, q⟩ := h
    refine ⟨_, pss_cons (ps_set (i := 2) sc_holds.nd rfl (.inl rfl) (pe_call G hr (by rfl) T.d__mask_of.g T.d__mask_of.F.kp T.d__mask_of.b .nil pass0 (pa_cons (pv 1) pa_nil)))
      (pss_one (ps_ret (pe_cmpR op_eq (pe_op op_andN (pv 0) (pv 2)) (pv 2) (nomark _)))), ?_⟩
    refine ⟨.ref g, rfl, g, l, rfl, hL, hb, ?_⟩
    refine ⟨.int m, rfl, .int (maskOf l : Nat), rfl, m, maskOf l, rfl, rfl, .int (maskOf l : Nat), rfl, rfl, ?_⟩
    have e : decide (V.int ((m &&& maskOf l : Nat) : Int) = V.int (maskOf l : Nat)) = holdsB m l := by
      unfold holdsB
      by_cases h : (m &&& maskOf l) = maskOf l
      · rw [h]; simp
      · rw [decide_eq_false (fun z => h (by have := V.int.inj z; omega)), beq_eq_false_iff_ne.mpr h]
    rw [e]
    exact q
/-- lots stand at the places of a list -/
def LotsIn (H : Hp) (ts : List Addr) (ls : List (List Nat)) : Prop := Paired (fun (t : Addr) (l : List Nat) => H t = some (.tup (lotV l))) ts ls
def sp_lots_within (K : PySem.W.Frag) : Sp := fun vs H Q _ => ∃ (g : Addr) (pool : List Nat) (r : Nat), vs = [.ref g, .int r] ∧ LotAt K H g pool ∧ r ≤ pool.length ∧ pool.length ≤ 7 ∧ ∀ (H' : Hp) (p : Addr) (ts : List Addr), Same H H' → H p = none → H' p = some (.lst (ts.map V.ref)) → Paired (fun (t : Addr) (l : List Nat) => H' t = some (.tup (lotV l))) ts (combsOf pool r) → Q (.ref p) H'
theorem sc_lots_within : FnScope ["lot", "size", "slates"] ["lot", "size"] (defScope s_lots_within) := ⟨rfl, rfl, rfl, by decide +kernel, rfl, by decide +kernel, by decide +kernel⟩
theorem ok_lots_within (T : Txt K mg) : FnOk P w K mg base CX0 1 T.d_lots_within.f T.d_lots_within.fd ["lot", "size"] (sp_lots_within K) := by
  refine T.d_lots_within.F.ok sc_lots_within (fun vs H Q E h => ?_) (fun cdv A outer s H vs Q E hr h => ?_)
  · obtain ⟨g, pool, r, rfl, _⟩ := h
    rfl
  · obtain ⟨g, pool, r, rfl, hL, h1, h2, q⟩ := h
    have nd := sc_lots_within.nd
    refine ⟨_, pss_cons (ps_set (i := 2) nd rfl (.inl rfl) (pe_callTy call_list_of (by rfl) T.n_list (by decide +kernel) (pa_cons (pv 0) pa_nil)))
      (pss_one (ps_ret (Cb.pe_listComb rfl (pv 2) (pv 1) (by rfl) T.n_list (by rfl) T.g_combinations))), ?_⟩
    refine ⟨.ref g, rfl, g, lotV pool, rfl, .inr hL, fun l hl => ?_⟩
    refine ⟨.ref l, rfl, .int r, rfl, l, pool, r, rfl, rfl, upd_same, h1, h2, fun H' p ts sm hp _ _ hl2 hP => ?_⟩
    exact q H' p ts ((same_upd hl).trans sm) ((same_upd hl).free hp) hl2 hP
theorem combs_small {n r : Nat} (hr : r ≤ n) (hn : n ≤ 7) : (combs n r).length ≤ 128 := (Cb.combs_ok hr hn).choose_spec.2.2.1
theorem combs_mem {n r : Nat} {l : List Nat} : l ∈ combs n r ↔ LotOk n l ∧ l.length = r := combsOf_sub
theorem combsOf_small {pool : List Nat} {r : Nat} (hr : r ≤ pool.length) (hn : pool.length ≤ 7) : (combsOf pool r).length ≤ 128 := by
  rw [Cb.combsOf_pool, List.length_map]
  exact combs_small hr hn
def sp_coin_masks (K : PySem.W.Frag) : Sp := fun vs H Q _ => ∃ (g : Addr) (lot : List Nat) (c : Nat), vs = [.ref g, .int c] ∧ LotAt K H g lot ∧ lot.length ≤ 7 ∧ (∀ i ∈ lot, i ≤ 1000) ∧ ∀ (H' : Hp) (p : Addr), Same H H' → H p = none → H' p = some (.lst (natsV (coinMasks lot c))) → Q (.ref p) H'
theorem sc_coin_masks : FnScope ["lot", "coins", "some"] ["lot", "coins"] (defScope s__coin_masks) := ⟨rfl, rfl, rfl, by decide +kernel, rfl, by decide +kernel, by decide +kernel⟩
theorem lotV_len (l : List Nat) : (lotV l).length = l.length := List.length_map ..
theorem ok_coin_masks (T : Txt K mg) : FnOk P w K mg base CX0 2 T.d__coin_masks.f T.d__coin_masks.fd ["lot", "coins"] (sp_coin_masks K) := by
  have G1 := ok_mask_of (P := P) (w := w) (base := base) T
  have G2 := ok_lots_within (P := P) (w := w) (base := base) T
  refine T.d__coin_masks.F.ok sc_coin_masks (fun vs H Q E h => ?_) (fun cdv A outer s H vs Q E hr h => ?_)
  · obtain ⟨g, lot, c, rfl, _⟩ := h
    rfl
  · obtain ⟨g, lot, c, rfl, hL, hn, hb, q⟩ := h
    refine ⟨_, pss_one (ps_ret (pe_lc (own := [("some", 2)]) (g := gName 2) (tt := tYes) rfl sc_coin_masks.nd
      (pi_list (pe_call G2 hr (by rfl) T.d_lots_within.g T.d_lots_within.F.kp T.d_lots_within.b .nil pass0 (pa_cons (pv 0)
        (pa_cons (pe_callB (call_min2 rfl) (by rfl) T.n_min (by decide +kernel) (pa_cons (pv 1) (pa_cons (pe_callB call_len_seq (by rfl) T.n_len PySem.boot_len (pa_cons (pv 0) pa_nil)) pa_nil))) pa_nil))))
      (blkOk_by (N := ["lot", "coins", "some"]) (sc := defScope s__coin_masks) (by decide +kernel)) (fun _ _ _ _ _ => pg_name (i := 2) sc_coin_masks.nd rfl (.inl rfl)) (fun _ _ _ _ _ => pts_nil)
      (fun _ _ _ _ _ => pe_call G1 hr (by rfl) T.d__mask_of.g T.d__mask_of.F.kp T.d__mask_of.b .nil pass0 (pa_cons (pv 2) pa_nil)))), ?_⟩
    refine ⟨.ref g, rfl, .int c, rfl, .ref g, rfl, g, lotV lot, rfl, .inr hL, c, (lotV lot).length, rfl, ?_⟩
    rw [lotV_len]
    have em : (if (lot.length : Int) < (c : Int) then (lot.length : Int) else (c : Int)) = ((min c lot.length : Nat) : Int) := by
      split <;> omega
    rw [em]
    refine ⟨g, lot, min c lot.length, rfl, hL, Nat.min_le_right _ _, hn, fun H1 p ts sm hp hl hP => ?_⟩
    have hlen : ts.length = (combsOf lot (min c lot.length)).length := Paired.length hP
    have hsm := combsOf_small (Nat.min_le_right c lot.length) hn
    refine ⟨p, rfl, ⟨_, SqL.up hl⟩, fun D hD => lc_list (K := K) (a := p) (xs := ts.map V.ref) (fun i H2 => ∃ H3, Same H1 H3 ∧ H3 D = none ∧ H2 = upd H3 D (.lst (natsV ((coinMasks lot c).take i))))
      ⟨H1, Same.refl _, hD, rfl⟩ ?_ ?_ ?_⟩
    · rintro i H2 _ ⟨H3, s3, hD3, rfl⟩
      refine SqL.up ?_
      rw [upd_ne (ne_of_none (s3 _ _ hl) hD3)]
      exact s3 _ _ hl
    · rintro i y H2 hi ⟨H3, s3, hD3, rfl⟩
      obtain ⟨t, ht, rfl⟩ := get_refs hi
      obtain ⟨l, hl2, e⟩ := paired_at hP ht
      have hm := combsOf_sub.mp (List.mem_of_getElem? hl2)
      refine ⟨rfl, tYes_if ?_⟩
      refine ⟨.ref t, rfl, t, l, rfl, ?_, fun i hi => hb i (hm.1.subset hi), ?_⟩
      · refine SqT.up ?_
        rw [upd_ne (ne_of_none (s3 _ _ e) hD3)]
        exact s3 _ _ e
      · refine ⟨_, upd_same, ?_, H3, s3, hD3, ?_⟩
        · rw [natsV, List.length_map, List.length_take, coinMasks, List.length_map]
          exact Nat.lt_of_le_of_lt (Nat.min_le_right _ _) (small1000 (by omega))
        · rw [upd_upd]
          congr 2
          have e2 : (coinMasks lot c)[i]? = some (maskOf l) := by rw [coinMasks, List.getElem?_map, hl2]; rfl
          exact (natsV_take e2).symm
    · rintro H2 ⟨H3, s3, hD3, rfl⟩
      refine q _ D ((sm.trans s3).trans (same_upd hD3)) (sm.free hD) ?_
      rw [upd_same]
      congr 3
      refine List.take_of_length_le ?_
      rw [coinMasks, List.length_map, List.length_map, hlen]
      exact Nat.le_refl _
def sp_next_cover (K : PySem.W.Frag) : Sp := fun vs H Q _ => ∃ (a : Addr) (ss : List Nat) (held : Nat), vs = [.ref a, .int held] ∧ SqL K H a (natsV ss) ∧ ss.length ≤ 1000 ∧ ∀ H', Same H H' → Q (.int (nextM ss held : Nat)) H'
theorem sc_next_cover : FnScope ["sights", "held", "cover", "clerk", "sight"] ["sights", "held"] (defScope s__next_cover) := ⟨rfl, rfl, rfl, by decide +kernel, rfl, by decide +kernel, by decide +kernel⟩
theorem ok_next_cover (T : Txt K mg) : FnOk P w K mg base CX0 1 T.d__next_cover.f T.d__next_cover.fd ["sights", "held"] (sp_next_cover K) := by
  refine T.d__next_cover.F.ok sc_next_cover (fun vs H Q E h => ?_) (fun cdv A outer s H vs Q E hr h => ?_)
  · obtain ⟨a, ss, held, rfl, _⟩ := h
    rfl
  · obtain ⟨a, ss, held, rfl, hA, hn, q⟩ := h
    have nd := sc_next_cover.nd
    refine ⟨_, pss_cons (ps_set (i := 2) nd rfl (.inl rfl) pe_int)
      (pss_cons (ps_for PassesOwn.never rfl (pi_enum (by rfl) T.n_enumerate (pa_cons (pv 0) pa_nil)) (pg_tup rfl (pgs_cons (pg_name (i := 3) nd rfl (.inl rfl)) (pgs_cons (pg_name (i := 4) nd rfl (.inl rfl)) pgs_nil)))
        (pss_one (ps_if (pt_cmpR op_eq (pe_op op_andN (pv 4) (pv 1)) (pv 4) (nomark _)) (pss_one (ps_aug (i := 2) nd rfl (.inl rfl) (pe_op op_shl1 pe_int (pv 3)) ip_orN)) pss_nil)))
      (pss_one (ps_ret (pv 2)))), ?_⟩
    refine ⟨.ref a, rfl, a, _, rfl, hA, for_enumL (K := K) (a := a) (xs := natsV ss) (fun i σ H2 => Same H H2 ∧ ∃ (acc : Nat) (c d : Option V), σ = [some (.ref a), some (.int held), some (.int acc), c, d] ∧ nextM ss held = nextFrom held i (ss.drop i) acc)
      ⟨Same.refl _, 0, none, none, rfl, rfl⟩ (fun i σ H2 _ h3 => Same.seq h3.1 hA) ?_ ?_⟩
    · rintro i y T2 σ H2 hi ⟨sm, acc, c, d, rfl, e⟩ hT
      obtain ⟨k, hk, rfl⟩ := get_lotV hi
      have hlt : i < ss.length := (List.getElem?_eq_some_iff.mp hk).1
      have ek : ss.drop i = k :: ss.drop (i + 1) := by
        rw [List.drop_eq_getElem_cons hlt]
        congr 1
        exact (List.getElem?_eq_some_iff.mp hk).2
      rw [ek] at e
      refine ⟨T2, [.int (i : Nat), .int (k : Int)], rfl, .inl (.inl upd_same), rfl, .int (i : Nat), [.int (k : Int)], rfl, .int (k : Int), [], rfl, rfl, ?_⟩
      have sm2 := sm.trans (same_upd (o := .tup [.int (i : Nat), .int (k : Int)]) hT)
      refine ⟨.int (k : Int), rfl, .int (held : Int), rfl, k, held, rfl, rfl, .int (k : Int), rfl, rfl, _, rfl, ?_⟩
      refine ite2 (fun hb => ?_) (fun hb => ?_)
      · have hb2 : (k &&& held) = k := by
          have := V.int.inj (of_decide_eq_true hb)
          omega
        refine ⟨.int (acc : Int), rfl, .int (i : Nat), rfl, i, rfl, rfl, by omega, acc, 2 ^ i, rfl, rfl, ?_⟩
        refine ⟨sm2, acc ||| 2 ^ i, _, _, rfl, ?_⟩
        rw [e]
        show nextFrom held (i + 1) (ss.drop (i + 1)) (if (k &&& held) = k then acc ||| 2 ^ i else acc) = _
        rw [if_pos hb2]
      · have hb2 : ¬ ((k &&& held) = k) := fun z => hb (by rw [z]; exact decide_eq_true rfl)
        refine ⟨sm2, acc, _, _, rfl, ?_⟩
        rw [e]
        show nextFrom held (i + 1) (ss.drop (i + 1)) (if (k &&& held) = k then acc ||| 2 ^ i else acc) = _
        rw [if_neg hb2]
    · rintro σ H2 ⟨sm, acc, c, d, rfl, e⟩
      have e2 : ss.drop (natsV ss).length = [] := by rw [natsV, List.length_map, List.drop_length]
      rw [e2] at e
      refine ⟨_, rfl, ?_⟩
      have z := q H2 sm
      rw [e] at z
      exact z
end
end N

set_option Elab.async false
set_option linter.all false
set_option maxRecDepth 100000
set_option maxHeartbeats 2000000
/-! {t: v}, t a tuple -/
namespace N
open Cb (lotV combs combsOf combsOf_sub)
open PySem PySem.Spec PyProof.Rows L2
def tDispT (tk tv : TE) : TE := fun σ H Q => ∀ d, H d = none → tk σ (upd H d (.dT [])) fun x H1 => tv σ H1 fun y H2 => ∃ (b : Addr) (k : List Key), x = .ref b ∧ H2 b = some (.tup (k.map kV)) ∧ H2 d = some (.dT []) ∧ Q (.ref d) (upd H2 d (.dT [(k, y)]))
theorem pe_dispT {X : Cx} {pos : Pos} {ke ve : Expr} {tk tv : TE} (hu : X.A.units + 1 < cLine) (hk : PE X ke tk) (hv : PE X ve tv) : PE X (.Dict [some ke] [ve] pos) (tDispT tk tv) := by
  refine ⟨fun pins s σ H Q I q => ?_⟩
  have hn := I.hok.fresh (Nat.le_refl s.heap.objs.size)
  have I1 := I.laid (a := s.heap.objs.size) (o := .dT []) (h' := s.heap.push { cls := .type "dict", data := .dict #[] }) (t' := s.toks) (fun _ _ q => Heap.get?_push_of_some _ q) (Nat.le_refl _) (dt_empty s.heap I.big)
  rw [arm_eval_Dict, zip_pairTrees [some ke] [ve] X.env pos rfl rfl, dictDisplay_pairs _ (by simp [pairTrees]) (by simp [pairTrees])]
  refine wpAny_bind (wpAny_standAt (wpAny_bind ?_))
  unfold subDict
  refine wpAny_bind (wpAny_alloc ?_)
  refine wpAny_bind (wpAny_holding ?_)
  rw [if_pos (by simp [pairTrees])]
  refine wpAny_bind ?_
  refine wpAny_mono (pairTrees_cons_walk (Q := fun vs s' => ∃ u v, vs = [(u, v)] ∧ EP X pins σ (fun x H2 => ∃ (y : V) (b : Addr) (k : List Key), RelV y v ∧ x = .ref b ∧ H2 b = some (.tup (k.map kV)) ∧ H2 s.heap.objs.size = some (.dT []) ∧ Q (.ref s.heap.objs.size) (upd H2 s.heap.objs.size (.dT [(k, y)]))) u s')
    (thn (hk.run pins _ σ _ _ I1 (q _ hn)) fun u s1 ⟨x, H1, I2, rx, q1⟩ => thn (hv.run pins s1 σ H1 _ I2 q1) fun v s2 ⟨y, H2, I3, ry, b, k, ex, hb, hd, q2⟩ => evalPairs_nil ⟨u, v, rfl, x, H2, I3, rx, y, b, k, ry, ex, hb, hd, q2⟩)) (fun vs s1 h1 => ?_) fun _ _ e => e
  obtain ⟨u, v, rfl, x, H2, I2, rx, y, b, k, ry, rfl, hb, hd, q2⟩ := h1
  cases rx
  refine wpAny_holding ?_
  refine wpAny_bind ?_
  rw [List.forIn_cons]
  obtain ⟨z, hds, xs, rel, dd⟩ := dt_of I2.hok hd
  cases rel
  refine wpAny_bind (wpAny_bind (wpAny_dictSet_heap (hsz := Nat.zero_le _) ?hu (key_of I2.hok hb) dd fun h' dd' hs => wpAny_pure ?_))
  case hu => exact (Nat.lt_of_succ_lt hu : X.A.units < cLine)
  try dsimp only
  rw [List.forIn_nil]
  refine wpAny_pure (wpAny_pure (wpAny_pure (wpAny_pure ?_)))
  obtain ⟨qo, es, ep, hq, h2, h3, h4, _, h5⟩ := dd'
  have new : ObjOk X.prog X.w (upd H2 s.heap.objs.size (.dT [(k, y)])) h' s.heap.objs.size (.dT [(k, y)]) :=
    ⟨(by show 1 ≤ sizeLine; decide), hds, _, (KT.put (H := H2) Paired.nil k hb ry).keeps fun c ys ec => by
      rw [upd_ne (ne_of ec hd (fun z => nomatch z))]
      exact ec, qo, es, ep, hq, h2, h3, h4, h5⟩
  exact ⟨.ref s.heap.objs.size, _, d_write I2 (by rw [hd]; exact True.intro) hs ⟨qo, hq⟩ new, rfl, q2⟩
end N

set_option Elab.async false
set_option linter.all false
set_option maxRecDepth 100000
set_option maxHeartbeats 2000000
/-! the dict of the search, over the heap -/
namespace N
open Cb (lotV combs combsOf combsOf_sub)
open PySem PySem.Spec PyProof.Rows L2
/-- a place as values -/
abbrev plV (p : Nat × Nat) : List V := [.int (p.1 : Int), .int (p.2 : Int)]
def keyP (p : Nat × Nat) : List Key := [Sum.inl (p.1 : Int), Sum.inl (p.2 : Int)]
theorem keyP_V (p : Nat × Nat) : (keyP p).map kV = plV p := rfl
theorem keyP_inj {p q : Nat × Nat} (h : keyP p = keyP q) : p = q := by
  unfold keyP at h
  have h1 := (List.cons.inj h).1
  have h2 := (List.cons.inj (List.cons.inj h).2).1
  have h3 := Sum.inl.inj h1
  have h4 := Sum.inl.inj h2
  exact Prod.ext (by omega) (by omega)
def BackAt (H : Hp) (v : V) : Option ((Nat × Nat) × Nat) → Prop
  | none => v = .non
  | some (c, cm) => ∃ t u, v = .ref t ∧ H t = some (.tup [.ref u, .int (cm : Int)]) ∧ H u = some (.tup (plV c))
theorem BackAt.mono {H H' : Hp} {v : V} {b : Option ((Nat × Nat) × Nat)} (h : BackAt H v b) (k : ∀ t xs, H t = some (.tup xs) → H' t = some (.tup xs)) : BackAt H' v b := by
  cases b with
  | none => exact h
  | some p =>
    obtain ⟨t, u, e, ht, hu⟩ := h
    exact ⟨t, u, e, k _ _ ht, k _ _ hu⟩
def EntAt (H : Hp) (kv : List Key × V) (e : Ent) : Prop := kv.1 = keyP e.p ∧ BackAt H kv.2 e.b
def WaysAt (H : Hp) (wp : Addr) (es : List Ent) : Prop := ∃ kvs, H wp = some (.dT kvs) ∧ Paired (EntAt H) kvs es
theorem valV_ents {H : Hp} {m : Nat × Nat} : ∀ {kvs : List (List Key × V)} {es : List Ent}, Paired (EntAt H) kvs es → (valV kvs (keyP m) = none ↔ ¬ ∃ e ∈ es, e.p = m)
  | _, _, .nil => by simp [valV_nil]
  | kv :: kvs, e :: es, .cons r t => by
    by_cases h : e.p = m
    · have e1 : kv.1 = keyP m := by rw [r.1, h]
      rw [valV_pos e1]
      constructor
      · intro z; cases z
      · intro z; exact absurd ⟨e, List.mem_cons_self, h⟩ z
    · have e1 : ¬ kv.1 = keyP m := by
        rw [r.1]
        intro z
        exact h (keyP_inj z)
      rw [valV_neg e1, valV_ents t]
      constructor
      · rintro z ⟨x, hx, ex⟩
        rcases List.mem_cons.mp hx with y | y
        · rw [y] at ex; exact h ex
        · exact z ⟨x, y, ex⟩
      · rintro z ⟨x, hx, ex⟩
        exact z ⟨x, List.mem_cons_of_mem _ hx, ex⟩
/-- places stand at the items of a list -/
abbrev PlsAt (H : Hp) (ts : List Addr) (ps : List (Nat × Nat)) : Prop := Paired (fun (t : Addr) (p : Nat × Nat) => H t = some (.tup (plV p))) ts ps
/-- what stands in the heap within a day's search -/
structure WH (H0 H : Hp) (wp lp fp : Addr) (es : List Ent) (ts : List Addr) (L : List (Nat × Nat)) (fs : List Addr) (F : List (Nat × Nat)) : Prop where
  sm : Same H0 H
  ways : WaysAt H wp es
  lat : H lp = some (.lst (ts.map V.ref))
  ltp : PlsAt H ts L
  fnd : H fp = some (.lst (fs.map V.ref))
  ftp : PlsAt H fs F
  nw : H0 wp = none
  nf : H0 fp = none
  nlf : lp ≠ fp
theorem WaysAt.same {H H' : Hp} {wp : Addr} {es : List Ent} (x : WaysAt H wp es) (e : Same H H') : WaysAt H' wp es := by
  obtain ⟨kvs, h1, h2⟩ := x
  exact ⟨kvs, e _ _ h1, paired_mono h2 fun _ _ z => ⟨z.1, z.2.mono fun t xs q => e _ _ q⟩⟩
theorem WH.same {H0 H H' : Hp} {wp lp fp : Addr} {es : List Ent} {ts fs : List Addr} {L F : List (Nat × Nat)} (x : WH H0 H wp lp fp es ts L fs F) (e : Same H H') : WH H0 H' wp lp fp es ts L fs F :=
  ⟨x.sm.trans e, x.ways.same e, e _ _ x.lat, paired_mono x.ltp fun _ _ z => e _ _ z, e _ _ x.fnd, paired_mono x.ftp fun _ _ z => e _ _ z, x.nw, x.nf, x.nlf⟩
theorem WH.put {H0 H : Hp} {wp lp fp t u f : Addr} {es : List Ent} {ts fs : List Addr} {L F : List (Nat × Nat)} {kvs : List (List Key × V)} {m c : Nat × Nat} {d cm : Nat} (x : WH H0 H wp lp fp es ts L fs F) (ht : H t = some (.tup [.ref u, .int (cm : Int)])) (hu : H u = some (.tup (plV c))) (hf : H f = some (.tup (plV m)))
    (hk : H wp = some (.dT kvs)) (hP : Paired (EntAt H) kvs es) (hn : valV kvs (keyP m) = none) :
    WH H0 (upd (upd H wp (.dT (putK kvs (keyP m) (.ref t)))) fp (.lst (fs.map V.ref ++ [.ref f]))) wp lp fp (es ++ [⟨m, d, some (c, cm)⟩]) ts L (fs ++ [f]) (F ++ [m]) := by
  have wlp : lp ≠ wp := ne_of x.lat hk (by intro z; cases z)
  have wfp : fp ≠ wp := ne_of x.fnd hk (by intro z; cases z)
  generalize eH : upd (upd H wp (.dT (putK kvs (keyP m) (.ref t)))) fp (.lst (fs.map V.ref ++ [.ref f])) = H'
  have kp : ∀ b o, H b = some o → b ≠ wp → b ≠ fp → H' b = some o := fun b o e h1 h2 => by
    rw [← eH, upd_ne h2, upd_ne h1]
    exact e
  have tups : ∀ b xs, H b = some (.tup xs) → H' b = some (.tup xs) := fun b xs e =>
    kp b _ e (ne_of e hk (by intro z; cases z)) (ne_of e x.fnd (by intro z; cases z))
  refine ⟨fun b o e => kp b o (x.sm b o e) (ne_of_none e x.nw) (ne_of_none e x.nf), ⟨putK kvs (keyP m) (.ref t), ?_, ?_⟩, kp lp _ x.lat wlp x.nlf, paired_mono x.ltp fun _ _ z => tups _ _ z, ?_, ?_, x.nw, x.nf, x.nlf⟩
  · rw [← eH, upd_ne wfp.symm, upd_same]
  · rw [putK_new (V.ref t) hn]
    exact Cb.paired_snoc (F := EntAt H') (a := (keyP m, V.ref t)) (b := ⟨m, d, some (c, cm)⟩) ⟨rfl, t, u, rfl, tups _ _ ht, tups _ _ hu⟩ (paired_mono hP fun kv e z => ⟨z.1, z.2.mono tups⟩)
  · rw [← eH, upd_same, List.map_append]
    rfl
  · exact Cb.paired_snoc (F := fun (t : Addr) (p : Nat × Nat) => H' t = some (.tup (plV p))) (tups _ _ hf) (paired_mono x.ftp fun _ _ z => tups _ _ z)
section
variable {P : Program} {w : World} {K : PySem.W.Frag} {mg : Str → Option Value} {base : Heap}
theorem natsV_get {l : List Nat} {i : Nat} {x : V} (h : (natsV l)[i]? = some x) : ∃ k, l[i]? = some k ∧ x = .int (k : Int) := get_lotV h
theorem natsV_len (l : List Nat) : (natsV l).length = l.length := List.length_map ..
theorem paired_right {α β : Type} {F : α → β → Prop} : ∀ {xs : List α} {ys : List β}, Paired F xs ys → ∀ {i : Nat} {y : β}, ys[i]? = some y → ∃ x, xs[i]? = some x ∧ F x y
  | _, _, .nil, i, x, h => by cases h
  | _, _, .cons r t, 0, x, h => by
    have e := Option.some.inj h
    subst e
    exact ⟨_, rfl, r⟩
  | _, _, .cons r t, i + 1, x, h => paired_right t h
theorem take_mem_succ {α : Type} {l : List α} {i : Nat} {k : α} (h : l[i]? = some k) {x : α} (hx : x ∈ l.take (i + 1)) : x ∈ l.take i ∨ x = k := by
  rw [List.take_add_one, h] at hx
  rcases List.mem_append.mp hx with z | z
  · exact .inl z
  · exact .inr (by simpa using z)
/-- lists of numbers stand at the items of a list -/
abbrev NatsAt (H : Hp) (ts : List Addr) (ls : List (List Nat)) : Prop := Paired (fun (t : Addr) (l : List Nat) => H t = some (.lst (natsV l))) ts ls
def sp_ways (K : PySem.W.Frag) : Sp := fun vs H Q _ => ∃ (a g ap : Addr) (h : List (List Nat)) (lot alw : List Nat), vs = [.ref a, .ref g, .ref ap] ∧ HouseAt K H a h ∧ HouseOk h ∧ LotAt K H g lot ∧ LotOk h.length lot ∧ LotAt K H ap alw ∧ 1 ≤ alw.length ∧ alw.length ≤ 6 ∧
  ∀ (H' : Hp) (wp : Addr) (es : List Ent), Same H H' → H wp = none → WaysAt H' wp es → WaysOk (h.map maskOf) (cmsOf lot alw) es → Q (.ref wp) H'
theorem sc_ways : FnScope ["house", "lot", "allowance", "sights", "coin_masks", "ways", "latest", "found", "cover", "day", "next_day", "coin_mask", "following", "row", "coins"] ["house", "lot", "allowance"] (defScope s__ways) := ⟨rfl, rfl, rfl, by decide +kernel, rfl, by decide +kernel, by decide +kernel⟩
theorem ok_ways (T : Txt K mg) : FnOk P w K mg base CX0 3 T.d__ways.f T.d__ways.fd ["house", "lot", "allowance"] (sp_ways K) := by
  have G1 := ok_mask_of (P := P) (w := w) (base := base) T
  have G2 := ok_coin_masks (P := P) (w := w) (base := base) T
  have G3 := ok_next_cover (P := P) (w := w) (base := base) T
  refine T.d__ways.F.ok sc_ways (fun vs H Q E h => ?_) (fun cdv A outer s H vs Q E hr h => ?_)
  · obtain ⟨a, g, ap, h, lot, alw, rfl, _⟩ := h
    rfl
  · obtain ⟨a, g, ap, hs, lot, alw, rfl, hA, ok, hL, okL, hW, ha1, ha6, q⟩ := h
    have nd := sc_ways.nd
    have hu := hu_of hr
    have hr1 : Room 1 _ := hr.mono (by decide)
    have hr2 : Room 2 _ := hr.mono (by decide)
    obtain ⟨rs, hR, hP⟩ := id hA
    have hl : rs.length = hs.length := Paired.length hP
    have hlv : (rs.map V.ref).length = hs.length := by rw [List.length_map, hl]
    have hlen := okL.len
    have h7 := ok.hi
    refine ⟨_, pss_cons (ps_setLc (i := 3) (own := [("row", 13)]) (g := gName 13) (tt := tYes) rfl nd rfl rfl (sw_true rfl rfl rfl (by decide +kernel)) (pi_tup (pv 0))
        (blkOk_by (N := ["house", "lot", "allowance", "sights", "coin_masks", "ways", "latest", "found", "cover", "day", "next_day", "coin_mask", "following", "row", "coins"]) (sc := defScope s__ways) (by decide +kernel)) (fun _ _ _ _ _ => pg_name (i := 13) nd rfl (.inl rfl)) (fun _ _ _ _ _ => pts_nil)
        (fun _ _ _ _ _ => pe_call G1 hr1 (by rfl) T.d__mask_of.g T.d__mask_of.F.kp T.d__mask_of.b .nil pass0 (pa_cons (pv 13) pa_nil)))
      (pss_cons (ps_setLc (i := 4) (own := [("coins", 14)]) (g := gName 14) (tt := tYes) rfl nd rfl rfl (sw_true rfl rfl rfl (by decide +kernel)) (pi_tup (pv 2))
        (blkOk_by (N := ["house", "lot", "allowance", "sights", "coin_masks", "ways", "latest", "found", "cover", "day", "next_day", "coin_mask", "following", "row", "coins"]) (sc := defScope s__ways) (by decide +kernel)) (fun _ _ _ _ _ => pg_name (i := 14) nd rfl (.inl rfl)) (fun _ _ _ _ _ => pts_nil)
        (fun _ _ _ _ _ => pe_call G2 hr2 (by rfl) T.d__coin_masks.g T.d__coin_masks.F.kp T.d__coin_masks.b .nil pass0 (pa_cons (pv 1) (pa_cons (pv 14) pa_nil))))
      (pss_cons (ps_set (i := 5) nd rfl (.inl rfl) (pe_dispT hu (pe_tup (pa_cons pe_int (pa_cons pe_int pa_nil))) pe_non))
      (pss_cons (ps_set (i := 6) nd rfl (.inl rfl) (pe_lst (pa_cons (pe_tup (pa_cons pe_int (pa_cons pe_int pa_nil))) pa_nil)))
      (pss_cons (ps_while PassesOwn.never (pt_truth (pv 6) (by intro _; rfl))
        (pss_cons (ps_set (i := 7) nd rfl (.inl rfl) (pe_lst pa_nil))
        (pss_cons (ps_for PassesOwn.never rfl (pi_list (pv 6)) (pg_tup rfl (pgs_cons (pg_name (i := 8) nd rfl (.inl rfl)) (pgs_cons (pg_name (i := 9) nd rfl (.inl rfl)) pgs_nil)))
          (pss_cons (ps_set (i := 10) nd rfl (.inl rfl) (pe_op op_mod (pe_op op_add (pv 9) pe_int) (pe_callB call_len_seq (by rfl) T.n_len PySem.boot_len (pa_cons (pv 2) pa_nil))))
          (pss_one (ps_for PassesOwn.never rfl (pi_list (pe_ix ix_list (pv 4) (pv 9) (fun _ _ => rfl))) (pg_name (i := 11) nd rfl (.inl rfl))
            (pss_cons (ps_set (i := 12) nd rfl (.inl rfl) (pe_tup (pa_cons (pe_call G3 hr1 (by rfl) T.d__next_cover.g T.d__next_cover.F.kp T.d__next_cover.b .nil pass0 (pa_cons (pv 3) (pa_cons (pe_op op_orN (pv 8) (pv 11)) pa_nil))) (pa_cons (pv 10) pa_nil))))
            (pss_one (ps_if (pt_cmp (pc_dnotin hu (pv 12) (pv 5)))
              (pss_cons (ps_dput hu (pv 5) (pv 12) (pe_tup (pa_cons (pe_tup (pa_cons (pv 8) (pa_cons (pv 9) pa_nil))) (pa_cons (pv 11) pa_nil))) rfl)
              (pss_one (ps_expr (pe_bm PySem.F.plainAttrs_list PySem.F.slot_list_append PySem.F.type_list_append mt_append (pv 7) (pa_cons (pv 12) pa_nil))))) pss_nil)))))))
        (pss_one (ps_set (i := 6) nd rfl (.inl rfl) (pv 7))))))
      (pss_one (ps_ret (pv 5))))))), ?_⟩
    -- sights
    refine ⟨.ref a, rfl, a, rfl, ⟨_, hR⟩, fun sp hsp => lc_tup (K := K) (a := a) (xs := rs.map V.ref) (fun i H2 => H2 = upd H sp (.lst (natsV ((hs.map maskOf).take i)))) rfl (fun i H2 _ e => by rw [e]; exact Same.tup (same_upd hsp) hR) ?_ ?_⟩
    · rintro i y H2 hi rfl
      obtain ⟨r, hri, rfl⟩ := get_refs hi
      obtain ⟨row, hrow, hat⟩ := paired_at hP hri
      have okr := (ok.ok row (List.mem_of_getElem? hrow)).2
      refine ⟨rfl, tYes_if ?_⟩
      refine ⟨.ref r, rfl, r, row, rfl, hat.same (same_upd hsp), fun j hj => by have h1 := okr.lt j hj; omega, _, upd_same, ?_, ?_⟩
      · rw [natsV_len, List.length_take, List.length_map]
        exact Nat.lt_of_le_of_lt (Nat.min_le_right _ _) (small1000 (by omega))
      · rw [upd_upd]
        have e2 : (hs.map maskOf)[i]? = some (maskOf row) := by rw [List.getElem?_map, hrow]; rfl
        rw [natsV_take e2]
    · rintro H2 rfl
      have et : (hs.map maskOf).take (rs.map V.ref).length = hs.map maskOf := List.take_of_length_le (by rw [hlv, List.length_map]; exact Nat.le_refl _)
      rw [et]
      have sm2 : Same H (upd H sp (.lst (natsV (hs.map maskOf)))) := same_upd hsp
      generalize eH2 : upd H sp (.lst (natsV (hs.map maskOf))) = H2 at sm2
      have esp2 : H2 sp = some (.lst (natsV (hs.map maskOf))) := by rw [← eH2, upd_same]
      -- coin_masks
      refine ⟨.ref ap, rfl, ap, rfl, ⟨_, Same.tup sm2 hW⟩, fun cp hcp => lc_tup (K := K) (a := ap) (xs := lotV alw) (fun i H3 => ∃ (ts : List Addr) (H4 : Hp), Same H2 H4 ∧ H4 cp = none ∧ H3 = upd H4 cp (.lst (ts.map V.ref)) ∧ NatsAt H4 ts ((cmsOf lot alw).take i))
        ⟨[], H2, Same.refl _, hcp, rfl, .nil⟩ (fun i H3 _ ⟨ts, H4, s4, h4, e, _⟩ => by rw [e]; exact Same.tup ((sm2.trans s4).trans (same_upd h4)) hW) ?_ ?_⟩
      · rintro i y H3 hi ⟨ts, H4, s4, h4, rfl, hts⟩
        obtain ⟨c, hc, rfl⟩ := get_lotV hi
        have s5 : Same H (upd H4 cp (.lst (ts.map V.ref))) := (sm2.trans s4).trans (same_upd h4)
        refine ⟨rfl, tYes_if ?_⟩
        refine ⟨.ref g, rfl, .int (c : Int), rfl, g, lot, c, rfl, hL.same s5, by omega, fun j hj => by have h1 := okL.lt j hj; omega, fun H6 p6 s6 hp6 e6 => ?_⟩
        have ecp : H6 cp = some (.lst (ts.map V.ref)) := s6 _ _ upd_same
        have hp4 : H4 p6 = none := by
          rw [upd_ne (fun z => by rw [z, upd_same] at hp6; cases hp6)] at hp6
          exact hp6
        have pne : p6 ≠ cp := fun z => by rw [z, upd_same] at hp6; cases hp6
        have hlt : ts.length = ((cmsOf lot alw).take i).length := Paired.length hts
        refine ⟨_, ecp, ?_, ts ++ [p6], fun b => if b = cp then none else H6 b, ?_, ?_, ?_, ?_⟩
        · rw [List.length_map, hlt, List.length_take]
          refine Nat.lt_of_le_of_lt (Nat.min_le_right _ _) (small1000 ?_)
          rw [cms_len]
          omega
        · intro b o e
          have hb : b ≠ cp := ne_of_none e hcp
          show (if b = cp then none else H6 b) = _
          rw [if_neg hb]
          refine s6 _ _ ?_
          rw [upd_ne hb]
          exact s4 _ _ e
        · exact if_pos rfl
        · funext b
          by_cases hb : b = cp
          · subst hb
            rw [upd_same, upd_same, List.map_append]
            rfl
          · rw [upd_ne hb, upd_ne hb]
            show _ = (if b = cp then none else H6 b)
            rw [if_neg hb]
        · have ec : (cmsOf lot alw)[i]? = some (coinMasks lot c) := by rw [cmsOf, List.getElem?_map, hc]; rfl
          have etk : (cmsOf lot alw).take (i + 1) = (cmsOf lot alw).take i ++ [coinMasks lot c] := by rw [List.take_add_one, ec]; rfl
          rw [etk]
          refine Cb.paired_snoc (F := fun (t : Addr) (l : List Nat) => (if t = cp then none else H6 t) = some (.lst (natsV l))) ?_ (paired_mono hts fun t l z => ?_)
          · rw [if_neg pne]
            exact e6
          · have hb : t ≠ cp := ne_of_none z h4
            rw [if_neg hb]
            refine s6 _ _ ?_
            rw [upd_ne hb]
            exact z
      · rintro H3' ⟨cts, H4, s4, h4, rfl, hcts⟩
        have etk : (cmsOf lot alw).take (lotV alw).length = cmsOf lot alw := List.take_of_length_le (by rw [cms_len, lotV_len]; exact Nat.le_refl _)
        rw [etk] at hcts
        have sm5 : Same H4 (upd H4 cp (.lst (cts.map V.ref))) := same_upd h4
        have ecp : (upd H4 cp (.lst (cts.map V.ref))) cp = some (.lst (cts.map V.ref)) := upd_same
        have hcts5 : NatsAt (upd H4 cp (.lst (cts.map V.ref))) cts (cmsOf lot alw) := paired_mono hcts fun t l z => sm5 _ _ z
        have smH : Same H (upd H4 cp (.lst (cts.map V.ref))) := (sm2.trans s4).trans sm5
        have esp : (upd H4 cp (.lst (cts.map V.ref))) sp = some (.lst (natsV (hs.map maskOf))) := sm5 _ _ (s4 _ _ esp2)
        generalize upd H4 cp (.lst (cts.map V.ref)) = H3 at ecp hcts5 smH esp
        clear hcts sm5
        have hss : (hs.map maskOf).length ≤ 7 := by rw [List.length_map]; exact ok.hi
        have hcl : (cmsOf lot alw).length = alw.length := cms_len lot alw
        generalize eC : cmsOf lot alw = cms at hcts5 hcl q
        generalize eS : hs.map maskOf = ss at esp hss q
        -- ways
        intro wp hwp
        refine ⟨(by show 2 ≤ sizeLine; decide), fun kp hkp => ?_⟩
        have wk : wp ≠ kp := fun e => by rw [e, upd_same] at hkp; cases hkp
        have hkp3 : H3 kp = none := by rw [upd_ne wk.symm] at hkp; exact hkp
        refine ⟨kp, keyP (0, 0), rfl, upd_same, by rw [upd_ne wk, upd_same], ?_⟩
        -- latest
        refine ⟨(by show 2 ≤ sizeLine; decide), fun tp htp => ⟨(by show 1 ≤ sizeLine; decide), fun lp hlp => ?_⟩⟩
        generalize eH5 : upd (upd (upd H3 wp (.dT [])) kp (.tup [V.int 0, V.int 0])) wp (.dT [(keyP (0, 0), .non)]) = H5 at htp hlp
        have s35 : Same H3 H5 := fun b o e => by
          rw [← eH5, upd_ne (ne_of_none e hwp), upd_ne (ne_of_none e hkp3), upd_ne (ne_of_none e hwp)]
          exact e
        have ew5 : H5 wp = some (.dT [(keyP (0, 0), .non)]) := by rw [← eH5, upd_same]
        have s57 : Same H5 (upd (upd H5 tp (.tup [V.int 0, V.int 0])) lp (.lst [V.ref tp])) := (same_upd htp).trans (same_upd hlp)
        have tl : tp ≠ lp := fun e => by rw [← e, upd_same] at hlp; cases hlp
        have start : WaysAt (upd (upd H5 tp (.tup [V.int 0, V.int 0])) lp (.lst [V.ref tp])) wp [⟨(0, 0), 0, none⟩] := ⟨_, s57 _ _ ew5, Paired.cons ⟨rfl, rfl⟩ Paired.nil⟩
        refine ⟨fun m σ H' => ∃ (k : Nat) (es : List Ent) (ts : List Addr) (L : List (Nat × Nat)) (lp : Addr) (v7 v8 v9 v10 v11 v12 v13 v14 : Option V), m = (768 - es.length) * 2 + (if L = [] then 0 else 1) ∧ σ = [some (.ref a), some (.ref g), some (.ref ap), some (.ref sp), some (.ref cp), some (.ref wp), some (.ref lp), v7, v8, v9, v10, v11, v12, v13, v14] ∧
            Same H3 H' ∧ WaysAt H' wp es ∧ H' lp = some (.lst (ts.map V.ref)) ∧ PlsAt H' ts L ∧ BInv ss cms k es ∧ LatestOk ss cms k L,
          ⟨_, 0, [⟨(0, 0), 0, none⟩], [tp], [(0, 0)], lp, none, none, none, none, none, none, none, none, rfl, rfl, s35.trans s57, start, upd_same, .cons (by rw [upd_ne tl, upd_same]; rfl) .nil, (binv_start _ _).1, (binv_start _ _).2⟩, ?_⟩
        rintro m σ H4' ⟨k, es, ts, L, lp, v7, v8, v9, v10, v11, v12, v13, v14, rfl, rfl, sm4, hw4, hl4, ht4, B, hLk⟩
        refine ⟨.ref lp, rfl, _, .inl ⟨ts.map V.ref, SqL.up hl4, rfl⟩, ?_⟩
        have htl : ts.length = L.length := Paired.length ht4
        cases L with
        | nil =>
          have e0 : ts = [] := List.eq_nil_of_length_eq_zero (by rw [htl]; rfl)
          subst e0
          show (if false = true then _ else _)
          refine iteF ?_
          exact ⟨_, rfl, q H4' wp es (smH.trans sm4) (smH.free hwp) hw4 (ways_end B hLk)⟩
        | cons c0 L0 =>
          obtain ⟨t0, ts0, e0⟩ : ∃ t0 ts0, ts = t0 :: ts0 := by
            cases ts with
            | nil => cases htl
            | cons t0 ts0 => exact ⟨t0, ts0, rfl⟩
          rw [show (!((ts.map V.ref).isEmpty)) = true by rw [e0]; rfl]
          show (if true = true then _ else _)
          rw [if_pos rfl]
          have hcl1 : 1 ≤ cms.length := by omega
          have hcl6 : cms.length ≤ 6 := by omega
          have hBl := binv_len hss hcl1 hcl6 B (mid_start B)
          rw [List.append_nil] at hBl
          refine ⟨fun σ' H' => ∃ m', m' < (768 - es.length) * 2 + (if c0 :: L0 = [] then 0 else 1) ∧ ∃ (k : Nat) (es : List Ent) (ts : List Addr) (L : List (Nat × Nat)) (lp : Addr) (v7 v8 v9 v10 v11 v12 v13 v14 : Option V), m' = (768 - es.length) * 2 + (if L = [] then 0 else 1) ∧ σ' = [some (.ref a), some (.ref g), some (.ref ap), some (.ref sp), some (.ref cp), some (.ref wp), some (.ref lp), v7, v8, v9, v10, v11, v12, v13, v14] ∧
            Same H3 H' ∧ WaysAt H' wp es ∧ H' lp = some (.lst (ts.map V.ref)) ∧ PlsAt H' ts L ∧ BInv ss cms k es ∧ LatestOk ss cms k L, fun σ' H' z => z, ?_⟩
          -- found = []
          refine ⟨by decide, fun fp hfp => ?_⟩
          have h3f : H3 fp = none := sm4.free hfp
          have W0 : WH H3 (upd H4' fp (.lst [])) wp lp fp es ts (c0 :: L0) [] [] :=
            ⟨sm4.trans (same_upd hfp), hw4.same (same_upd hfp), (same_upd hfp) _ _ hl4, paired_mono ht4 fun _ _ z => (same_upd hfp) _ _ z, upd_same, .nil, hwp, h3f, ne_of_none hl4 hfp⟩
          -- for cover, day in latest
          refine ⟨.ref lp, rfl, lp, rfl, ⟨_, SqL.up W0.lat⟩, for_list (K := K) (a := lp) (xs := ts.map V.ref) (fun i σ H5 => ∃ (new : List Ent) (fs : List Addr) (v8 v9 v10 v11 v12 v13 v14 : Option V), σ = [some (.ref a), some (.ref g), some (.ref ap), some (.ref sp), some (.ref cp), some (.ref wp), some (.ref lp), some (.ref fp), v8, v9, v10, v11, v12, v13, v14] ∧
              WH H3 H5 wp lp fp (es ++ new) ts (c0 :: L0) fs (new.map (·.p)) ∧ Mid ss cms k es new (fun c' cm' => c' ∈ (c0 :: L0).take i ∧ cm' ∈ cms.getD c'.2 []))
            ⟨[], [], v8, v9, v10, v11, v12, v13, v14, rfl, by rw [List.append_nil]; exact W0, (mid_start B).weaken fun c' cm' z => by simp at z⟩ (fun i σ H5 _ ⟨_, _, _, _, _, _, _, _, _, _, z, _⟩ => SqL.up z.lat) ?_ ?_⟩
          · rintro i y σ H5' hi ⟨new, fs, v8, v9, v10, v11, v12, v13, v14, rfl, W5, M5⟩
            obtain ⟨ct, hct, rfl⟩ := get_refs hi
            obtain ⟨cv, hcv, hcat⟩ := paired_at W5.ltp hct
            have hcfd : FD ss cms cv k := (hLk cv).mp (List.mem_of_getElem? hcv)
            have hday := (rch_lt hcl1 hcfd.1).2
            obtain ⟨cmsd, ecd⟩ : ∃ l, cms[cv.2]? = some l := ⟨_, List.getElem?_eq_getElem hday⟩
            have ecg : cms.getD cv.2 [] = cmsd := by rw [List.getD_eq_getElem?_getD, ecd]; rfl
            obtain ⟨cq, hcq, ecq⟩ := paired_right hcts5 ecd
            -- cover, day
            refine ⟨ct, plV cv, rfl, SqT.up hcat, rfl, .int (cv.1 : Int), [.int (cv.2 : Int)], rfl, .int (cv.2 : Int), [], rfl, rfl, ?_⟩
            -- next_day
            refine ⟨.int (cv.2 : Int), rfl, (cv.2 : Int), 1, rfl, rfl, .ref ap, rfl, ap, lotV alw, rfl, .inr (Same.tup (smH.trans W5.sm) hW), (cv.2 : Int) + 1, ((lotV alw).length : Int), rfl, rfl, by rw [lotV_len]; omega, ?_⟩
            have en : ((cv.2 : Int) + 1) % (((lotV alw).length : Nat) : Int) = (((cv.2 + 1) % cms.length : Nat) : Int) := by
              rw [lotV_len, ← hcl, Int.natCast_emod]
              rfl
            -- for coin_mask in coin_masks[day]
            refine ⟨.ref cp, rfl, .int (cv.2 : Int), rfl, cp, cts.map V.ref, (cv.2 : Int), .ref cq, rfl, rfl, SqL.up (W5.sm _ _ ecp), atI_nat (by rw [List.getElem?_map, hcq]; rfl), cq, rfl, ⟨_, SqL.up (W5.sm _ _ ecq)⟩,
              for_list (K := K) (a := cq) (xs := natsV cmsd) (fun j σ H6 => ∃ (new : List Ent) (fs : List Addr) (v11 v12 v13 v14 : Option V), σ = [some (.ref a), some (.ref g), some (.ref ap), some (.ref sp), some (.ref cp), some (.ref wp), some (.ref lp), some (.ref fp), some (.int (cv.1 : Int)), some (.int (cv.2 : Int)), some (.int (((cv.2 + 1) % cms.length : Nat) : Int)), v11, v12, v13, v14] ∧
                WH H3 H6 wp lp fp (es ++ new) ts (c0 :: L0) fs (new.map (·.p)) ∧ Mid ss cms k es new (fun c' cm' => (c' ∈ (c0 :: L0).take i ∧ cm' ∈ cms.getD c'.2 []) ∨ (c' = cv ∧ cm' ∈ cmsd.take j)))
              ⟨new, fs, v11, v12, v13, v14, by rw [← en]; rfl, W5, M5.weaken fun c' cm' z => by
                rcases z with z | ⟨_, z⟩
                · exact z
                · simp at z⟩ (fun j σ H6 _ ⟨_, _, _, _, _, _, _, z, _⟩ => SqL.up (z.sm _ _ ecq)) ?_ ?_⟩
            · rintro j y σ H6 hj ⟨new, fs, v11, v12, v13, v14, rfl, W6, M6⟩
              obtain ⟨cm, hcm, rfl⟩ := natsV_get hj
              have hcmm : cm ∈ cms.getD cv.2 [] := by rw [ecg]; exact List.mem_of_getElem? hcm
              have hstep : ∀ c' cm', ((c' ∈ (c0 :: L0).take i ∧ cm' ∈ cms.getD c'.2 []) ∨ (c' = cv ∧ cm' ∈ cmsd.take (j + 1))) → ((c' ∈ (c0 :: L0).take i ∧ cm' ∈ cms.getD c'.2 []) ∨ (c' = cv ∧ cm' ∈ cmsd.take j)) ∨ (c' = cv ∧ cm' = cm) := by
                intro c' cm' z
                rcases z with z | ⟨z1, z2⟩
                · exact .inl (.inl z)
                · rcases take_mem_succ hcm z2 with z3 | z3
                  · exact .inl (.inr ⟨z1, z3⟩)
                  · exact .inr ⟨z1, z3⟩
              -- following
              refine ⟨.ref sp, rfl, .int (cv.1 : Int), rfl, .int (cm : Int), rfl, cv.1, cm, rfl, rfl, sp, ss, cv.1 ||| cm, rfl, SqL.up (W6.sm _ _ esp), by omega, fun H7 sm7 => ?_⟩
              have W7 := W6.same sm7
              refine ⟨_, rfl, (by show 2 ≤ sizeLine; decide), fun f hf => ?_⟩
              have smf : Same H7 (upd H7 f (.tup [.int ((nextM ss (cv.1 ||| cm) : Nat) : Int), .int (((cv.2 + 1) % cms.length : Nat) : Int)])) := same_upd hf
              have W8 := W7.same smf
              have ef : (upd H7 f (.tup [.int ((nextM ss (cv.1 ||| cm) : Nat) : Int), .int (((cv.2 + 1) % cms.length : Nat) : Int)])) f = some (.tup (plV (nx ss cms.length cv cm))) := upd_same
              generalize upd H7 f (.tup [.int ((nextM ss (cv.1 ||| cm) : Nat) : Int), .int (((cv.2 + 1) % cms.length : Nat) : Int)]) = H8 at W8 ef
              obtain ⟨kvs, hk8, hP8⟩ := W8.ways
              refine ⟨.ref f, rfl, .ref wp, rfl, wp, _, rfl, DGet.t (k := keyP (nx ss cms.length cv cm)) hk8 ef, _, rfl, ?_⟩
              cases hv : valV kvs (keyP (nx ss cms.length cv cm)) with
              | some x =>
                refine iteF ?_
                have hin : ∃ e ∈ es ++ new, e.p = nx ss cms.length cv cm := by
                  rcases Classical.em (∃ e ∈ es ++ new, e.p = nx ss cms.length cv cm) with z | z
                  · exact z
                  · rw [(valV_ents hP8).mpr z] at hv
                    cases hv
                exact ⟨new, fs, _, _, _, _, rfl, W8, M6.skip hin hstep⟩
              | none =>
                refine iteT ?_
                have hout := (valV_ents hP8).mp hv
                have hlen := binv_len hss hcl1 hcl6 B M6
                have hkl : kvs.length = (es ++ new).length := Paired.length hP8
                refine ⟨.int (cv.1 : Int), rfl, .int (cv.2 : Int), rfl, (by show 2 ≤ sizeLine; decide), fun u hu' => ⟨.int (cm : Int), rfl, (by show 2 ≤ sizeLine; decide), fun t ht => ?_⟩⟩
                have s9 : Same H8 (upd H8 u (.tup (plV cv))) := same_upd hu'
                have s10 : Same (upd H8 u (.tup (plV cv))) (upd (upd H8 u (.tup (plV cv))) t (.tup [.ref u, .int (cm : Int)])) := same_upd ht
                have eu : (upd (upd H8 u (.tup (plV cv))) t (.tup [.ref u, .int (cm : Int)])) u = some (.tup (plV cv)) := s10 _ _ upd_same
                have et : (upd (upd H8 u (.tup (plV cv))) t (.tup [.ref u, .int (cm : Int)])) t = some (.tup [.ref u, .int (cm : Int)]) := upd_same
                have W10 := W8.same (s9.trans s10)
                have ef10 := (s9.trans s10) _ _ ef
                have hk10 := (s9.trans s10) _ _ hk8
                have hP10 : Paired (EntAt (upd (upd H8 u (.tup (plV cv))) t (.tup [.ref u, .int (cm : Int)]))) kvs (es ++ new) := paired_mono hP8 fun _ _ z => ⟨z.1, z.2.mono fun t xs q => (s9.trans s10) _ _ q⟩
                generalize upd (upd H8 u (.tup (plV cv))) t (.tup [.ref u, .int (cm : Int)]) = H10 at eu et W10 ef10 hk10 hP10
                refine ⟨.ref wp, rfl, .ref f, rfl, wp, _, rfl, DPut.t (k := keyP (nx ss cms.length cv cm)) hk10 ef10 (small1000 (by omega)), ?_⟩
                have hf11 : (upd H10 wp (.dT (putK kvs (keyP (nx ss cms.length cv cm)) (.ref t)))) fp = some (.lst (fs.map V.ref)) := by
                  rw [upd_ne (ne_of W10.fnd hk10 (by intro z; cases z))]
                  exact W10.fnd
                have hnl : new.length ≤ 768 := by rw [List.length_append] at hlen; omega
                have hfl : fs.length = new.length := by
                  have z : fs.length = (new.map (·.p)).length := Paired.length W10.ftp
                  rw [z, List.length_map]
                refine ⟨.ref fp, rfl, .inl ⟨rfl, _, SqL.up hf11⟩, .ref f, rfl, fp, _, _, rfl, rfl, hf11, by rw [List.length_map]; exact small1000 (by omega), ?_⟩
                have W11 := W10.put (m := nx ss cms.length cv cm) (d := k + 1) (c := cv) (cm := cm) et eu ef10 hk10 hP10 hv
                refine ⟨new ++ [⟨nx ss cms.length cv cm, k + 1, some (cv, cm)⟩], fs ++ [f], _, _, _, _, rfl, ?_, M6.add B hcfd hcmm hout hstep⟩
                rw [List.append_assoc] at W11
                rw [List.map_append]
                exact W11
            · rintro σ H6 ⟨new, fs, v11, v12, v13, v14, rfl, W6, M6⟩
              refine ⟨new, fs, _, _, _, _, _, _, _, rfl, W6, M6.weaken fun c' cm' z => ?_⟩
              rcases take_mem_succ hcv z.1 with z1 | z1
              · exact .inl ⟨z1, z.2⟩
              · refine .inr ⟨z1, ?_⟩
                rw [natsV_len, List.take_length, ← ecg, ← z1]
                exact z.2
          · rintro σ H5' ⟨new, fs, v8, v9, v10, v11, v12, v13, v14, rfl, W5, M5⟩
            -- latest = found
            refine ⟨.ref fp, rfl, ?_⟩
            have hall : ∀ c' ∈ c0 :: L0, ∀ cm' ∈ cms.getD c'.2 [], c' ∈ (c0 :: L0).take (ts.map V.ref).length ∧ cm' ∈ cms.getD c'.2 [] := fun c' h1 cm' h2 => by
              rw [List.length_map, htl, List.take_length]
              exact ⟨h1, h2⟩
            obtain ⟨B2, L2'⟩ := mid_end B hLk M5 hall
            have hlen := binv_len hss hcl1 hcl6 B M5
            refine ⟨_, ?_, k + 1, es ++ new, fs, new.map (·.p), fp, _, _, _, _, _, _, _, _, rfl, rfl, W5.sm, W5.ways, W5.fnd, W5.ftp, B2, L2'⟩
            rw [List.length_append] at hlen ⊢
            rw [if_neg (List.cons_ne_nil c0 L0)]
            cases new with
            | nil =>
              show (768 - (es.length + 0)) * 2 + (if ([] : List (Nat × Nat)) = [] then 0 else 1) < _
              rw [if_pos rfl]
              omega
            | cons e0 new =>
              rw [List.length_cons] at hlen ⊢
              have z : (if (e0 :: new).map (·.p) = [] then 0 else 1) = 1 := if_neg (by simp)
              rw [z]
              omega
end
end N

set_option Elab.async false
set_option linter.all false
set_option maxRecDepth 100000
set_option maxHeartbeats 2000000
namespace N
open Cb (lotV combs combsOf combsOf_sub)
open PySem PySem.Spec PyProof.Rows L2
theorem upd_id {H : Hp} {a : Addr} {o : HO} (h : H a = some o) : upd H a o = H := by
  funext b
  unfold upd
  split
  · rename_i e; rw [e, h]
  · rfl
section
variable {P : Program} {w : World} {K : PySem.W.Frag} {mg : Str → Option Value} {base : Heap}
theorem sqT_off {H : Hp} {d a : Addr} {xs : List V} {kvs : List (List Key × V)} {o : HO} (h : SqT K H a xs) (hd : H d = some (.dT kvs)) : SqT K (upd H d o) a xs := by
  rcases h with (h | ⟨o', h⟩) | h
  · exact .inl (.inl (by rw [upd_ne (ne_of h hd (by intro z; cases z))]; exact h))
  · exact .inl (.inr ⟨o', by rw [upd_ne (ne_of h hd (by intro z; cases z))]; exact h⟩)
  · exact .inr h
/-- a place or None -/
def PlV (H : Hp) (v : V) : Option (Nat × Nat) → Prop
  | none => v = .non
  | some p => ∃ t, v = .ref t ∧ H t = some (.tup (plV p))
def sp_first_cover (K : PySem.W.Frag) : Sp := fun vs H Q _ => ∃ (wp g : Addr) (es : List Ent) (l : List Nat), vs = [.ref wp, .ref g] ∧ WaysAt H wp es ∧ LotAt K H g l ∧ (∀ i ∈ l, i ≤ 1000) ∧ ∀ (H' : Hp) (v : V), Same H H' → PlV H' v ((firstOf es l).map (·.p)) → Q v H'
theorem sc_first_cover : FnScope ["ways", "goal", "cover", "day"] ["ways", "goal"] (defScope s__first_cover) := ⟨rfl, rfl, rfl, by decide +kernel, rfl, by decide +kernel, by decide +kernel⟩
theorem ok_first_cover (T : Txt K mg) : FnOk P w K mg base CX0 3 T.d__first_cover.f T.d__first_cover.fd ["ways", "goal"] (sp_first_cover K) := by
  have G := ok_holds (P := P) (w := w) (base := base) T
  refine T.d__first_cover.F.ok sc_first_cover (fun vs H Q E h => ?_) (fun cdv A outer s H vs Q E hr h => ?_)
  · obtain ⟨wp, g, es, l, rfl, _⟩ := h
    rfl
  · obtain ⟨wp, g, es, l, rfl, ⟨kvs, hk, hP⟩, hL, hb, q⟩ := h
    have nd := sc_first_cover.nd
    refine ⟨_, pss_cons (ps_lock (ps_for PassesOwn.never rfl (pi_keys (pv 0)) (pg_tup rfl (pgs_cons (pg_name (i := 2) nd rfl (.inl rfl)) (pgs_cons (pg_name (i := 3) nd rfl (.inl rfl)) pgs_nil)))
        (pss_one (ps_if (pt_val (pe_call G hr (by rfl) T.d__holds.g T.d__holds.F.kp T.d__holds.b .nil pass0 (pa_cons (pv 2) (pa_cons (pv 1) pa_nil)))) (pss_one (ps_ret (pe_tup (pa_cons (pv 2) (pa_cons (pv 3) pa_nil))))) pss_nil))))
      (pss_one (ps_ret pe_non)), ?_⟩
    refine ⟨wp, _, hk, True.intro, fun od => ?_⟩
    refine ⟨.ref wp, rfl, wp, od, rfl, .inr ⟨kvs, upd_same, for_it walk_keysT (fun i σ H2 => H2 = upd H wp (.frz od (.dT kvs)) ∧ (∃ c d : Option V, σ = [some (.ref wp), some (.ref g), c, d]) ∧ ∀ e ∈ es.take i, ¬ holdsB e.p.1 l = true)
      ⟨rfl, ⟨none, none, rfl⟩, fun e he => by simp at he⟩ (fun i σ H2 _ h2 => by rw [h2.1]; exact upd_same) ?_ ?_⟩⟩
    · rintro i y σ H2 H3 hi ⟨rfl, ⟨c, d, rfl⟩, hno⟩ ⟨rfl, k, v, kq, hkv, rfl, hq⟩
      obtain ⟨e, he, ek, _⟩ := paired_at hP hkv
      have ek' : k = keyP e.p := ek
      subst ek'
      refine ⟨kq, plV e.p, rfl, SqT.up hq, rfl, .int (e.p.1 : Int), [.int (e.p.2 : Int)], rfl, .int (e.p.2 : Int), [], rfl, rfl, ?_⟩
      refine ⟨.int (e.p.1 : Int), rfl, .ref g, rfl, e.p.1, g, l, rfl, sqT_off hL hk, hb, _, rfl, ?_⟩
      cases hh : holdsB e.p.1 l with
      | true =>
        refine iteT ?_
        refine ⟨.int (e.p.1 : Int), rfl, .int (e.p.2 : Int), rfl, (by show 2 ≤ sizeLine; decide), fun t ht => ?_⟩
        have tw : t ≠ wp := fun z => by rw [z, upd_same] at ht; cases ht
        have htH : H t = none := by rw [upd_ne tw] at ht; exact ht
        refine ⟨by rw [upd_ne tw.symm]; exact upd_same, ?_⟩
        have eH : upd (upd (upd H wp (.frz od (.dT kvs))) t (.tup (plV e.p))) wp (.dT kvs) = upd H t (.tup (plV e.p)) := by
          funext b
          by_cases b1 : b = wp
          · subst b1
            rw [upd_same, upd_ne tw.symm, hk]
          · rw [upd_ne b1]
            by_cases b2 : b = t
            · subst b2; rw [upd_same, upd_same]
            · rw [upd_ne b2, upd_ne b1, upd_ne b2]
        show Q _ (upd (upd (upd H wp (.frz od (.dT kvs))) t (.tup (plV e.p))) wp (.dT kvs))
        rw [eH]
        have ef : firstOf es l = some e := by
          unfold firstOf
          have hlt : i < es.length := (List.getElem?_eq_some_iff.mp he).1
          have hsp : es = es.take i ++ e :: es.drop (i + 1) := by
            rw [← (List.getElem?_eq_some_iff.mp he).2, ← List.drop_eq_getElem_cons hlt, List.take_append_drop]
          rw [hsp, List.find?_append]
          have hn : (es.take i).find? (fun e => holdsB e.p.1 l) = none := List.find?_eq_none.mpr fun x hx => hno x hx
          rw [hn, Option.none_or, List.find?_cons, hh]
        exact q _ _ (same_upd htH) (by rw [ef]; exact ⟨t, rfl, upd_same⟩)
      | false =>
        refine iteF ?_
        refine ⟨rfl, ⟨_, _, rfl⟩, fun x hx => ?_⟩
        rw [List.take_add_one, he] at hx
        rcases List.mem_append.mp hx with z | z
        · exact hno x z
        · have ex : x = e := by simpa using z
          rw [ex, hh]
          exact Bool.false_ne_true
    · rintro σ H2 ⟨rfl, ⟨c, d, rfl⟩, hno⟩
      refine ⟨upd_same, ?_⟩
      rw [upd_upd, upd_id hk]
      have ef : firstOf es l = none := by
        unfold firstOf
        refine List.find?_eq_none.mpr fun x hx => ?_
        have hl : kvs.length = es.length := Paired.length hP
        rw [hl, List.take_length] at hno
        exact hno x hx
      exact q H .non (Same.refl _) (by rw [ef]; rfl)
def sp_all_slates (K : PySem.W.Frag) : Sp := fun vs H Q _ => ∃ (a : Addr) (xs : List V), vs = [.ref a] ∧ SqT K H a xs ∧ xs.length ≤ 7 ∧ ∀ (H' : Hp) (p : Addr), Same H H' → H' p = some (.tup (lotV (List.range xs.length))) → Q (.ref p) H'
theorem sc_all_slates : FnScope ["house"] ["house"] (defScope s_all_slates) := ⟨rfl, rfl, rfl, by decide +kernel, rfl, by decide +kernel, by decide +kernel⟩
theorem rgV_lot (n : Nat) : rgV 0 (n : Int) = lotV (List.range n) := by
  unfold rgV lotV
  rw [show ((n : Int) - 0).toNat = n by omega]
  refine List.map_congr_left fun i _ => ?_
  rw [Int.zero_add]
theorem ok_all_slates (T : Txt K mg) : FnOk P w K mg base CX0 1 T.d_all_slates.f T.d_all_slates.fd ["house"] (sp_all_slates K) := by
  refine T.d_all_slates.F.ok sc_all_slates (fun vs H Q E h => ?_) (fun cdv A outer s H vs Q E hr h => ?_)
  · obtain ⟨a, xs, rfl, _⟩ := h
    rfl
  · obtain ⟨a, xs, rfl, hA, hn, q⟩ := h
    refine ⟨_, pss_one (ps_ret (pe_tupRg rfl (by rfl) T.n_tuple (prg_1 (by rfl) T.n_range (pe_callB call_len_seq (by rfl) T.n_len PySem.boot_len (pa_cons (pv 0) pa_nil))))), ?_⟩
    refine ⟨.ref a, rfl, a, xs, rfl, .inr hA, xs.length, rfl, RgOk.of_le (by decide) (by omega) (by decide) (by omega), fun p hp => ?_⟩
    rw [rgV_lot]
    exact q _ p (same_upd hp) upd_same
theorem plV_non {H : Hp} {v : V} {o : Option (Nat × Nat)} (h : PlV H v o) : decide (v = .non) = o.isNone := by
  cases o with
  | none => rw [show v = .non from h]; rfl
  | some p =>
    obtain ⟨t, rfl, _⟩ := h
    rfl
def sp_can_cover (K : PySem.W.Frag) : Sp := fun vs H Q _ => ∃ (a g lp : Addr) (h : List (List Nat)) (c : Nat) (l lot : List Nat), vs = [.ref a, .int c, .ref g, .ref lp] ∧ HouseAt K H a h ∧ HouseOk h ∧ LotAt K H g l ∧ LotOk h.length l ∧ LotAt K H lp lot ∧ LotOk h.length lot ∧
  ∀ (H' : Hp) (b : Bool), Same H H' → (b = true ↔ CanA h lot [c] l) → Q (.bl b) H'
theorem sc_can_cover : FnScope ["house", "coins", "goal", "lot"] ["house", "coins", "goal", "lot"] (defScope s_can_cover) := ⟨rfl, rfl, rfl, by decide +kernel, rfl, by decide +kernel, by decide +kernel⟩
theorem ok_can_cover (T : Txt K mg) : FnOk P w K mg base CX0 4 T.d_can_cover.f T.d_can_cover.fd ["house", "coins", "goal", "lot"] (sp_can_cover K) := by
  have G1 := ok_ways (P := P) (w := w) (base := base) T
  have G2 := ok_first_cover (P := P) (w := w) (base := base) T
  refine T.d_can_cover.F.ok sc_can_cover (fun vs H Q E h => ?_) (fun cdv A outer s H vs Q E hr h => ?_)
  · obtain ⟨a, g, lp, h, c, l, lot, rfl, _⟩ := h
    rfl
  · obtain ⟨a, g, lp, hs, c, l, lot, rfl, hA, ok, hL, okL, hM, okM, q⟩ := h
    refine ⟨_, pss_one (ps_ret (pe_cmpR op_notN (pe_call G2 hr (by rfl) T.d__first_cover.g T.d__first_cover.F.kp T.d__first_cover.b .nil pass0 (pa_cons (pe_call G1 hr (by rfl) T.d__ways.g T.d__ways.F.kp T.d__ways.b .nil pass0 (pa_cons (pv 0) (pa_cons (pv 3) (pa_cons (pe_tup (pa_cons (pv 1) pa_nil)) pa_nil)))) (pa_cons (pv 2) pa_nil))) pe_non (nomark _))), ?_⟩
    refine ⟨.ref a, rfl, .ref lp, rfl, .int (c : Int), rfl, (by show 1 ≤ sizeLine; decide), fun ap hap => ?_⟩
    have s1 : Same H (upd H ap (.tup [.int (c : Int)])) := same_upd hap
    refine ⟨a, lp, ap, hs, lot, [c], rfl, hA.same s1, ok, hM.same s1, okM, SqT.up upd_same, Nat.le_refl 1, (by show 1 ≤ 6; decide), fun H2 wp es s2 hwp hW okW => ?_⟩
    refine ⟨.ref g, rfl, wp, g, es, l, rfl, hW, hL.same (s1.trans s2), fun i hi => by have h1 := okL.lt i hi; have h2 := ok.hi; omega, fun H3 v s3 hv => ?_⟩
    refine ⟨rfl, ?_⟩
    rw [plV_non hv]
    refine q H3 _ ((s1.trans s2).trans s3) ?_
    have z := first_canA (alw := [c]) (goal := l) okM.nodup (Nat.le_refl 1) okW
    cases ef : firstOf es l with
    | none =>
      rw [ef] at z
      exact ⟨fun y => (by cases y), fun y => absurd y (z.mp rfl)⟩
    | some e =>
      rw [ef] at z
      refine ⟨fun _ => Classical.byContradiction fun y => ?_, fun _ => rfl⟩
      have := z.mpr y
      cases this
/-- a number or None -/
def optV : Option Nat → V
  | none => .non
  | some c => .int (c : Int)
def sp_least_coins (K : PySem.W.Frag) : Sp := fun vs H Q _ => ∃ (a g lp : Addr) (h : List (List Nat)) (l lot : List Nat), vs = [.ref a, .ref g, .ref lp] ∧ HouseAt K H a h ∧ HouseOk h ∧ LotAt K H g l ∧ LotOk h.length l ∧ LotAt K H lp lot ∧ LotOk h.length lot ∧
  ∀ (H' : Hp) (o : Option Nat), Same H H' → IsNumL h l lot o → Q (optV o) H'
theorem sc_least_coins : FnScope ["house", "goal", "lot", "coins"] ["house", "goal", "lot"] (defScope s_least_coins) := ⟨rfl, rfl, rfl, by decide +kernel, rfl, by decide +kernel, by decide +kernel⟩
theorem ok_least_coins (T : Txt K mg) : FnOk P w K mg base CX0 5 T.d_least_coins.f T.d_least_coins.fd ["house", "goal", "lot"] (sp_least_coins K) := by
  have G := ok_can_cover (P := P) (w := w) (base := base) T
  refine T.d_least_coins.F.ok sc_least_coins (fun vs H Q E h => ?_) (fun cdv A outer s H vs Q E hr h => ?_)
  · obtain ⟨a, g, lp, h, l, lot, rfl, _⟩ := h
    rfl
  · obtain ⟨a, g, lp, hs, l, lot, rfl, hA, ok, hL, okL, hM, okM, q⟩ := h
    have nd := sc_least_coins.nd
    have h7 := ok.hi
    have hlen := okM.len
    refine ⟨_, pss_cons (ps_for PassesOwn.never rfl (pi_range1 (by rfl) T.n_range (pa_cons (pe_op op_add (pe_callB call_len_seq (by rfl) T.n_len PySem.boot_len (pa_cons (pv 2) pa_nil)) pe_int) pa_nil)) (pg_name (i := 3) nd rfl (.inl rfl))
        (pss_one (ps_if (pt_val (pe_call G hr (by rfl) T.d_can_cover.g T.d_can_cover.F.kp T.d_can_cover.b .nil pass0 (pa_cons (pv 0) (pa_cons (pv 3) (pa_cons (pv 1) (pa_cons (pv 2) pa_nil)))))) (pss_one (ps_ret (pv 3))) pss_nil)))
      (pss_one (ps_ret pe_non)), ?_⟩
    refine ⟨.ref lp, rfl, lp, lotV lot, rfl, .inr hM, ((lotV lot).length : Int), 1, rfl, rfl, ((lotV lot).length : Int) + 1, rfl, by rw [lotV_len]; omega, by rw [lotV_len]; omega, ?_⟩
    have en : (((lotV lot).length : Int) + 1).toNat = lot.length + 1 := by rw [lotV_len]; omega
    show ∃ W, _
    rw [en]
    refine for_range (lo := 0) (n := lot.length + 1) (fun i σ H2 => (∃ c : Option V, σ = [some (.ref a), some (.ref g), some (.ref lp), c]) ∧ Same H H2 ∧ ∀ c', c' < i → ¬ CanA hs lot [c'] l)
      ⟨⟨none, rfl⟩, Same.refl _, fun c' z => absurd z (Nat.not_lt_zero _)⟩ ?_ ?_
    · rintro i σ H2 hi ⟨⟨c, rfl⟩, sm, hno⟩
      rw [Int.zero_add]
      refine ⟨.ref a, rfl, .int (i : Int), rfl, .ref g, rfl, .ref lp, rfl, a, g, lp, hs, i, l, lot, rfl, hA.same sm, ok, hL.same sm, okL, hM.same sm, okM, fun H3 b s3 hb => ⟨_, rfl, ?_⟩⟩
      cases b with
      | true =>
        refine iteT ?_
        exact ⟨_, rfl, q H3 (some i) (sm.trans s3) ⟨hb.mp rfl, hno⟩⟩
      | false =>
        refine iteF ?_
        refine ⟨⟨_, rfl⟩, sm.trans s3, fun c' z => ?_⟩
        by_cases e : c' = i
        · rw [e]
          exact fun y => Bool.false_ne_true (hb.mpr y)
        · exact hno c' (by omega)
    · rintro σ H2 ⟨⟨c, rfl⟩, sm, hno⟩
      refine q H2 none sm fun c z => ?_
      have y := canA_min z
      exact hno _ (by omega) y
def sp_slate_number (K : PySem.W.Frag) : Sp := fun vs H Q _ => ∃ (a : Addr) (h : List (List Nat)), vs = [.ref a] ∧ HouseAt K H a h ∧ HouseOk h ∧ ∀ (H' : Hp) (c : Nat), Same H H' → IsNum h (List.range h.length) c → c ≤ h.length → Q (.int (c : Int)) H'
theorem sc_slate_number : FnScope ["house"] ["house"] (defScope s_slate_number) := ⟨rfl, rfl, rfl, by decide +kernel, rfl, by decide +kernel, by decide +kernel⟩
theorem range_ok (n : Nat) : LotOk n (List.range n) := List.Sublist.refl _
theorem ok_slate_number (T : Txt K mg) : FnOk P w K mg base CX0 6 T.d_slate_number.f T.d_slate_number.fd ["house"] (sp_slate_number K) := by
  have G1 := (ok_check_house (P := P) (w := w) (base := base) T)
  have G2 := (ok_all_slates (P := P) (w := w) (base := base) T)
  have G3 := ok_least_coins (P := P) (w := w) (base := base) T
  refine T.d_slate_number.F.ok sc_slate_number (fun vs H Q E h => ?_) (fun cdv A outer s H vs Q E hr h => ?_)
  · obtain ⟨a, h, rfl, _⟩ := h
    rfl
  · obtain ⟨a, hs, rfl, hA, ok, q⟩ := h
    refine ⟨_, pss_cons (ps_expr (pe_call G1 (hr.mono (by decide)) (by rfl) T.d_check_house.g T.d_check_house.F.kp T.d_check_house.b .nil pass0 (pa_cons (pv 0) pa_nil)))
      (pss_one (ps_ret (pe_call G3 hr (by rfl) T.d_least_coins.g T.d_least_coins.F.kp T.d_least_coins.b .nil pass0 (pa_cons (pv 0) (pa_cons (pe_call G2 (hr.mono (by decide)) (by rfl) T.d_all_slates.g T.d_all_slates.F.kp T.d_all_slates.b .nil pass0 (pa_cons (pv 0) pa_nil))
        (pa_cons (pe_call G2 (hr.mono (by decide)) (by rfl) T.d_all_slates.g T.d_all_slates.F.kp T.d_all_slates.b .nil pass0 (pa_cons (pv 0) pa_nil)) pa_nil)))))), ?_⟩
    refine ⟨.ref a, rfl, a, hs, rfl, hA, ok, fun H1 sm1 => ?_⟩
    obtain ⟨rs, hR, hP⟩ := id (hA.same sm1)
    have hlv : (rs.map V.ref).length = hs.length := by rw [List.length_map]; exact Paired.length hP
    refine ⟨.ref a, rfl, .ref a, rfl, a, _, rfl, hR, by rw [hlv]; exact ok.hi, fun H2 p sm2 hp => ?_⟩
    rw [hlv] at hp
    refine ⟨.ref a, rfl, a, _, rfl, Same.tup sm2 hR, by rw [hlv]; exact ok.hi, fun H3 p3 sm3 hp3 => ?_⟩
    rw [hlv] at hp3
    have s13 := (sm1.trans sm2).trans sm3
    refine ⟨a, p, p3, hs, List.range hs.length, List.range hs.length, rfl, hA.same s13, ok, SqT.up (sm3 _ _ hp), range_ok _, SqT.up hp3, range_ok _, fun H4 o s4 hn => ?_⟩
    obtain ⟨c, rfl, h1, h2⟩ := isNumL_all ok (range_ok _) hn
    exact q H4 c (s13.trans s4) h1 h2
def sp_number_of (K : PySem.W.Frag) : Sp := fun vs H Q _ => ∃ (a g : Addr) (h : List (List Nat)) (l : List Nat), vs = [.ref a, .ref g] ∧ HouseAt K H a h ∧ HouseOk h ∧ LotAt K H g l ∧ LotOk h.length l ∧ l ≠ [] ∧ ∀ (H' : Hp) (c : Nat), Same H H' → IsNum h l c → c ≤ h.length → Q (.int (c : Int)) H'
def sp_coins_of_enemy (K : PySem.W.Frag) : Sp := fun vs H Q _ => ∃ (a : Addr) (h : List (List Nat)) (x y : Nat), vs = [.ref a, .int x, .int y] ∧ HouseAt K H a h ∧ HouseOk h ∧ x ≤ 7 ∧ y ≤ 7 ∧ ∀ H', Same H H' → Q (.int ((2 * x + y : Nat) : Int)) H'
def sp_lot_bears (K : PySem.W.Frag) : Sp := fun vs H Q _ => ∃ (a g : Addr) (h : List (List Nat)) (l : List Nat) (x y : Nat), vs = [.ref a, .int x, .int y, .ref g] ∧ HouseAt K H a h ∧ HouseOk h ∧ x ≤ 7 ∧ y ≤ 7 ∧ LotAt K H g l ∧ LotOk h.length l ∧ l ≠ [] ∧
  ∀ (H' : Hp) (c : Nat), Same H H' → IsNum h l c → Q (.bl (decide (2 * x + y < c))) H'
end
end N

set_option Elab.async false
set_option linter.all false
set_option maxRecDepth 100000
set_option maxHeartbeats 2000000
namespace N
open Cb (lotV combs combsOf combsOf_sub)
open PySem PySem.Spec PyProof.Rows L2
/-- the law's store of draws -/
def RowAt (K : PySem.W.Frag) (sa : Addr) (ns : List Int) (H : Hp) (rp : Addr) : Prop := ∃ (k m r : Int), H rp = some (.lst [.ref sa, .int k, .int m, .int r]) ∧ SqL K H sa (ns.map V.int) ∧ 0 ≤ k ∧ (rp ≠ sa ∨ ∀ H', SqL K H' sa (ns.map V.int))
/-- all but the store stands as it was -/
def SameBut (rp : Addr) (H H' : Hp) : Prop := ∀ b o, b ≠ rp → H b = some o → H' b = some o
theorem SameBut.refl (rp : Addr) (H : Hp) : SameBut rp H H := fun _ _ _ e => e
theorem SameBut.trans {rp : Addr} {H H1 H2 : Hp} (a : SameBut rp H H1) (b : SameBut rp H1 H2) : SameBut rp H H2 := fun c o h e => b c o h (a c o h e)
theorem Same.but {rp : Addr} {H H' : Hp} (a : Same H H') : SameBut rp H H' := fun c o _ e => a c o e
theorem but_upd {rp : Addr} {H : Hp} {o : HO} : SameBut rp H (upd H rp o) := fun c x h e => by rw [upd_ne h]; exact e
theorem fmod_nat (v : Int) {many : Nat} (h : 1 ≤ many) : ∃ n : Nat, n < many ∧ v.fmod (many : Int) = (n : Int) := by
  have h1 := Int.fmod_nonneg_of_pos v (b := (many : Int)) (by omega)
  have h2 := Int.fmod_lt_of_pos v (b := (many : Int)) (by omega)
  exact ⟨(v.fmod (many : Int)).toNat, by omega, by omega⟩
section
variable {P : Program} {w : World} {K : PySem.W.Frag} {mg : Str → Option Value} {base : Heap}
theorem seqL_off {H : Hp} {rp a : Addr} {xs : List V} {o : HO} (h : SqL K H a xs) (hne : a ≠ rp) : SqL K (upd H rp o) a xs := by
  rcases h with (h | ⟨o', h⟩) | h
  · exact .inl (.inl (by rw [upd_ne hne]; exact h))
  · exact .inl (.inr ⟨o', by rw [upd_ne hne]; exact h⟩)
  · exact .inr h
theorem row_off {H : Hp} {rp a : Addr} {xs : List V} {o : HO} (h : SqL K H a xs) (hne : rp ≠ a ∨ ∀ H', SqL K H' a xs) : SqL K (upd H rp o) a xs := by
  rcases hne with z | z
  · exact seqL_off h z.symm
  · exact z _
/-- a list that stands is another than what is new, or stands whatever the heap is -/
theorem sqL_new {H0 : Hp} {fp a : Addr} {xs : List V} (h : SqL K H0 a xs) (hf : H0 fp = none) {H : Hp} {o : HO} (h2 : SqL K H a xs) : SqL K (upd H fp o) a xs := by
  rcases h with (h | ⟨o', h⟩) | h
  · exact seqL_off h2 (ne_of_none h hf)
  · exact seqL_off h2 (ne_of_none h hf)
  · exact .inr h
def sp_taken (K : PySem.W.Frag) : Sp := fun vs H Q _ => ∃ (sa : Addr) (ns : List Int) (rp : Addr) (many : Nat), vs = [.ref rp, .int many] ∧ RowAt K sa ns H rp ∧ 1 ≤ many ∧ many ≤ 1000 ∧ ∀ (H' : Hp) (v : Nat), RowAt K sa ns H' rp → SameBut rp H H' → v < many → Q (.int (v : Int)) H'
theorem sc_taken : FnScope ["row", "many", "found", "cell"] ["row", "many"] (defScope s__law_taken) := ⟨rfl, rfl, rfl, by decide +kernel, rfl, by decide +kernel, by decide +kernel⟩
theorem ok_taken (T : Txt K mg) : FnOk P w K mg base CX0 1 T.d__law_taken.f T.d__law_taken.fd ["row", "many"] (sp_taken K) := by
  refine T.d__law_taken.F.ok sc_taken (fun vs H Q E h => ?_) (fun cdv A outer s H vs Q E hr h => ?_)
  · obtain ⟨_, _, rp, many, rfl, _⟩ := h
    rfl
  · obtain ⟨sa, ns, rp, many, rfl, ⟨k, m, r, hR, hS, hk, hne⟩, h1, h2, q⟩ := h
    have nd := sc_taken.nd
    have mi : ∀ {t : TA} {e : Expr}, True := fun {_ _} => trivial
    refine ⟨_, pss_cons (ps_if (pt_cmpR op_gt (pe_ix ix_list (pv 0) pe_int (fun _ _ => rfl)) pe_int (nomark _))
        (pss_cons (ps_set (i := 2) nd rfl (.inl rfl) (pe_op op_modN (pe_callTy call_int1 (by rfl) T.n_int (by decide +kernel) (pa_cons (pe_ix ix_list (pv 0) pe_int (fun _ _ => rfl)) pa_nil)) (pv 1)))
        (pss_cons (ps_asg (pe_op op_fdivN (pe_ix ix_list (pv 0) pe_int (fun _ _ => rfl)) (pv 1)) (pg_sub (pv 0) pe_int set_list))
        (pss_one (ps_ret (pv 2))))) pss_nil)
      (pss_cons (ps_asg (pe_op op_add (pe_ix ix_list (pv 0) pe_int (fun _ _ => rfl)) pe_int) (pg_sub (pv 0) pe_int set_list))
      (pss_cons (ps_if (pt_cmpR op_gt (pe_ix ix_list (pv 0) pe_int (fun _ _ => rfl)) (pe_callB call_len_seq (by rfl) T.n_len PySem.boot_len (pa_cons (pe_ix ix_list (pv 0) pe_int (fun _ _ => rfl)) pa_nil)) (nomark _))
        (pss_cons (ps_asg (pe_op op_modN (pe_callTy call_int1 (by rfl) T.n_int (by decide +kernel) (pa_cons (pe_op op_add (pe_op op_mul (pe_ix ix_list (pv 0) pe_int (fun _ _ => rfl)) pe_int) pe_int) pa_nil)) pe_int) (pg_sub (pv 0) pe_int set_list))
        (pss_one (ps_ret (pe_op op_modN (pe_callTy call_int1 (by rfl) T.n_int (by decide +kernel) (pa_cons (pe_op op_fdivN (pe_ix ix_list (pv 0) pe_int (fun _ _ => rfl)) pe_int) pa_nil)) (pv 1))))) pss_nil)
      (pss_cons (ps_set (i := 3) nd rfl (.inl rfl) (pe_ix ix_list (pe_ix ix_list (pv 0) pe_int (fun _ _ => rfl)) (pe_op op_sub (pe_ix ix_list (pv 0) pe_int (fun _ _ => rfl)) pe_int) (fun _ _ => rfl)))
      (pss_cons (ps_asg (pe_op op_modN (pe_callTy call_int1 (by rfl) T.n_int (by decide +kernel) (pa_cons (pe_op op_add (pe_op op_add (pe_op op_mul (pe_ix ix_list (pv 0) pe_int (fun _ _ => rfl)) pe_int) (pv 3)) pe_int) pa_nil)) pe_int) (pg_sub (pv 0) pe_int set_list))
      (pss_cons (ps_if (pt_cmpR op_ge (pv 3) (pe_op op_pow pe_int pe_int) (nomark _))
        (pss_one (ps_asg (pe_op op_fdivN (pv 3) (pv 1)) (pg_sub (pv 0) pe_int set_list))) pss_nil)
      (pss_one (ps_ret (pe_op op_modN (pe_callTy call_int1 (by rfl) T.n_int (by decide +kernel) (pa_cons (pv 3) pa_nil)) (pv 1))))))))), ?_⟩
    have hm0 : (many : Int) ≠ 0 := by omega
    have hmb : (many : Int) ≠ 0 ∧ ((many : Int)).natAbs < 1073741824 := ⟨hm0, by omega⟩
    have g0 : ∀ {H : Hp} {k m r : Int}, H rp = some (.lst [.ref sa, .int k, .int m, .int r]) → SqL K H rp [.ref sa, .int k, .int m, .int r] := fun e => SqL.up e
    refine ⟨.ref rp, rfl, rp, _, 3, .int r, rfl, rfl, g0 hR, atI_nat (j := 3) rfl, r, 0, rfl, rfl, _, rfl, ?_⟩
    refine ite2 (fun hb => ?_) (fun hb => ?_)
    · obtain ⟨v, hv, ev⟩ := fmod_nat r h1
      refine ⟨.ref rp, rfl, rp, _, 3, .int r, rfl, rfl, g0 hR, atI_nat (j := 3) rfl, .inl ⟨r, rfl, .int many, rfl, r, many, rfl, rfl, hm0, ?_⟩⟩
      refine ⟨.ref rp, rfl, rp, _, 3, .int r, rfl, rfl, g0 hR, atI_nat (j := 3) rfl, .int many, rfl, r, many, rfl, rfl, hmb, ?_⟩
      refine ⟨.ref rp, rfl, rp, _, 3, 3, rfl, rfl, hR, rfl, ?_⟩
      refine ⟨_, rfl, ?_⟩
      show Q (.int (r.fmod (many : Int))) _
      rw [ev]
      exact q _ v ⟨k, m, _, upd_same, row_off hS hne, hk, hne⟩ but_upd hv
    · refine ⟨.ref rp, rfl, rp, _, 1, .int k, rfl, rfl, g0 hR, atI_nat (j := 1) rfl, k, 1, rfl, rfl, ?_⟩
      refine ⟨.ref rp, rfl, rp, _, 1, 1, rfl, rfl, hR, rfl, ?_⟩
      have hR1 : (upd H rp (.lst [.ref sa, .int (k + 1), .int m, .int r])) rp = some (.lst [.ref sa, .int (k + 1), .int m, .int r]) := upd_same
      have hS1 : SqL K (upd H rp (.lst [.ref sa, .int (k + 1), .int m, .int r])) sa (ns.map V.int) := row_off hS hne
      refine ⟨.ref rp, rfl, rp, _, 1, .int (k + 1), rfl, rfl, g0 hR1, atI_nat (j := 1) rfl, .ref rp, rfl, rp, _, 0, .ref sa, rfl, rfl, g0 hR1, atI_nat (j := 0) rfl, sa, _, rfl, .inl hS1, k + 1, _, rfl, rfl, _, rfl, ?_⟩
      refine ite2 (fun hb2 => ?_) (fun hb2 => ?_)
      · -- mixed numbers
        refine ⟨.ref rp, rfl, rp, _, 2, .int m, rfl, rfl, g0 hR1, atI_nat (j := 2) rfl, m, 48271, rfl, rfl, .inr ⟨by decide, by decide⟩, _, 11, rfl, rfl, .inl ⟨_, rfl, _, 2147483647, rfl, rfl, (show (2147483647 : Int) ≠ 0 by decide), ?_⟩⟩
        obtain ⟨m2, em2⟩ : ∃ m2, (m * 48271 + 11).fmod 2147483647 = m2 := ⟨_, rfl⟩
        show (gSub _ _ _) (V.int ((m * 48271 + 11).fmod 2147483647)) _ _ _
        rw [em2]
        refine ⟨.ref rp, rfl, rp, _, 2, 2, rfl, rfl, hR1, rfl, ?_⟩
        rw [upd_upd]
        have hR2 : (upd H rp (.lst [.ref sa, .int (k + 1), .int m2, .int r])) rp = some (.lst [.ref sa, .int (k + 1), .int m2, .int r]) := upd_same
        refine ⟨.ref rp, rfl, rp, _, 2, .int m2, rfl, rfl, g0 hR2, atI_nat (j := 2) rfl, m2, 7, rfl, rfl, ⟨by decide, by decide⟩, .inl ⟨_, rfl, .int many, rfl, _, many, rfl, rfl, hm0, ?_⟩⟩
        obtain ⟨v, hv, ev⟩ := fmod_nat (m2.fdiv 7) h1
        show Q (.int ((m2.fdiv 7).fmod (many : Int))) _
        rw [ev]
        exact q _ v ⟨k + 1, m2, r, upd_same, row_off hS hne, by omega, hne⟩ but_upd hv
      · -- a cell
        have hlt : k < (ns.length : Int) := by
          have z : ¬ (((ns.map V.int).length : Nat) : Int) < k + 1 := fun z => hb2 (decide_eq_true z)
          rw [List.length_map] at z
          omega
        obtain ⟨kn, rfl⟩ : ∃ kn : Nat, k = (kn : Int) := ⟨k.toNat, by omega⟩
        have hkl : kn < ns.length := by omega
        have gS : (ns.map V.int)[kn]? = some (.int ns[kn]) := by rw [List.getElem?_map, List.getElem?_eq_getElem hkl]; rfl
        generalize ns[kn] = cell at gS
        have ek : ((kn : Int) + 1 - 1) = ((kn : Nat) : Int) := by omega
        refine ⟨.ref rp, rfl, rp, _, 0, .ref sa, rfl, rfl, g0 hR1, atI_nat (j := 0) rfl, .ref rp, rfl, rp, _, 1, .int ((kn : Int) + 1), rfl, rfl, g0 hR1, atI_nat (j := 1) rfl, (kn : Int) + 1, 1, rfl, rfl, sa, _, (kn : Int) + 1 - 1, .int cell, rfl, rfl, hS1, by rw [ek]; exact atI_nat gS, ?_⟩
        refine ⟨.ref rp, rfl, rp, _, 2, .int m, rfl, rfl, g0 hR1, atI_nat (j := 2) rfl, m, 48271, rfl, rfl, .inr ⟨by decide, by decide⟩, .int cell, rfl, _, cell, rfl, rfl, _, 11, rfl, rfl, .inl ⟨_, rfl, _, 2147483647, rfl, rfl, (show (2147483647 : Int) ≠ 0 by decide), ?_⟩⟩
        obtain ⟨m2, em2⟩ : ∃ m2, (m * 48271 + cell + 11).fmod 2147483647 = m2 := ⟨_, rfl⟩
        show (gSub _ _ _) (V.int ((m * 48271 + cell + 11).fmod 2147483647)) _ _ _
        rw [em2]
        refine ⟨.ref rp, rfl, rp, _, 2, 2, rfl, rfl, hR1, rfl, ?_⟩
        rw [upd_upd]
        have hR2 : (upd H rp (.lst [.ref sa, .int ((kn : Int) + 1), .int m2, .int r])) rp = some (.lst [.ref sa, .int ((kn : Int) + 1), .int m2, .int r]) := upd_same
        obtain ⟨v, hv, ev⟩ := fmod_nat cell h1
        refine ⟨.int cell, rfl, 10, 18, rfl, rfl, ⟨by decide, by decide, by decide⟩, cell, _, rfl, rfl, _, rfl, ?_⟩
        refine ite2 (fun _ => ?_) (fun _ => ?_)
        · refine ⟨.int cell, rfl, .int many, rfl, cell, many, rfl, rfl, hmb, ?_⟩
          refine ⟨.ref rp, rfl, rp, _, 3, 3, rfl, rfl, hR2, rfl, ?_⟩
          rw [upd_upd]
          refine ⟨.int cell, rfl, .inl ⟨cell, rfl, .int many, rfl, cell, many, rfl, rfl, hm0, ?_⟩⟩
          show Q (.int (cell.fmod (many : Int))) _
          rw [ev]
          exact q _ v ⟨(kn : Int) + 1, m2, _, upd_same, row_off hS hne, by omega, hne⟩ but_upd hv
        · refine ⟨.int cell, rfl, .inl ⟨cell, rfl, .int many, rfl, cell, many, rfl, rfl, hm0, ?_⟩⟩
          show Q (.int (cell.fmod (many : Int))) _
          rw [ev]
          exact q _ v ⟨(kn : Int) + 1, m2, r, upd_same, row_off hS hne, by omega, hne⟩ but_upd hv
end
end N

set_option Elab.async false
set_option linter.all false
set_option maxRecDepth 100000
set_option maxHeartbeats 2000000
namespace N
open Cb (lotV combs combsOf combsOf_sub)
open PySem PySem.Spec PyProof.Rows L2
theorem sub_range' : ∀ {n a : Nat} {l : List Nat}, l.Pairwise (· < ·) → (∀ i ∈ l, a ≤ i ∧ i < a + n) → l.Sublist (List.range' a n)
  | 0, a, l, _, h => by
    cases l with
    | nil => exact List.nil_sublist _
    | cons x xs => have := h x List.mem_cons_self; omega
  | n + 1, a, l, hp, h => by
    rw [List.range'_succ]
    cases l with
    | nil => exact List.nil_sublist _
    | cons x xs =>
      obtain ⟨p1, p2⟩ := List.pairwise_cons.mp hp
      have hx := h x List.mem_cons_self
      by_cases e : x = a
      · subst e
        refine (sub_range' p2 fun i hi => ?_).cons_cons x
        have h1 := p1 i hi
        have h2 := h i (List.mem_cons_of_mem _ hi)
        omega
      · refine (sub_range' hp fun i hi => ?_).cons a
        have h2 := h i hi
        rcases List.mem_cons.mp hi with z | z
        · omega
        · have h1 := p1 i z
          omega
theorem lotOk_of {n : Nat} {l : List Nat} (h1 : l.Pairwise (· < ·)) (h2 : ∀ i ∈ l, i < n) : LotOk n l := by
  unfold LotOk
  rw [List.range_eq_range']
  exact sub_range' h1 fun i hi => ⟨Nat.zero_le _, by have := h2 i hi; omega⟩
def keyN (k : Nat) : Key := Sum.inl (k : Int)
theorem keyN_inj {a b : Nat} (h : keyN a = keyN b) : a = b := by
  have := Sum.inl.inj h
  omega
theorem putK_keys {kvs : List (Key × V)} {ks : List Nat} {v : Nat} {x : V} (h : kvs.map (·.1) = ks.map keyN) : ∃ ks' : List Nat, (putK kvs (keyN v) x).map (·.1) = ks'.map keyN ∧ (∀ k, k ∈ ks' ↔ k ∈ ks ∨ k = v) ∧ (ks.Nodup → ks'.Nodup) ∧ ks'.length ≤ ks.length + 1 := by
  by_cases hv : v ∈ ks
  · refine ⟨ks, ?_, fun k => ⟨.inl, fun z => z.elim id fun e => e ▸ hv⟩, id, by omega⟩
    unfold putK
    have e : (kvs.any fun kv => decide (kv.1 = keyN v)) = true := by
      rw [List.any_eq_true]
      have hm : keyN v ∈ kvs.map (·.1) := by rw [h]; exact List.mem_map.mpr ⟨v, hv, rfl⟩
      obtain ⟨kv, h1, h2⟩ := List.mem_map.mp hm
      exact ⟨kv, h1, decide_eq_true h2⟩
    rw [if_pos e, List.map_map, ← h]
    refine List.map_congr_left fun kv _ => ?_
    show (if kv.1 = keyN v then (kv.1, x) else kv).1 = kv.1
    split <;> rfl
  · refine ⟨ks ++ [v], ?_, fun k => by simp, fun z => ?_, by simp⟩
    · have e : ¬ (kvs.any fun kv => decide (kv.1 = keyN v)) = true := by
        intro z
        obtain ⟨kv, h1, h2⟩ := List.any_eq_true.mp z
        have hm : keyN v ∈ kvs.map (·.1) := List.mem_map.mpr ⟨kv, h1, of_decide_eq_true h2⟩
        rw [h] at hm
        obtain ⟨k, hk, ek⟩ := List.mem_map.mp hm
        exact hv (keyN_inj ek ▸ hk)
      unfold putK
      rw [if_neg e, List.map_append, List.map_append, h]
      rfl
    · refine List.nodup_append.mpr ⟨z, by simp, fun a ha b hb => ?_⟩
      have : b = v := by simpa using hb
      subst this
      exact fun e => hv (e ▸ ha)
/-- the sorted ints of some numbers are a lot -/
theorem sorted_lot {ks : List Nat} {ns' : List Int} {n : Nat} (hp : ns'.Perm (ks.map fun (k : Nat) => (k : Int))) (hs : ns'.Pairwise (· ≤ ·)) (hn : ks.Nodup) (hb : ∀ k ∈ ks, k < n) : ∃ l : List Nat, ns' = l.map (fun (k : Nat) => (k : Int)) ∧ LotOk n l ∧ l.length = ks.length := by
  have hnn : ∀ x ∈ ns', 0 ≤ x ∧ x < n := fun x hx => by
    obtain ⟨k, hk, rfl⟩ := List.mem_map.mp (hp.subset hx)
    have := hb k hk
    omega
  have e : ns' = (ns'.map Int.toNat).map (fun (k : Nat) => (k : Int)) := by
    rw [List.map_map]
    conv => lhs; rw [← List.map_id ns']
    refine List.map_congr_left fun x hx => ?_
    have := (hnn x hx).1
    show x = ((x.toNat : Nat) : Int)
    omega
  have hnd : ns'.Nodup := hp.symm.nodup (List.Pairwise.map _ (fun a b h z => h (by omega)) hn)
  have hlt : ns'.Pairwise (· < ·) := by
    have := List.Pairwise.and hs hnd
    exact this.imp fun {a b} z => by have h1 := z.1; have h2 := z.2; omega
  refine ⟨ns'.map Int.toNat, e, lotOk_of (n := n) ?_ fun i hi => ?_, ?_⟩
  · rw [List.pairwise_map]
    refine List.Pairwise.imp_of_mem (fun {a b} ha hb h => ?_) hlt
    have h1 := hnn a ha
    have h2 := hnn b hb
    omega
  · obtain ⟨x, hx, rfl⟩ := List.mem_map.mp hi
    have := hnn x hx
    omega
  · rw [List.length_map, hp.length_eq, List.length_map]
section
variable {P : Program} {w : World} {K : PySem.W.Frag} {mg : Str → Option Value} {base : Heap}
variable {sa : Addr} {ns : List Int}
theorem RowAt.lst {H : Hp} {rp : Addr} (h : RowAt K sa ns H rp) : ∃ xs, H rp = some (.lst xs) := let ⟨_, _, _, e, _⟩ := h; ⟨_, e⟩
theorem RowAt.keep {H H' : Hp} {rp : Addr} (h : RowAt K sa ns H rp) (k : Same H H') : RowAt K sa ns H' rp := by
  obtain ⟨k1, m, r, e, hS, hk, hne⟩ := h
  exact ⟨k1, m, r, k _ _ e, Same.seq k hS, hk, hne⟩
/-- something else that was not there at a time is stored -/
theorem RowAt.new {H0 H : Hp} {rp fp : Addr} {o : HO} (h0 : RowAt K sa ns H0 rp) (hf : H0 fp = none) (h : RowAt K sa ns H rp) : RowAt K sa ns (upd H fp o) rp := by
  obtain ⟨_, _, _, e0, hS0, _⟩ := h0
  obtain ⟨k1, m, r, e, hS, hk, hne⟩ := h
  exact ⟨k1, m, r, by rw [upd_ne (ne_of_none e0 hf)]; exact e, sqL_new hS0 hf hS, hk, hne⟩
theorem tup_but {H H' : Hp} {rp a : Addr} {xs ys : List V} (h : SqT K H a xs) (hr : H rp = some (.lst ys)) (k : SameBut rp H H') : SqT K H' a xs := by
  rcases h with (z | ⟨x, z⟩) | z
  · exact .inl (.inl (k _ _ (ne_of z hr (by intro y; cases y)) z))
  · exact .inl (.inr ⟨x, k _ _ (ne_of z hr (by intro y; cases y)) z⟩)
  · exact .inr z
theorem LotAt.but {H H' : Hp} {rp a : Addr} {l : List Nat} {ys : List V} (h : LotAt K H a l) (hr : H rp = some (.lst ys)) (k : SameBut rp H H') : LotAt K H' a l := tup_but h hr k
theorem HouseAt.but {H H' : Hp} {rp a : Addr} {h : List (List Nat)} {ys : List V} (x : HouseAt K H a h) (hr : H rp = some (.lst ys)) (k : SameBut rp H H') : HouseAt K H' a h := by
  obtain ⟨rs, h1, h2⟩ := x
  exact ⟨rs, tup_but h1 hr k, paired_mono h2 fun _ _ z => z.but hr k⟩
def sp_house (K : PySem.W.Frag) : Sp := fun vs H Q _ => ∃ (sa : Addr) (ns : List Int) (rp : Addr) (many most : Nat), vs = [.ref rp, .int many, .int most] ∧ RowAt K sa ns H rp ∧ 1 ≤ many ∧ many ≤ 7 ∧ 1 ≤ most ∧ most ≤ 7 ∧
  ∀ (H' : Hp) (p : Addr) (h : List (List Nat)), RowAt K sa ns H' rp → SameBut rp H H' → HouseAt K H' p h → HouseOk h → h.length = many → Q (.ref p) H'
theorem sc_house : FnScope ["row", "many", "most", "found", "clerk", "some", "turn"] ["row", "many", "most"] (defScope s__law_house) := ⟨rfl, rfl, rfl, by decide +kernel, rfl, by decide +kernel, by decide +kernel⟩
theorem ok_house (T : Txt K mg) : FnOk P w K mg base CX0 2 T.d__law_house.f T.d__law_house.fd ["row", "many", "most"] (sp_house K) := by
  have G := ok_taken (P := P) (w := w) (base := base) T
  refine T.d__law_house.F.ok sc_house (fun vs H Q E h => ?_) (fun cdv A outer s H vs Q E hr h => ?_)
  · obtain ⟨_, _, rp, many, most, rfl, _⟩ := h
    rfl
  · obtain ⟨sa, ns, rp, many, most, rfl, hRow, h1, h2, h3, h4, q⟩ := h
    have nd := sc_house.nd
    have hu := hu_of hr
    refine ⟨_, pss_cons (ps_set (i := 3) nd rfl (.inl rfl) (pe_lst pa_nil))
      (pss_cons (ps_for PassesOwn.never rfl (pi_range1 (by rfl) T.n_range (pa_cons (pv 1) pa_nil)) (pg_name (i := 4) nd rfl (.inl rfl))
        (pss_cons (ps_set (i := 5) nd rfl (.inl rfl) pe_dnewK)
        (pss_cons (ps_for PassesOwn.never rfl (pi_range1 (by rfl) T.n_range (pa_cons (pe_op op_add pe_int (pe_call G hr (by rfl) T.d__law_taken.g T.d__law_taken.F.kp T.d__law_taken.b .nil pass0 (pa_cons (pv 0) (pa_cons (pv 2) pa_nil)))) pa_nil)) (pg_name (i := 6) nd rfl (.inl rfl))
          (pss_one (ps_dput hu (pv 5) (pe_call G hr (by rfl) T.d__law_taken.g T.d__law_taken.F.kp T.d__law_taken.b .nil pass0 (pa_cons (pv 0) (pa_cons (pv 1) pa_nil))) pe_bl rfl)))
        (pss_one (ps_expr (pe_bm PySem.F.plainAttrs_list PySem.F.slot_list_append PySem.F.type_list_append mt_append (pv 3) (pa_cons
          (pe_callTy call_tuple_of (by rfl) T.n_tuple (by decide +kernel) (pa_cons (pe_callB cr_sorted (by rfl) T.n_sorted (by decide +kernel) (pa_cons (pe_callTy (call_list_dK rfl) (by rfl) T.n_list (by decide +kernel) (pa_cons (pv 5) pa_nil)) pa_nil)) pa_nil)) pa_nil)))))))
      (pss_one (ps_ret (pe_callTy call_tuple_of (by rfl) T.n_tuple (by decide +kernel) (pa_cons (pv 3) pa_nil))))), ?_⟩
    obtain ⟨xr, hxr⟩ := hRow.lst
    refine ⟨Nat.zero_le _, fun fp hfp => ?_⟩
    have frp : rp ≠ fp := ne_of_none hxr hfp
    refine ⟨.int many, rfl, many, rfl, by omega, by omega, ?_⟩
    rw [Int.toNat_natCast]
    refine for_range (lo := 0) (n := many) (fun i σ H2 => ∃ (ts : List Addr) (hs : List (List Nat)) (v4 v5 v6 : Option V), σ = [some (.ref rp), some (.int many), some (.int most), some (.ref fp), v4, v5, v6] ∧ RowAt K sa ns H2 rp ∧ (∀ b o, b ≠ rp → H b = some o → H2 b = some o) ∧ H2 fp = some (.lst (ts.map V.ref)) ∧
        Paired (fun t l => LotAt K H2 t l) ts hs ∧ hs.length = i ∧ ∀ row ∈ hs, row ≠ [] ∧ LotOk many row)
      ⟨[], [], none, none, none, rfl, hRow.keep (same_upd hfp), fun b o _ e => same_upd hfp b o e, upd_same, .nil, rfl, (fun row hr => by cases hr)⟩ ?_ ?_
    · rintro i σ H2 hi ⟨ts, hs, v4, v5, v6, rfl, hRow2, sb2, hf2, hP2, hlen, hok⟩
      obtain ⟨xr2, hxr2⟩ := hRow2.lst
      -- some = {}
      intro dp hdp
      have dpr : rp ≠ dp := ne_of_none hxr2 hdp
      have dpf : fp ≠ dp := ne_of_none hf2 hdp
      have hRow3 : RowAt K sa ns (upd H2 dp (.dK [])) rp := hRow2.keep (same_upd hdp)
      refine ⟨.ref rp, rfl, .int most, rfl, sa, ns, rp, most, rfl, hRow3, h3, by omega, fun H3 v hRow4 sb3 hv => ?_⟩
      refine ⟨1, v, rfl, rfl, 1 + v, rfl, by omega, by omega, ?_⟩
      have ev : ((1 : Int) + (v : Int)).toNat = v + 1 := by omega
      show ∃ W, _
      rw [ev]
      have hd3 : H3 dp = some (.dK []) := sb3 _ _ dpr.symm upd_same
      have hf3 : H3 fp = some (.lst (ts.map V.ref)) := sb3 _ _ frp.symm (by rw [upd_ne dpf]; exact hf2)
      have sb23 : ∀ b o, b ≠ rp → H2 b = some o → H3 b = some o := fun b o hb e => sb3 b o hb (same_upd hdp b o e)
      refine for_range (lo := 0) (n := v + 1) (fun j σ H4 => ∃ (kvs : List (Key × V)) (ks : List Nat) (v6 : Option V), σ = [some (.ref rp), some (.int many), some (.int most), some (.ref fp), some (.int (0 + (i : Int))), some (.ref dp), v6] ∧ RowAt K sa ns H4 rp ∧ (∀ b o, b ≠ rp → H2 b = some o → H4 b = some o) ∧ H4 dp = some (.dK kvs) ∧
          kvs.map (·.1) = ks.map keyN ∧ ks.Nodup ∧ (∀ k ∈ ks, k < many) ∧ ks.length ≤ j ∧ (1 ≤ j → 1 ≤ ks.length))
        ⟨[], [], v6, rfl, hRow4, sb23, hd3, rfl, List.nodup_nil, (fun k hk => by cases hk), Nat.le_refl _, fun z => by omega⟩ ?_ ?_
      · rintro j σ H4 hj ⟨kvs, ks, v6, rfl, hRow5, sb4, hd4, hks, hnd, hkb, hkl, hk1⟩
        refine ⟨.ref dp, rfl, .ref rp, rfl, .int many, rfl, sa, ns, rp, many, rfl, hRow5, h1, by omega, fun H5 x hRow6 sb5 hx => ?_⟩
        have hd5 : H5 dp = some (.dK kvs) := sb5 _ _ dpr.symm hd4
        have hkvl : kvs.length = ks.length := by
          have := congrArg List.length hks
          rwa [List.length_map, List.length_map] at this
        refine ⟨dp, _, rfl, DPut.k (k := keyN x) hd5 (small1000 (by omega)), ?_⟩
        obtain ⟨ks', e1, e2, e3, e4⟩ := putK_keys (v := x) (x := .bl true) hks
        refine ⟨_, ks', _, rfl, RowAt.new hRow2 hdp hRow6, fun b o hb e => ?_, upd_same, e1, e3 hnd, fun k hk => ?_, by omega, fun _ => ?_⟩
        · have hbd : b ≠ dp := ne_of_none e hdp
          rw [upd_ne hbd]
          exact sb5 b o hb (sb4 b o hb e)
        · rcases (e2 k).mp hk with z | z
          · exact hkb k z
          · rw [z]; exact hx
        · exact List.length_pos_of_mem ((e2 x).mpr (.inr rfl))
      · rintro σ H4 ⟨kvs, ks, v6, rfl, hRow5, sb4, hd4, hks, hnd, hkb, hkl, hk1⟩
        have hf4 : H4 fp = some (.lst (ts.map V.ref)) := sb4 _ _ frp.symm hf2
        refine ⟨.ref fp, rfl, .inl ⟨rfl, _, SqL.up hf4⟩, .ref dp, rfl, dp, kvs, rfl, hd4, fun lp hlp => ?_⟩
        have eks : (kvs.map fun kv => kV kv.1) = (ks.map fun (k : Nat) => (k : Int)).map V.int := by
          have : (kvs.map fun kv => kV kv.1) = (kvs.map (·.1)).map kV := by rw [List.map_map]; rfl
          rw [this, hks, List.map_map, List.map_map]
          rfl
        refine ⟨lp, ks.map fun (k : Nat) => (k : Int), rfl, ?_, ?_, fun ns' sp hperm hsort hsp => ?_⟩
        · rw [← eks]
          exact SqL.up upd_same
        · rw [List.length_map]; omega
        · obtain ⟨l0, rfl, okl, hll⟩ := sorted_lot hperm hsort hnd hkb
          have elv : (l0.map fun (k : Nat) => (k : Int)).map V.int = lotV l0 := by rw [List.map_map]; rfl
          refine ⟨sp, _, rfl, .inl ⟨SqL.up upd_same, fun tp htp => ?_⟩⟩
          rw [elv]
          rw [elv] at htp
          have sm5 : Same H4 (upd (upd (upd H4 lp (.lst (kvs.map fun kv => kV kv.1))) sp (.lst (lotV l0))) tp (.tup (lotV l0))) := ((same_upd hlp).trans (same_upd (by rw [elv] at *; exact hsp))).trans (same_upd htp)
          have hf5 := sm5 _ _ hf4
          have hlt : ts.length < 1000 := by
            have : ts.length = hs.length := Paired.length hP2
            omega
          refine ⟨fp, _, _, rfl, rfl, hf5, by rw [List.length_map]; exact small1000 (by omega), ?_⟩
          have tfp : fp ≠ tp := ne_of_none (((same_upd hlp).trans (same_upd hsp)) _ _ hf4) htp
          refine ⟨ts ++ [tp], hs ++ [l0], _, _, _, rfl, ?_, fun b o hb e => ?_, ?_, ?_, by rw [List.length_append, hlen]; rfl, fun row hrow => ?_⟩
          · exact RowAt.new hRow hfp (hRow5.keep sm5)
          · have hbf : b ≠ fp := ne_of_none e hfp
            rw [upd_ne hbf]
            exact sm5 _ _ (sb4 b o hb (sb2 b o hb e))
          · rw [upd_same, List.map_append]
            rfl
          · have tups : ∀ b l, LotAt K H2 b l → LotAt K (upd (upd (upd (upd H4 lp (.lst (kvs.map fun kv => kV kv.1))) sp (.lst (lotV l0))) tp (.tup (lotV l0))) fp (.lst (ts.map V.ref ++ [.ref tp]))) b l := fun b l z => by
              have z1 : LotAt K H4 b l := tup_but z hxr2 sb4
              have z2 := LotAt.same z1 sm5
              rcases z2 with (z3 | ⟨o', z3⟩) | z3
              · exact .inl (.inl (by rw [upd_ne (ne_of z3 hf5 (by intro y; cases y))]; exact z3))
              · exact .inl (.inr ⟨o', by rw [upd_ne (ne_of z3 hf5 (by intro y; cases y))]; exact z3⟩)
              · exact .inr z3
            refine Cb.paired_snoc (F := fun t l => LotAt K (upd (upd (upd (upd H4 lp (.lst (kvs.map fun kv => kV kv.1))) sp (.lst (lotV l0))) tp (.tup (lotV l0))) fp (.lst (ts.map V.ref ++ [.ref tp]))) t l) (SqT.up ?_) (paired_mono hP2 fun t l z => tups t l z)
            rw [upd_ne tfp.symm, upd_same]
          · rcases List.mem_append.mp hrow with z | z
            · exact hok row z
            · rw [List.mem_singleton.mp z]
              refine ⟨fun z2 => ?_, okl⟩
              have := hk1 (by omega)
              rw [z2] at hll
              simp at hll
              omega
    · rintro σ H2 ⟨ts, hs, v4, v5, v6, rfl, hRow2, sb2, hf2, hP2, hlen, hok⟩
      refine ⟨.ref fp, rfl, fp, _, rfl, .inl ⟨SqL.up hf2, fun p hp => ?_⟩⟩
      refine q _ p hs (hRow2.keep (same_upd hp)) (fun b o hb e => same_upd hp b o (sb2 b o hb e)) ⟨ts, SqT.up upd_same, paired_mono hP2 fun _ _ z => z.same (same_upd hp)⟩ ⟨by omega, by omega, fun row hr => by rw [hlen]; exact hok row hr⟩ hlen
end
end N

set_option Elab.async false
set_option linter.all false
set_option maxRecDepth 100000
set_option maxHeartbeats 2000000
/-! sorted(lots, key=lambda lot: (len(lot), lot)) -/
namespace So
open PySem PySem.Spec PyProof.Rows L2 PySem.W
def lotD (l : List Nat) : PyData := .tuple (l.map fun (i : Nat) => PyData.int i)
def keyD' (l : List Nat) : PyData := .tuple [.int l.length, lotD l]
/-- v is a tuple of the numbers l -/
def IsLot (h : Heap) (v : Value) (l : List Nat) : Prop := ∃ t its, v = .ref t ∧ h.IsTuple t its ∧ Vals (Cb.lotV l) its.toList
theorem reads_lot {h : Heap} : ∀ {l : List Nat} {its : List Value}, Vals (Cb.lotV l) its → ReadsAll h its (l.map fun (i : Nat) => PyData.int i) []
  | [], its, r => by cases r; exact .nil
  | i :: l, its, r => by
    cases r with
    | cons a b =>
      obtain ⟨t, rfl⟩ := a
      exact ReadsAll.cons (as := []) (bs := []) (Reads.int _ _) (reads_lot b)
theorem IsLot.reads {h : Heap} {v : Value} {l : List Nat} (x : IsLot h v l) : Reads h v (lotD l) [] := by
  obtain ⟨t, its, rfl, ⟨o, ho, hc, n, hd⟩, hv⟩ := x
  exact Reads.tuple ho hc hd (reads_lot hv)
theorem IsLot.keeps {h h' : Heap} {v : Value} {l : List Nat} (x : IsLot h v l) (k : ∀ b o, h.get? b = some o → h'.get? b = some o) : IsLot h' v l := by
  obtain ⟨t, its, rfl, ⟨o, ho, r⟩, hv⟩ := x
  exact ⟨t, its, rfl, ⟨o, k _ _ ho, r⟩, hv⟩
structure KeyLam (params : Arguments) (body : Expr) (scope : Scope) : Prop where
  kind : scope.kind = .function
  co : scope.isCoroutine = false
  gen : scope.isGenerator = false
  cell : ∀ y ∈ scope.names, y.2 ≠ .cell
  lot : scope.names.lookup ("lot" : Str) = some NameKind.local
  len : scope.names.lookup ("len" : Str) = some NameKind.globalImplicit
  free : ∀ y ∈ scope.names, y.2 ≠ .free
  bind : ∀ (q : Str) (pm cdv ctv v : Value), bindArgs (kla_fn "<lambda>" q params body scope [] pm cdv ctv) ⟨[v], []⟩ = pure [(("lot" : Str), v)]
  body : ∃ p1 p2 p3 p4 x1 p5, body = .Tuple [.Call (.Name "len" p1) [.Name "lot" p2] [] p3, .Name "lot" p4] x1 p5
section
variable {prog : Program} {w : World} {A : Around} {s : Shared} {f c' : Addr} {mg mb : Str → Option Value} {q : Str} {params : Arguments} {body : Expr} {scope : Scope} {pm ctv : Value} {v : Value} {l : List Nat} {E : Value → Shared → Prop}
theorem key_body {env : Env} {m : Str → Option Value} {t : Addr} {its : Array Value} {p1 p2 p3 p4 p5 : Pos} {x1 : Nat} {Q : Value → Shared → Prop} (h1 : env.scope.kind = .function) (h2 : env.kindOf "lot" = some .local) (h3 : env.kindOf "len" = some .globalImplicit) (h4 : s.heap.Ns env.locals m) (h5 : m "lot" = some (.ref t))
    (h6 : s.heap.Ns env.globals mg) (hm : mg "len" = none) (h7 : s.heap.Ns env.builtins mb) (hbl : mb "len" = bootBuiltins "len") (hT : s.heap.IsTuple t its) (hz : its.size ≤ 1000)
    (h : Q (.ref s.heap.objs.size) { s with heap := s.heap.push { cls := .type "tuple", data := .seq #[.int its.size (s.toks + 1), .ref t] }, toks := s.toks + 1 + 1 }) :
    wpAny (model prog w) A (eval (.Tuple [.Call (.Name "len" p1) [.Name "lot" p2] [] p3, .Name "lot" p4] x1 p5) env) Q E s := by
  refine wpAny_Tuple_spliced ?_
  refine Calls.spliced_cons (wpAny_Call_Name_kw ?_)
  refine Calls.Name_function_global h1 h3 (Calls.loadGlobal_builtin h6 hm h7 (hbl.trans boot_len) ?_) (by decide)
  refine PyProof.Rows.callWith_builtin1 (Calls.spliced_cons (wpAny_Name (wpAny_loadName_local h1 h2 h4 h5 (Calls.spliced_nil ?_)) (by decide))) rfl rfl
  refine len_tuple hT (by omega) ?_
  refine Calls.spliced_cons (wpAny_Name (wpAny_loadName_local h1 h2 h4 h5 (Calls.spliced_nil ⟨(by show 2 ≤ sizeLine; decide), ?_⟩)) (by decide))
  exact h
theorem key_turn (L : KeyLam params body scope) (hd : A.depth < recursionLimit) (hf : s.heap.get? f = some (kla_obj "<lambda>" q params body scope [] pm c' ctv)) (hc : s.heap.CodeRec (.ref c') q) (lim : s.heap.NoLimit)
    (hg : s.heap.Ns mainGlobals mg) (hm : mg "len" = none) (hb : s.heap.Ns builtinsNs mb) (hbl : mb "len" = bootBuiltins "len") (hv : IsLot s.heap v l) (hl : l.length ≤ 1000) :
    wpAny (model prog w) A (call (.ref f) [v]) (KeyPure (keyD' l) s) E s := by
  refine wpAny_call ?_
  refine kla_callFunE hd hf rfl L.co L.gen rfl hc ?_
  rw [L.bind]
  refine wpAny_pure (wpAny_newFunctionEnv L.cell (fun y hy => ?_) (fun h₁ hns hsb => ⟨lim.fresh _ hsb, ?_⟩) L.kind)
  · rw [List.mem_singleton.mp hy]
    exact L.lot
  have kp : ∀ b o, s.heap.get? b = some o → h₁.get? b = some o := fun b o e => hsb.extBut b o (Nat.ne_of_lt (Heap.lt_size e)) (Heap.get?_push_of_some _ e)
  refine kla_codeExpr ?_
  obtain ⟨p1, p2, p3, p4, x1, p5, rfl⟩ := L.body
  obtain ⟨t, its, rfl, hT, hvals⟩ := id hv
  obtain ⟨o, ho, hcl, n, hdt⟩ := id hT
  have hT1 : h₁.IsTuple t its := ⟨o, kp _ _ ho, hcl, n, hdt⟩
  have hlen : its.size = l.length := by
    have := hvals.length
    rw [List.length_map, Array.length_toList] at this
    exact this.symm
  refine key_body (mg := mg) (mb := mb) L.kind L.lot L.len hns rfl (hg.keeps kp) hm (hb.keeps kp) hbl hT1 (by omega) ?_
  rw [hlen]
  refine ⟨_, _, rfl, fun b o e => Heap.get?_push_of_some _ (kp b o e), ?_⟩
  refine Reads.tuple (Heap.get?_push_size _ rfl) rfl rfl ?_
  refine ReadsAll.cons (as := []) (bs := []) (Reads.int _ _) (ReadsAll.cons (as := []) (bs := []) ?_ .nil)
  exact (hv.keeps fun b o e => Heap.get?_push_of_some _ (kp b o e)).reads
end
end So

set_option Elab.async false
set_option linter.all false
set_option maxRecDepth 100000
set_option maxHeartbeats 2000000
namespace So
open PySem PySem.Spec PyProof.Rows L2 PySem.W
theorem depth_ints (f : Nat → PyData) (h : ∀ i, (f i).depth = 0) : ∀ l : List Nat, PyData.depthAll (l.map f) = 0
  | [] => rfl
  | i :: l => by
    rw [List.map_cons, PyData.depthAll, depth_ints f h l, h i]
    rfl
theorem depth_key (l : List Nat) : (keyD' l).depth = 2 := by
  unfold keyD' lotD
  rw [PyData.depth, PyData.depthAll, PyData.depthAll, PyData.depthAll, PyData.depth, PyData.depth, depth_ints _ fun i => by rw [PyData.depth]]
  rfl
theorem alike_ints : ∀ l m : List Nat, alikeAll (l.map fun (i : Nat) => PyData.int i) (m.map fun (i : Nat) => PyData.int i) = true
  | [], _ => by simp [alikeAll]
  | _ :: _, [] => by simp [alikeAll]
  | i :: l, j :: m => by
    rw [List.map_cons, List.map_cons, alikeAll, alike, alike_ints l m]
    rfl
theorem alike_key (l m : List Nat) : alike (keyD' l) (keyD' m) = true := by
  unfold keyD' lotD
  rw [alike, alikeAll, alikeAll, alikeAll, alike, alike, alike_ints]
  rfl
theorem extN_seqT {K : PySem.W.Frag} {H H' : Hp} {a : Addr} {xs : List V} (e : LamX.ExtN H H') (h : SqT K H a xs) : SqT K H' a xs := by
  rcases h with (h | ⟨o, h⟩) | h
  · exact .inl (.inl (e _ _ h fun ps z => by cases z))
  · exact .inl (.inr ⟨o, e _ _ h fun ps z => by cases z⟩)
  · exact .inr h
theorem extN_seqL {K : PySem.W.Frag} {H H' : Hp} {a : Addr} {xs : List V} (e : LamX.ExtN H H') (h : SqL K H a xs) : SqL K H' a xs := by
  rcases h with (h | ⟨o, h⟩) | h
  · exact .inl (.inl (e _ _ h fun ps z => by cases z))
  · exact .inl (.inr ⟨o, e _ _ h fun ps z => by cases z⟩)
  · exact .inr h
def IsT (X : Cx) (H : Hp) (h : Heap) (v : Value) (l : List Nat) : Prop := ∃ t, v = .ref t ∧ N.LotAt X.K H t l ∧ IsLot h v l
theorem each_lots {X : Cx} {pins : List (Addr × Obj)} {σ : L2.St} {H : Hp} {s : Shared} (I : Inv X pins σ H s) : ∀ {ts : List Addr} {ls : List (List Nat)} {its : List Value}, Vals (ts.map V.ref) its → Paired (fun t l => N.LotAt X.K H t l) ts ls → EachIs (IsT X H s.heap) its ls
  | [], ls, its, r, p => by
    cases p
    cases r
    exact .nil
  | t :: ts, ls, its, r, p => by
    cases p with
    | cons a b =>
      cases r with
      | cons c d =>
        cases c
        refine .cons ?_ (each_lots I d b)
        obtain ⟨its, rv, hT, hz⟩ := I.tuple a
        exact ⟨t, rfl, a, t, _, rfl, hT, by rw [List.toList_toArray]; exact rv⟩
theorem each_back {X : Cx} {H : Hp} {h : Heap} : ∀ {us : List Value} {ls : List (List Nat)}, EachIs (IsT X H h) us ls → ∃ ts : List Addr, us = ts.map Value.ref ∧ Paired (fun t l => N.LotAt X.K H t l) ts ls
  | _, _, .nil => ⟨[], rfl, .nil⟩
  | _, _, .cons r t => by
    obtain ⟨ts, rfl, p⟩ := each_back t
    obtain ⟨a, rfl, hl, _⟩ := r
    exact ⟨a :: ts, rfl, .cons hl p⟩
/-- p is none of what stands, tables aside -/
def NewN (H : Hp) (p : Addr) : Prop := ∀ b o, H b = some o → (∀ ps, o ≠ .tbl ps) → b ≠ p
def tSortLots (K : PySem.W.Frag) (P : Addr) (q : Str) (ta : TE) : TE := fun σ H Q => ta σ H fun x H1 => ∃ (a : Addr) (ts : List Addr) (ls : List (List Nat)), x = .ref a ∧ SqL K H1 a (ts.map V.ref) ∧ Paired (fun t l => N.LotAt K H1 t l) ts ls ∧ (∀ l ∈ ls, l.length ≤ 1000) ∧ ls.length ≤ 1000 ∧ LamX.TabS H1 P q ∧
  ∀ (H' : Hp) (p : Addr) (ts' : List Addr), LamX.ExtN H1 H' → LamX.TabS H' P q → NewN H1 p → H' p = some (.lst (ts'.map V.ref)) → Paired (fun t l => N.LotAt K H' t l) ts' (ls.mergeSort (dataLe false keyD')) → Q (.ref p) H'
section
variable {X : Cx} {e : Expr} {ta : TE} {x : Str} {p0 pos kpos lpos : Pos} {params : Arguments} {body : Expr} {scope : Scope} {c P : Addr}
theorem pe_sortLots (ha : PE X e ta) (L : KeyLam params body scope) (TB : LamX.TabB X.base X.mg c P) (hcode : X.env.code = .ref c) (hd : X.A.depth < recursionLimit) (hu : X.A.units + 100 < cLine) (hg : Gl X "sorted") (hm : X.mg "sorted" = none) (hml : X.mg "len" = none)
    (hdef : defaultsOf params X.env = ([], []) := by rfl) (hclo : cloFrom X.env.cells scope.names [] = [] := by rfl)
    (he : backTo pos (starEach [e] X.env) = (false, eval e X.env) :: backTo pos (starEach [] X.env) := by rfl) (hpl : (backTo pos (starEach [e] X.env)).any (·.1) = false := by rfl)
    (hall : (backToKw pos (keywordEach [⟨some "key", .Lambda params body scope lpos, kpos⟩] X.env)).all (·.1.isSome) = true := by rfl) (hnone : (backToKw pos (keywordEach [⟨some "key", .Lambda params body scope lpos, kpos⟩] X.env)).any (·.1.isNone) = false := by rfl) :
    PE X (.Call (.Name "sorted" p0) [e] [⟨some "key", .Lambda params body scope lpos, kpos⟩] pos) (tSortLots X.K P (X.env.qual ++ "<lambda>") ta) := by
  refine ⟨fun pins s σ H Q I h => ?_⟩
  refine wpAny_Call_Name_kw (ld_blt I hg hm (u := .builtin "sorted") (by first | exact boot_sorted | decide +kernel) ?_ (by decide) (by decide))
  refine PyProof.Rows.callWith_kw ?_ he hpl hall hnone
  rw [he]
  refine Calls.spliced_cons (thn (ha.run pins s σ H _ I h) fun u s1 ⟨x, H1, I1, r1, q1⟩ => Calls.spliced_nil ?_)
  obtain ⟨a, ts, ls, rfl, hA, hP, hll, hlen, hT, q⟩ := q1
  cases r1
  show wpAny _ _ (evalAll ((do let v ← eval (.Lambda params body scope lpos) X.env; standAt pos; pure v) :: [])) _ _ s1
  refine wpAny_evalAll_cons (wpAny_bind (LamX.lam_make2 (T := [(P, X.env.qual ++ "<lambda>")]) I1 TB hcode (List.mem_singleton.mpr rfl) (fun p hp _ => by rw [List.mem_singleton.mp hp]) (fun p hp => by rw [List.mem_singleton.mp hp]; exact hT) hdef (fun y hy hf => absurd hf (L.free y hy))
    fun f c' pm ctv H2 s2 I2 e2 T2 hf hfn hfr hco => wpAny_bind (wpAny_standAt (wpAny_pure (wpAny_evalAll_nil ?_)))))
  rw [hclo] at hf
  show wpAny _ _ (call (.builtin "sorted") [.ref a] [(Str.ofString "key", .ref f)]) _ _ s2
  have hT2 := T2 _ (List.mem_singleton.mpr rfl)
  have hP2 : Paired (fun t l => N.LotAt X.K H2 t l) ts ls := N.paired_mono hP fun t l z => extN_seqT e2 z
  obtain ⟨its, rv, hl, hz⟩ := I2.list (extN_seqL e2 hA)
  have E := each_lots I2 rv hP2
  obtain ⟨⟨oc, vs, tq, hoc, hdc, hvc⟩, _, _⟩ := I2.hok c' _ hco
  obtain ⟨mb, hb1, hb2⟩ := I2.mod.blt
  refine sorted_key_data (s := s2) (R := IsT X H2 s2.heap) keyD' hl.isList E (fun d hd d' hd' => ?_) (.inl fun d hd => ?_) (Nat.le_of_lt (small1000 hlen)) (fun l hl => ?_) (ksk_s1 _ _) (fun _ => ksk_l1 _ _) (fun y => ksk_t1 f y) (fun v l hR hl h tk kp => ?_) fun out cc h' tk kp fr hD ol hE => ?_
  · obtain ⟨l, _, rfl⟩ := List.mem_map.mp hd
    obtain ⟨l', _, rfl⟩ := List.mem_map.mp hd'
    exact alike_key l l'
  · obtain ⟨l, _, rfl⟩ := List.mem_map.mp hd
    exact ⟨_, _, rfl⟩
  · rw [depth_key]
    omega
  · obtain ⟨t, rfl, _, hI⟩ := hR
    exact key_turn (s := { s2 with heap := h, toks := tk }) L hd (kp _ _ hf) ⟨c', oc, vs, tq, rfl, kp _ _ hoc, hdc, hvc⟩ (I2.nolimit.keeps kp) ((I2.mod.glob.keeps I2.bk).keeps kp) hml ((hb1.keeps I2.bk).keeps kp) (hb2 _ (by decide)) (hI.keeps kp) (hll l hl)
  · obtain ⟨ts', rfl, hP'⟩ := each_back hE
    have hfr : H2 (s2.heap.objs.size + 1) = none := I2.hok.fresh (Nat.le_succ _)
    have hl' : (ts'.map V.ref).length ≤ sizeLine := by
      rw [List.length_map]
      rw [List.length_map] at ol
      have := small1000 hlen
      omega
    refine ⟨.ref _, upd H2 (s2.heap.objs.size + 1) (.lst (ts'.map V.ref)), I2.laid (t' := tk) kp (Nat.le_succ _) ⟨hl', _, cc, LiI.vals_refs ts', hD⟩, rfl, q _ _ ts' (fun b o e n => ?_) ?_ ?_ upd_same ?_⟩
    · have e3 := e2 b o e n
      rw [N.same_upd hfr b o e3]
    · exact hT2.ext (N.same_upd hfr)
    · exact fun b o e n => ne_of_none (e2 b o e n) hfr
    · exact N.paired_mono hP' fun t l z => N.LotAt.same z (N.same_upd hfr)
end
end So

set_option Elab.async false
set_option linter.all false
set_option maxRecDepth 100000
set_option maxHeartbeats 2000000
/-! all lots, sorted by length, then as tuples -/
namespace N
open Cb (lotV combs combsOf combsOf_sub)
open PySem PySem.Spec PyProof.Rows L2
def subsL : Nat → List (List Nat)
  | 0 => [[]]
  | k + 1 => subsL k ++ (subsL k).map (· ++ [k])
def allL (n : Nat) : List (List Nat) := (List.range (n + 1)).flatMap fun r => combs n r
def pwB (r : List Nat → List Nat → Bool) : List (List Nat) → Bool
  | [] => true
  | x :: xs => xs.all (r x) && pwB r xs
theorem pw_of {r : List Nat → List Nat → Bool} : ∀ {l : List (List Nat)}, pwB r l = true → l.Pairwise fun a b => r a b = true
  | [], _ => List.Pairwise.nil
  | x :: xs, h => by
    unfold pwB at h
    rw [Bool.and_eq_true] at h
    exact List.Pairwise.cons (fun b hb => List.all_eq_true.mp h.1 b hb) (pw_of h.2)
abbrev lotLe : List Nat → List Nat → Bool := PySem.W.dataLe false So.keyD'
def chkL (n : Nat) : Bool := (allL n).isPerm (subsL n) && (pwB lotLe (allL n) && (allL n).all fun a => (allL n).all fun b => !(lotLe a b && lotLe b a) || a == b)
theorem chkL_all : ((List.range 7).all chkL) = true := by decide +kernel
theorem sort_allL {n : Nat} (hn : n ≤ 6) : (subsL n).mergeSort lotLe = allL n := by
  have h := List.all_eq_true.mp chkL_all n (List.mem_range.mpr (by omega))
  unfold chkL at h
  rw [Bool.and_eq_true, Bool.and_eq_true] at h
  obtain ⟨h1, h2, h3⟩ := h
  have hp : (allL n).Perm (subsL n) := List.isPerm_iff.mp h1
  have hm : ((subsL n).mergeSort lotLe).Perm (subsL n) := List.mergeSort_perm _ _
  refine (List.Perm.eq_of_pairwise (le := fun a b => lotLe a b = true) (fun a b ha hb x y => ?_) (PySem.W.sort_pairwise (PySem.W.sortLe_total _ _ _) _) (pw_of h2) (hm.trans hp.symm))
  have ha' : a ∈ allL n := (hm.trans hp.symm).mem_iff.mp ha
  have z := List.all_eq_true.mp (List.all_eq_true.mp h3 a ha') b hb
  rw [x, y] at z
  simpa using z
theorem subsL_len : ∀ n : Nat, (subsL n).length = 2 ^ n
  | 0 => rfl
  | n + 1 => by rw [subsL, List.length_append, List.length_map, subsL_len n]; omega
theorem subsL_ok : ∀ {n : Nat} {l : List Nat}, l ∈ subsL n → l.length ≤ n
  | 0, l, h => by rw [List.mem_singleton.mp h]; exact Nat.zero_le _
  | n + 1, l, h => by
    rcases List.mem_append.mp h with z | z
    · have := subsL_ok z; omega
    · obtain ⟨m, hm, rfl⟩ := List.mem_map.mp z
      have := subsL_ok hm
      rw [List.length_append]
      simpa using this
theorem mem_allL {n : Nat} {l : List Nat} : l ∈ allL n ↔ LotOk n l := by
  unfold allL
  rw [List.mem_flatMap]
  constructor
  · rintro ⟨r, _, h⟩
    exact (combsOf_sub.mp h).1
  · intro h
    exact ⟨l.length, List.mem_range.mpr (by have := h.len; omega), combsOf_sub.mpr ⟨h, rfl⟩⟩
theorem o_catA (K : PySem.W.Frag) {X : Cx} (hK : X.K = K := by rfl) : OpR X (binaryOp .Add) (rCatA K) := by
  subst hK
  exact op_catA
end N

set_option Elab.async false
set_option linter.all false
set_option maxRecDepth 100000
set_option maxHeartbeats 2000000
namespace N
open Cb (lotV combs combsOf combsOf_sub)
open PySem PySem.Spec PyProof.Rows L2
abbrev lamQ : Str := "_law_lots.<locals>.<lambda>"
section
variable {P : Program} {w : World} {K : PySem.W.Frag} {mg : Str → Option Value} {base : Heap}
theorem LotAt.ext {H H' : Hp} {a : Addr} {l : List Nat} (h : LotAt K H a l) (e : LamX.ExtN H H') : LotAt K H' a l := So.extN_seqT e h
theorem HouseAt.ext {H H' : Hp} {a : Addr} {h : List (List Nat)} (x : HouseAt K H a h) (e : LamX.ExtN H H') : HouseAt K H' a h := by
  obtain ⟨rs, h1, h2⟩ := x
  exact ⟨rs, So.extN_seqT e h1, paired_mono h2 fun _ _ z => z.ext e⟩
theorem Same.extN {H H' : Hp} (e : Same H H') : LamX.ExtN H H' := fun b o h _ => e b o h
theorem paired_app {α β : Type} {F : α → β → Prop} : ∀ {as as' : List α} {bs bs' : List β}, Paired F as bs → Paired F as' bs' → Paired F (as ++ as') (bs ++ bs')
  | _, _, _, _, .nil, h => h
  | _, _, _, _, .cons r t, h => .cons r (paired_app t h)
def sp_lots (K : PySem.W.Frag) (PT : Addr) : Sp := fun vs H Q _ => ∃ n : Nat, vs = [.int n] ∧ n ≤ 6 ∧ LamX.TabS H PT lamQ ∧
  ∀ (H' : Hp) (p : Addr) (ts : List Addr), LamX.ExtN H H' → LamX.TabS H' PT lamQ → So.NewN H p → H' p = some (.lst (ts.map V.ref)) → Paired (fun t l => LotAt K H' t l) ts (allL n) → Q (.ref p) H'
theorem sc_lots : FnScope ["many", "found", "one", "lot"] ["many"] (defScope s__law_lots) := ⟨rfl, rfl, rfl, by decide +kernel, rfl, by decide +kernel, by decide +kernel⟩
theorem room100 {k : Nat} {A : Around} (h : Room k A) : A.units + 100 < cLine := by
  have := h.un
  omega
theorem lot_off {H : Hp} {D a : Addr} {l : List Nat} {ys : List V} {o : HO} (h : LotAt K H a l) (hD : H D = some (.lst ys)) : LotAt K (upd H D o) a l := h.but hD but_upd
theorem ok_lots {c PT : Addr} (T : Txt K mg) (hc : T.d__law_lots.fd.code = .ref c) (TB : LamX.TabB base mg c PT) : FnOk P w K mg base CX0 2 T.d__law_lots.f T.d__law_lots.fd ["many"] (sp_lots K PT) := by
  obtain ⟨oc, od, kV, doc, pm, an, cdv, ct, osl, efd, lk, hcd⟩ := T.d__law_lots.F.ex
  rw [efd] at lk hc ⊢
  have hc' : cdv = .ref c := hc
  subst hc'
  refine fn_of lk hcd sc_lots (fun vs H Q E h => ?_) (fun A outer s H vs Q E hr h => ?_)
  · obtain ⟨n, rfl, _⟩ := h
    rfl
  · obtain ⟨n, rfl, hn, hT, q⟩ := h
    have nd := sc_lots.nd
    refine ⟨_, PSs.nox (pss_cons (ps_set (i := 1) nd rfl (.inl rfl) (pe_lst (pa_cons (pe_tup pa_nil) pa_nil)))
      (pss_cons (ps_for PassesOwn.never rfl (pi_range1 (by rfl) T.n_range (pa_cons (pv 0) pa_nil)) (pg_name (i := 2) nd rfl (.inr rfl))
        (pss_one (ps_set (i := 1) nd rfl (.inl rfl) (pe_op op_cat (pv 1) (pe_lc (own := [("lot", 3)]) (g := gName 3) (tt := tYes) rfl nd (pi_list (pv 1))
          (blkOk_by (N := ["many", "found", "one", "lot"]) (sc := defScope s__law_lots) (by decide +kernel)) (fun _ _ _ _ _ => pg_name (i := 3) nd rfl (.inl rfl)) (fun _ _ _ _ _ => pts_nil)
          (fun _ _ _ _ _ => pe_op (o_catA K) (pv 3) (pe_tup (pa_cons (pv 2) pa_nil))))))))
      (pss_one (ps_ret (So.pe_sortLots (c := c) (P := PT) (pv 1) ⟨rfl, rfl, rfl, by decide +kernel, by decide +kernel, by decide +kernel, by decide +kernel, (fun _ _ _ _ _ => rfl), ⟨_, _, _, _, _, _, rfl⟩⟩ TB rfl hr.depth (room100 hr) (by rfl) T.n_sorted T.n_len))))), ?_⟩
    refine ⟨by decide, fun e0 he0 => ⟨by (show 1 ≤ sizeLine; decide), fun fp hfp => ?_⟩⟩
    have hfp' : H fp = none := by
      have : fp ≠ e0 := fun z => by rw [z, upd_same] at hfp; cases hfp
      rw [upd_ne this] at hfp
      exact hfp
    refine ⟨.int n, rfl, n, rfl, by omega, by omega, ?_⟩
    rw [Int.toNat_natCast]
    refine for_range (lo := 0) (n := n) (fun i σ H2 => ∃ (fp : Addr) (ts : List Addr) (v2 v3 : Option V), σ = [some (.int n), some (.ref fp), v2, v3] ∧ Same H H2 ∧ H2 fp = some (.lst (ts.map V.ref)) ∧ Paired (fun t l => LotAt K H2 t l) ts (subsL i))
      ⟨fp, [e0], none, none, rfl, (same_upd he0).trans (same_upd hfp), upd_same, .cons (SqT.up (same_upd hfp _ _ upd_same)) .nil⟩ ?_ ?_
    · rintro i σ H2 hi ⟨fp, ts, v2, v3, rfl, sm, hf, hP⟩
      have hlen : ts.length = (subsL i).length := Paired.length hP
      have h2i : (subsL i).length ≤ 64 := by
        rw [subsL_len]
        exact Nat.pow_le_pow_right (n := 2) (by decide) (by omega : i ≤ 6)
      refine ⟨.ref fp, rfl, .ref fp, rfl, fp, rfl, ⟨_, SqL.up hf⟩, fun D hD => lc_list (K := K) (a := fp) (xs := ts.map V.ref) (fun j H3 => ∃ us : List Addr, H3 D = some (.lst (us.map V.ref)) ∧ Same H2 H3 ∧ Paired (fun t l => LotAt K H3 t l) us (((subsL i).take j).map (· ++ [i])))
        ⟨[], upd_same, same_upd hD, .nil⟩ (fun j H3 _ h3 => SqL.up (h3.choose_spec.2.1 _ _ hf)) ?_ ?_⟩
      · rintro j y H3 hj ⟨us, hD3, sm3, hPu⟩
        obtain ⟨t, ht, rfl⟩ := get_refs hj
        obtain ⟨l, hl, hat⟩ := paired_at hP ht
        have hat3 : LotAt K H3 t l := hat.same sm3
        have hll := subsL_ok (List.mem_of_getElem? hl)
        have hul : us.length ≤ 64 := by
          have h1 : us.length = _ := Paired.length hPu
          rw [List.length_map, List.length_take] at h1
          omega
        have etk : ((subsL i).take (j + 1)).map (· ++ [i]) = ((subsL i).take j).map (· ++ [i]) ++ [l ++ [i]] := by rw [List.take_add_one, hl, List.map_append]; rfl
        refine ⟨rfl, tYes_if ⟨.ref t, rfl, .int (0 + (i : Int)), rfl, (by show 1 ≤ sizeLine; decide), fun u hu => ?_⟩⟩
        have eu : (upd H3 u (.tup [V.int (0 + (i : Int))])) u = some (.tup (lotV [i])) := by
          rw [upd_same, Int.zero_add]
          rfl
        have smu : Same H3 (upd H3 u (.tup [V.int (0 + (i : Int))])) := same_upd hu
        have fin : ∀ (H4 : Hp) (r : Addr), Same H3 H4 → LotAt K H4 r (l ++ [i]) → ∃ xs, H4 D = some (.lst xs) ∧ xs.length < sizeLine ∧ ∃ us : List Addr, (upd H4 D (.lst (xs ++ [V.ref r]))) D = some (.lst (us.map V.ref)) ∧ Same H2 (upd H4 D (.lst (xs ++ [V.ref r]))) ∧
            Paired (fun t l => LotAt K (upd H4 D (.lst (xs ++ [V.ref r]))) t l) us (((subsL i).take (j + 1)).map (· ++ [i])) := fun H4 r sm4 hr4 => by
          have hD4 := sm4 _ _ hD3
          refine ⟨_, hD4, by rw [List.length_map]; exact small1000 (by omega), us ++ [r], ?_, fun b o e => ?_, ?_⟩
          · rw [upd_same, List.map_append]
            rfl
          · rw [upd_ne (ne_of_none e hD)]
            exact sm4 _ _ (sm3 _ _ e)
          · rw [etk]
            exact Cb.paired_snoc (F := fun t l => LotAt K (upd H4 D (.lst (us.map V.ref ++ [V.ref r]))) t l) (lot_off hr4 hD4) (paired_mono hPu fun t l z => lot_off (z.same sm4) hD4)
        refine ⟨t, u, lotV l, lotV [i], rfl, rfl, Same.tup smu hat3, SqT.up eu, by rw [List.length_map]; show l.length + 1 ≤ sizeLine; exact Nat.le_of_lt (small1000 (by omega)), fun e => ?_, fun _ e => by (cases e), fun _ _ p hp => ?_⟩
        · have el : l = [] := List.map_eq_nil_iff.mp e
          obtain ⟨xs, a1, a2, a3⟩ := fin _ u smu (by rw [el]; exact SqT.up eu)
          exact ⟨xs, a1, a2, a3⟩
        · have ep : lotV l ++ lotV [i] = lotV (l ++ [i]) := by
            unfold lotV
            rw [List.map_append]
          rw [ep]
          obtain ⟨xs, a1, a2, a3⟩ := fin _ p (smu.trans (same_upd hp)) (SqT.up upd_same)
          exact ⟨xs, a1, a2, a3⟩
      · rintro H3 ⟨us, hD3, sm3, hPu⟩
        have hlu : us.length = (subsL i).length := by
          have h1 : us.length = _ := Paired.length hPu
          rw [List.length_map, List.length_map, hlen, List.take_length] at h1
          exact h1
        refine ⟨fp, D, ts.map V.ref, us.map V.ref, rfl, rfl, sm3 _ _ hf, hD3, ?_, fun p hp => ?_⟩
        · rw [List.length_map, List.length_map]
          exact Nat.le_of_lt (small1000 (by omega))
        · refine ⟨p, ts ++ us, _, _, rfl, (sm.trans sm3).trans (same_upd hp), by rw [upd_same, List.map_append], ?_⟩
          rw [List.length_map, hlen, List.take_length] at hPu
          have hPp : Paired (fun t l => LotAt K (upd H3 p (.lst (ts.map V.ref ++ us.map V.ref))) t l) ts (subsL i) := paired_mono hP fun t l z => z.same (sm3.trans (same_upd hp))
          have hPq : Paired (fun t l => LotAt K (upd H3 p (.lst (ts.map V.ref ++ us.map V.ref))) t l) us ((subsL i).map (· ++ [i])) := paired_mono hPu fun t l z => z.same (same_upd hp)
          exact paired_app hPp hPq
    · rintro σ H2 ⟨fp, ts, v2, v3, rfl, sm, hf, hP⟩
      have h2i : (subsL n).length ≤ 64 := by
        rw [subsL_len]
        exact Nat.pow_le_pow_right (n := 2) (by decide) hn
      refine ⟨.ref fp, rfl, fp, ts, subsL n, rfl, SqL.up hf, hP, fun l hl => by have := subsL_ok hl; omega, by omega, hT.ext sm, fun H' p ts' e2 hT' hp hl' hP' => ?_⟩
      rw [sort_allL hn] at hP'
      exact q H' p ts' ((Same.extN sm).trans e2) hT' (fun b o e nt => hp b o (sm _ _ e) nt) hl' hP'
end
end N

set_option Elab.async false
set_option linter.all false
set_option maxRecDepth 100000
set_option maxHeartbeats 2000000
/-! [..] == [], [..] != [], i in a lot -/
namespace N
open Cb (lotV combs combsOf combsOf_sub)
open PySem PySem.Spec PyProof.Rows L2
def natD (l : List Nat) : List PyData := l.map fun (i : Nat) => PyData.int i
theorem lay_nats : ∀ l : List Nat, PyData.canLayAll0 (natD l) = true
  | [] => by rw [natD, List.map_nil, PyData.canLayAll0]
  | i :: l => by
    have ih := lay_nats l
    unfold natD at ih ⊢
    rw [List.map_cons, PyData.canLayAll0, PyData.canLay0, ih]
    rfl
theorem lay_lots : ∀ ls : List (List Nat), PyData.canLayAll0 (ls.map So.lotD) = true
  | [] => by rw [List.map_nil, PyData.canLayAll0]
  | l :: ls => by
    rw [List.map_cons, PyData.canLayAll0, lay_lots ls, So.lotD, PyData.canLay0]
    have := lay_nats l
    unfold natD at this
    rw [this]
    rfl
theorem depth_nats : ∀ l : List Nat, PyData.depthAll (natD l) = 0 := So.depth_ints (fun (i : Nat) => PyData.int i) (fun i => by rw [PyData.depth])
theorem depth_lots : ∀ ls : List (List Nat), PyData.depthAll (ls.map So.lotD) ≤ 1
  | [] => by rw [List.map_nil, PyData.depthAll]; exact Nat.zero_le _
  | l :: ls => by
    rw [List.map_cons, PyData.depthAll, So.lotD, PyData.depth]
    have h1 := depth_nats l
    unfold natD at h1
    rw [h1]
    have h2 := depth_lots ls
    omega
theorem shaped_nats (l : List Nat) : SeqAt.shaped (.list (natD l)) = true := by
  unfold SeqAt.shaped
  rw [PyData.canLay0, lay_nats, PyData.depth, depth_nats]
  rfl
theorem shaped_lot (l : List Nat) : SeqAt.shaped (.tuple (natD l)) = true := by
  unfold SeqAt.shaped
  rw [PyData.canLay0, lay_nats, PyData.depth, depth_nats]
  rfl
theorem shaped_lots (ls : List (List Nat)) : SeqAt.shaped (.list (ls.map So.lotD)) = true := by
  unfold SeqAt.shaped
  rw [PyData.canLay0, lay_lots, PyData.depth]
  have := depth_lots ls
  simp only [Bool.true_and, decide_eq_true_eq]
  omega
theorem dp_nats {K : PySem.W.Frag} {H : Hp} : ∀ l : List Nat, DpAll K H (lotV l) (natD l)
  | [] => .nil
  | i :: l => .cons (.int _) (dp_nats l)
theorem dp_lots {K : PySem.W.Frag} {H : Hp} : ∀ {ts : List Addr} {ls : List (List Nat)}, Paired (fun t l => LotAt K H t l) ts ls → DpAll K H (ts.map V.ref) (ls.map So.lotD)
  | _, _, .nil => .nil
  | _, _, .cons r t => .cons (.tup r (dp_nats _)) (dp_lots t)
def rEmp (K : PySem.W.Frag) (neg : Bool) : R2 := fun x y H Q => ∃ (a b : Addr) (xs : List V) (ds : List PyData), x = .ref a ∧ y = .ref b ∧ SqL K H a xs ∧ DpAll K H xs ds ∧ SeqAt.shaped (.list ds) = true ∧ SqL K H b [] ∧ Q (.bl (if neg then !xs.isEmpty else xs.isEmpty)) H
theorem eqv_emp {K : PySem.W.Frag} {H : Hp} {xs : List V} {ds : List PyData} (h : DpAll K H xs ds) : PyData.eqv (.list ds) (.list []) = xs.isEmpty := by
  cases h with
  | nil => simp [PyData.eqv, PyData.eqvAll]
  | cons a b => simp [PyData.eqv, PyData.eqvAll]
theorem shaped_nil : SeqAt.shaped (.list []) = true := shaped_nats []
theorem op_emp {X : Cx} (hu : X.A.units + 64 < cLine) : OpR X (compareOp .Eq) (rEmp X.K false) := by
  intro pins s σ H x y v u Q I r1 r2 h
  obtain ⟨a, b, xs, ds, rfl, rfl, h1, h2, h3, h4, q⟩ := h
  refine op_eqD hu pins s σ H _ _ v u Q I r1 r2 ⟨.list ds, .list [], .lst h1 h2, .lst h4 .nil, h3, shaped_nil, ?_⟩
  rw [eqv_emp h2]
  exact q
theorem op_nemp {X : Cx} (hu : X.A.units + 64 < cLine) : OpR X (compareOp .NotEq) (rEmp X.K true) := by
  intro pins s σ H x y v u Q I r1 r2 h
  obtain ⟨a, b, xs, ds, rfl, rfl, h1, h2, h3, h4, q⟩ := h
  refine op_neD hu pins s σ H _ _ v u Q I r1 r2 ⟨.list ds, .list [], .lst h1 h2, .lst h4 .nil, h3, shaped_nil, ?_⟩
  rw [eqv_emp h2]
  exact q
theorem o_notIn (K : PySem.W.Frag) {X : Cx} (hK : X.K = K := by rfl) : OpR X (compareOp .NotIn) (rIn K true) := by
  subst hK
  exact op_notIn_seq
theorem flat_lot : ∀ l : List Nat, (lotV l).all flatV = true
  | [] => rfl
  | i :: l => flat_lot l
theorem inV_lot (s : Nat) : ∀ l : List Nat, inV (.int (s : Int)) (lotV l) = decide (s ∈ l)
  | [] => rfl
  | i :: l => by
    have ih := inV_lot s l
    unfold inV at ih ⊢
    show (eqV (.int (i : Int)) (.int (s : Int)) || (lotV l).any fun y => eqV y (.int (s : Int))) = _
    rw [ih]
    by_cases e : s = i
    · subst e
      simp [eqV]
    · have h1 : eqV (.int (i : Int)) (.int (s : Int)) = false := by
        simp only [eqV]
        simp
        omega
      rw [h1]
      simp [e]
end N

set_option Elab.async false
set_option linter.all false
set_option maxRecDepth 100000
set_option maxHeartbeats 2000000
/-! crews -/
namespace N
open Cb (lotV combs combsOf combsOf_sub)
/-- the slates of a lot at which a clerk looks -/
def lookL (h : List (List Nat)) (C : List Nat) (i : Nat) : List Nat := (h.getD i []).filter fun s => decide (s ∈ C)
/-- those of a lot who look at least at so many slates of it -/
def whoL (h : List (List Nat)) (m : Nat) (C : List Nat) : List Nat := C.filter fun i => decide (m ≤ (lookL h C i).length)
def Good (h : List (List Nat)) (m : Nat) (C : List Nat) : Prop := ∀ i ∈ C, m ≤ (lookL h C i).length
structure IsCrew (h : List (List Nat)) (m : Nat) (C : List Nat) : Prop where
  ok : LotOk h.length C
  good : Good h m C
  top : ∀ D, LotOk h.length D → Good h m D → ∀ i ∈ D, i ∈ C
theorem lot_ext {n : Nat} {a b : List Nat} (ha : LotOk n a) (hb : LotOk n b) (h : ∀ i, i ∈ a ↔ i ∈ b) : a = b :=
  List.Perm.eq_of_pairwise (le := fun x y => x < y) (fun x y _ _ p q => by omega) ha.rise hb.rise ((List.perm_ext_iff_of_nodup ha.nodup hb.nodup).mpr h)
theorem IsCrew.inj {h : List (List Nat)} {m : Nat} {C D : List Nat} (x : IsCrew h m C) (y : IsCrew h m D) : C = D :=
  lot_ext x.ok y.ok fun i => ⟨fun z => y.top C x.ok x.good i z, fun z => x.top D y.ok y.good i z⟩
theorem look_mono {h : List (List Nat)} {C D : List Nat} (s : ∀ i ∈ D, i ∈ C) (i : Nat) : (lookL h D i).length ≤ (lookL h C i).length := by
  unfold lookL
  induction h.getD i [] with
  | nil => exact Nat.le_refl _
  | cons x xs ih =>
    rw [List.filter_cons, List.filter_cons]
    by_cases h1 : x ∈ D
    · rw [if_pos (decide_eq_true h1), if_pos (decide_eq_true (s x h1)), List.length_cons, List.length_cons]
      omega
    · rw [if_neg (by simp [h1])]
      split
      · rw [List.length_cons]; omega
      · exact ih
theorem who_sub (h : List (List Nat)) (m : Nat) (C : List Nat) : (whoL h m C).Sublist C := List.filter_sublist
theorem who_keeps {h : List (List Nat)} {m : Nat} {C D : List Nat} (g : Good h m D) (s : ∀ i ∈ D, i ∈ C) : ∀ i ∈ D, i ∈ whoL h m C := fun i hi =>
  List.mem_filter.mpr ⟨s i hi, decide_eq_true (Nat.le_trans (g i hi) (look_mono s i))⟩
theorem who_fix {h : List (List Nat)} {m : Nat} {C : List Nat} (e : whoL h m C = C) : Good h m C := fun i hi => by
  rw [← e] at hi
  exact of_decide_eq_true (List.mem_filter.mp hi).2
/-- the law's way: the last lot in which all look at enough -/
def goodB (h : List (List Nat)) (m : Nat) (C : List Nat) : Bool := C.all fun i => !decide ((lookL h C i).length < m)
theorem goodB_iff {h : List (List Nat)} {m : Nat} {C : List Nat} : goodB h m C = true ↔ Good h m C := by
  unfold goodB Good
  rw [List.all_eq_true]
  constructor
  · intro z i hi
    have := z i hi
    simp at this
    exact this
  · intro z i hi
    have := z i hi
    simp
    exact this
def lastGood (h : List (List Nat)) (m : Nat) (ls : List (List Nat)) : List Nat := ls.foldl (fun f l => if goodB h m l then l else f) []
theorem lastGood_snoc {h : List (List Nat)} {m : Nat} {ls : List (List Nat)} {l : List Nat} : lastGood h m (ls ++ [l]) = if goodB h m l then l else lastGood h m ls := by
  unfold lastGood
  rw [List.foldl_append]
  rfl
theorem allL_pw (n : Nat) : (allL n).Pairwise fun a b => a.length ≤ b.length := by
  unfold allL
  rw [List.pairwise_flatMap]
  constructor
  · intro r _
    rw [List.pairwise_iff_forall_sublist]
    intro a b s
    have ha := (combsOf_sub.mp (s.subset List.mem_cons_self)).2
    have hb := (combsOf_sub.mp (s.subset (List.mem_cons_of_mem _ List.mem_cons_self))).2
    omega
  · refine List.Pairwise.imp (fun {r s} hrs x hx y hy => ?_) (List.pairwise_lt_range)
    have ha := (combsOf_sub.mp hx).2
    have hb := (combsOf_sub.mp hy).2
    omega
theorem lot_top {n : Nat} {C l : List Nat} (hC : LotOk n C) (hl : LotOk n l) (s : ∀ i ∈ l, i ∈ C) (e : C.length ≤ l.length) : l = C := by
  have e1 : l = C.filter fun i => decide (i ∈ l) := lot_ext hl (List.filter_sublist.trans hC) fun i => by
    rw [List.mem_filter]
    exact ⟨fun z => ⟨s i z, decide_eq_true z⟩, fun z => of_decide_eq_true z.2⟩
  have e2 : C.filter (fun i => decide (i ∈ l)) = C := List.filter_sublist.eq_of_length_le (by rw [← e1]; exact e)
  rw [e1, e2]
theorem lastGood_is {h : List (List Nat)} {m : Nat} {C : List Nat} (x : IsCrew h m C) : lastGood h m (allL h.length) = C := by
  obtain ⟨as, bs, e⟩ := List.append_of_mem (mem_allL.mpr x.ok)
  have hp := allL_pw h.length
  rw [e] at hp
  have hb := (List.pairwise_cons.mp (List.pairwise_append.mp hp).2.1).1
  have hm : ∀ l ∈ bs, LotOk h.length l := fun l hl => mem_allL.mp (by rw [e]; exact List.mem_append_right _ (List.mem_cons_of_mem _ hl))
  rw [e]
  unfold lastGood
  rw [List.foldl_append, List.foldl_cons, if_pos (goodB_iff.mpr x.good)]
  clear hp e
  induction bs with
  | nil => rfl
  | cons l bs ih =>
    rw [List.foldl_cons]
    have e3 : (if goodB h m l then l else C) = C := by
      split
      · rename_i g
        have ol := hm l List.mem_cons_self
        exact lot_top x.ok ol (x.top l ol (goodB_iff.mp g)) (hb l List.mem_cons_self)
      · rfl
    rw [e3]
    exact ih (fun l hl => hb l (List.mem_cons_of_mem _ hl)) fun l hl => hm l (List.mem_cons_of_mem _ hl)
/-- all look at one slate at least -/
theorem crew_one {h : List (List Nat)} (ok : HouseOk h) : IsCrew h 1 (List.range h.length) := by
  refine ⟨List.Sublist.refl _, fun i hi => ?_, fun D hD _ i hi => hD.subset hi⟩
  have hlt := List.mem_range.mp hi
  have hm : h.getD i [] ∈ h := by
    rw [List.getD_eq_getElem?_getD, List.getElem?_eq_getElem hlt]
    exact List.getElem_mem hlt
  obtain ⟨h1, h2⟩ := ok.ok _ hm
  unfold lookL
  have e : (h.getD i []).filter (fun s => decide (s ∈ List.range h.length)) = h.getD i [] := List.filter_eq_self.mpr fun s hs => decide_eq_true (h2.subset hs)
  rw [e]
  exact List.length_pos_iff.mpr h1
/-- coins too few for a crew never cover one of it -/
theorem crew_safe {h : List (List Nat)} (ok : HouseOk h) {m c : Nat} {C : List Nat} (x : IsCrew h m C) (hc : c < m) : ∀ {t : Nat} {S : List Nat}, RchL h c t S → ∀ i ∈ C, i ∉ S
  | 0, S, e => fun i _ hi => by rw [show S = [] from e] at hi; cases hi
  | t + 1, S, ⟨S', L, h1, h2, h3, e⟩ => fun i hi hS => by
    have ih := crew_safe ok x hc h1
    rw [e, mem_nextL] at hS
    have hg := x.good i hi
    have hlt := x.ok.lt i hi
    have hm : h.getD i [] ∈ h := by
      rw [List.getD_eq_getElem?_getD, List.getElem?_eq_getElem hlt]
      exact List.getElem_mem hlt
    have hrow := (ok.ok _ hm).2
    -- the slates looked at within the crew all bear coins
    have hsub : ∀ s ∈ lookL h C i, s ∈ L := fun s hs => by
      obtain ⟨hs1, hs2⟩ := List.mem_filter.mp hs
      rcases hS.2 s hs1 with z | z
      · exact absurd z (ih s (of_decide_eq_true hs2))
      · exact z
    have ok1 : LotOk h.length (lookL h C i) := List.filter_sublist.trans hrow
    have e1 : lookL h C i = L.filter fun s => decide (s ∈ lookL h C i) := lot_ext ok1 (List.filter_sublist.trans h2) fun s => by
      rw [List.mem_filter]
      exact ⟨fun z => ⟨hsub s z, decide_eq_true z⟩, fun z => of_decide_eq_true z.2⟩
    have hl : (lookL h C i).length ≤ L.length := by
      rw [e1]
      exact List.length_filter_le _ _
    omega
theorem crew_le {h : List (List Nat)} (ok : HouseOk h) {m c : Nat} {C : List Nat} (x : IsCrew h m C) (hne : C ≠ []) (hn : IsNum h (List.range h.length) c) : m ≤ c := by
  rcases Nat.lt_or_ge c m with z | z
  · obtain ⟨t, S, h1, h2⟩ := hn.1
    obtain ⟨i, hi⟩ := List.exists_mem_of_ne_nil _ hne
    exact absurd (h2 i (x.ok.subset hi)) (crew_safe ok x z h1 i hi)
  · exact z
/-- the greatest number up to some one for which the crew isn't empty -/
def HasCrew (h : List (List Nat)) (m : Nat) : Prop := ∃ C, IsCrew h m C ∧ C ≠ []
def BestTo (h : List (List Nat)) (k b : Nat) : Prop := b ≤ k ∧ (b ≠ 0 → HasCrew h b) ∧ ∀ j, b < j → j ≤ k → ¬ HasCrew h j
theorem best_zero (h : List (List Nat)) : BestTo h 0 0 := ⟨Nat.le_refl _, fun z => absurd rfl z, fun j a b => by omega⟩
theorem best_yes {h : List (List Nat)} {k b : Nat} (x : BestTo h k b) (y : HasCrew h (k + 1)) : BestTo h (k + 1) (k + 1) := ⟨Nat.le_refl _, fun _ => y, fun j a b => by omega⟩
theorem best_no {h : List (List Nat)} {k b : Nat} (x : BestTo h k b) (y : ¬ HasCrew h (k + 1)) : BestTo h (k + 1) b := ⟨Nat.le_succ_of_le x.1, x.2.1, fun j a c => by
  rcases Nat.lt_or_ge k j with z | z
  · have : j = k + 1 := by omega
    rw [this]
    exact y
  · exact x.2.2 j a z⟩
theorem BestTo.inj {h : List (List Nat)} {k b b' : Nat} (x : BestTo h k b) (y : BestTo h k b') : b = b' := by
  rcases Nat.lt_trichotomy b b' with z | z | z
  · exact absurd (y.2.1 (by omega)) (x.2.2 b' z y.1)
  · exact z
  · exact absurd (x.2.1 (by omega)) (y.2.2 b z x.1)
/-- so is the greatest of those for which it isn't empty -/
theorem best_max {h : List (List Nat)} (ok : HouseOk h) {k : Nat} {ns : List Nat} (hns : ∀ j, j ∈ ns ↔ 1 ≤ j ∧ j ≤ k ∧ HasCrew h j) {b : Nat} (hb : b ∈ ns) (hm : ∀ j ∈ ns, j ≤ b) : BestTo h k b := by
  obtain ⟨h1, h2, h3⟩ := (hns b).mp hb
  exact ⟨h2, fun _ => h3, fun j a c z => by have := hm j ((hns j).mpr ⟨by omega, c, z⟩); omega⟩
theorem has_one {h : List (List Nat)} (ok : HouseOk h) : HasCrew h 1 := ⟨_, crew_one ok, fun z => by
  have z2 := congrArg List.length z
  rw [List.length_range] at z2
  have := ok.lo
  rw [z2] at this
  simp at this⟩
theorem best_le {h : List (List Nat)} (ok : HouseOk h) {k b c : Nat} (x : BestTo h k b) (hn : IsNum h (List.range h.length) c) : b ≤ c := by
  by_cases e : b = 0
  · omega
  · obtain ⟨C, h1, h2⟩ := x.2.1 e
    exact crew_le ok h1 h2 hn
end N

set_option Elab.async false
set_option linter.all false
set_option maxRecDepth 100000
set_option maxHeartbeats 2000000
/-! who looks at enough slates of a lot -/
namespace N
open Cb (lotV combs combsOf combsOf_sub)
open PySem PySem.Spec PyProof.Rows L2
theorem p_iTup (K : PySem.W.Frag) {X : Cx} {tg l : Expr} {tl : TE} (hl : PE X l tl) (hK : X.K = K := by rfl) : PI X tg l (iTup K tl) := by
  subst hK
  exact pi_tup hl
theorem o_in (K : PySem.W.Frag) {X : Cx} (hK : X.K = K := by rfl) : OpR X (compareOp .In) (rIn K false) := by
  subst hK
  exact op_in_seq
theorem take_succ' {α : Type} {l : List α} {j : Nat} {k : α} (h : l[j]? = some k) : l.take (j + 1) = l.take j ++ [k] := by
  rw [List.take_add_one, h]
  rfl
abbrev scWho : Scope := { kind := .function, names := [((".0" : Str), .local), (("clerk" : Str), .local), (("len" : Str), .globalImplicit), (("house" : Str), .cell), (("least" : Str), .cell), (("lot" : Str), .cell)], isGenerator := false, isCoroutine := false }
section
variable {P : Program} {w : World} {K : PySem.W.Frag} {mg : Str → Option Value} {base : Heap}
theorem house_row {H : Hp} {a : Addr} {h : List (List Nat)} {i : Nat} (hA : HouseAt K H a h) (hi : i < h.length) : ∃ (rs : List V) (rp : Addr), SqT K H a rs ∧ rs[i]? = some (.ref rp) ∧ LotAt K H rp (h.getD i []) := by
  obtain ⟨rs, h1, h2⟩ := hA
  have hl : rs.length = h.length := Paired.length h2
  have hr : rs[i]? = some rs[i] := List.getElem?_eq_getElem (by omega)
  obtain ⟨row, e1, e2⟩ := paired_at h2 hr
  refine ⟨_, rs[i], h1, by rw [List.getElem?_map, hr]; rfl, ?_⟩
  rw [List.getD_eq_getElem?_getD, e1]
  exact e2
def sp_who_look (K : PySem.W.Frag) : Sp := fun vs H Q _ => ∃ (a b : Addr) (h : List (List Nat)) (C : List Nat) (m : Nat), vs = [.ref a, .ref b, .int m] ∧ HouseAt K H a h ∧ HouseOk h ∧ LotAt K H b C ∧ LotOk h.length C ∧
  ∀ (H' : Hp) (p : Addr), Same H H' → H' p = some (.tup (lotV (whoL h m C))) → Q (.ref p) H'
theorem sc_who_look : FnScope ["house", "lot", "least", "clerk", "slate"] ["house", "lot", "least"] (defScope s__who_look) := ⟨rfl, rfl, rfl, by decide +kernel, rfl, by decide +kernel, by decide +kernel⟩
theorem ok_who_look (T : Txt K mg) : FnOk P w K mg base CX0 1 T.d__who_look.f T.d__who_look.fd ["house", "lot", "least"] (sp_who_look K) := by
  refine T.d__who_look.F.ok sc_who_look (fun vs H Q E h => ?_) (fun cdv A outer s H vs Q E hr h => ?_)
  · obtain ⟨a, b, h, C, m, rfl, _⟩ := h
    rfl
  · obtain ⟨a, b, hs, C, m, rfl, hA, ok, hC, okC, q⟩ := h
    have nd := sc_who_look.nd
    refine ⟨_, pss_one (ps_ret (pe_tupleOf (by rfl) T.n_tuple (pe_lc (own := [("clerk", 3)]) (g := gName 3) rfl nd (pi_tup (pv 1))
        (blkOk_by (N := ["house", "lot", "least", "clerk", "slate"]) (sc := defScope s__who_look) (by decide +kernel))
        (fun _ _ _ _ _ => pg_name (i := 3) nd rfl (.inl rfl))
        (fun _ _ _ _ _ => pts_one (pt_cmpR op_ge (pe_callB (c_len K) (by rfl) T.n_len PySem.boot_len (pa_cons
          (pe_lc (own := [("slate", 4)]) (g := gName 4) (tt := tTest (tOp (rIn K false) (tVar 4) (tVar 1))) (te := tVar 4) (wi := iTup K (tOp (rIxT K) (tVar 0) (tVar 3))) rfl nd (p_iTup K (pe_ix (x_tup K) (pv 0) (pv 3) (fun _ _ => rfl)))
            (blkOk_by (N := ["house", "lot", "least", "clerk", "slate"]) (sc := scWho) (by decide +kernel))
            (fun _ _ _ _ _ => pg_name (i := 4) nd rfl (.inl rfl)) (fun _ _ _ _ _ => pts_one (pt_cmpR (o_in K) (pv 4) (pv 1) (by rfl))) (fun _ _ _ _ _ => pv 4)) pa_nil)) (pv 2) (by rfl)))
        (fun _ _ _ _ _ => pv 3)))), ?_⟩
    have hn7 := ok.hi
    have hCl := okC.len
    refine ⟨.ref b, rfl, b, rfl, ⟨_, hC⟩, fun D hD => ?_⟩
    refine lc_tup (K := K) (a := b) (xs := lotV C) (fun i H3 => Same H H3 ∧ H3 D = some (.lst (lotV ((C.take i).filter fun i => decide (m ≤ (lookL hs C i).length)))))
      ⟨same_upd hD, upd_same⟩ (fun i H3 _ h3 => hC.same h3.1) ?_ ?_
    · rintro i x H3 hi ⟨sm3, hd3⟩
      obtain ⟨k, hk, rfl⟩ := get_lotV hi
      have hlt : k < hs.length := okC.lt k (List.mem_of_getElem? hk)
      have hA3 := hA.same sm3
      obtain ⟨rsv, rp, hR, hrp, hat⟩ := house_row hA3 hlt
      have okr : LotOk hs.length (hs.getD k []) := (ok.ok _ (by
        rw [List.getD_eq_getElem?_getD, List.getElem?_eq_getElem hlt]
        exact List.getElem_mem hlt)).2
      have hrl := okr.len
      refine ⟨rfl, .ref a, rfl, .int (k : Int), rfl, a, rsv, (k : Int), .ref rp, rfl, rfl, hR, atI_nat hrp, rp, rfl, ⟨_, hat⟩, fun D2 hD2 => ?_⟩
      generalize erow : hs.getD k [] = row at hat okr hrl
      refine lc_tup (K := K) (a := rp) (xs := lotV row) (fun j H5 => H5 = upd H3 D2 (.lst (lotV ((row.take j).filter fun s => decide (s ∈ C))))) rfl (fun j H5 _ e => by rw [e]; exact hat.same (same_upd hD2)) ?_ ?_
      · rintro j y H5 hj rfl
        obtain ⟨s, hs', rfl⟩ := get_lotV hj
        have smD : Same H3 (upd H3 D2 (.lst (lotV ((row.take j).filter fun s => decide (s ∈ C))))) := same_upd hD2
        refine ⟨rfl, .int (s : Int), rfl, .ref b, rfl, b, lotV C, rfl, .inr ((hC.same sm3).same smD), rfl, flat_lot _, ?_⟩
        refine ⟨decide (s ∈ C), by rw [if_neg Bool.false_ne_true, inV_lot], ?_⟩
        have etk : (row.take (j + 1)).filter (fun s => decide (s ∈ C)) = (row.take j).filter (fun s => decide (s ∈ C)) ++ if decide (s ∈ C) = true then [s] else [] := by
          rw [take_succ' hs', List.filter_append, List.filter_cons]
          rfl
        refine ite2 (fun hb => ?_) (fun hb => ?_)
        · rw [if_pos hb] at etk
          refine ⟨_, rfl, _, upd_same, ?_, ?_⟩
          · rw [List.length_map]
            have h1 := List.length_filter_le (fun s => decide (s ∈ C)) (row.take j)
            rw [List.length_take] at h1
            exact small1000 (by omega)
          · show upd _ _ _ = _
            rw [upd_upd, etk]
            unfold lotV
            rw [List.map_append]
            rfl
        · rw [if_neg hb, List.append_nil] at etk
          show _ = _
          rw [etk]
      · rintro H5 rfl
        rw [List.length_map, List.take_length]
        have smD : Same H3 (upd H3 D2 (.lst (lotV (row.filter fun s => decide (s ∈ C))))) := same_upd hD2
        have hd5 := smD _ _ hd3
        refine ⟨D2, _, rfl, .inl (SqL.up upd_same), .int m, rfl, _, _, rfl, rfl, _, rfl, ?_⟩
        have elen : (lotV (row.filter fun s => decide (s ∈ C))).length = (lookL hs C k).length := by
          rw [List.length_map]
          unfold lookL
          rw [erow]
        have ed : decide ((m : Int) ≤ ((lotV (row.filter fun s => decide (s ∈ C))).length : Int)) = decide (m ≤ (lookL hs C k).length) := decide_eq_decide.mpr (by omega)
        rw [ed]
        have ef : (C.take (i + 1)).filter (fun i => decide (m ≤ (lookL hs C i).length)) = (C.take i).filter (fun i => decide (m ≤ (lookL hs C i).length)) ++ if decide (m ≤ (lookL hs C k).length) = true then [k] else [] := by
          rw [take_succ' hk, List.filter_append, List.filter_cons]
          rfl
        refine ite2 (fun hb => ?_) (fun hb => ?_)
        · rw [if_pos hb] at ef
          refine ⟨_, rfl, _, hd5, ?_, fun b' o e => ?_, ?_⟩
          · rw [List.length_map]
            have h3 := List.length_filter_le (fun i => decide (m ≤ (lookL hs C i).length)) (C.take i)
            rw [List.length_take] at h3
            exact small1000 (by omega)
          · rw [upd_ne (ne_of_none e hD)]
            exact smD _ _ (sm3 _ _ e)
          · rw [upd_same, ef]
            unfold lotV
            rw [List.map_append]
            rfl
        · rw [if_neg hb, List.append_nil] at ef
          exact ⟨sm3.trans smD, by rw [ef]; exact hd5⟩
    · rintro H3 ⟨sm3, hd3⟩
      rw [List.length_map, List.take_length] at hd3
      refine .inl ⟨D, _, rfl, SqL.up hd3, fun p hp' => ?_⟩
      exact q _ p (sm3.trans (same_upd hp')) upd_same
end
end N

set_option Elab.async false
set_option linter.all false
set_option maxRecDepth 100000
set_option maxHeartbeats 2000000
/-! the greatest crew, and the greatest number for which there is one -/
namespace N
open Cb (lotV combs combsOf combsOf_sub)
open PySem PySem.Spec PyProof.Rows L2
def tTru (K : PySem.W.Frag) (ta : TE) : TT := fun σ H Q => ta σ H fun x H' => ∃ k, TruV K x H' k ∧ Q k H'
theorem p_truthI (K : PySem.W.Frag) {X : Cx} {a : Expr} {ta : TE} (ha : PE X a ta) (he : ∀ whole, isTrue a X.env whole = (do let v ← whole; standAt a.pos; holding [v] (truthy v)) := by intro _; rfl) (hK : X.K = K := by rfl) :
    PT X a (tTru K ta) := by
  subst hK
  exact pt_truth ha he
theorem eqv_ints : ∀ l m : List Nat, PyData.eqvAll (natD l) (natD m) = decide (l = m)
  | [], [] => by simp [natD, PyData.eqvAll]
  | [], j :: m => by simp [natD, PyData.eqvAll]
  | i :: l, [] => by simp [natD, PyData.eqvAll]
  | i :: l, j :: m => by
    have ih := eqv_ints l m
    unfold natD at ih ⊢
    rw [List.map_cons, List.map_cons, PyData.eqvAll, ih]
    by_cases e1 : i = j
    · subst e1
      by_cases e2 : l = m
      · subst e2
        simp [PyData.eqv]
      · simp [PyData.eqv, e2]
    · have : ¬ ((i : Int) = (j : Int)) := by omega
      simp [PyData.eqv, e1, this]
theorem eqv_lots (l m : List Nat) : PyData.eqv (.tuple (natD l)) (.tuple (natD m)) = decide (l = m) := by
  rw [PyData.eqv, eqv_ints]
section
variable {P : Program} {w : World} {K : PySem.W.Frag} {mg : Str → Option Value} {base : Heap}
def rLotNe (K : PySem.W.Frag) : R2 := fun x y H Q => ∃ (a b : Addr) (l m : List Nat), x = .ref a ∧ y = .ref b ∧ LotAt K H a l ∧ LotAt K H b m ∧ Q (.bl (!decide (l = m))) H
theorem op_lotNe {X : Cx} (hu : X.A.units + 64 < cLine) : OpR X (compareOp .NotEq) (rLotNe X.K) := by
  intro pins s σ H x y v u Q I r1 r2 h
  obtain ⟨a, b, l, m, rfl, rfl, h1, h2, q⟩ := h
  refine op_neD hu pins s σ H _ _ v u Q I r1 r2 ⟨.tuple (natD l), .tuple (natD m), .tup h1 (dp_nats l), .tup h2 (dp_nats m), shaped_lot l, shaped_lot m, ?_⟩
  rw [eqv_lots]
  exact q
def sp_crew (K : PySem.W.Frag) : Sp := fun vs H Q _ => ∃ (a : Addr) (h : List (List Nat)) (m : Nat), vs = [.ref a, .int m] ∧ HouseAt K H a h ∧ HouseOk h ∧ 1 ≤ m ∧ m ≤ 7 ∧
  ∀ (H' : Hp) (p : Addr) (C : List Nat), Same H H' → IsCrew h m C → LotAt K H' p C → Q (.ref p) H'
theorem sc_crew : FnScope ["house", "least", "lot", "kept"] ["house", "least"] (defScope s_crew) := ⟨rfl, rfl, rfl, by decide +kernel, rfl, by decide +kernel, by decide +kernel⟩
theorem ok_crew (T : Txt K mg) : FnOk P w K mg base CX0 4 T.d_crew.f T.d_crew.fd ["house", "least"] (sp_crew K) := by
  have G1 := ok_check_house (P := P) (w := w) (base := base) T
  have G2 := ok_check_number (P := P) (w := w) (base := base) T
  have G3 := ok_who_look (P := P) (w := w) (base := base) T
  obtain ⟨tm, gm⟩ := T.g_MOST_CLERKS
  refine T.d_crew.F.ok sc_crew (fun vs H Q E h => ?_) (fun cdv A outer s H vs Q E hr h => ?_)
  · obtain ⟨a, h, m, rfl, _⟩ := h
    rfl
  · obtain ⟨a, hs, m, rfl, hA, ok, hm1, hm7, q⟩ := h
    have nd := sc_crew.nd
    have hr2 : Room 2 _ := hr.mono (by decide)
    have hr1 : Room 1 _ := hr.mono (by decide)
    refine ⟨_, pss_cons (ps_expr (pe_call G1 hr (by rfl) T.d_check_house.g T.d_check_house.F.kp T.d_check_house.b .nil pass0 (pa_cons (pv 0) pa_nil)))
      (pss_cons (ps_expr (pe_call G2 hr2 (by rfl) T.d_check_number.g T.d_check_number.F.kp T.d_check_number.b .nil pass0 (pa_cons (pv 1) (pa_cons pe_int (pa_cons (pe_glob (v := .int 7) (by rfl) gm ⟨_, rfl⟩) pa_nil)))))
      (pss_cons (ps_set (i := 2) nd rfl (.inl rfl) (pe_tupRg rfl (by rfl) T.n_tuple (prg_1 (by rfl) T.n_range (pe_callB call_len_seq (by rfl) T.n_len PySem.boot_len (pa_cons (pv 0) pa_nil)))))
      (pss_cons (ps_set (i := 3) nd rfl (.inl rfl) (pe_call G3 hr1 (by rfl) T.d__who_look.g T.d__who_look.F.kp T.d__who_look.b .nil pass0 (pa_cons (pv 0) (pa_cons (pv 2) (pa_cons (pv 1) pa_nil)))))
      (pss_cons (ps_while PassesOwn.never (pt_cmpR (op_lotNe hr.units) (pv 3) (pv 2) (nomark _))
        (pss_cons (ps_set (i := 2) nd rfl (.inl rfl) (pv 3))
        (pss_one (ps_set (i := 3) nd rfl (.inl rfl) (pe_call G3 hr1 (by rfl) T.d__who_look.g T.d__who_look.F.kp T.d__who_look.b .nil pass0 (pa_cons (pv 0) (pa_cons (pv 2) (pa_cons (pv 1) pa_nil))))))))
      (pss_one (ps_ret (pv 2))))))), ?_⟩
    refine ⟨.ref a, rfl, a, hs, rfl, hA, ok, fun H1 sm1 => ?_⟩
    refine ⟨.int m, rfl, m, 1, 7, rfl, by omega, by omega, ?_⟩
    obtain ⟨rs, hR, hP⟩ := id (hA.same sm1)
    have hlv : (rs.map V.ref).length = hs.length := by rw [List.length_map]; exact Paired.length hP
    have hn7 := ok.hi
    refine ⟨.ref a, rfl, a, _, rfl, .inr hR, (rs.map V.ref).length, rfl, RgOk.of_le (by decide) (by omega) (by decide) (by omega), fun lp hlp => ?_⟩
    rw [rgV_lot, hlv]
    have sm2 := sm1.trans (same_upd (o := .tup (lotV (List.range hs.length))) hlp)
    have hL0 : LotAt K (upd H1 lp (.tup (lotV (List.range hs.length)))) lp (List.range hs.length) := SqT.up upd_same
    refine ⟨.ref a, rfl, .ref lp, rfl, .int m, rfl, a, lp, hs, List.range hs.length, m, rfl, hA.same sm2, ok, hL0, List.Sublist.refl _, fun H3 kp sm3 hkp => ?_⟩
    refine ⟨fun n σ H4 => ∃ (lp kp : Addr) (C : List Nat), n = C.length ∧ σ = [some (.ref a), some (.int m), some (.ref lp), some (.ref kp)] ∧ Same H H4 ∧ LotAt K H4 lp C ∧ LotAt K H4 kp (whoL hs m C) ∧ LotOk hs.length C ∧ ∀ D, LotOk hs.length D → Good hs m D → ∀ i ∈ D, i ∈ C,
      ⟨_, lp, kp, List.range hs.length, rfl, rfl, sm2.trans sm3, hL0.same sm3, SqT.up hkp, List.Sublist.refl _, fun D hD _ i hi => hD.subset hi⟩, ?_⟩
    rintro n σ H4 ⟨lp, kp, C, rfl, rfl, sm4, hL4, hK4, okC, top⟩
    refine ⟨.ref kp, rfl, .ref lp, rfl, kp, lp, whoL hs m C, C, rfl, rfl, hK4, hL4, _, rfl, ?_⟩
    by_cases e : whoL hs m C = C
    · rw [decide_eq_true e]
      show (if false = true then _ else _)
      rw [if_neg Bool.false_ne_true]
      exact ⟨_, rfl, q H4 lp C sm4 ⟨okC, who_fix e, top⟩ hL4⟩
    · rw [decide_eq_false e]
      show (if true = true then _ else _)
      rw [if_pos rfl]
      refine ⟨fun σ' H' => ∃ n', n' < C.length ∧ ∃ (lp kp : Addr) (C : List Nat), n' = C.length ∧ σ' = [some (.ref a), some (.int m), some (.ref lp), some (.ref kp)] ∧ Same H H' ∧ LotAt K H' lp C ∧ LotAt K H' kp (whoL hs m C) ∧ LotOk hs.length C ∧ ∀ D, LotOk hs.length D → Good hs m D → ∀ i ∈ D, i ∈ C, fun σ' H' z => z, ?_⟩
      have sub := who_sub hs m C
      have hlt : (whoL hs m C).length < C.length := by
        rcases Nat.lt_or_ge (whoL hs m C).length C.length with z | z
        · exact z
        · exact absurd (sub.eq_of_length_le z) e
      have okW : LotOk hs.length (whoL hs m C) := sub.trans okC
      refine ⟨.ref kp, rfl, ?_⟩
      refine ⟨.ref a, rfl, .ref kp, rfl, .int m, rfl, a, kp, hs, whoL hs m C, m, rfl, hA.same sm4, ok, hK4, okW, fun H5 kp5 sm5 hkp5 => ?_⟩
      exact ⟨_, hlt, kp, kp5, whoL hs m C, rfl, rfl, sm4.trans sm5, hK4.same sm5, SqT.up hkp5, okW, fun D hD g => who_keeps g (top D hD g)⟩
def sp_crew_number (K : PySem.W.Frag) : Sp := fun vs H Q _ => ∃ (a : Addr) (h : List (List Nat)), vs = [.ref a] ∧ HouseAt K H a h ∧ HouseOk h ∧ ∀ (H' : Hp) (b : Nat), Same H H' → BestTo h 7 b → Q (.int (b : Int)) H'
theorem sc_crew_number : FnScope ["house", "least"] ["house"] (defScope s_crew_number) := ⟨rfl, rfl, rfl, by decide +kernel, rfl, by decide +kernel, by decide +kernel⟩
theorem lotV_emp (l : List Nat) : (!(lotV l).isEmpty) = decide (l ≠ []) := by
  cases l with
  | nil => rfl
  | cons x xs => rfl
theorem ok_crew_number (T : Txt K mg) : FnOk P w K mg base CX0 5 T.d_crew_number.f T.d_crew_number.fd ["house"] (sp_crew_number K) := by
  have G1 := ok_check_house (P := P) (w := w) (base := base) T
  have G2 := ok_crew (P := P) (w := w) (base := base) T
  obtain ⟨tm, gm⟩ := T.g_MOST_CLERKS
  refine T.d_crew_number.F.ok sc_crew_number (fun vs H Q E h => ?_) (fun cdv A outer s H vs Q E hr h => ?_)
  · obtain ⟨a, h, rfl, _⟩ := h
    rfl
  · obtain ⟨a, hs, rfl, hA, ok, q⟩ := h
    have nd := sc_crew_number.nd
    have hr3 : Room 3 _ := hr.mono (by decide)
    refine ⟨_, pss_cons (ps_expr (pe_call G1 hr3 (by rfl) T.d_check_house.g T.d_check_house.F.kp T.d_check_house.b .nil pass0 (pa_cons (pv 0) pa_nil)))
      (pss_one (ps_ret (pe_callB (cr_max rfl) (by rfl) T.n_max (by decide +kernel) (pa_cons (pe_lc (own := [("least", 1)]) (g := gName 1) rfl nd (pi_range2 (by rfl) T.n_range (pa_cons pe_int (pa_cons (pe_op op_add (pe_glob (v := .int 7) (by rfl) gm ⟨_, rfl⟩) pe_int) pa_nil)))
        (blkOk_by (N := ["house", "least"]) (sc := defScope s_crew_number) (by decide +kernel)) (fun _ _ _ _ _ => pg_name (i := 1) nd rfl (.inl rfl))
        (fun _ _ _ _ _ => pts_one (p_truthI K (pe_call G2 hr (by rfl) T.d_crew.g T.d_crew.F.kp T.d_crew.b .nil pass0 (pa_cons (pv 0) (pa_cons (pv 1) pa_nil)))))
        (fun _ _ _ _ _ => pv 1)) pa_nil)))), ?_⟩
    refine ⟨.ref a, rfl, a, hs, rfl, hA, ok, fun H1 sm1 => ?_⟩
    refine ⟨7, 1, rfl, rfl, 1, 8, rfl, ⟨by decide, by decide, by decide, by decide⟩, fun D hD => ?_⟩
    show ∃ W, _
    rw [show ((8 : Int) - 1).toNat = 7 from rfl]
    refine lc_range (lo := 1) (n := 7) (fun i H3 => ∃ ns : List Nat, H3 D = some (.lst (lotV ns)) ∧ Same H1 H3 ∧ ns.length ≤ i ∧ ∀ j, j ∈ ns ↔ 1 ≤ j ∧ j ≤ i ∧ HasCrew hs j)
      ⟨[], upd_same, same_upd hD, Nat.le_refl _, fun j => ⟨fun z => (by cases z), fun z => (by omega)⟩⟩ ?_ ?_
    · rintro i H3 hi ⟨ns, hd3, sm3, hl3, hns⟩
      have e1 : (1 : Int) + (i : Int) = ((i + 1 : Nat) : Int) := by omega
      refine ⟨rfl, .ref a, rfl, _, rfl, a, hs, i + 1, by rw [e1]; rfl, hA.same (sm1.trans sm3), ok, by omega, by omega, fun H4 p C sm4 hC hp => ?_⟩
      refine ⟨_, .inr (.inl ⟨_, hp, rfl⟩), ?_⟩
      rw [lotV_emp]
      have hd4 := sm4 _ _ hd3
      refine ite2 (fun hb => ?_) (fun hb => ?_)
      · have hne : C ≠ [] := of_decide_eq_true hb
        refine ⟨_, rfl, _, hd4, by rw [List.length_map]; exact small1000 (by omega), ns ++ [i + 1], ?_, fun b o e => ?_, by rw [List.length_append]; simp; omega, fun j => ?_⟩
        · rw [upd_same, e1]
          unfold lotV
          rw [List.map_append]
          rfl
        · rw [upd_ne (ne_of_none e hD)]
          exact sm4 _ _ (sm3 _ _ e)
        · rw [List.mem_append, List.mem_singleton, hns j]
          constructor
          · rintro (z | z)
            · exact ⟨z.1, by omega, z.2.2⟩
            · rw [z]
              exact ⟨by omega, Nat.le_refl _, C, hC, hne⟩
          · rintro ⟨z1, z2, z3⟩
            rcases Nat.lt_or_ge i j with y | y
            · exact .inr (by omega)
            · exact .inl ⟨z1, y, z3⟩
      · have he : C = [] := by
          by_cases z : C = []
          · exact z
          · exact absurd (decide_eq_true z) hb
        refine ⟨ns, hd4, sm3.trans sm4, by omega, fun j => ?_⟩
        rw [hns j]
        constructor
        · rintro ⟨z1, z2, z3⟩
          exact ⟨z1, by omega, z3⟩
        · rintro ⟨z1, z2, z3⟩
          refine ⟨z1, ?_, z3⟩
          rcases Nat.lt_or_ge i j with y | y
          · have ej : j = i + 1 := by omega
            rw [ej] at z3
            obtain ⟨C', h1, h2⟩ := z3
            exact absurd (h1.inj hC ▸ he) h2
          · exact y
    · rintro H3 ⟨ns, hd3, sm3, hl3, hns⟩
      have hone : 1 ∈ ns := (hns 1).mpr ⟨Nat.le_refl _, by decide, has_one ok⟩
      refine ⟨D, ns.map fun (k : Nat) => (k : Int), rfl, SqL.up (by rw [hd3, List.map_map]; rfl), by rw [List.length_map]; exact List.length_pos_of_mem hone, fun mx hmx hle => ?_⟩
      obtain ⟨b, hb, rfl⟩ := List.mem_map.mp hmx
      exact q H3 b (sm1.trans sm3) (best_max ok hns hb fun j hj => by
        have := hle _ (List.mem_map.mpr ⟨j, hj, rfl⟩)
        omega)
end
end N

set_option Elab.async false
set_option linter.all false
set_option maxRecDepth 100000
set_option maxHeartbeats 2000000
namespace N
open Cb (lotV combs combsOf combsOf_sub)
open PySem PySem.Spec PyProof.Rows L2
section
variable {K : PySem.W.Frag}
theorem isi_tt : PySem.W.kitAny K (.type "tuple") [.type "tuple", .type "list"] = some true := kitAny_cons (b := true) (kit_ty (by decide +kernel)) (fun z => by cases z) (fun _ => rfl)
theorem isi_if : PySem.W.kitAny K (.type "int") [.type "tuple", .type "list"] = some false := kitAny_cons (b := false) (kit_ty (by decide +kernel)) (fun _ => kitAny_cons (b := false) (kit_ty (by decide +kernel)) (fun _ => kitAny_nil) (by decide)) (by decide)
theorem isi_bf : PySem.W.kitAny K (.type "bool") [.type "tuple", .type "list"] = some false := kitAny_cons (b := false) (kit_ty (by decide +kernel)) (fun _ => kitAny_cons (b := false) (kit_ty (by decide +kernel)) (fun _ => kitAny_nil) (by decide)) (by decide)
theorem tyx_tup {H : Hp} {a : Addr} {xs : List V} (h : SqT K H a xs) : TyX K H (.ref a) (.type "tuple") := by
  rcases h with (h | ⟨o, h⟩) | ⟨o, its, n, h1, h2, _⟩
  · exact .base (.tup h)
  · exact .fTuple h
  · exact .kTuple h1 h2
end
def LotsAt (K : PySem.W.Frag) (H : Hp) (a : Addr) (ls : List (List Nat)) : Prop := ∃ ts : List Addr, SqT K H a (ts.map V.ref) ∧ Paired (fun t l => LotAt K H t l) ts ls
section
variable {P : Program} {w : World} {K : PySem.W.Frag} {mg : Str → Option Value} {base : Heap}
def sp_alike0 : Sp := fun vs H Q _ => ∃ x : V, vs = [x, x] ∧ ((∃ i, x = .int i) ∨ ∃ b, x = .bl b) ∧ ∀ H', Same H H' → Q (.bl true) H'
theorem sc_alike : FnScope ["found", "due", "k"] ["found", "due"] (defScope s__law_alike) := ⟨rfl, rfl, rfl, by decide +kernel, rfl, by decide +kernel, by decide +kernel⟩
theorem ok_alike0 (T : Txt K mg) : FnOk P w K mg base CX0 1 T.d__law_alike.f T.d__law_alike.fd ["found", "due"] sp_alike0 := by
  refine T.d__law_alike.F.ok sc_alike (fun vs H Q E h => ?_) (fun cdv A outer s H vs Q E hr h => ?_)
  · obtain ⟨x, rfl, _⟩ := h
    rfl
  · obtain ⟨x, rfl, hx, q⟩ := h
    have nd := sc_alike.nd
    refine ⟨_, pss_cons (ps_if (pt_val (pe_callB call_isiT (by rfl) T.n_isinstance boot_isinstance (pa_cons (pv 1) (pa_cons (pe_tup (pa_cons (pe_bltn (v := .ty "tuple") (u := .type "tuple") (by rfl) T.n_tuple (by decide +kernel) rfl) (pa_cons (pe_bltn (v := .ty "list") (u := .type "list") (by rfl) T.n_list (by decide +kernel) rfl) pa_nil))) pa_nil))))
        (pss_cons ps_never (pss_cons ps_never (pss_one ps_never))) pss_nil)
      (pss_cons (ps_if (PW.pt (pw_or (pt_cmpR op_isN (pv 1) pe_non (nomark _)) (pw_or1 (pt_val (pe_callB call_isi (by rfl) T.n_isinstance boot_isinstance (pa_cons (pv 1) (pa_cons (pe_bltn (v := .ty "str") (u := .type "str") (by rfl) T.n_str (by decide +kernel) rfl) pa_nil)))))))
        (pss_one ps_never) pss_nil)
      (pss_one (ps_ret (pe_and (pe_callB call_isi (by rfl) T.n_isinstance boot_isinstance (pa_cons (pv 0) (pa_cons (pe_bltn (v := .ty "int") (u := .type "int") (by rfl) T.n_int (by decide +kernel) rfl) pa_nil)))
        (pe_and (pe_cmpR op_eq (pe_callB call_isi (by rfl) T.n_isinstance boot_isinstance (pa_cons (pv 0) (pa_cons (pe_bltn (v := .ty "bool") (u := .type "bool") (by rfl) T.n_bool (by decide +kernel) rfl) pa_nil)))
            (pe_callB call_isi (by rfl) T.n_isinstance boot_isinstance (pa_cons (pv 1) (pa_cons (pe_bltn (v := .ty "bool") (u := .type "bool") (by rfl) T.n_bool (by decide +kernel) rfl) pa_nil))) (nomark _))
          (pe_one (pe_cmpR op_eq (pv 0) (pv 1) (nomark _)))))))), ?_⟩
    refine ⟨x, rfl, by decide, fun tp htp => ?_⟩
    have sm := same_upd (o := .tup [V.ty "tuple", V.ty "list"]) htp
    rcases hx with ⟨i, rfl⟩ | ⟨b, rfl⟩
    · refine ⟨.int i, tp, _, .type "int", [.type "tuple", .type "list"], false, rfl, upd_same, .cons (.ty _) (.cons (.ty _) .nil), .base (.int i), isi_if, _, rfl, iteF ?_⟩
      refine ⟨.int i, rfl, rfl, _, rfl, ?_⟩
      show (if decide (V.int i = V.non) = true then _ else _)
      rw [if_neg (by simp)]
      refine ⟨.int i, rfl, .int i, .ty "str", .type "int", .type "str", false, rfl, .ty _, .base (.int i), kit_ty (by decide +kernel), _, rfl, iteF ?_⟩
      refine ⟨.int i, rfl, .int i, .ty "int", .type "int", .type "int", true, rfl, .ty _, .base (.int i), kit_ty (by decide +kernel), true, rfl, iteT ?_⟩
      refine ⟨.int i, rfl, .int i, .ty "bool", .type "int", .type "bool", false, rfl, .ty _, .base (.int i), kit_ty (by decide +kernel), ?_⟩
      refine ⟨.int i, rfl, .int i, .ty "bool", .type "int", .type "bool", false, rfl, .ty _, .base (.int i), kit_ty (by decide +kernel), rfl, ?_⟩
      refine ⟨true, by rw [decide_eq_true rfl], iteT ?_⟩
      refine ⟨.int i, rfl, .int i, rfl, rfl, ?_⟩
      rw [decide_eq_true rfl]
      exact q _ sm
    · refine ⟨.bl b, tp, _, .type "bool", [.type "tuple", .type "list"], false, rfl, upd_same, .cons (.ty _) (.cons (.ty _) .nil), .base (.bl b), isi_bf, _, rfl, iteF ?_⟩
      refine ⟨.bl b, rfl, rfl, _, rfl, ?_⟩
      show (if decide (V.bl b = V.non) = true then _ else _)
      rw [if_neg (by simp)]
      refine ⟨.bl b, rfl, .bl b, .ty "str", .type "bool", .type "str", false, rfl, .ty _, .base (.bl b), kit_ty (by decide +kernel), _, rfl, iteF ?_⟩
      refine ⟨.bl b, rfl, .bl b, .ty "int", .type "bool", .type "int", true, rfl, .ty _, .base (.bl b), kit_ty (by decide +kernel), true, rfl, iteT ?_⟩
      refine ⟨.bl b, rfl, .bl b, .ty "bool", .type "bool", .type "bool", true, rfl, .ty _, .base (.bl b), kit_ty (by decide +kernel), ?_⟩
      refine ⟨.bl b, rfl, .bl b, .ty "bool", .type "bool", .type "bool", true, rfl, .ty _, .base (.bl b), kit_ty (by decide +kernel), rfl, ?_⟩
      refine ⟨true, by rw [decide_eq_true rfl], iteT ?_⟩
      refine ⟨.bl b, rfl, .bl b, rfl, rfl, ?_⟩
      rw [decide_eq_true rfl]
      exact q _ sm
def sp_alikeT (K : PySem.W.Frag) (sub : Sp) : Sp := fun vs H Q _ => ∃ (a b : Addr) (xs ys : List V), vs = [.ref a, .ref b] ∧ SqT K H a xs ∧ SqT K H b ys ∧ xs.length = ys.length ∧ ys.length ≤ 1000 ∧
  (∀ (i : Nat) (x y : V), xs[i]? = some x → ys[i]? = some y → ∀ (H1 : Hp) (Q' : VK) (E' : XK), Same H H1 → (∀ H', Same H1 H' → Q' (.bl true) H') → sub [x, y] H1 Q' E') ∧ ∀ H', Same H H' → Q (.bl true) H'
theorem ok_alikeT {j : Nat} {sub : Sp} (T : Txt K mg) (G : FnOk P w K mg base CX0 j T.d__law_alike.f T.d__law_alike.fd ["found", "due"] sub) : FnOk P w K mg base CX0 (j + 1) T.d__law_alike.f T.d__law_alike.fd ["found", "due"] (sp_alikeT K sub) := by
  refine T.d__law_alike.F.ok sc_alike (fun vs H Q E h => ?_) (fun cdv A outer s H vs Q E hr h => ?_)
  · obtain ⟨a, b, xs, ys, rfl, _⟩ := h
    rfl
  · obtain ⟨a, b, xs, ys, rfl, hA, hB, hl, hz, hsub, q⟩ := h
    have nd := sc_alike.nd
    refine ⟨_, pss_cons (ps_if (pt_val (pe_callB call_isiT (by rfl) T.n_isinstance boot_isinstance (pa_cons (pv 1) (pa_cons (pe_tup (pa_cons (pe_bltn (v := .ty "tuple") (u := .type "tuple") (by rfl) T.n_tuple (by decide +kernel) rfl) (pa_cons (pe_bltn (v := .ty "list") (u := .type "list") (by rfl) T.n_list (by decide +kernel) rfl) pa_nil))) pa_nil))))
        (pss_cons (ps_if (PW.pt (pw_or (pt_not (pt_val (pe_callB call_isiT (by rfl) T.n_isinstance boot_isinstance (pa_cons (pv 0) (pa_cons (pe_tup (pa_cons (pe_bltn (v := .ty "tuple") (u := .type "tuple") (by rfl) T.n_tuple (by decide +kernel) rfl) (pa_cons (pe_bltn (v := .ty "list") (u := .type "list") (by rfl) T.n_list (by decide +kernel) rfl) pa_nil))) pa_nil)))))
            (pw_or1 (pt_cmpR op_ne (pe_callB call_isi (by rfl) T.n_isinstance boot_isinstance (pa_cons (pv 0) (pa_cons (pe_bltn (v := .ty "list") (u := .type "list") (by rfl) T.n_list (by decide +kernel) rfl) pa_nil)))
              (pe_callB call_isi (by rfl) T.n_isinstance boot_isinstance (pa_cons (pv 1) (pa_cons (pe_bltn (v := .ty "list") (u := .type "list") (by rfl) T.n_list (by decide +kernel) rfl) pa_nil))) (nomark _))))) (pss_one ps_never) pss_nil)
        (pss_cons (ps_if (pt_cmpR op_ne (pe_callB call_len_seq (by rfl) T.n_len PySem.boot_len (pa_cons (pv 0) pa_nil)) (pe_callB call_len_seq (by rfl) T.n_len PySem.boot_len (pa_cons (pv 1) pa_nil)) (nomark _)) (pss_one ps_never) pss_nil)
        (pss_one (ps_ret (pe_cmpR (op_emp hr.units) (pe_lc (own := [("k", 2)]) (g := gName 2) rfl nd (pi_range1 (by rfl) T.n_range (pa_cons (pe_callB call_len_seq (by rfl) T.n_len PySem.boot_len (pa_cons (pv 1) pa_nil)) pa_nil))
          (blkOk_by (N := ["found", "due", "k"]) (sc := defScope s__law_alike) (by decide +kernel)) (fun _ _ _ _ _ => pg_name (i := 2) nd rfl (.inl rfl))
          (fun _ _ _ _ _ => pts_one (pt_not (pt_val (pe_call G hr (by rfl) T.d__law_alike.g T.d__law_alike.F.kp T.d__law_alike.b .nil pass0 (pa_cons (pe_ix (x_tup K) (pv 0) (pv 2) (fun _ _ => rfl)) (pa_cons (pe_ix (x_tup K) (pv 1) (pv 2) (fun _ _ => rfl)) pa_nil))))))
          (fun _ _ _ _ _ => pv 2)) (pe_lst pa_nil) (nomark _)))))) pss_nil)
      (pss_cons ps_never (pss_one ps_never)), ?_⟩
    refine ⟨.ref b, rfl, by decide, fun tp htp => ?_⟩
    have sm := same_upd (o := .tup [V.ty "tuple", V.ty "list"]) htp
    refine ⟨.ref b, tp, _, .type "tuple", [.type "tuple", .type "list"], true, rfl, upd_same, .cons (.ty _) (.cons (.ty _) .nil), tyx_tup (Same.tup sm hB), isi_tt, _, rfl, iteT ?_⟩
    refine ⟨.ref a, rfl, by decide, fun tp2 htp2 => ?_⟩
    have sm2 := sm.trans (same_upd (o := .tup [V.ty "tuple", V.ty "list"]) htp2)
    refine ⟨.ref a, tp2, _, .type "tuple", [.type "tuple", .type "list"], true, rfl, upd_same, .cons (.ty _) (.cons (.ty _) .nil), tyx_tup (Same.tup sm2 hA), isi_tt, _, rfl, iteF ?_⟩
    refine ⟨.ref a, rfl, .ref a, .ty "list", .type "tuple", .type "list", false, rfl, .ty _, tyx_tup (Same.tup sm2 hA), kit_ty (by decide +kernel), ?_⟩
    refine ⟨.ref b, rfl, .ref b, .ty "list", .type "tuple", .type "list", false, rfl, .ty _, tyx_tup (Same.tup sm2 hB), kit_ty (by decide +kernel), rfl, ?_⟩
    refine ⟨false, by rw [decide_eq_true rfl]; rfl, iteF ?_⟩
    refine ⟨.ref a, rfl, a, xs, rfl, .inr (Same.tup sm2 hA), .ref b, rfl, b, ys, rfl, .inr (Same.tup sm2 hB), rfl, false, ?_, iteF ?_⟩
    · rw [hl, decide_eq_true rfl]
      rfl
    generalize upd (upd H tp (.tup [V.ty "tuple", V.ty "list"])) tp2 (.tup [V.ty "tuple", V.ty "list"]) = H2 at sm2
    refine ⟨.ref b, rfl, b, ys, rfl, .inr (Same.tup sm2 hB), _, rfl, by omega, by omega, fun D hD => ?_⟩
    show ∃ W, _
    rw [Int.toNat_natCast]
    refine lc_range (lo := 0) (n := ys.length) (fun i H3 => Same H2 H3 ∧ H3 D = some (.lst [])) ⟨same_upd hD, upd_same⟩ ?_ ?_
    · rintro i H3 hi ⟨sm3, hd3⟩
      have sm4 := sm2.trans sm3
      have hx : xs[i]? = some (xs[i]'(by omega)) := List.getElem?_eq_getElem _
      have hy : ys[i]? = some ys[i] := List.getElem?_eq_getElem hi
      refine ⟨rfl, .ref a, rfl, .int (0 + (i : Int)), rfl, a, xs, 0 + (i : Int), _, rfl, rfl, Same.tup sm4 hA, by rw [Int.zero_add]; exact atI_nat hx, ?_⟩
      refine ⟨.ref b, rfl, .int (0 + (i : Int)), rfl, b, ys, 0 + (i : Int), _, rfl, rfl, Same.tup sm4 hB, by rw [Int.zero_add]; exact atI_nat hy, ?_⟩
      refine hsub i _ _ hx hy H3 _ _ sm4 fun H5 sm5 => ⟨true, rfl, ?_⟩
      exact iteF ⟨sm3.trans sm5, sm5 _ _ hd3⟩
    · rintro H3 ⟨sm3, hd3⟩
      refine ⟨Nat.zero_le _, fun e0 he0 => ⟨D, e0, [], [], rfl, rfl, SqL.up (same_upd he0 _ _ hd3), .nil, shaped_nil, SqL.up upd_same, ?_⟩⟩
      exact q _ ((sm2.trans sm3).trans (same_upd he0))
/-- two lots that are one -/
theorem ok_alike1 (T : Txt K mg) : FnOk P w K mg base CX0 2 T.d__law_alike.f T.d__law_alike.fd ["found", "due"] (sp_alikeT K sp_alike0) := ok_alikeT T (ok_alike0 T)
theorem ok_alike2 (T : Txt K mg) : FnOk P w K mg base CX0 3 T.d__law_alike.f T.d__law_alike.fd ["found", "due"] (sp_alikeT K (sp_alikeT K sp_alike0)) := ok_alikeT T (ok_alike1 T)
theorem lot_alike {H : Hp} {a b : Addr} {l : List Nat} {Q : VK} {E : XK} (hA : LotAt K H a l) (hB : LotAt K H b l) (hl : l.length ≤ 1000) (q : ∀ H', Same H H' → Q (.bl true) H') : sp_alikeT K sp_alike0 [.ref a, .ref b] H Q E := by
  refine ⟨a, b, lotV l, lotV l, rfl, hA, hB, rfl, by rw [List.length_map]; exact hl, fun i x y hx hy H1 Q' E' sm q' => ?_, q⟩
  have e : y = x := Option.some.inj (hy.symm.trans hx)
  obtain ⟨k, _, ex⟩ := get_lotV hx
  exact ⟨x, by rw [e], .inl ⟨k, ex⟩, q'⟩
theorem lots_alike {H : Hp} {a b : Addr} {ls : List (List Nat)} {Q : VK} {E : XK} (hA : LotsAt K H a ls) (hB : LotsAt K H b ls) (hl : ls.length ≤ 1000) (hll : ∀ l ∈ ls, l.length ≤ 1000) (q : ∀ H', Same H H' → Q (.bl true) H') : sp_alikeT K (sp_alikeT K sp_alike0) [.ref a, .ref b] H Q E := by
  obtain ⟨ts, h1, p1⟩ := hA
  obtain ⟨us, h2, p2⟩ := hB
  have l1 : ts.length = ls.length := Paired.length p1
  have l2 : us.length = ls.length := Paired.length p2
  refine ⟨a, b, _, _, rfl, h1, h2, by rw [List.length_map, List.length_map, l1, l2], by rw [List.length_map, l2]; exact hl, fun i x y hx hy H1 Q' E' sm q' => ?_, q⟩
  obtain ⟨t, ht, rfl⟩ := get_refs hx
  obtain ⟨u, hu, rfl⟩ := get_refs hy
  obtain ⟨l, hl1, z1⟩ := paired_at p1 ht
  obtain ⟨l', hl2, z2⟩ := paired_at p2 hu
  have e : l' = l := Option.some.inj (hl2.symm.trans hl1)
  subst e
  exact lot_alike (z1.same sm) (z2.same sm) (hll _ (List.mem_of_getElem? hl1)) q'
end
end N

set_option Elab.async false
set_option linter.all false
set_option maxRecDepth 100000
set_option maxHeartbeats 4000000
/-! the law -/
namespace N
open Cb (lotV combs combsOf combsOf_sub)
open PySem PySem.Spec PyProof.Rows L2
section
variable {P : Program} {w : World} {K : PySem.W.Frag} {mg : Str → Option Value} {base : Heap}
theorem TabS.but {H H' : Hp} {PT rp : Addr} {q : Str} {xs : List V} (t : LamX.TabS H PT q) (hr : H rp = some (.lst xs)) (k : SameBut rp H H') : LamX.TabS H' PT q := by
  obtain ⟨ps, b1, b2, b3⟩ := t
  refine ⟨ps, k _ _ (ne_of b1 hr (by intro z; cases z)) b1, b2, fun pos cv hcv => ?_⟩
  obtain ⟨c0, c1, c2⟩ := b3 pos cv hcv
  exact ⟨c0, c1, k _ _ (ne_of c2 hr (by intro z; unfold LamX.CodeO at z; cases z)) c2⟩
theorem lot_sub {H : Hp} {l : List Nat} (i : Nat) (x y : V) (hx : (lotV l)[i]? = some x) (hy : (lotV l)[i]? = some y) (H1 : Hp) (Q' : VK) (E' : XK) (sm : Same H H1) (q' : ∀ H', Same H1 H' → Q' (.bl true) H') : sp_alike0 [x, y] H1 Q' E' := by
  have e : y = x := Option.some.inj (hy.symm.trans hx)
  obtain ⟨k, _, ex⟩ := get_lotV hx
  exact ⟨x, by rw [e], .inl ⟨k, ex⟩, q'⟩
def fewL (h : List (List Nat)) (m : Nat) (C part : List Nat) : List Nat := part.filter fun i => decide ((lookL h C i).length < m)
theorem few_emp {h : List (List Nat)} {m : Nat} {C : List Nat} : ∀ part : List Nat, (lotV (fewL h m C part)).isEmpty = part.all fun i => !decide ((lookL h C i).length < m)
  | [] => rfl
  | i :: part => by
    have ih := few_emp (h := h) (m := m) (C := C) part
    unfold fewL at ih ⊢
    rw [List.filter_cons, List.all_cons]
    by_cases e : (lookL h C i).length < m
    · rw [if_pos (decide_eq_true e), decide_eq_true e]
      rfl
    · rw [if_neg (by simp [e]), decide_eq_false e, ih]
      rfl
def spLaw (K : PySem.W.Frag) (PT : Addr) : Sp := fun vs H Q _ => ∃ (a : Addr) (ns : List Int), vs = [.ref a] ∧ SqL K H a (ns.map V.int) ∧ LamX.TabS H PT lamQ ∧ ∀ H', Q (.bl true) H'
theorem sc_law : FnScope ["script", "row", "many", "house", "best", "least", "found", "lot", "clerk", "one", "fine"] ["script"] (defScope s_law) := ⟨rfl, rfl, rfl, by decide +kernel, rfl, by decide +kernel, by decide +kernel⟩
theorem ok_law {f c PT : Addr} {fd : FuncData} (F : Fun K "law" "law" s_law f fd) (T : Txt K mg) (hc : T.d__law_lots.fd.code = .ref c) (TB : LamX.TabB base mg c PT) : FnOk P w K mg base CX0 7 f fd ["script"] (spLaw K PT) := by
  have Gt := ok_taken (P := P) (w := w) (base := base) T
  have Gh := ok_house (P := P) (w := w) (base := base) T
  have Gl := ok_lots (P := P) (w := w) (base := base) T hc TB
  have Gc := ok_crew (P := P) (w := w) (base := base) T
  have Gn := ok_crew_number (P := P) (w := w) (base := base) T
  have Gs := ok_slate_number (P := P) (w := w) (base := base) T
  have Ga := ok_alike0 (P := P) (w := w) (base := base) T
  have Gz := ok_alike1 (P := P) (w := w) (base := base) T
  refine F.ok sc_law (fun vs H Q E h => ?_) (fun cdv A outer s H vs Q E hr h => ?_)
  · obtain ⟨a, ns, rfl, _⟩ := h
    rfl
  · obtain ⟨a, ns, rfl, hS, hT, q⟩ := h
    have nd := sc_law.nd
    have hr1 : Room 1 _ := hr.mono (by decide)
    have hr2 : Room 2 _ := hr.mono (by decide)
    have hr4 : Room 4 _ := hr.mono (by decide)
    refine ⟨_, pss_cons (ps_set (i := 1) nd rfl (.inl rfl) (pe_lst (pa_cons (pv 0) (pa_cons pe_int (pa_cons pe_int (pa_cons pe_int pa_nil))))))
      (pss_cons (ps_set (i := 2) nd rfl (.inl rfl) (pe_op op_add pe_int (pe_call Gt hr1 (by rfl) T.d__law_taken.g T.d__law_taken.F.kp T.d__law_taken.b .nil pass0 (pa_cons (pv 1) (pa_cons pe_int pa_nil)))))
      (pss_cons (ps_asg (pe_tup (pa_cons (pe_call Gh hr2 (by rfl) T.d__law_house.g T.d__law_house.F.kp T.d__law_house.b .nil pass0 (pa_cons (pv 1) (pa_cons (pv 2) (pa_cons pe_int pa_nil)))) (pa_cons pe_int pa_nil)))
          (pg_tup rfl (pgs_cons (pg_name (i := 3) nd rfl (.inr rfl)) (pgs_cons (pg_name (i := 4) nd rfl (.inl rfl)) pgs_nil))))
      (pss_cons (ps_for PassesOwn.never rfl (pi_range2 (by rfl) T.n_range (pa_cons pe_int (pa_cons pe_int pa_nil))) (pg_name (i := 5) nd rfl (.inr rfl))
        (pss_cons (ps_set (i := 6) nd rfl (.inl rfl) (pe_tup pa_nil))
        (pss_cons (ps_for PassesOwn.never rfl (pi_list (pe_call Gl hr2 (by rfl) T.d__law_lots.g T.d__law_lots.F.kp T.d__law_lots.b .nil pass0 (pa_cons (pv 2) pa_nil))) (pg_name (i := 7) nd rfl (.inr rfl))
          (pss_cons (ps_set (i := 10) nd rfl (.inl rfl) (pe_cmpR (op_emp hr.units) (pe_lc (own := [("clerk", 8)]) (g := gName 8) rfl nd (pi_tup (pv 7))
              (blkOk_by (N := ["script", "row", "many", "house", "best", "least", "found", "lot", "clerk", "one", "fine"]) (sc := defScope s_law) (by decide +kernel))
              (fun _ _ _ _ _ => pg_name (i := 8) nd rfl (.inl rfl))
              (fun _ _ _ _ _ => pts_one (pt_cmpR op_lt (pe_callB (c_len K) (by rfl) T.n_len PySem.boot_len (pa_cons
                (pe_lc (own := [("one", 9)]) (g := gName 9) (tt := tTest (tOp (rIn K false) (tVar 9) (tVar 7))) (te := tVar 9) (wi := iTup K (tOp (rIxT K) (tVar 3) (tVar 8))) rfl nd (p_iTup K (pe_ix (x_tup K) (pv 3) (pv 8) (fun _ _ => rfl)))
                  (blkOk_by (N := ["script", "row", "many", "house", "best", "least", "found", "lot", "clerk", "one", "fine"]) (sc := scWho) (by decide +kernel))
                  (fun _ _ _ _ _ => pg_name (i := 9) nd rfl (.inl rfl)) (fun _ _ _ _ _ => pts_one (pt_cmpR (o_in K) (pv 9) (pv 7) (by rfl))) (fun _ _ _ _ _ => pv 9)) pa_nil)) (pv 5) (by rfl)))
              (fun _ _ _ _ _ => pv 8)) (pe_lst pa_nil) (nomark _)))
          (pss_one (ps_set (i := 6) nd rfl (.inl rfl) (pe_ifExp (pt_val (pv 10)) (pv 7) (pv 6))))))
        (pss_cons (ps_if (pt_not (pt_val (pe_call Gz hr2 (by rfl) T.d__law_alike.g T.d__law_alike.F.kp T.d__law_alike.b .nil pass0
            (pa_cons (pe_call Gc hr4 (by rfl) T.d_crew.g T.d_crew.F.kp T.d_crew.b .nil pass0 (pa_cons (pv 3) (pa_cons (pv 5) pa_nil)))
            (pa_cons (pv 6) pa_nil))))) (pss_one ps_never) pss_nil)
        (pss_one (ps_set (i := 4) nd rfl (.inl rfl) (pe_ifExp (pt_cmpR (op_lotNe hr.units) (pv 6) (pe_tup pa_nil) (nomark _)) (pv 5) (pv 4))))))))
      (pss_cons (ps_if (pt_not (pt_val (pe_call Ga hr1 (by rfl) T.d__law_alike.g T.d__law_alike.F.kp T.d__law_alike.b .nil pass0
            (pa_cons (pe_call Gn (hr.mono (by decide)) (by rfl) T.d_crew_number.g T.d_crew_number.F.kp T.d_crew_number.b .nil pass0 (pa_cons (pv 3) pa_nil))
            (pa_cons (pv 4) pa_nil))))) (pss_one ps_never) pss_nil)
      (pss_one (ps_ret (pe_or (pe_cmpR op_gt (pv 2) pe_int (nomark _)) (pe_one (pe_chain op_le op_le (pv 4) (pe_call Gs hr (by rfl) T.d_slate_number.g T.d_slate_number.F.kp T.d_slate_number.b .nil pass0 (pa_cons (pv 3) pa_nil)) (pv 2)))))))))), ?_⟩
    -- row
    refine ⟨.ref a, rfl, by (show 4 ≤ sizeLine; decide), fun rp hrp => ?_⟩
    have s1 : Same H (upd H rp (.lst [.ref a, .int 0, .int 1604, .int 0])) := same_upd hrp
    have hT1 := hT.ext s1
    have row1 : RowAt K a ns (upd H rp (.lst [.ref a, .int 0, .int 1604, .int 0])) rp := by
      refine ⟨0, 1604, 0, upd_same, Same.seq s1 hS, Int.le_refl _, ?_⟩
      rcases hS with (z | ⟨o', z⟩) | z
      · exact .inl (ne_of_none z hrp).symm
      · exact .inl (ne_of_none z hrp).symm
      · exact .inr fun H' => .inr z
    generalize upd H rp (.lst [.ref a, .int 0, .int 1604, .int 0]) = H1 at row1 hT1
    -- many
    refine ⟨.ref rp, rfl, a, ns, rp, 6, rfl, row1, by omega, by omega, fun H2 mm row2 sb2 hm => ?_⟩
    obtain ⟨xs1, hr1'⟩ := row1.lst
    have hT2 := TabS.but hT1 hr1' sb2
    refine ⟨1, mm, rfl, rfl, ?_⟩
    have em : (1 : Int) + (mm : Int) = ((mm + 1 : Nat) : Int) := by omega
    -- house
    refine ⟨.ref rp, rfl, _, rfl, a, ns, rp, mm + 1, 4, by show [V.ref rp, V.int ((1 : Int) + (mm : Int)), V.int 4] = _; rw [em]; rfl, row2, by omega, by omega, by omega, by omega, fun H3 hp hs row3 sb3 hh ok hlen => ?_⟩
    obtain ⟨xs2, hr2'⟩ := row2.lst
    have hT3 := TabS.but hT2 hr2' sb3
    have hn6 : hs.length ≤ 6 := by omega
    refine ⟨by (show 2 ≤ sizeLine; decide), fun tp htp => ?_⟩
    have s4 : Same H3 (upd H3 tp (.tup [.ref hp, .int 0])) := same_upd htp
    refine ⟨tp, [.ref hp, .int 0], rfl, .inl (.inl upd_same), rfl, .ref hp, [.int 0], rfl, .int 0, [], rfl, rfl, ?_⟩
    have hh4 := hh.same s4
    have hT4 := hT3.ext s4
    generalize upd H3 tp (.tup [.ref hp, .int 0]) = H4 at hh4 hT4
    -- seven numbers
    refine ⟨1, 8, rfl, ⟨by decide, by decide, by decide, by decide⟩, ?_⟩
    show ∃ W, _
    rw [show ((8 : Int) - 1).toNat = 7 from rfl]
    refine for_range (lo := 1) (n := 7) (fun i σ H5 => ∃ (best : Nat) (v5 v6 v7 v8 v9 v10 : Option V), σ = [some (.ref a), some (.ref rp), some (.int ((1 : Int) + (mm : Int))), some (.ref hp), some (.int (best : Int)), v5, v6, v7, v8, v9, v10] ∧ HouseAt K H5 hp hs ∧ LamX.TabS H5 PT lamQ ∧ BestTo hs i best)
      ⟨0, none, none, none, none, none, none, rfl, hh4, hT4, best_zero hs⟩ ?_ ?_
    · rintro i σ H5 hi ⟨best, v5, v6, v7, v8, v9, v10, rfl, hh5, hT5, hbest⟩
      have e1 : (1 : Int) + (i : Int) = ((i + 1 : Nat) : Int) := by omega
      refine ⟨by decide, fun fa0 hfa0 => ?_⟩
      have s5 : Same H5 (upd H5 fa0 (.tup [])) := same_upd hfa0
      have hf5 : LotAt K (upd H5 fa0 (.tup [])) fa0 [] := SqT.up upd_same
      have hh5' := hh5.same s5
      have hT5' := hT5.ext s5
      generalize upd H5 fa0 (.tup []) = H6 at hf5 hh5' hT5'
      -- all lots
      refine ⟨_, rfl, mm + 1, by show [V.int ((1 : Int) + (mm : Int))] = _; rw [em], by omega, hT5', fun H7 p7 ts e7 hT7 hp7 hl7 hP7 => ?_⟩
      rw [← hlen] at hP7
      have hh7 := hh5'.ext e7
      have hf7 := hf5.ext e7
      have htl : ts.length = (allL hs.length).length := Paired.length hP7
      refine ⟨p7, rfl, ⟨_, SqL.up hl7⟩, for_list (K := K) (a := p7) (xs := ts.map V.ref) (fun j σ H8 => ∃ (fa : Addr) (v7 v8 v9 v10 : Option V), σ = [some (.ref a), some (.ref rp), some (.int ((1 : Int) + (mm : Int))), some (.ref hp), some (.int (best : Int)), some (.int (1 + (i : Int))), some (.ref fa), v7, v8, v9, v10] ∧ Same H7 H8 ∧ LotAt K H8 fa (lastGood hs (i + 1) ((allL hs.length).take j)))
        ⟨fa0, v7, v8, v9, v10, rfl, Same.refl _, hf7⟩ (fun j σ H8 _ h8 => ?_) ?_ ?_⟩
      · obtain ⟨_, _, _, _, _, _, z, _⟩ := h8
        exact SqL.up (z _ _ hl7)
      · rintro j y σ H8 hj ⟨fa, v7, v8, v9, v10, rfl, sm8, hfa⟩
        obtain ⟨t, ht, rfl⟩ := get_refs hj
        obtain ⟨l, hl, hat⟩ := paired_at hP7 ht
        have okl : LotOk hs.length l := mem_allL.mp (List.mem_of_getElem? hl)
        have hll := okl.len
        have hat8 := hat.same sm8
        have hh8 := hh7.same sm8
        -- who looks at too few
        refine ⟨.ref t, rfl, t, rfl, ⟨_, hat8⟩, fun D hD => ?_⟩
        refine lc_tup (K := K) (a := t) (xs := lotV l) (fun k H9 => Same H8 H9 ∧ H9 D = some (.lst (lotV (fewL hs (i + 1) l (l.take k)))))
          ⟨same_upd hD, upd_same⟩ (fun k H9 _ h9 => hat8.same h9.1) ?_ ?_
        · rintro k x H9 hk ⟨sm9, hd9⟩
          obtain ⟨cl, hcl, rfl⟩ := get_lotV hk
          have hlt : cl < hs.length := okl.lt cl (List.mem_of_getElem? hcl)
          obtain ⟨rsv, rw', hR, hrw, hatr⟩ := house_row (hh8.same sm9) hlt
          have okr : LotOk hs.length (hs.getD cl []) := (ok.ok _ (by
            rw [List.getD_eq_getElem?_getD, List.getElem?_eq_getElem hlt]
            exact List.getElem_mem hlt)).2
          have hrl := okr.len
          refine ⟨rfl, .ref hp, rfl, .int (cl : Int), rfl, hp, rsv, (cl : Int), .ref rw', rfl, rfl, hR, atI_nat hrw, rw', rfl, ⟨_, hatr⟩, fun D2 hD2 => ?_⟩
          generalize erow : hs.getD cl [] = rowl at hatr okr hrl
          refine lc_tup (K := K) (a := rw') (xs := lotV rowl) (fun n H10 => H10 = upd H9 D2 (.lst (lotV ((rowl.take n).filter fun s => decide (s ∈ l))))) rfl (fun n H10 _ e => by rw [e]; exact hatr.same (same_upd hD2)) ?_ ?_
          · rintro n z H10 hn rfl
            obtain ⟨s, hs', rfl⟩ := get_lotV hn
            have smD : Same H9 (upd H9 D2 (.lst (lotV ((rowl.take n).filter fun s => decide (s ∈ l))))) := same_upd hD2
            refine ⟨rfl, .int (s : Int), rfl, .ref t, rfl, t, lotV l, rfl, .inr ((hat8.same sm9).same smD), rfl, flat_lot _, ?_⟩
            refine ⟨decide (s ∈ l), by rw [if_neg Bool.false_ne_true, inV_lot], ?_⟩
            have etk : (rowl.take (n + 1)).filter (fun s => decide (s ∈ l)) = (rowl.take n).filter (fun s => decide (s ∈ l)) ++ if decide (s ∈ l) = true then [s] else [] := by
              rw [take_succ' hs', List.filter_append, List.filter_cons]
              rfl
            refine ite2 (fun hb => ?_) (fun hb => ?_)
            · rw [if_pos hb] at etk
              refine ⟨_, rfl, _, upd_same, ?_, ?_⟩
              · rw [List.length_map]
                have h1 := List.length_filter_le (fun s => decide (s ∈ l)) (rowl.take n)
                rw [List.length_take] at h1
                exact small1000 (by omega)
              · show upd _ _ _ = _
                rw [upd_upd, etk]
                unfold lotV
                rw [List.map_append]
                rfl
            · rw [if_neg hb, List.append_nil] at etk
              show _ = _
              rw [etk]
          · rintro H10 rfl
            rw [List.length_map, List.take_length]
            have smD : Same H9 (upd H9 D2 (.lst (lotV (rowl.filter fun s => decide (s ∈ l))))) := same_upd hD2
            have hd10 := smD _ _ hd9
            refine ⟨D2, _, rfl, .inl (SqL.up upd_same), .int (1 + (i : Int)), rfl, _, _, rfl, rfl, _, rfl, ?_⟩
            have elen : (lotV (rowl.filter fun s => decide (s ∈ l))).length = (lookL hs l cl).length := by
              rw [List.length_map]
              unfold lookL
              rw [erow]
            have ed : decide (((lotV (rowl.filter fun s => decide (s ∈ l))).length : Int) < 1 + (i : Int)) = decide ((lookL hs l cl).length < i + 1) := decide_eq_decide.mpr (by omega)
            rw [ed]
            have ef : fewL hs (i + 1) l (l.take (k + 1)) = fewL hs (i + 1) l (l.take k) ++ if decide ((lookL hs l cl).length < i + 1) = true then [cl] else [] := by
              unfold fewL
              rw [take_succ' hcl, List.filter_append, List.filter_cons]
              rfl
            refine ite2 (fun hb => ?_) (fun hb => ?_)
            · rw [if_pos hb] at ef
              refine ⟨_, rfl, _, hd10, ?_, fun b' o e => ?_, ?_⟩
              · rw [List.length_map]
                have h3 : (fewL hs (i + 1) l (l.take k)).length ≤ (l.take k).length := List.length_filter_le _ _
                rw [List.length_take] at h3
                exact small1000 (by omega)
              · rw [upd_ne (ne_of_none e hD)]
                exact smD _ _ (sm9 _ _ e)
              · rw [upd_same, ef]
                unfold lotV
                rw [List.map_append]
                rfl
            · rw [if_neg hb, List.append_nil] at ef
              exact ⟨sm9.trans smD, by rw [ef]; exact hd10⟩
        · rintro H9 ⟨sm9, hd9⟩
          rw [List.length_map, List.take_length] at hd9
          refine ⟨Nat.zero_le _, fun e0 he0 => ?_⟩
          have s10 : Same H9 (upd H9 e0 (.lst [])) := same_upd he0
          refine ⟨D, e0, _, natD (fewL hs (i + 1) l l), rfl, rfl, SqL.up (s10 _ _ hd9), dp_nats _, shaped_nats _, SqL.up upd_same, ?_⟩
          have sm10 := sm8.trans (sm9.trans s10)
          refine ⟨_, rfl, _, rfl, ?_⟩
          show (if (lotV (fewL hs (i + 1) l l)).isEmpty = true then _ else _)
          rw [few_emp]
          have elast : lastGood hs (i + 1) ((allL hs.length).take (j + 1)) = if goodB hs (i + 1) l then l else lastGood hs (i + 1) ((allL hs.length).take j) := by
            rw [take_succ' hl, lastGood_snoc]
          refine ite2 (fun hb => ?_) (fun hb => ?_)
          · refine ⟨.ref t, rfl, t, _, _, _, _, rfl, sm10, ?_⟩
            have hb' : goodB hs (i + 1) l = true := hb
            rw [elast, if_pos hb']
            exact hat.same sm10
          · refine ⟨.ref fa, rfl, fa, _, _, _, _, rfl, sm10, ?_⟩
            have hb' : ¬ goodB hs (i + 1) l = true := hb
            rw [elast, if_neg hb']
            exact hfa.same (sm9.trans s10)
      · rintro σ H8 ⟨fa, v7, v8, v9, v10, rfl, sm8, hfa⟩
        rw [List.length_map, htl, List.take_length] at hfa
        have hh8 := hh7.same sm8
        -- crew
        refine ⟨.ref hp, rfl, _, rfl, hp, hs, i + 1, by rw [e1]; rfl, hh8, ok, by omega, by omega, fun H9 cp C sm9 hC hcp => ?_⟩
        rw [lastGood_is hC] at hfa
        have hfa9 := hfa.same sm9
        refine ⟨.ref fa, rfl, ?_⟩
        refine ⟨cp, fa, lotV C, lotV C, rfl, hcp, hfa9, rfl, by rw [List.length_map]; have := hC.ok.len; omega, lot_sub, fun H10 sm10 => ⟨true, rfl, iteF ?_⟩⟩
        -- best
        refine ⟨.ref fa, rfl, by decide, fun e1' he1 => ?_⟩
        have s11 : Same H10 (upd H10 e1' (.tup [])) := same_upd he1
        refine ⟨fa, e1', C, [], rfl, rfl, (hfa9.same sm10).same s11, SqT.up upd_same, _, rfl, ?_⟩
        have smA := ((sm8.trans sm9).trans sm10).trans s11
        have hhA := hh7.same smA
        have hTA := hT7.ext smA
        by_cases e : C = []
        · rw [decide_eq_true e]
          refine iteF ⟨_, rfl, best, _, _, _, _, _, _, rfl, hhA, hTA, best_no hbest ?_⟩
          rintro ⟨C', h1, h2⟩
          exact h2 ((h1.inj hC).trans e)
        · rw [decide_eq_false e]
          refine iteT ⟨_, rfl, i + 1, _, _, _, _, _, _, by rw [e1]; rfl, hhA, hTA, best_yes hbest ⟨C, hC, e⟩⟩
    · rintro σ H5 ⟨best, v5, v6, v7, v8, v9, v10, rfl, hh5, hT5, hbest⟩
      refine ⟨.ref hp, rfl, hp, hs, rfl, hh5, ok, fun H6 b sm6 hb => ?_⟩
      refine ⟨_, rfl, .int (b : Int), by rw [hb.inj hbest]; rfl, .inl ⟨_, rfl⟩, fun H7 sm7 => ⟨true, rfl, iteF ?_⟩⟩
      refine ⟨_, rfl, _, 5, rfl, rfl, _, rfl, ite2 (fun _ => q _) fun hb5 => ?_⟩
      refine ⟨_, rfl, .ref hp, rfl, hp, hs, rfl, (hh5.same sm6).same sm7, ok, fun H8 c sm8 hn hc => ?_⟩
      have hbc := best_le ok hbest hn
      refine ⟨_, _, rfl, rfl, _, rfl, ?_⟩
      rw [decide_eq_true (show (best : Int) ≤ (c : Int) by omega)]
      refine iteT ⟨_, rfl, _, _, rfl, rfl, ?_⟩
      show Q (.bl (decide ((c : Int) ≤ 1 + (mm : Int)))) H8
      rw [decide_eq_true (show (c : Int) ≤ 1 + (mm : Int) by omega)]
      exact q _
end
end N

set_option Elab.async false
set_option linter.all false
set_option maxRecDepth 100000
set_option maxHeartbeats 8000000
namespace N
open PySem PySem.Spec PyProof.Rows L2
def def_mk {K : PySem.W.Frag} {h : Heap} {mg : Str → Option Value} {x : String} {st : Stmt} {ps : List Str} {f : Addr} {od an : Option Addr} {sl : Array (Option Value)} {oc kV dc pm cd ct : Value} (X : K.In h) (G : h.Ns mainGlobals mg)
    (a : PySem.W.nsIn K mainGlobals x = some (some (.ref f))) (l : K.lookup f = some ⟨oc, od, .func (PySem.W.fnOf x x (defArgs st) (defBody st) (defScope st) .none kV dc pm an cd ct), sl⟩) (c : PySem.W.codeIn K cd x = true) (k : PySem.W.keepIn K (.ref f) = true)
    (hb : ∀ (kV doc pm : Value) (an : Option Addr) (cdv ct : Value) (us : List Value), us.length = ps.length → bindArgs (PySem.W.fnOf x x (defArgs st) (defBody st) (defScope st) .none kV doc pm an cdv ct) ⟨us, []⟩ = pure (ps.zip us)) : Def K mg x st ps :=
  ⟨f, PySem.W.fnOf x x (defArgs st) (defBody st) (defScope st) .none kV dc pm an cd ct, fun_mk l c k, PySem.W.mg_of X G a, (fun_mk l c k).binds hb⟩
theorem all_mk {l : PySem.W.OpenLaw} {w : World} {K : PySem.W.Frag} {h : Heap} {mg : Str → Option Value} {fa cL PT : Addr} (X : K.In h) (G : h.Ns mainGlobals mg) (hfa : mg "law" = some (.ref fa))
    {f0 : Addr} {od0 an0 : Option Addr} {sl0 : Array (Option Value)} {oc0 kV0 dc0 pm0 ct0 cd0 : Value}
    {f1 : Addr} {od1 an1 : Option Addr} {sl1 : Array (Option Value)} {oc1 kV1 dc1 pm1 ct1 cd1 : Value}
    {f2 : Addr} {od2 an2 : Option Addr} {sl2 : Array (Option Value)} {oc2 kV2 dc2 pm2 ct2 cd2 : Value}
    {f3 : Addr} {od3 an3 : Option Addr} {sl3 : Array (Option Value)} {oc3 kV3 dc3 pm3 ct3 cd3 : Value}
    {f4 : Addr} {od4 an4 : Option Addr} {sl4 : Array (Option Value)} {oc4 kV4 dc4 pm4 ct4 cd4 : Value}
    {f5 : Addr} {od5 an5 : Option Addr} {sl5 : Array (Option Value)} {oc5 kV5 dc5 pm5 ct5 cd5 : Value}
    {f6 : Addr} {od6 an6 : Option Addr} {sl6 : Array (Option Value)} {oc6 kV6 dc6 pm6 ct6 cd6 : Value}
    {f7 : Addr} {od7 an7 : Option Addr} {sl7 : Array (Option Value)} {oc7 kV7 dc7 pm7 ct7 cd7 : Value}
    {f8 : Addr} {od8 an8 : Option Addr} {sl8 : Array (Option Value)} {oc8 kV8 dc8 pm8 ct8 cd8 : Value}
    {f9 : Addr} {od9 an9 : Option Addr} {sl9 : Array (Option Value)} {oc9 kV9 dc9 pm9 ct9 cd9 : Value}
    {f10 : Addr} {od10 an10 : Option Addr} {sl10 : Array (Option Value)} {oc10 kV10 dc10 pm10 ct10 cd10 : Value}
    {f11 : Addr} {od11 an11 : Option Addr} {sl11 : Array (Option Value)} {oc11 kV11 dc11 pm11 ct11 cd11 : Value}
    {f12 : Addr} {od12 an12 : Option Addr} {sl12 : Array (Option Value)} {oc12 kV12 dc12 pm12 ct12 cd12 : Value}
    {f13 : Addr} {od13 an13 : Option Addr} {sl13 : Array (Option Value)} {oc13 kV13 dc13 pm13 ct13 cd13 : Value}
    {f14 : Addr} {od14 an14 : Option Addr} {sl14 : Array (Option Value)} {oc14 kV14 dc14 pm14 ct14 cd14 : Value}
    {f15 : Addr} {od15 an15 : Option Addr} {sl15 : Array (Option Value)} {oc15 kV15 dc15 pm15 ct15 cd15 : Value}
    {f16 : Addr} {od16 an16 : Option Addr} {sl16 : Array (Option Value)} {oc16 kV16 dc16 pm16 ct16 cd16 : Value}
    {f17 : Addr} {od17 an17 : Option Addr} {sl17 : Array (Option Value)} {oc17 kV17 dc17 pm17 ct17 cd17 : Value}
    {f18 : Addr} {od18 an18 : Option Addr} {sl18 : Array (Option Value)} {oc18 kV18 dc18 pm18 ct18 cd18 : Value}
    {f19 : Addr} {od19 an19 : Option Addr} {sl19 : Array (Option Value)} {oc19 kV19 dc19 pm19 ct19 cd19 : Value}
    {f20 : Addr} {od20 an20 : Option Addr} {sl20 : Array (Option Value)} {oc20 kV20 dc20 pm20 ct20 : Value}
    {f21 : Addr} {od21 an21 : Option Addr} {sl21 : Array (Option Value)} {oc21 kV21 dc21 pm21 ct21 cd21 : Value}
    {f22 : Addr} {od22 an22 : Option Addr} {sl22 : Array (Option Value)} {oc22 kV22 dc22 pm22 ct22 cd22 : Value}
    {tk0 : Tok}
    (hT : h.get? PT = some (PySem.W.tabObj #[]))
    (a0 : PySem.W.nsIn K mainGlobals "is_number" = some (some (.ref f0))) (l0 : K.lookup f0 = some ⟨oc0, od0, .func (PySem.W.fnOf "is_number" "is_number" (defArgs s_is_number) (defBody s_is_number) (defScope s_is_number) .none kV0 dc0 pm0 an0 cd0 ct0), sl0⟩) (c0 : PySem.W.codeIn K cd0 "is_number" = true) (k0 : PySem.W.keepIn K (.ref f0) = true)
    (a1 : PySem.W.nsIn K mainGlobals "is_lot" = some (some (.ref f1))) (l1 : K.lookup f1 = some ⟨oc1, od1, .func (PySem.W.fnOf "is_lot" "is_lot" (defArgs s_is_lot) (defBody s_is_lot) (defScope s_is_lot) .none kV1 dc1 pm1 an1 cd1 ct1), sl1⟩) (c1 : PySem.W.codeIn K cd1 "is_lot" = true) (k1 : PySem.W.keepIn K (.ref f1) = true)
    (a2 : PySem.W.nsIn K mainGlobals "check_number" = some (some (.ref f2))) (l2 : K.lookup f2 = some ⟨oc2, od2, .func (PySem.W.fnOf "check_number" "check_number" (defArgs s_check_number) (defBody s_check_number) (defScope s_check_number) .none kV2 dc2 pm2 an2 cd2 ct2), sl2⟩) (c2 : PySem.W.codeIn K cd2 "check_number" = true) (k2 : PySem.W.keepIn K (.ref f2) = true)
    (a3 : PySem.W.nsIn K mainGlobals "check_house" = some (some (.ref f3))) (l3 : K.lookup f3 = some ⟨oc3, od3, .func (PySem.W.fnOf "check_house" "check_house" (defArgs s_check_house) (defBody s_check_house) (defScope s_check_house) .none kV3 dc3 pm3 an3 cd3 ct3), sl3⟩) (c3 : PySem.W.codeIn K cd3 "check_house" = true) (k3 : PySem.W.keepIn K (.ref f3) = true)
    (a4 : PySem.W.nsIn K mainGlobals "slate_number" = some (some (.ref f4))) (l4 : K.lookup f4 = some ⟨oc4, od4, .func (PySem.W.fnOf "slate_number" "slate_number" (defArgs s_slate_number) (defBody s_slate_number) (defScope s_slate_number) .none kV4 dc4 pm4 an4 cd4 ct4), sl4⟩) (c4 : PySem.W.codeIn K cd4 "slate_number" = true) (k4 : PySem.W.keepIn K (.ref f4) = true)
    (a5 : PySem.W.nsIn K mainGlobals "all_slates" = some (some (.ref f5))) (l5 : K.lookup f5 = some ⟨oc5, od5, .func (PySem.W.fnOf "all_slates" "all_slates" (defArgs s_all_slates) (defBody s_all_slates) (defScope s_all_slates) .none kV5 dc5 pm5 an5 cd5 ct5), sl5⟩) (c5 : PySem.W.codeIn K cd5 "all_slates" = true) (k5 : PySem.W.keepIn K (.ref f5) = true)
    (a6 : PySem.W.nsIn K mainGlobals "lots_within" = some (some (.ref f6))) (l6 : K.lookup f6 = some ⟨oc6, od6, .func (PySem.W.fnOf "lots_within" "lots_within" (defArgs s_lots_within) (defBody s_lots_within) (defScope s_lots_within) .none kV6 dc6 pm6 an6 cd6 ct6), sl6⟩) (c6 : PySem.W.codeIn K cd6 "lots_within" = true) (k6 : PySem.W.keepIn K (.ref f6) = true)
    (a7 : PySem.W.nsIn K mainGlobals "can_cover" = some (some (.ref f7))) (l7 : K.lookup f7 = some ⟨oc7, od7, .func (PySem.W.fnOf "can_cover" "can_cover" (defArgs s_can_cover) (defBody s_can_cover) (defScope s_can_cover) .none kV7 dc7 pm7 an7 cd7 ct7), sl7⟩) (c7 : PySem.W.codeIn K cd7 "can_cover" = true) (k7 : PySem.W.keepIn K (.ref f7) = true)
    (a8 : PySem.W.nsIn K mainGlobals "least_coins" = some (some (.ref f8))) (l8 : K.lookup f8 = some ⟨oc8, od8, .func (PySem.W.fnOf "least_coins" "least_coins" (defArgs s_least_coins) (defBody s_least_coins) (defScope s_least_coins) .none kV8 dc8 pm8 an8 cd8 ct8), sl8⟩) (c8 : PySem.W.codeIn K cd8 "least_coins" = true) (k8 : PySem.W.keepIn K (.ref f8) = true)
    (a9 : PySem.W.nsIn K mainGlobals "_mask_of" = some (some (.ref f9))) (l9 : K.lookup f9 = some ⟨oc9, od9, .func (PySem.W.fnOf "_mask_of" "_mask_of" (defArgs s__mask_of) (defBody s__mask_of) (defScope s__mask_of) .none kV9 dc9 pm9 an9 cd9 ct9), sl9⟩) (c9 : PySem.W.codeIn K cd9 "_mask_of" = true) (k9 : PySem.W.keepIn K (.ref f9) = true)
    (a10 : PySem.W.nsIn K mainGlobals "_holds" = some (some (.ref f10))) (l10 : K.lookup f10 = some ⟨oc10, od10, .func (PySem.W.fnOf "_holds" "_holds" (defArgs s__holds) (defBody s__holds) (defScope s__holds) .none kV10 dc10 pm10 an10 cd10 ct10), sl10⟩) (c10 : PySem.W.codeIn K cd10 "_holds" = true) (k10 : PySem.W.keepIn K (.ref f10) = true)
    (a11 : PySem.W.nsIn K mainGlobals "_coin_masks" = some (some (.ref f11))) (l11 : K.lookup f11 = some ⟨oc11, od11, .func (PySem.W.fnOf "_coin_masks" "_coin_masks" (defArgs s__coin_masks) (defBody s__coin_masks) (defScope s__coin_masks) .none kV11 dc11 pm11 an11 cd11 ct11), sl11⟩) (c11 : PySem.W.codeIn K cd11 "_coin_masks" = true) (k11 : PySem.W.keepIn K (.ref f11) = true)
    (a12 : PySem.W.nsIn K mainGlobals "_next_cover" = some (some (.ref f12))) (l12 : K.lookup f12 = some ⟨oc12, od12, .func (PySem.W.fnOf "_next_cover" "_next_cover" (defArgs s__next_cover) (defBody s__next_cover) (defScope s__next_cover) .none kV12 dc12 pm12 an12 cd12 ct12), sl12⟩) (c12 : PySem.W.codeIn K cd12 "_next_cover" = true) (k12 : PySem.W.keepIn K (.ref f12) = true)
    (a13 : PySem.W.nsIn K mainGlobals "_ways" = some (some (.ref f13))) (l13 : K.lookup f13 = some ⟨oc13, od13, .func (PySem.W.fnOf "_ways" "_ways" (defArgs s__ways) (defBody s__ways) (defScope s__ways) .none kV13 dc13 pm13 an13 cd13 ct13), sl13⟩) (c13 : PySem.W.codeIn K cd13 "_ways" = true) (k13 : PySem.W.keepIn K (.ref f13) = true)
    (a14 : PySem.W.nsIn K mainGlobals "_first_cover" = some (some (.ref f14))) (l14 : K.lookup f14 = some ⟨oc14, od14, .func (PySem.W.fnOf "_first_cover" "_first_cover" (defArgs s__first_cover) (defBody s__first_cover) (defScope s__first_cover) .none kV14 dc14 pm14 an14 cd14 ct14), sl14⟩) (c14 : PySem.W.codeIn K cd14 "_first_cover" = true) (k14 : PySem.W.keepIn K (.ref f14) = true)
    (a15 : PySem.W.nsIn K mainGlobals "crew" = some (some (.ref f15))) (l15 : K.lookup f15 = some ⟨oc15, od15, .func (PySem.W.fnOf "crew" "crew" (defArgs s_crew) (defBody s_crew) (defScope s_crew) .none kV15 dc15 pm15 an15 cd15 ct15), sl15⟩) (c15 : PySem.W.codeIn K cd15 "crew" = true) (k15 : PySem.W.keepIn K (.ref f15) = true)
    (a16 : PySem.W.nsIn K mainGlobals "crew_number" = some (some (.ref f16))) (l16 : K.lookup f16 = some ⟨oc16, od16, .func (PySem.W.fnOf "crew_number" "crew_number" (defArgs s_crew_number) (defBody s_crew_number) (defScope s_crew_number) .none kV16 dc16 pm16 an16 cd16 ct16), sl16⟩) (c16 : PySem.W.codeIn K cd16 "crew_number" = true) (k16 : PySem.W.keepIn K (.ref f16) = true)
    (a17 : PySem.W.nsIn K mainGlobals "_who_look" = some (some (.ref f17))) (l17 : K.lookup f17 = some ⟨oc17, od17, .func (PySem.W.fnOf "_who_look" "_who_look" (defArgs s__who_look) (defBody s__who_look) (defScope s__who_look) .none kV17 dc17 pm17 an17 cd17 ct17), sl17⟩) (c17 : PySem.W.codeIn K cd17 "_who_look" = true) (k17 : PySem.W.keepIn K (.ref f17) = true)
    (a18 : PySem.W.nsIn K mainGlobals "_law_taken" = some (some (.ref f18))) (l18 : K.lookup f18 = some ⟨oc18, od18, .func (PySem.W.fnOf "_law_taken" "_law_taken" (defArgs s__law_taken) (defBody s__law_taken) (defScope s__law_taken) .none kV18 dc18 pm18 an18 cd18 ct18), sl18⟩) (c18 : PySem.W.codeIn K cd18 "_law_taken" = true) (k18 : PySem.W.keepIn K (.ref f18) = true)
    (a19 : PySem.W.nsIn K mainGlobals "_law_house" = some (some (.ref f19))) (l19 : K.lookup f19 = some ⟨oc19, od19, .func (PySem.W.fnOf "_law_house" "_law_house" (defArgs s__law_house) (defBody s__law_house) (defScope s__law_house) .none kV19 dc19 pm19 an19 cd19 ct19), sl19⟩) (c19 : PySem.W.codeIn K cd19 "_law_house" = true) (k19 : PySem.W.keepIn K (.ref f19) = true)
    (a20 : PySem.W.nsIn K mainGlobals "_law_lots" = some (some (.ref f20))) (l20 : K.lookup f20 = some ⟨oc20, od20, .func (PySem.W.fnOf "_law_lots" "_law_lots" (defArgs s__law_lots) (defBody s__law_lots) (defScope s__law_lots) .none kV20 dc20 pm20 an20 (.ref cL) ct20), sl20⟩) (c20 : PySem.W.codeIn K (.ref cL) "_law_lots" = true) (k20 : PySem.W.keepIn K (.ref f20) = true)
    (a21 : PySem.W.nsIn K mainGlobals "_law_alike" = some (some (.ref f21))) (l21 : K.lookup f21 = some ⟨oc21, od21, .func (PySem.W.fnOf "_law_alike" "_law_alike" (defArgs s__law_alike) (defBody s__law_alike) (defScope s__law_alike) .none kV21 dc21 pm21 an21 cd21 ct21), sl21⟩) (c21 : PySem.W.codeIn K cd21 "_law_alike" = true) (k21 : PySem.W.keepIn K (.ref f21) = true)
    (a22 : PySem.W.nsIn K mainGlobals "law" = some (some (.ref f22))) (l22 : K.lookup f22 = some ⟨oc22, od22, .func (PySem.W.fnOf "law" "law" (defArgs s_law) (defBody s_law) (defScope s_law) .none kV22 dc22 pm22 an22 cd22 ct22), sl22⟩) (c22 : PySem.W.codeIn K cd22 "law" = true) (k22 : PySem.W.keepIn K (.ref f22) = true)
    (z0 : PySem.W.nsIn K mainGlobals "len" = some none)
    (z1 : PySem.W.nsIn K mainGlobals "range" = some none)
    (z2 : PySem.W.nsIn K mainGlobals "tuple" = some none)
    (z3 : PySem.W.nsIn K mainGlobals "list" = some none)
    (z4 : PySem.W.nsIn K mainGlobals "sorted" = some none)
    (z5 : PySem.W.nsIn K mainGlobals "enumerate" = some none)
    (z6 : PySem.W.nsIn K mainGlobals "min" = some none)
    (z7 : PySem.W.nsIn K mainGlobals "max" = some none)
    (z8 : PySem.W.nsIn K mainGlobals "type" = some none)
    (z9 : PySem.W.nsIn K mainGlobals "int" = some none)
    (z10 : PySem.W.nsIn K mainGlobals "isinstance" = some none)
    (z11 : PySem.W.nsIn K mainGlobals "bool" = some none)
    (z12 : PySem.W.nsIn K mainGlobals "str" = some none)
    (m0 : PySem.W.nsIn K mainGlobals "MOST_CLERKS" = some (some (.int 7 tk0)))
    (gc : PySem.W.nsIn K mainGlobals "combinations" = some (some (.type Cb.TC)))
    (nT : K.lookup PT = none) (hC : PySem.W.codeHdIn K cL PT = true) :
    LamX.LawAtS l w K CX0 7 63 "script" mg fa h := by
  have e := hfa.symm.trans (PySem.W.mg_of X G a22)
  cases e
  have F := fun_mk (st := s_law) l22 c22 k22
  have key : ∀ T : Txt K mg, T.d__law_lots.fd.code = .ref cL → LamX.LawAtS l w K CX0 7 63 "script" mg fa h := fun T hc => by
    refine ⟨PySem.W.fnOf "law" "law" (defArgs s_law) (defBody s_law) (defScope s_law) .none kV22 dc22 pm22 an22 cd22 ct22, [(cL, PT)], spLaw K PT, fun p hp => ?_, fun p hp => ?_, fun p hp => ?_, fun s u => .of_eq rfl, fun H a ns _ _ hH hS => ⟨a, ns, rfl, hS, LamX.TabS.nil (hH _ (List.mem_singleton.mpr rfl)), fun _ => rfl⟩, fun base _ _ TBs => ok_law F T hc (TBs _ (List.mem_singleton.mpr rfl))⟩
    · rw [List.mem_singleton.mp hp]
      exact hT
    · rw [List.mem_singleton.mp hp]
      exact nT
    · rw [List.mem_singleton.mp hp]
      exact PySem.W.codeHd_of_K X hC
  exact key ⟨def_mk X G a0 l0 c0 k0 fun _ _ _ _ _ _ us hl => match us, hl with | [_, _, _], _ => rfl,
    def_mk X G a1 l1 c1 k1 fun _ _ _ _ _ _ us hl => match us, hl with | [_, _], _ => rfl,
    def_mk X G a2 l2 c2 k2 fun _ _ _ _ _ _ us hl => match us, hl with | [_, _, _], _ => rfl,
    def_mk X G a3 l3 c3 k3 fun _ _ _ _ _ _ us hl => match us, hl with | [_], _ => rfl,
    def_mk X G a4 l4 c4 k4 fun _ _ _ _ _ _ us hl => match us, hl with | [_], _ => rfl,
    def_mk X G a5 l5 c5 k5 fun _ _ _ _ _ _ us hl => match us, hl with | [_], _ => rfl,
    def_mk X G a6 l6 c6 k6 fun _ _ _ _ _ _ us hl => match us, hl with | [_, _], _ => rfl,
    def_mk X G a7 l7 c7 k7 fun _ _ _ _ _ _ us hl => match us, hl with | [_, _, _, _], _ => rfl,
    def_mk X G a8 l8 c8 k8 fun _ _ _ _ _ _ us hl => match us, hl with | [_, _, _], _ => rfl,
    def_mk X G a9 l9 c9 k9 fun _ _ _ _ _ _ us hl => match us, hl with | [_], _ => rfl,
    def_mk X G a10 l10 c10 k10 fun _ _ _ _ _ _ us hl => match us, hl with | [_, _], _ => rfl,
    def_mk X G a11 l11 c11 k11 fun _ _ _ _ _ _ us hl => match us, hl with | [_, _], _ => rfl,
    def_mk X G a12 l12 c12 k12 fun _ _ _ _ _ _ us hl => match us, hl with | [_, _], _ => rfl,
    def_mk X G a13 l13 c13 k13 fun _ _ _ _ _ _ us hl => match us, hl with | [_, _, _], _ => rfl,
    def_mk X G a14 l14 c14 k14 fun _ _ _ _ _ _ us hl => match us, hl with | [_, _], _ => rfl,
    def_mk X G a15 l15 c15 k15 fun _ _ _ _ _ _ us hl => match us, hl with | [_, _], _ => rfl,
    def_mk X G a16 l16 c16 k16 fun _ _ _ _ _ _ us hl => match us, hl with | [_], _ => rfl,
    def_mk X G a17 l17 c17 k17 fun _ _ _ _ _ _ us hl => match us, hl with | [_, _, _], _ => rfl,
    def_mk X G a18 l18 c18 k18 fun _ _ _ _ _ _ us hl => match us, hl with | [_, _], _ => rfl,
    def_mk X G a19 l19 c19 k19 fun _ _ _ _ _ _ us hl => match us, hl with | [_, _, _], _ => rfl,
    def_mk X G a20 l20 c20 k20 fun _ _ _ _ _ _ us hl => match us, hl with | [_], _ => rfl,
    def_mk X G a21 l21 c21 k21 fun _ _ _ _ _ _ us hl => match us, hl with | [_, _], _ => rfl,
    PySem.W.mg_none_of X G z0,
    PySem.W.mg_none_of X G z1,
    PySem.W.mg_none_of X G z2,
    PySem.W.mg_none_of X G z3,
    PySem.W.mg_none_of X G z4,
    PySem.W.mg_none_of X G z5,
    PySem.W.mg_none_of X G z6,
    PySem.W.mg_none_of X G z7,
    PySem.W.mg_none_of X G z8,
    PySem.W.mg_none_of X G z9,
    PySem.W.mg_none_of X G z10,
    PySem.W.mg_none_of X G z11,
    PySem.W.mg_none_of X G z12,
    ⟨_, PySem.W.mg_of X G m0⟩,
    PySem.W.mg_of X G gc⟩ rfl
end N
open PySem PySem.W PyProof.Rows
set_option maxHeartbeats 0 in
theorem PySem.Challenge.cw_nightslates_k04_whole_crews_holds : PySem.Challenge.rw_nightslates_k04_whole_crews.Holds := by
  w_on; o_law; k_head; (case hw => w_witness2)
  k_fill
  refine LamX.walk_ofTs (l := PySem.Challenge.rw_nightslates_k04_whole_crews) (n := 63) (k := 7) (x := "script") (CX := fun _ => L2.CX0) rfl (by decide) rfl ⟨rfl, by decide, by decide⟩ (fun w h Y => PySem.W.km_in_of Y) ?F (fun _ _ _ _ _ h => h)
  case F =>
    intro w mg fa h Y KX G hmg
    refine' N.all_mk KX G hmg ?hT ?a0 ?l0 ?c0 ?k0 ?a1 ?l1 ?c1 ?k1 ?a2 ?l2 ?c2 ?k2 ?a3 ?l3 ?c3 ?k3 ?a4 ?l4 ?c4 ?k4 ?a5 ?l5 ?c5 ?k5 ?a6 ?l6 ?c6 ?k6 ?a7 ?l7 ?c7 ?k7 ?a8 ?l8 ?c8 ?k8 ?a9 ?l9 ?c9 ?k9 ?a10 ?l10 ?c10 ?k10 ?a11 ?l11 ?c11 ?k11 ?a12 ?l12 ?c12 ?k12 ?a13 ?l13 ?c13 ?k13 ?a14 ?l14 ?c14 ?k14 ?a15 ?l15 ?c15 ?k15 ?a16 ?l16 ?c16 ?k16 ?a17 ?l17 ?c17 ?k17 ?a18 ?l18 ?c18 ?k18 ?a19 ?l19 ?c19 ?k19 ?a20 ?l20 ?c20 ?k20 ?a21 ?l21 ?c21 ?k21 ?a22 ?l22 ?c22 ?k22 ?z0 ?z1 ?z2 ?z3 ?z4 ?z5 ?z6 ?z7 ?z8 ?z9 ?z10 ?z11 ?z12 ?m0 ?gc ?nT ?hC
    (case hT => exact PySem.W.km_tabs_of Y _ (List.Mem.head _))
    (case a0 => k_is)
    (case l0 => k_is)
    (case c0 => k_is)
    (case k0 => k_is)
    (case a1 => k_is)
    (case l1 => k_is)
    (case c1 => k_is)
    (case k1 => k_is)
    (case a2 => k_is)
    (case l2 => k_is)
    (case c2 => k_is)
    (case k2 => k_is)
    (case a3 => k_is)
    (case l3 => k_is)
    (case c3 => k_is)
    (case k3 => k_is)
    (case a4 => k_is)
    (case l4 => k_is)
    (case c4 => k_is)
    (case k4 => k_is)
    (case a5 => k_is)
    (case l5 => k_is)
    (case c5 => k_is)
    (case k5 => k_is)
    (case a6 => k_is)
    (case l6 => k_is)
    (case c6 => k_is)
    (case k6 => k_is)
    (case a7 => k_is)
    (case l7 => k_is)
    (case c7 => k_is)
    (case k7 => k_is)
    (case a8 => k_is)
    (case l8 => k_is)
    (case c8 => k_is)
    (case k8 => k_is)
    (case a9 => k_is)
    (case l9 => k_is)
    (case c9 => k_is)
    (case k9 => k_is)
    (case a10 => k_is)
    (case l10 => k_is)
    (case c10 => k_is)
    (case k10 => k_is)
    (case a11 => k_is)
    (case l11 => k_is)
    (case c11 => k_is)
    (case k11 => k_is)
    (case a12 => k_is)
    (case l12 => k_is)
    (case c12 => k_is)
    (case k12 => k_is)
    (case a13 => k_is)
    (case l13 => k_is)
    (case c13 => k_is)
    (case k13 => k_is)
    (case a14 => k_is)
    (case l14 => k_is)
    (case c14 => k_is)
    (case k14 => k_is)
    (case a15 => k_is)
    (case l15 => k_is)
    (case c15 => k_is)
    (case k15 => k_is)
    (case a16 => k_is)
    (case l16 => k_is)
    (case c16 => k_is)
    (case k16 => k_is)
    (case a17 => k_is)
    (case l17 => k_is)
    (case c17 => k_is)
    (case k17 => k_is)
    (case a18 => k_is)
    (case l18 => k_is)
    (case c18 => k_is)
    (case k18 => k_is)
    (case a19 => k_is)
    (case l19 => k_is)
    (case c19 => k_is)
    (case k19 => k_is)
    (case a20 => k_is)
    (case l20 => k_is)
    (case c20 => k_is)
    (case k20 => k_is)
    (case a21 => k_is)
    (case l21 => k_is)
    (case c21 => k_is)
    (case k21 => k_is)
    (case a22 => k_is)
    (case l22 => k_is)
    (case c22 => k_is)
    (case k22 => k_is)
    (case z0 => k_is)
    (case z1 => k_is)
    (case z2 => k_is)
    (case z3 => k_is)
    (case z4 => k_is)
    (case z5 => k_is)
    (case z6 => k_is)
    (case z7 => k_is)
    (case z8 => k_is)
    (case z9 => k_is)
    (case z10 => k_is)
    (case z11 => k_is)
    (case z12 => k_is)
    (case m0 => k_is)
    (case gc => k_is)
    (case nT => kernel_rfl)
    (case hC => kernel_rfl)

