import PyProof.Rows.All
import Wide.All
import OpenK.AllK
import Wide.FinOn
import HandS.ForMost
import HandS.Conv
import HandS.Gcd
import HandS.ListItems
import HandS.MapObj
import KE.GoesEnum
import HandS.Zip
import HandS.More
import HandS.TupAny
import HandS.Style
import HandS.Text
import HandS.NoneIn
import HandS.WideBits
import HandS.TupSets
import PySem.Challenge.RW_nightslates_k01_whole_coins
import HandS.Walk
import KE.SortKeyHeap
import KE.KSortKey
import HandS.Lambda
import HandS.EndTab
import HandS.AnyAll
import PyProof.GenCompD
import HandS.Nested
import PyProof.EqAt
import HandS.IsInst
import HandS.Deep
import KE.KLam
import HandS.EndOwn
set_option Elab.async false
set_option linter.all false
set_option maxRecDepth 100000
set_option maxHeartbeats 2000000
/-! combinations of a range, listed -/
namespace Cb
open PySem PySem.Spec PyProof.Rows
abbrev TC : String := "itertools.combinations"
theorem mroC : mroOf (.type TC) = pure [.type TC, .type "object"] := by rw [mroOf_type]; kernel_rfl
theorem newC : typeLookup (.type TC) "__new__" = pure (some (.builtin "itertools.combinations.__new__")) := by rw [typeLookup_type, builtinLookup_eq_fast]; kernel_rfl
theorem initC : Slot TC "__init__" "object.__init__" :=
  .of (owner := "object") (n := "__init__") (by rw [typeLookup_type, builtinLookup_eq_fast]; kernel_rfl) (by decide +kernel) (by decide +kernel) (by decide +kernel)
    (by first | exact .inl (by decide +kernel) | exact .inr (by decide +kernel)) (by rw [isSubtype_type]; kernel_rfl)
theorem subC : isSubtype (.type TC) (.type TC) = pure true := by rw [isSubtype_type]; kernel_rfl
theorem calledC : TypeCalled TC "itertools.combinations.__new__" "object.__init__" :=
  ⟨by decide +kernel, by decide +kernel, ⟨_, _, mroC⟩, madeBy_type mroC newC (by decide +kernel), by decide +kernel, subC, initC⟩
theorem typeCallC (a b : Value) : checkTypeCall TC ⟨[a, b], []⟩ = pure () := by kernel_rfl
theorem newCallC (a b : Value) : checkBuiltinCall "itertools.combinations.__new__" ⟨[.type TC, a, b], []⟩ = pure () := by kernel_rfl
theorem entryNewC : entryFor table "itertools.combinations.__new__" = some Builtin.«itertools.combinations.__new__» := entryFor_of_tree (by kernel_rfl)
theorem slotIterC : Slot TC "__iter__" "itertools.combinations.__iter__" :=
  .of (owner := TC) (n := "__iter__") (by rw [typeLookup_type, builtinLookup_eq_fast]; kernel_rfl) (by decide +kernel) (by decide +kernel) (by decide +kernel)
    (by first | exact .inl (by decide +kernel) | exact .inr (by decide +kernel)) subC
theorem slotNextC : Slot TC "__next__" "itertools.combinations.__next__" :=
  .of (owner := TC) (n := "__next__") (by rw [typeLookup_type, builtinLookup_eq_fast]; kernel_rfl) (by decide +kernel) (by decide +kernel) (by decide +kernel)
    (by first | exact .inl (by decide +kernel) | exact .inr (by decide +kernel)) subC
theorem entryIterC : entryFor table "itertools.combinations.__iter__" = some Builtin.«dict_keyiterator.__iter__» :=
  entryFor_alias (id' := "dict_keyiterator.__iter__") (by kernel_rfl) (by first | rfl | decide +kernel | (unfold String.splitOn; simp +decide [String.splitOnAux])) (by decide +kernel) (by kernel_rfl)
theorem entryNextC : entryFor table "itertools.combinations.__next__" = some Builtin.«itertools.combinations.__next__» := entryFor_of_tree (by kernel_rfl)
theorem ownerC : Manifest.owners.lookup (String.ofList ['s', 'n', 'o', 'i', 't', 'a', 'n', 'i', 'b', 'm', 'o', 'c', '.', 's', 'l', 'o', 'o', 't', 'r', 'e', 't', 'i'].reverse) = some Manifest.sig_itertools_combinations := by kernel_rfl
theorem argsIterC (a : Value) : argsOk "itertools.combinations.__iter__" ⟨[a], []⟩ := by
  unfold argsOk
  rw [signature?_of (id := "itertools.combinations.__iter__") (n := ['_', '_', 'r', 'e', 't', 'i', '_', '_']) (o := ['s', 'n', 'o', 'i', 't', 'a', 'n', 'i', 'b', 'm', 'o', 'c', '.', 's', 'l', 'o', 'o', 't', 'r', 'e', 't', 'i']) (by kernel_rfl) ownerC]
  kernel_rfl
theorem argsNextC (a : Value) : argsOk "itertools.combinations.__next__" ⟨[a], []⟩ := by
  unfold argsOk
  rw [signature?_of (id := "itertools.combinations.__next__") (n := ['_', '_', 't', 'x', 'e', 'n', '_', '_']) (o := ['s', 'n', 'o', 'i', 't', 'a', 'n', 'i', 'b', 'm', 'o', 'c', '.', 's', 'l', 'o', 'o', 't', 'r', 'e', 't', 'i']) (by kernel_rfl) ownerC]
  kernel_rfl
theorem noDictC : typeHasDict (.type TC) = false := by decide +kernel
theorem noLenC : typeLookup (.type TC) "__len__" = pure none := by rw [typeLookup_type, builtinLookup_eq_fast]; kernel_rfl
theorem noHintC : typeLookup (.type TC) "__length_hint__" = pure none := by rw [typeLookup_type, builtinLookup_eq_fast]; kernel_rfl

/-- the next row of places -/
def nxt (n : Nat) (l : List Nat) : Option (List Nat) :=
  match (List.range l.length).reverse.find? (fun i => l.getD i 0 != i + n - l.length) with
  | none => none
  | some i => some (l.take i ++ (List.range (l.length - i)).map (l.getD i 0 + 1 + ·))
/-- the object: its pool, how it stands, what it gave last, its places -/
abbrev IsC (h : Heap) (it : Addr) (pool last : Value) (st : Int) (ix : List Nat) : Prop :=
  h.get? it = some { cls := .type TC, dict := none, data := .fields (#[pool, rawInt st, last] ++ (ix.map fun (i : Nat) => rawInt i).toArray), slots := #[] }
section
variable {prog : Program} {w : World} {A : Around} {E : Value → Shared → Prop} {s : Shared}
theorem bindC (a b : Value) : Builtin.Itertools.itBindNamed "combinations" ["iterable", "r"] 2 2 [a, b] [] = pure [some a, some b] := by kernel_rfl
theorem clsC (a b : Value) : Builtin.Itertools.itClassAndRest "combinations" ⟨[.type TC, a, b], []⟩ = pure (.type TC, [a, b]) := by
  unfold Builtin.Itertools.itClassAndRest
  simp only [isType, subC, pure_bind]
  rw [show ("itertools." ++ "combinations" : String) = TC from by decide]
  simp only [isType, subC, pure_bind, Bool.not_true, Bool.false_eq_true, if_false]
end
end Cb

set_option Elab.async false
set_option linter.all false
set_option maxRecDepth 100000
set_option maxHeartbeats 2000000
namespace Cb
open PySem PySem.Spec PyProof.Rows L2
abbrev tupObj (acc : Array Value) : Obj := { cls := .type "tuple", data := .seq acc }
abbrev cObj (pool last : Value) (st : Int) (ix : List Nat) : Obj := { cls := .type TC, dict := none, data := .fields (#[pool, rawInt st, last] ++ (ix.map fun (i : Nat) => rawInt i).toArray), slots := #[] }
section
variable {prog : Program} {w : World}
theorem ssizeC (r : Nat) (t : Tok) (hr : r ≤ 7) : Builtin.Itertools.itSsizeArg (.int (r : Int) t) = pure (r : Int) := by
  unfold Builtin.Itertools.itSsizeArg
  have e : asIndex (Value.int (r : Int) t) = pure (r : Int) := by first | rfl | kernel_rfl
  rw [e, pure_bind]
  have h1 : ((decide ((r : Int) < -(2 ^ 63 : Int)) || decide ((r : Int) ≥ 2 ^ 63)) = true) = False := by
    simp only [Bool.or_eq_true, decide_eq_true_eq, eq_iff_iff, iff_false]
    omega
  simp only [h1, if_false, pure_bind]
theorem new_c (R : Addr) (vs : List Value) (r : Nat) (t : Tok) (hr : r ≤ vs.length) (hn : vs.length ≤ 7) : MeetsIn prog w (Builtin.«itertools.combinations.__new__» ⟨[.type TC, .ref R, .int r t], []⟩)
    (fun A G s => s.heap.IsList R vs.toArray ∧ ∀ (h' : Heap), (∀ b o, s.heap.get? b = some o → h'.get? b = some o) →
      G (.ok (.ret (.ref (h'.push (tupObj vs.toArray)).objs.size))) { s with heap := (h'.push (tupObj vs.toArray)).push (cObj (.ref h'.objs.size) .none 0 (List.range r)) }) :=
  .of_wp fun A G s h => by
    obtain ⟨hR, h⟩ := h
    show wpAny _ _ (((Builtin.Itertools.itClassAndRest "combinations" _) >>= _) >>= _) _ _ _
    refine wpAny_bind (wpAny_bind (wpAny_of_eq (clsC _ _) ?_))
    try dsimp only
    refine wpAny_bind (wpAny_of_eq (bindC _ _) ?_)
    try dsimp only
    refine wpAny_bind (wpAny_of_eq (ssizeC r t (by omega)) ?_)
    refine wpAny_bind (collect_list hR ?_ (by rw [sizeLine_eq]; omega))
    rw [if_neg (by omega)]
    rw [if_neg (show ¬ (Builtin.Itertools.itTooMany (r : Int) = true) by
      unfold Builtin.Itertools.itTooMany
      simp only [decide_eq_true_eq]
      omega)]
    refine wpAny_bind (wpAny_newTuple ?_ (by rw [sizeLine_eq]; omega))
    refine wpAny_pure ?_
    dsimp only
    rw [Int.toNat_natCast, if_neg (by omega)]
    refine wpAny_bind ?_
    unfold Builtin.Itertools.itNewRecord
    rw [noDictC]
    simp only [Bool.not_false, if_true]
    have hlr : (((List.range r).map fun (i : Nat) => rawInt i)).length = r := by rw [List.length_map, List.length_range]
    refine wpAny_newObj_type ?_ (by
      show _ ≤ _
      simp only [List.size_toArray, List.length_append, List.length_cons, List.length_nil, hlr, sizeLine_eq]
      omega)
    refine wpAny_pure ⟨_, rfl, ?_⟩
    have kk : ∀ b o, s.heap.get? b = some o → ((s.heap.push (seqObj "list" #[] 0)).update s.heap.objs.size (Obj.mapSeq (· ++ vs.toArray))).get? b = some o := fun b o e => by
      rw [Heap.get?_update_other _ _ (Ne.symm (Nat.ne_of_lt (Heap.lt_size e)))]
      exact Heap.get?_push_of_some _ e
    have q := h _ kk
    rw [Heap.size_update] at q ⊢
    have e3 : ∀ hs : Nat, ([Value.ref hs, rawInt 0, Value.none] ++ (List.range r).map fun (i : Nat) => rawInt i).toArray = #[Value.ref hs, rawInt 0, Value.none] ++ ((List.range r).map fun (i : Nat) => rawInt i).toArray := fun hs => by simp
    rw [e3]
    exact q
end
section
variable {prog : Program} {w : World} {A : Around} {E : Value → Shared → Prop} {s : Shared}
/-- combinations(list, r) -/
theorem call_c {R : Addr} {vs : List Value} {r : Nat} {t : Tok} {Q : Value → Shared → Prop} (hr : r ≤ vs.length) (hn : vs.length ≤ 7) (hR : s.heap.IsList R vs.toArray)
    (h : ∀ (h' : Heap), (∀ b o, s.heap.get? b = some o → h'.get? b = some o) →
      Q (.ref (h'.push (tupObj vs.toArray)).objs.size) { s with heap := (h'.push (tupObj vs.toArray)).push (cObj (.ref h'.objs.size) .none 0 (List.range r)) }) :
    wpAny (model prog w) A (call (.type TC) [.ref R, .int r t]) Q E s := by
  refine callType_newIn calledC (by decide +kernel) (typeCallC _ _) (newCallC _ _) (fun obj => F.args_object_init_3 obj _ _) entryNewC (new_c R vs r t hr hn) ?_
  refine ⟨hR, fun h' hk => ?_⟩
  exact ⟨⟨_, Heap.get?_push_size _ rfl, rfl⟩, h h' hk⟩
/-! ### what comes next -/
theorem getC {h : Heap} {it : Addr} {pool last : Value} {st : Int} {ix : List Nat} (e : h.get? it = some (cObj pool last st ix)) {Q : List Nat → Shared → Prop} {g d tk os} (hQ : Q ix ⟨h, g, d, tk, os⟩) :
    wpAny (model prog w) A (Builtin.Itertools.itNumbersFrom (.ref it) 3) Q E ⟨h, g, d, tk, os⟩ := by
  unfold Builtin.Itertools.itNumbersFrom
  refine wpAny_bind (wpAny_load e ?_)
  dsimp only
  refine wpAny_pure ?_
  have e2 : ((#[pool, rawInt st, last] ++ (ix.map fun (i : Nat) => rawInt i).toArray).toList.drop 3).map (fun | Value.int n _ => n.toNat | _ => 0) = ix := by
    have z : (#[pool, rawInt st, last] ++ (ix.map fun (i : Nat) => rawInt i).toArray).toList.drop 3 = ix.map fun (i : Nat) => rawInt i := by simp
    rw [z, List.map_map]
    conv => rhs; rw [← List.map_id ix]
    refine List.map_congr_left fun i _ => ?_
    simp [rawInt]
  exact Eq.mpr (congrArg (fun l => Q l _) e2) hQ
end
end Cb

set_option Elab.async false
set_option linter.all false
set_option maxRecDepth 100000
set_option maxHeartbeats 2000000
namespace Cb
open PySem PySem.Spec PyProof.Rows L2
theorem set1 (a b c y : Value) (xs : List Value) : (#[a, b, c] ++ xs.toArray).setIfInBounds 1 y = #[a, y, c] ++ xs.toArray := by
  apply Array.ext'
  simp [Array.toList_setIfInBounds]
theorem set2 (a b c y : Value) (xs : List Value) : (#[a, b, c] ++ xs.toArray).setIfInBounds 2 y = #[a, b, y] ++ xs.toArray := by
  apply Array.ext'
  simp [Array.toList_setIfInBounds]
theorem ext3 (a b c : Value) (xs ys : List Value) : (#[a, b, c] ++ xs.toArray).extract 0 3 ++ ys.toArray = #[a, b, c] ++ ys.toArray := by
  apply Array.ext'
  simp
section
variable {prog : Program} {w : World} {A : Around} {E : Value → Shared → Prop} {s : Shared}
def pick1 (pool : Value) (ix : List Nat) : Sem Value := do
  let items ← Builtin.Itertools.itPoolItems pool
  newTuple (ix.map fun i => items.getD i .none)
def hand1 (it pool : Value) (ix : List Nat) : Sem Fin := do
  let result ← pick1 pool ix
  let before ← field it 2
  setField it 2 result
  letGo [before] [result]
  ret result
theorem wp_pool {T : Addr} {items : Array Value} {Q : Array Value → Shared → Prop} (hT : s.heap.get? T = some (tupObj items)) (h : Q items s) : wpAny (model prog w) A (Builtin.Itertools.itPoolItems (.ref T)) Q E s := by
  unfold Builtin.Itertools.itPoolItems
  refine wpAny_bind (wpAny_seqItems hT rfl ?_)
  exact wpAny_pure h
/-- the tuple of the pool's items at some places -/
abbrev picked (items : Array Value) (ix : List Nat) : Obj := tupObj (ix.map fun i => items.getD i .none).toArray
theorem wp_hand {it T : Addr} {last : Value} {st : Int} {ix : List Nat} {items : Array Value} {Q : Fin → Shared → Prop} (hit : s.heap.get? it = some (cObj (.ref T) last st ix)) (hT : s.heap.get? T = some (tupObj items)) (hz : ix.length ≤ 7)
    (hQ : ∀ h', h'.get? it = some (cObj (.ref T) (.ref s.heap.objs.size) st ix) → h'.get? s.heap.objs.size = some (picked items ix) → h'.objs.size = s.heap.objs.size + 1 → (∀ b o, b ≠ it → s.heap.get? b = some o → h'.get? b = some o) → Q (.done (.ret (.ref s.heap.objs.size))) { s with heap := h' }) :
    wpAny (model prog w) A (hand1 (.ref it) (.ref T) ix) Q E s := by
  unfold hand1
  refine wpAny_bind ?_
  unfold pick1
  refine wpAny_bind (wp_pool hT ?_)
  refine wpAny_newTuple ?_ (by rw [List.length_map, sizeLine_eq]; omega)
  have hl : it < s.heap.objs.size := Heap.lt_size hit
  have h1 : (s.heap.push (picked items ix)).get? it = some (cObj (.ref T) last st ix) := Heap.get?_push_of_some _ hit
  have h2 : (s.heap.push (picked items ix)).get? s.heap.objs.size = some (picked items ix) := Heap.get?_push_size _ rfl
  have hz1 : (s.heap.push (picked items ix)).objs.size = s.heap.objs.size + 1 := Heap.size_push ..
  show wpAny _ _ (field (.ref it) 2 >>= _) _ _ _
  refine wpAny_bind (wpAny_field h1 rfl (x := last) (by simp) ?_)
  refine wpAny_bind (wpAny_setField h1 rfl (by simp) ?_)
  refine wpAny_bind (wpAny_letGo ?_)
  refine wpAny_pure ?_
  refine hQ _ ?_ ?_ ?_ ?_
  · rw [Heap.get?_update_self _ h1 rfl]
    simp only [Obj.mapFields, set2]
  · rw [Heap.get?_update_other _ _ (Nat.ne_of_lt hl)]
    exact h2
  · rw [Heap.size_update, hz1]
  · intro b o hb e
    rw [Heap.get?_update_other _ _ (Ne.symm hb)]
    exact Heap.get?_push_of_some _ e
theorem wp_int {it : Addr} {pool last : Value} {st : Int} {ix : List Nat} {Q : Int → Shared → Prop} (hit : s.heap.get? it = some (cObj pool last st ix)) (h : Q st s) : wpAny (model prog w) A (Builtin.Itertools.itIntField (.ref it) 1) Q E s := by
  unfold Builtin.Itertools.itIntField
  refine wpAny_bind (wpAny_field hit rfl (x := rawInt st) (by simp) ?_)
  exact wpAny_pure h
theorem next_first {it T : Addr} {last : Value} {ix : List Nat} {items : Array Value} {Q : Option Value → Shared → Prop} (hit : s.heap.get? it = some (cObj (.ref T) last 0 ix)) (hT : s.heap.get? T = some (tupObj items)) (hne : T ≠ it) (hz : ix.length ≤ 7)
    (hQ : ∀ h', h'.get? it = some (cObj (.ref T) (.ref s.heap.objs.size) 1 ix) → h'.get? s.heap.objs.size = some (picked items ix) → h'.objs.size = s.heap.objs.size + 1 → (∀ b o, b ≠ it → s.heap.get? b = some o → h'.get? b = some o) → Q (some (.ref s.heap.objs.size)) { s with heap := h' }) :
    wpAny (model prog w) A (pyNext (.ref it)) Q E s := by
  have hTy : s.TypeIs (.ref it) TC := ⟨_, hit, rfl⟩
  obtain ⟨hp, g, d, tk, os⟩ := s
  unfold pyNext
  refine wpAny_bind (wpAny_attempt (wpAny_callSpecial?_slot (name := Str.ofString "__next__") hTy slotNextC
    (wpAny_call_entry slotNextC hTy entryNextC ?_ (argsNextC _))))
  show wpAny _ _ (field (.ref it) 0 >>= _) _ _ _
  refine wpAny_bind (wpAny_field hit rfl (x := .ref T) (by simp) ?_)
  show wpAny _ _ (Builtin.Itertools.itNumbersFrom (.ref it) 3 >>= _) _ _ _
  refine wpAny_bind (getC hit ?_)
  show wpAny _ _ (Builtin.Itertools.itIntField (.ref it) 1 >>= _) _ _ _
  refine wpAny_bind (wp_int hit ?_)
  show wpAny _ _ (setField (.ref it) 1 (rawInt 1) >>= fun _ => hand1 (.ref it) (.ref T) ix) _ _ _
  refine wpAny_bind (wpAny_setField hit rfl (by simp) ?_)
  have h1 : (hp.update it (Obj.mapFields fun x => x.setIfInBounds 1 (rawInt 1))).get? it = some (cObj (.ref T) last 1 ix) := by
    rw [Heap.get?_update_self _ hit rfl]
    simp only [Obj.mapFields, set1]
  have h2 : (hp.update it (Obj.mapFields fun x => x.setIfInBounds 1 (rawInt 1))).get? T = some (tupObj items) := by
    rw [Heap.get?_update_other _ _ (Ne.symm hne)]
    exact hT
  have hz1 : (hp.update it (Obj.mapFields fun x => x.setIfInBounds 1 (rawInt 1))).objs.size = hp.objs.size := Heap.size_update ..
  refine wp_hand h1 h2 hz fun h' a1 a2 a3 a4 => ⟨_, rfl, ?_⟩
  dsimp only at a1 a2 a3 a4 ⊢
  rw [hz1] at a1 a2 a3 ⊢
  refine wpAny_pure (hQ h' a1 a2 a3 fun b o hb e => a4 b o hb ?_)
  rw [Heap.get?_update_other _ _ (Ne.symm hb)]
  exact e
theorem next_more {it T : Addr} {last : Value} {ix iy : List Nat} {items : Array Value} {Q : Option Value → Shared → Prop} (hit : s.heap.get? it = some (cObj (.ref T) last 1 ix)) (hT : s.heap.get? T = some (tupObj items)) (hne : T ≠ it) (hz : iy.length ≤ 7)
    (hn : nxt items.size ix = some iy)
    (hQ : ∀ h', h'.get? it = some (cObj (.ref T) (.ref s.heap.objs.size) 1 iy) → h'.get? s.heap.objs.size = some (picked items iy) → h'.objs.size = s.heap.objs.size + 1 → (∀ b o, b ≠ it → s.heap.get? b = some o → h'.get? b = some o) → Q (some (.ref s.heap.objs.size)) { s with heap := h' }) :
    wpAny (model prog w) A (pyNext (.ref it)) Q E s := by
  have hTy : s.TypeIs (.ref it) TC := ⟨_, hit, rfl⟩
  obtain ⟨hp, g, d, tk, os⟩ := s
  unfold pyNext
  refine wpAny_bind (wpAny_attempt (wpAny_callSpecial?_slot (name := Str.ofString "__next__") hTy slotNextC
    (wpAny_call_entry slotNextC hTy entryNextC ?_ (argsNextC _))))
  show wpAny _ _ (field (.ref it) 0 >>= _) _ _ _
  refine wpAny_bind (wpAny_field hit rfl (x := .ref T) (by simp) ?_)
  show wpAny _ _ (Builtin.Itertools.itNumbersFrom (.ref it) 3 >>= _) _ _ _
  refine wpAny_bind (getC hit ?_)
  show wpAny _ _ (Builtin.Itertools.itIntField (.ref it) 1 >>= _) _ _ _
  refine wpAny_bind (wp_int hit ?_)
  show wpAny _ _ (Builtin.Itertools.itPoolItems (.ref T) >>= _) _ _ _
  refine wpAny_bind (wp_pool hT ?_)
  show wpAny _ _ (match nxt items.size ix with | some next => (Builtin.Itertools.itSetNumbersFrom (.ref it) 3 next >>= fun _ => hand1 (.ref it) (.ref T) next) | none => _) _ _ _
  rw [hn]
  dsimp only
  refine wpAny_bind ?_
  unfold Builtin.Itertools.itSetNumbersFrom
  refine wpAny_updateFields hit rfl ?_ (by
    have z := ext3 (.ref T) (rawInt 1) last (ix.map fun (i : Nat) => rawInt i) (iy.map fun (i : Nat) => rawInt i)
    rw [z]
    simp only [Array.size_append, List.size_toArray, List.length_map, sizeLine_eq]
    simp
    omega)
  have h1 : (hp.update it (Obj.mapFields fun fs => fs.extract 0 3 ++ (iy.map fun (n : Nat) => rawInt n).toArray)).get? it = some (cObj (.ref T) last 1 iy) := by
    rw [Heap.get?_update_self _ hit rfl]
    simp only [Obj.mapFields, ext3]
  have h2 : (hp.update it (Obj.mapFields fun fs => fs.extract 0 3 ++ (iy.map fun (n : Nat) => rawInt n).toArray)).get? T = some (tupObj items) := by
    rw [Heap.get?_update_other _ _ (Ne.symm hne)]
    exact hT
  have hz1 : (hp.update it (Obj.mapFields fun fs => fs.extract 0 3 ++ (iy.map fun (n : Nat) => rawInt n).toArray)).objs.size = hp.objs.size := Heap.size_update ..
  refine wp_hand h1 h2 hz fun h' a1 a2 a3 a4 => ⟨_, rfl, ?_⟩
  dsimp only at a1 a2 a3 a4 ⊢
  rw [hz1] at a1 a2 a3 ⊢
  refine wpAny_pure (hQ h' a1 a2 a3 fun b o hb e => a4 b o hb ?_)
  rw [Heap.get?_update_other _ _ (Ne.symm hb)]
  exact e
theorem next_end {it T : Addr} {last : Value} {ix : List Nat} {items : Array Value} {Q : Option Value → Shared → Prop} (hh : A.handled = none) (hit : s.heap.get? it = some (cObj (.ref T) last 1 ix)) (hT : s.heap.get? T = some (tupObj items))
    (hn : nxt items.size ix = none) (hQ : ∀ h', Heap.ExtBut it s.heap h' → Q none { s with heap := h' }) :
    wpAny (model prog w) A (pyNext (.ref it)) Q E s := by
  have hTy : s.TypeIs (.ref it) TC := ⟨_, hit, rfl⟩
  obtain ⟨hp, g, d, tk, os⟩ := s
  unfold pyNext
  refine wpAny_bind (wpAny_attempt (wpAny_callSpecial?_slot (name := Str.ofString "__next__") hTy slotNextC
    (wpAny_call_entry slotNextC hTy entryNextC ?_ (argsNextC _))))
  show wpAny _ _ (field (.ref it) 0 >>= _) _ _ _
  refine wpAny_bind (wpAny_field hit rfl (x := .ref T) (by simp) ?_)
  show wpAny _ _ (Builtin.Itertools.itNumbersFrom (.ref it) 3 >>= _) _ _ _
  refine wpAny_bind (getC hit ?_)
  show wpAny _ _ (Builtin.Itertools.itIntField (.ref it) 1 >>= _) _ _ _
  refine wpAny_bind (wp_int hit ?_)
  show wpAny _ _ (Builtin.Itertools.itPoolItems (.ref T) >>= _) _ _ _
  refine wpAny_bind (wp_pool hT ?_)
  show wpAny _ _ (match nxt items.size ix with | some next => (Builtin.Itertools.itSetNumbersFrom (.ref it) 3 next >>= fun _ => hand1 (.ref it) (.ref T) next) | none => (setField (.ref it) 1 (rawInt 2) >>= fun _ => Builtin.Itertools.itStop)) _ _ _
  rw [hn]
  dsimp only
  refine wpAny_bind (wpAny_setField hit rfl (by simp) ?_)
  show wpAny _ _ (newExc (.type "StopIteration") [] >>= _) _ _ _
  refine wpAny_bind ?_
  simp only [newExc, newTuple]
  refine wpAny_bind (wpAny_newObj_type ?_ (by size_fits))
  refine wpAny_bind (m := firstArgMember _ _) (wpAny_of_eq (a := Value.none) (by first | rfl | (simp only [firstArgMember]; rfl)) ?_)
  refine wpAny_newObj_type ?_ (by size_fits)
  simp only [raiseNew]
  refine wpAny_bind (wpAny_handled ?_)
  rw [show A.in1.handled = none from hh]
  refine wpAny_bind (wpAny_pure (wpAny_throw ?_))
  refine wpAny_bind (wpAny_isInstance (T := "StopIteration") (b := true) ⟨_, Heap.get?_push_size _ rfl, rfl⟩ isSubtype_stop ?_)
  exact wpAny_pure (hQ _ (((Heap.SameBut.update ..).extBut.push _).push _))
theorem iter_c {it : Addr} {pool last : Value} {st : Int} {ix : List Nat} {Q : Value → Shared → Prop} (hit : s.heap.get? it = some (cObj pool last st ix)) (h : Q (.ref it) s) : wpAny (model prog w) A (pyIter (.ref it)) Q E s := by
  have hTy : s.TypeIs (.ref it) TC := ⟨_, hit, rfl⟩
  refine wpAny_pyIter_slot hTy slotIterC (wpAny_call_entry slotIterC hTy entryIterC ?_ (argsIterC _))
  show wpAny _ _ (ret (.ref it)) _ _ s
  exact wpAny_pure ⟨_, rfl, TC, _, hTy, slotNextC.lookup, h⟩
end
end Cb

set_option Elab.async false
set_option linter.all false
set_option maxRecDepth 100000
set_option maxHeartbeats 2000000
namespace Cb
open PySem PySem.Spec PyProof.Rows L2
/-- what rows of places come behind one -/
inductive Seq (n : Nat) : List Nat → List (List Nat) → Prop
  | stop {ix : List Nat} : nxt n ix = none → Seq n ix []
  | step {ix iy : List Nat} {rest : List (List Nat)} : nxt n ix = some iy → Seq n iy rest → Seq n ix (iy :: rest)
/-- how the object stands: these rows are to come -/
def St (h : Heap) (it T : Addr) (n : Nat) (rows : List (List Nat)) : Prop :=
  ∃ last ix, (h.get? it = some (cObj (.ref T) last 0 ix) ∧ ∃ rest, rows = ix :: rest ∧ Seq n ix rest) ∨ (h.get? it = some (cObj (.ref T) last 1 ix) ∧ Seq n ix rows)
theorem St.typed {s : Shared} {it T : Addr} {n : Nat} {rows : List (List Nat)} (x : St s.heap it T n rows) : s.TypeIs (.ref it) TC := by
  obtain ⟨last, ix, ⟨e, _⟩ | ⟨e, _⟩⟩ := x
  · exact ⟨_, e, rfl⟩
  · exact ⟨_, e, rfl⟩
theorem St.at' {h h' : Heap} {it T : Addr} {n : Nat} {rows : List (List Nat)} (x : St h it T n rows) (k : ∀ o, h.get? it = some o → h'.get? it = some o) : St h' it T n rows := by
  obtain ⟨last, ix, ⟨e, r⟩ | ⟨e, r⟩⟩ := x
  · exact ⟨last, ix, .inl ⟨k _ e, r⟩⟩
  · exact ⟨last, ix, .inr ⟨k _ e, r⟩⟩
theorem St.lt {h : Heap} {it T : Addr} {n : Nat} {rows : List (List Nat)} (x : St h it T n rows) : it < h.objs.size := by
  obtain ⟨last, ix, ⟨e, _⟩ | ⟨e, _⟩⟩ := x
  · exact Heap.lt_size e
  · exact Heap.lt_size e
section
variable {prog : Program} {w : World} {A : Around} {E : Value → Shared → Prop} {s : Shared}
theorem st_next {it T : Addr} {row : List Nat} {rows : List (List Nat)} {items : Array Value} {Q : Option Value → Shared → Prop} (x : St s.heap it T items.size (row :: rows)) (hT : s.heap.get? T = some (tupObj items)) (hne : T ≠ it) (hz : row.length ≤ 7)
    (hQ : ∀ h', St h' it T items.size rows → h'.get? s.heap.objs.size = some (picked items row) → h'.objs.size = s.heap.objs.size + 1 → (∀ b o, b ≠ it → s.heap.get? b = some o → h'.get? b = some o) → Q (some (.ref s.heap.objs.size)) { s with heap := h' }) :
    wpAny (model prog w) A (pyNext (.ref it)) Q E s := by
  obtain ⟨last, ix, ⟨e, rest, er, sq⟩ | ⟨e, sq⟩⟩ := x
  · cases er
    exact next_first e hT hne hz fun h' a1 a2 a3 a4 => hQ h' ⟨_, _, .inr ⟨a1, sq⟩⟩ a2 a3 a4
  · cases sq with
    | step hn sq => exact next_more e hT hne hz hn fun h' a1 a2 a3 a4 => hQ h' ⟨_, _, .inr ⟨a1, sq⟩⟩ a2 a3 a4
theorem st_end {it T : Addr} {items : Array Value} {Q : Option Value → Shared → Prop} (hh : A.handled = none) (x : St s.heap it T items.size []) (hT : s.heap.get? T = some (tupObj items))
    (hQ : ∀ h', Heap.ExtBut it s.heap h' → Q none { s with heap := h' }) : wpAny (model prog w) A (pyNext (.ref it)) Q E s := by
  obtain ⟨last, ix, ⟨e, rest, er, sq⟩ | ⟨e, sq⟩⟩ := x
  · cases er
  · cases sq with
    | stop hn => exact next_end hh e hT hn hQ
theorem st_iter {it T : Addr} {n : Nat} {rows : List (List Nat)} {Q : Value → Shared → Prop} (x : St s.heap it T n rows) (h : Q (.ref it) s) : wpAny (model prog w) A (pyIter (.ref it)) Q E s := by
  obtain ⟨last, ix, ⟨e, _⟩ | ⟨e, _⟩⟩ := x
  · exact iter_c e h
  · exact iter_c e h
end
/-- the tuples made so far -/
structure Made (items : Array Value) (lo : Addr) (h : Heap) (as : List Addr) (rows : List (List Nat)) : Prop where
  rise : as.Pairwise (· < ·)
  above : ∀ a ∈ as, lo ≤ a
  pairs : Paired (fun (a : Addr) (row : List Nat) => h.get? a = some (picked items row)) as rows
theorem paired_snoc {α β : Type} {F : α → β → Prop} {a : α} {b : β} (h : F a b) : ∀ {as : List α} {bs : List β}, Paired F as bs → Paired F (as ++ [a]) (bs ++ [b])
  | _, _, .nil => .cons h .nil
  | _, _, .cons r t => .cons r (paired_snoc h t)
theorem paired_of_mem {α β : Type} {F G : α → β → Prop} : ∀ {as : List α} {bs : List β}, Paired F as bs → (∀ a ∈ as, ∀ b, F a b → G a b) → Paired G as bs
  | _, _, .nil, _ => .nil
  | _, _, .cons r t, f => .cons (f _ List.mem_cons_self _ r) (paired_of_mem t fun a ha => f a (List.mem_cons_of_mem _ ha))
theorem Made.there {items : Array Value} {lo : Addr} {h : Heap} {as : List Addr} {rows : List (List Nat)} (m : Made items lo h as rows) : ∀ a ∈ as, a < h.objs.size := fun a ha => by
  obtain ⟨j, y, _, _, e⟩ := LiI.paired_ix m.pairs ha
  exact Heap.lt_size e
theorem Made.keep {items : Array Value} {lo : Addr} {h h' : Heap} {as : List Addr} {rows : List (List Nat)} (m : Made items lo h as rows) (k : ∀ a ∈ as, ∀ o, h.get? a = some o → h'.get? a = some o) : Made items lo h' as rows :=
  ⟨m.rise, m.above, paired_of_mem m.pairs fun a ha b e => k a ha _ e⟩
abbrev lstObj (acc : Array Value) (c : Nat) : Obj := { cls := .type "list", dict := none, data := .seq acc c, slots := #[] }
section
variable {prog : Program} {w : World} {A : Around} {s : Shared} {G : Result → Shared → Prop} {items : Array Value}
theorem loop_c {S I T : Addr} {lo : Addr} (hh : A.handled = none) (hSI : S ≠ I) (hTS : T ≠ S) (hTI : T ≠ I) (hlo : S < lo) (hloI : I < lo) (res : Value) {h₁ : Heap} {all : List (List Nat)} (hall : all.length ≤ sizeLine) (hr : ∀ row ∈ all, row.length ≤ 7)
    (hG : ∀ h' tk acc c as, (∀ b o, b ≠ S → b ≠ I → h₁.get? b = some o → h'.get? b = some o) → h'.get? S = some (lstObj acc c) → Made items lo h' as all → acc.toList = as.map Value.ref → G (.ok (.ret res)) { s with heap := h', toks := tk }) :
    ∀ (rows done : List (List Nat)) (h : Heap) (tk c : Nat) (acc : Array Value) (as : List Addr), all = done ++ rows → St h I T items.size rows → h.get? T = some (tupObj items) → (∀ b o, b ≠ S → b ≠ I → h₁.get? b = some o → h.get? b = some o) →
      h.get? S = some (lstObj acc c) → acc.toList = as.map Value.ref → Made items lo h as done → lo ≤ h.objs.size →
      codeAny (model prog w) A (.builtin "list.extend.loop" ⟨[.ref S, .ref I, res], []⟩) G { s with heap := h, toks := tk } := by
  intro rows
  induction rows with
  | nil =>
    intro done h tk c acc as ha x hT hk hS hacc m hl
    rw [List.append_nil] at ha
    refine codeAny_builtin F.entry_extend_loop ?_
    rw [Around.under_plainId F.plain_extend_loop _]
    show wpAny _ A.in1 (pyNext (.ref I) >>= _) _ _ _
    refine wpAny_bind (st_end (s := { s with heap := h, toks := tk }) (A := A.in1) hh x hT fun h' he => ?_)
    refine wpAny_pure (hG h' tk acc c as (fun b o h1 h2 e => he b o h2 (hk b o h1 h2 e)) (he S _ hSI hS) ?_ hacc)
    rw [ha]
    exact m.keep fun a hm o e => he a o (Nat.ne_of_gt (Nat.lt_of_lt_of_le hloI (m.above a hm))) e
  | cons row rows ih =>
    intro done h tk c acc as ha x hT hk hS hacc m hl
    have hrow : row.length ≤ 7 := hr row (by rw [ha]; simp)
    have hlen : acc.size = done.length := by
      rw [← Array.length_toList, hacc, List.length_map]
      exact Paired.length m.pairs
    have hlt : done.length < sizeLine := by
      have z : all.length = done.length + (rows.length + 1) := by rw [ha, List.length_append, List.length_cons]
      omega
    refine codeAny_builtin F.entry_extend_loop ?_
    rw [Around.under_plainId F.plain_extend_loop _]
    show wpAny _ A.in1 (pyNext (.ref I) >>= _) _ _ _
    refine wpAny_bind (st_next (s := { s with heap := h, toks := tk }) x hT hTI hrow fun h' x' ht hz hkp => ?_)
    dsimp only at ht hz hkp ⊢
    have hS' := hkp S _ hSI hS
    have up : ∀ b o, b ≠ S → h'.get? b = some o → (h'.update S (Obj.mapSeq (·.push (Value.ref h.objs.size)))).get? b = some o := fun b o hb e => (Heap.get?_update_other _ _ (Ne.symm hb)).trans e
    have hSl : S < h.objs.size := Heap.lt_size hS
    have hnS : h.objs.size ≠ S := Nat.ne_of_gt hSl
    show wpAny _ A.in1 (updateSeq S (·.push (Value.ref h.objs.size)) >>= _) _ _ _
    refine wpAny_bind ?_
    refine wpAny_updateSeq hS' rfl (wpAny_pure ⟨plainId_quiet F.plain_extend_loop _, ih (done ++ [row]) _ tk _ (acc.push (Value.ref h.objs.size)) (as ++ [h.objs.size]) (by rw [ha, List.append_assoc]; rfl) (x'.at' fun o e => up I o (Ne.symm hSI) e)
      (up T _ hTS (hkp T _ hTI hT)) (fun b o h1 h2 e => up b o h1 (hkp b o h2 (hk b o h1 h2 e))) (Heap.get?_update_self _ hS' rfl) (by rw [Array.toList_push, hacc, List.map_append]; rfl) ⟨?_, ?_, ?_⟩ ?_⟩) (by omega) (by show (acc.push (Value.ref h.objs.size)).size ≤ sizeLine + 1; rw [Array.size_push]; omega)
    · refine List.pairwise_append.mpr ⟨m.rise, List.pairwise_singleton _ _, fun a ha' b hb => ?_⟩
      rw [List.mem_singleton.mp hb]
      exact m.there a ha'
    · intro a ha'
      rcases List.mem_append.mp ha' with z | z
      · exact m.above a z
      · rw [List.mem_singleton.mp z]
        exact hl
    · refine paired_snoc (F := fun (a : Addr) (row : List Nat) => (h'.update S (Obj.mapSeq (·.push (Value.ref h.objs.size)))).get? a = some (picked items row)) (up _ _ hnS ht) (paired_of_mem (F := fun (a : Addr) (row : List Nat) => h.get? a = some (picked items row)) m.pairs fun a hm b e => ?_)
      have hab := m.above a hm
      exact up a _ (Nat.ne_of_gt (Nat.lt_of_lt_of_le hlo hab)) (hkp a _ (Nat.ne_of_gt (Nat.lt_of_lt_of_le hloI hab)) e)
    · rw [Heap.size_update, hz]
      exact Nat.le_succ_of_le hl
end
section
variable {prog : Program} {w : World} {A : Around} {s : Shared} {G : Result → Shared → Prop} {items : Array Value}
theorem extend_c {S I T : Addr} (hh : A.handled = none) (hSI : S ≠ I) (hTS : T ≠ S) (hTI : T ≠ I) (res : Value) (c₀ : Nat) {all : List (List Nat)} (hall : all.length ≤ sizeLine) (hr : ∀ row ∈ all, row.length ≤ 7)
    (x : St s.heap I T items.size all) (hT : s.heap.get? T = some (tupObj items)) (hS : s.heap.get? S = some (lstObj #[] c₀))
    (hG : ∀ h' tk acc c as, (∀ b o, b ≠ S → b ≠ I → s.heap.get? b = some o → h'.get? b = some o) → h'.get? S = some (lstObj acc c) → Made items s.heap.objs.size h' as all → acc.toList = as.map Value.ref → G (.ok (.ret res)) { s with heap := h', toks := tk }) :
    wpAny (model prog w) A.in1 (Builtin.List.listExtendWith (.ref S) (.ref I) res)
      (fun fin s' => match fin with | .done f => G (.ok f) s' | .again c' => c'.quiet = true ∧ codeAny (model prog w) A c' G s') (fun e s' => G (.error e) s') s := by
  unfold Builtin.List.listExtendWith
  refine wpAny_bind (wpAny_typeOf x.typed ?_)
  have h1 : Builtin.List.listSameRef (.ref S) (.ref I) = false := by simp [Builtin.List.listSameRef, hSI]
  have h2 : (Value.type TC == Value.type "list") = false := by decide
  have h3 : (Value.type TC == Value.type "tuple") = false := by decide
  simp only [h1, h2, h3, Bool.or_false, Bool.false_eq_true, if_false]
  refine wpAny_bind (st_iter x ?_)
  refine wpAny_bind (wpAny_holding ?_)
  unfold Builtin.List.listLengthHint
  refine wpAny_bind (wpAny_specialOf x.typed noLenC ?_)
  show wpAny _ A.in1 (specialOf (Value.ref I) (Str.ofString "__length_hint__") >>= _) _ _ _
  refine wpAny_bind (wpAny_specialOf x.typed noHintC ?_)
  refine wpAny_pure ?_
  show wpAny _ A.in1 (rule "list.extend.makes-room" >>= fun _ => Builtin.List.listTouch (.ref S) >>= fun _ => again (.builtin "list.extend.loop" ⟨[.ref S, .ref I, res], []⟩)) _ _ _
  refine wpAny_bind (wpAny_rule ?_)
  refine wpAny_bind ?_
  show wpAny _ A.in1 (updateSeq S (·.push .none) >>= fun _ => updateSeq S (·.pop)) _ _ _
  refine wpAny_bind (wpAny_updateSeq hS rfl ?_)
  have hS₂ := Heap.get?_update_self (Obj.mapSeq (·.push Value.none)) hS rfl
  refine wpAny_updateSeq (hz := by seq_fits) hS₂ rfl ?_
  have hS₃ := Heap.get?_update_self (Obj.mapSeq (·.pop)) hS₂ rfl
  have oth : ∀ b o, b ≠ S → s.heap.get? b = some o → ((s.heap.update S (Obj.mapSeq (·.push Value.none))).update S (Obj.mapSeq (·.pop))).get? b = some o :=
    fun b o hb e => (Heap.get?_update_other _ _ (Ne.symm hb)).trans ((Heap.get?_update_other _ _ (Ne.symm hb)).trans e)
  refine wpAny_pure ⟨plainId_quiet F.plain_extend_loop _, loop_c (lo := s.heap.objs.size) hh hSI hTS hTI (Heap.lt_size hS) x.lt res hall hr (h₁ := s.heap) hG all [] _ s.toks _ #[] [] rfl (x.at' fun o e => oth I o (Ne.symm hSI) e) (oth T _ hTS hT) (fun b o h1 _ e => oth b o h1 e) hS₃ rfl ⟨List.Pairwise.nil, (fun a ha => by cases ha), Paired.nil⟩ ?_⟩
  rw [Heap.size_update, Heap.size_update]
  exact Nat.le_refl _
end
section
variable {prog : Program} {w : World} {A : Around} {E : Value → Shared → Prop} {s : Shared} {items : Array Value}
/-- list(it) -/
theorem list_c {I T : Addr} {all : List (List Nat)} {Q : Value → Shared → Prop} (hh : A.handled = none) (hTI : T ≠ I) (hall : all.length ≤ sizeLine) (hr : ∀ row ∈ all, row.length ≤ 7)
    (x : St s.heap I T items.size all) (hT : s.heap.get? T = some (tupObj items))
    (hQ : ∀ h' tk acc c as, (∀ b o, b ≠ I → s.heap.get? b = some o → h'.get? b = some o) → h'.get? s.heap.objs.size = some (lstObj acc c) → Made items (s.heap.objs.size + 1) h' as all → acc.toList = as.map Value.ref → Q (.ref s.heap.objs.size) { s with heap := h', toks := tk }) :
    wpAny (model prog w) A (call (.type "list") [.ref I]) Q E s := by
  refine callType_codes (Q₁ := fun obj s₁ => obj = .ref s.heap.objs.size ∧ s₁ = { s with heap := s.heap.push { cls := .type "list", data := .seq #[] } }) F.called_list (F.typeCall_list_1 _) F.entry_list_init
    (code_list_new _ ⟨rfl, rfl⟩) fun obj s₁ h₁ => ?_
  obtain ⟨rfl, rfl⟩ := h₁
  have hS : (s.heap.push { cls := .type "list", data := .seq #[] }).get? s.heap.objs.size = some { cls := .type "list", data := .seq #[] } := Heap.get?_push_size _ rfl
  have hz : (s.heap.push { cls := .type "list", data := .seq #[] }).objs.size = s.heap.objs.size + 1 := Heap.size_push ..
  have nI : s.heap.objs.size ≠ I := Nat.ne_of_gt x.lt
  have nT : T ≠ s.heap.objs.size := Nat.ne_of_lt (Heap.lt_size hT)
  refine ⟨⟨_, hS, rfl⟩, F.args_list_init_2 _ _, ?_⟩
  show wpAny _ A.in1.in1 (do let old ← Builtin.List.listItems (.ref s.heap.objs.size); Builtin.List.listUpdate (.ref s.heap.objs.size) (fun _ => #[]); letGo old.toList.reverse; Builtin.List.listExtendWith (.ref s.heap.objs.size) (.ref I) .none) _ _ _
  refine wpAny_bind ?_
  unfold Builtin.List.listItems
  refine wpAny_bind (wpAny_seqItems hS rfl (wpAny_pure ?_))
  show wpAny _ A.in1.in1 (updateSeq s.heap.objs.size (fun _ => #[]) >>= fun _ => letGo (#[] : Array Value).toList.reverse >>= fun _ => Builtin.List.listExtendWith (.ref s.heap.objs.size) (.ref I) .none) _ _ _
  refine wpAny_bind (wpAny_updateSeq hS rfl ?_)
  have hS₂ := Heap.get?_update_self (Obj.mapSeq (fun _ => (#[] : Array Value))) hS rfl
  have oth : ∀ b o, b ≠ s.heap.objs.size → s.heap.get? b = some o → ((s.heap.push { cls := .type "list", data := .seq #[] }).update s.heap.objs.size (Obj.mapSeq (fun _ => (#[] : Array Value)))).get? b = some o :=
    fun b o hb e => (Heap.get?_update_other _ _ (Ne.symm hb)).trans (Heap.get?_push_of_some _ e)
  have hz2 : ((s.heap.push { cls := .type "list", data := .seq #[] }).update s.heap.objs.size (Obj.mapSeq (fun _ => (#[] : Array Value)))).objs.size = s.heap.objs.size + 1 := by rw [Heap.size_update, hz]
  refine wpAny_bind (wpAny_letGo ?_)
  refine extend_c (A := A.in1) (s := { s with heap := (s.heap.push { cls := .type "list", data := .seq #[] }).update s.heap.objs.size (Obj.mapSeq (fun _ => (#[] : Array Value))) }) hh nI nT hTI .none _ hall hr (x.at' fun o e => oth I o (Ne.symm nI) e) (oth T _ nT hT) hS₂ fun h' tk acc c as a1 a2 a3 a4 => ⟨rfl, ?_⟩
  rw [show ({ s with heap := (s.heap.push { cls := .type "list", data := .seq #[] }).update s.heap.objs.size (Obj.mapSeq (fun _ => (#[] : Array Value))) } : Shared).heap.objs.size = s.heap.objs.size + 1 from hz2] at a3
  exact hQ h' tk acc c as (fun b o hb e => a1 b o (Nat.ne_of_lt (Heap.lt_size e)) hb (oth b o (Nat.ne_of_lt (Heap.lt_size e)) e)) a2 a3 a4
end
end Cb

set_option Elab.async false
set_option linter.all false
set_option maxRecDepth 100000
set_option maxHeartbeats 2000000
namespace Cb
open PySem PySem.Spec PyProof.Rows L2
/-- the rows of r places of a pool, ascending -/
def combsOf : List Nat → Nat → List (List Nat)
  | _, 0 => [[]]
  | [], _ + 1 => []
  | x :: xs, r + 1 => (combsOf xs r).map (x :: ·) ++ combsOf xs (r + 1)
def combs (n r : Nat) : List (List Nat) := combsOf (List.range n) r
def seqB (n : Nat) : List Nat → List (List Nat) → Bool
  | ix, [] => nxt n ix == none
  | ix, iy :: rest => nxt n ix == some iy && seqB n iy rest
theorem seq_of : ∀ {n : Nat} {rest : List (List Nat)} {ix : List Nat}, seqB n ix rest = true → Seq n ix rest
  | n, [], ix, h => .stop (by simpa [seqB] using h)
  | n, iy :: rest, ix, h => by
    unfold seqB at h
    rw [Bool.and_eq_true] at h
    exact .step (by simpa using h.1) (seq_of h.2)
def combsB (n r : Nat) : Bool := match combs n r with
  | [] => false
  | ix :: rest => ix == List.range r && seqB n ix rest && decide ((ix :: rest).length ≤ 128) && (ix :: rest).all fun l => decide (l.length ≤ 7)
theorem combs_all : ((List.range 8).all fun n => (List.range (n + 1)).all fun r => combsB n r) = true := by decide +kernel
theorem combs_ok {n r : Nat} (hr : r ≤ n) (hn : n ≤ 7) : ∃ rest, combs n r = List.range r :: rest ∧ Seq n (List.range r) rest ∧ (combs n r).length ≤ 128 ∧ ∀ l ∈ combs n r, l.length ≤ 7 := by
  have h1 := List.all_eq_true.mp combs_all n (List.mem_range.mpr (by omega))
  have h2 := List.all_eq_true.mp h1 r (List.mem_range.mpr (by omega))
  unfold combsB at h2
  cases e : combs n r with
  | nil => rw [e] at h2; cases h2
  | cons ix rest =>
    rw [e] at h2
    dsimp only at h2
    rw [Bool.and_eq_true, Bool.and_eq_true, Bool.and_eq_true] at h2
    obtain ⟨⟨⟨a1, a2⟩, a3⟩, a4⟩ := h2
    have e1 : ix = List.range r := by simpa using a1
    subst e1
    exact ⟨rest, rfl, seq_of a2, of_decide_eq_true a3, fun l hl => of_decide_eq_true (List.all_eq_true.mp a4 l hl)⟩
theorem combsOf_sub : ∀ {pool : List Nat} {r : Nat} {l : List Nat}, l ∈ combsOf pool r ↔ l.Sublist pool ∧ l.length = r
  | pool, 0, l => by
    have e : combsOf pool 0 = [[]] := by cases pool <;> rfl
    rw [e]
    constructor
    · intro h
      rw [List.mem_singleton.mp h]
      exact ⟨List.nil_sublist _, rfl⟩
    · intro h
      rw [List.eq_nil_of_length_eq_zero h.2]
      exact List.mem_singleton.mpr rfl
  | [], r + 1, l => by
    show l ∈ ([] : List (List Nat)) ↔ _
    constructor
    · intro h; cases h
    · intro h
      have := List.sublist_nil.mp h.1
      subst this
      cases h.2
  | x :: xs, r + 1, l => by
    show l ∈ (combsOf xs r).map (x :: ·) ++ combsOf xs (r + 1) ↔ _
    rw [List.mem_append, List.mem_map, combsOf_sub (pool := xs) (r := r + 1)]
    constructor
    · rintro (⟨m, hm, rfl⟩ | h)
      · have q := combsOf_sub.mp hm
        exact ⟨q.1.cons_cons x, by rw [List.length_cons, q.2]⟩
      · exact ⟨h.1.cons x, h.2⟩
    · rintro ⟨h, hl⟩
      cases h with
      | cons _ h => exact .inr ⟨h, hl⟩
      | cons_cons _ h => exact .inl ⟨_, combsOf_sub.mpr ⟨h, by simpa using hl⟩, rfl⟩
/-- a lot as values -/
abbrev lotV (l : List Nat) : List V := l.map fun (i : Nat) => V.int i
/-- rows of places of a pool, by what stands there -/
theorem combsOf_map (f : Nat → Nat) : ∀ (pool : List Nat) (r : Nat), combsOf (pool.map f) r = (combsOf pool r).map (·.map f)
  | pool, 0 => by
    cases pool <;> rfl
  | [], r + 1 => rfl
  | x :: xs, r + 1 => by
    show (combsOf (xs.map f) r).map (f x :: ·) ++ combsOf (xs.map f) (r + 1) = ((combsOf xs r).map (x :: ·) ++ combsOf xs (r + 1)).map (·.map f)
    rw [combsOf_map f xs r, combsOf_map f xs (r + 1), List.map_append, List.map_map, List.map_map]
    rfl
theorem pool_map (pool : List Nat) : (List.range pool.length).map (pool.getD · 0) = pool := by
  apply List.ext_getElem?
  intro i
  rw [List.getElem?_map]
  by_cases h : i < pool.length
  · rw [List.getElem?_range h, List.getElem?_eq_getElem h]
    simp [List.getD_eq_getElem?_getD, List.getElem?_eq_getElem h]
  · rw [List.getElem?_eq_none (by rw [List.length_range]; omega), List.getElem?_eq_none (by omega)]
    rfl
theorem combsOf_pool (pool : List Nat) (r : Nat) : combsOf pool r = (combs pool.length r).map (·.map (pool.getD · 0)) := by
  unfold combs
  rw [← combsOf_map, pool_map]
theorem paired_map_right {α β γ : Type} {F : α → γ → Prop} (f : β → γ) : ∀ {as : List α} {bs : List β}, Paired (fun a b => F a (f b)) as bs → Paired F as (bs.map f)
  | _, _, .nil => .nil
  | _, _, .cons r t => .cons r (paired_map_right f t)
theorem picked_vals {pool : List Nat} {acc : List Value} (hi : Vals (lotV pool) acc) : ∀ {l : List Nat}, (∀ i ∈ l, i < pool.length) → Vals (lotV (l.map (pool.getD · 0))) (l.map fun i => acc.toArray.getD i .none)
  | [], _ => .nil
  | i :: l, h => by
    have hip : i < pool.length := h i List.mem_cons_self
    refine Paired.cons ?_ (picked_vals hi fun j hj => h j (List.mem_cons_of_mem _ hj))
    have e1 : (lotV pool)[i]? = some (.int (pool[i] : Nat)) := by rw [List.getElem?_map, List.getElem?_eq_getElem hip]; rfl
    obtain ⟨v, hv, rv⟩ := LiI.paired_get hi e1
    have e2 : acc.toArray.getD i .none = v := by
      rw [Array.getD_eq_getD_getElem?, List.getElem?_toArray, hv]
      rfl
    have e3 : pool.getD i 0 = pool[i] := by rw [List.getD_eq_getElem?_getD, List.getElem?_eq_getElem hip]; rfl
    show RelV (V.int ((pool.getD i 0 : Nat) : Int)) (acc.toArray.getD i .none)
    rw [e2, e3]
    exact rv
theorem mem_lt_of_sub {n : Nat} {l : List Nat} (h : l.Sublist (List.range n)) : ∀ i ∈ l, i < n := fun i hi => List.mem_range.mp (h.subset hi)
/-- lots tracked at their addresses -/
def putL : Hp → List Addr → List (List Nat) → Hp
  | H, a :: as, l :: ls => putL (upd H a (.tup (lotV l))) as ls
  | H, _, _ => H
theorem putL_off {b : Addr} : ∀ (as : List Addr) (ls : List (List Nat)) (H : Hp), b ∉ as → putL H as ls b = H b
  | [], _, _, _ => rfl
  | _ :: _, [], _, _ => rfl
  | a :: as, l :: ls, H, h => by
    show putL (upd H a (.tup (lotV l))) as ls b = H b
    rw [putL_off as ls _ (fun z => h (List.mem_cons_of_mem _ z)), upd_ne (fun z => h (by rw [z]; exact List.mem_cons_self))]
theorem putL_at : ∀ (as : List Addr) (ls : List (List Nat)) (H : Hp), as.length = ls.length → as.Nodup → Paired (fun (t : Addr) (l : List Nat) => putL H as ls t = some (.tup (lotV l))) as ls
  | [], [], _, _, _ => .nil
  | [], _ :: _, _, h, _ => by cases h
  | _ :: _, [], _, h, _ => by cases h
  | a :: as, l :: ls, H, h, hn => by
    have hn' := List.nodup_cons.mp hn
    refine .cons ?_ (putL_at as ls (upd H a (.tup (lotV l))) (Nat.succ.inj h) hn'.2)
    show putL (upd H a (.tup (lotV l))) as ls a = some (.tup (lotV l))
    rw [putL_off as ls _ hn'.1, upd_same]
def tListComb (K : PySem.W.Frag) (ta tb : TE) : TE := fun σ H Q => ta σ H fun x H1 => tb σ H1 fun y H2 => ∃ (R : Addr) (pool : List Nat) (r : Nat), x = .ref R ∧ y = .int r ∧ H2 R = some (.lst (lotV pool)) ∧ r ≤ pool.length ∧ pool.length ≤ 7 ∧
  ∀ (H' : Hp) (p : Addr) (ts : List Addr), Same H2 H' → H2 p = none → (∀ t ∈ ts, H2 t = none) → p ∉ ts → H' p = some (.lst (ts.map V.ref)) → Paired (fun (t : Addr) (l : List Nat) => H' t = some (.tup (lotV l))) ts (combsOf pool r) → Q (.ref p) H'
section
variable {X : Cx} {a b : Expr} {ta tb : TE} {p0 p1 p2 pr pos : Pos}
theorem combs_laid {pins : List (Addr × Obj)} {σ : L2.St} {H : Hp} {s : Shared} {h' : Heap} {tk : Nat} {its : List Value} {acc : Array Value} {c r : Nat} {pool : List Nat} {as : List Addr} (I : Inv X pins σ H s) (hr : r ≤ pool.length) (hn : pool.length ≤ 7) (hi : Vals (lotV pool) its) (p : Addr) (hp : s.heap.objs.size ≤ p)
    (hk : ∀ b o, s.heap.get? b = some o → h'.get? b = some o) (hS : h'.get? p = some (lstObj acc c)) (hM : Made its.toArray (p + 1) h' as (combs pool.length r)) (hacc : acc.toList = as.map Value.ref) :
    ∃ H' : Hp, Same H H' ∧ H p = none ∧ (∀ t ∈ as, H t = none) ∧ p ∉ as ∧ H' p = some (.lst (as.map V.ref)) ∧ Paired (fun (t : Addr) (l : List Nat) => H' t = some (.tup (lotV l))) as (combsOf pool r) ∧ Inv X pins σ H' { s with heap := h', toks := tk } := by
  obtain ⟨rest, _, _, hlen, hrow⟩ := combs_ok hr hn
  have lk : as.length = (combs pool.length r).length := Paired.length hM.pairs
  have lkp : as.length = (combsOf pool r).length := by rw [combsOf_pool, List.length_map]; exact lk
  have hSn : p ∉ as := fun z => Nat.lt_irrefl _ (hM.above _ z)
  have nd : as.Nodup := List.Pairwise.imp (fun {a b} (h : a < b) => Nat.ne_of_lt h) hM.rise
  have new : ∀ t ∈ as, H t = none := fun t ht => I.hok.fresh (Nat.le_trans hp (Nat.le_of_succ_le (hM.above t ht)))
  have newS : H p = none := I.hok.fresh hp
  have atP := putL_at as (combsOf pool r) (upd H p (.lst (as.map V.ref))) lkp nd
  have off : ∀ b, b ∉ as → b ≠ p → putL (upd H p (.lst (as.map V.ref))) as (combsOf pool r) b = H b := fun b h1 h2 => by rw [putL_off as _ _ h1, upd_ne h2]
  have low : ∀ b o, s.heap.get? b = some o → b ∉ as ∧ b ≠ p := fun b o e => by
    have hl := Nat.lt_of_lt_of_le (Heap.lt_size e) hp
    exact ⟨fun z => Nat.lt_irrefl _ (Nat.lt_trans hl (hM.above b z)), Nat.ne_of_lt hl⟩
  have kp : ∀ b u, H b = some u → (putL (upd H p (.lst (as.map V.ref))) as (combsOf pool r)) b = some u := fun b u e => by
    rw [off b (fun z => by rw [new b z] at e; cases e) (fun z => by rw [z, newS] at e; cases e)]
    exact e
  have eS : putL (upd H p (.lst (as.map V.ref))) as (combsOf pool r) p = some (.lst (as.map V.ref)) := by rw [putL_off as _ _ hSn, upd_same]
  have hit : its.length = pool.length := by rw [← Paired.length hi, List.length_map]
  refine ⟨putL (upd H p (.lst (as.map V.ref))) as (combsOf pool r), kp, newS, new, hSn, eS, atP, ?_⟩
  refine I.call' (ch := []) rfl ⟨fun b o q _ _ _ => hk b o q, fun b o q _ _ _ => ⟨o.slots, hk b o q⟩, fun b o q n _ => ?_, fun b o q _ => ⟨o, hk b o q⟩, fun b xs q => kp b _ q, fun b o u q => kp b _ q, fun b ps q => ⟨#[], by rw [kp b _ q]; simp⟩⟩ (fun b u q => ?_) I.bare fun b z => by simp at z
  · obtain ⟨z1, z2⟩ := low b o q
    rw [off b z1 z2]
    exact n
  · by_cases hb : b ∈ as
    · obtain ⟨j, l, e1, e2, e3⟩ := LiI.paired_ix atP hb
      rw [e3] at q
      cases q
      obtain ⟨l', g1, g2⟩ := LiI.paired_get hM.pairs e1
      rw [combsOf_pool, List.getElem?_map, g1] at e2
      have e2' := Option.some.inj e2
      subst e2'
      have hm := List.mem_of_getElem? g1
      have hsub := (combsOf_sub.mp hm).1
      refine ⟨by rw [List.length_map, List.length_map]; have := hrow l' hm; rw [sizeLine_eq]; omega, (l'.map fun i => its.toArray.getD i .none), picked_vals hi (mem_lt_of_sub hsub), ?_⟩
      exact ⟨_, g2, rfl, _, rfl⟩
    · by_cases hb2 : b = p
      · rw [hb2] at q ⊢
        rw [eS] at q
        cases q
        refine ⟨by rw [List.length_map, sizeLine_eq]; omega, acc.toList, c, by rw [hacc]; exact LiI.vals_refs as, ?_⟩
        rw [Array.toArray_toList]
        exact hS
      · rw [off b hb hb2] at q
        exact (I.hok b u q).stay (fun d v _ y => hk d v y) (fun d y => kp d _ y) fun d xs y => kp d _ y
/-- list(combinations(l, b)), l a list -/
theorem pe_listComb (hc : X.calm = true) (ha : PE X a ta) (hb : PE X b tb) (hgl : Gl X "list") (hml : X.mg "list" = none) (hgc : Gl X "combinations") (hmc : X.mg "combinations" = some (.type TC))
    (n1 : starEach [.Call (.Name "combinations" p1) [a, b] [] p0] X.env = (false, eval (.Call (.Name "combinations" p1) [a, b] [] p0) X.env) :: starEach [] X.env := by rfl)
    (n2 : starEach [a, b] X.env = (false, eval a X.env) :: starEach [b] X.env := by rfl)
    (n4 : starEach [b] X.env = (false, eval b X.env) :: starEach [] X.env := by rfl) (n5 : (backTo p0 (starEach [b] X.env)).any (·.1) = false := by rfl) {pl : Pos} :
    PE X (.Call (.Name "list" pl) [.Call (.Name "combinations" p1) [a, b] [] p0] [] pos) (tListComb X.K ta tb) := by
  refine ⟨fun pins s σ H Q I h => ?_⟩
  refine Call_ (ld_blt I hgl hml boot_list (PyProof.Rows.callWith_type1 (args_cons ?_ n1) n1))
  refine Call_ (ld_glob I hgc hmc (PyProof.Rows.callWith_type1 (args_cons ?_ n2) n2 n5))
  refine thn (ha.run pins s σ H _ I h) fun v s1 ⟨x, H1, I1, r, q⟩ => ?_
  refine one_arg hb I1 q (fun v2 s2 y H2 I3 r2 q => ?_) n4
  obtain ⟨R, pool, r', rfl, rfl, hRt, hr, hn, q⟩ := q
  obtain ⟨t', rfl⟩ := r2
  cases r
  obtain ⟨hle, its, nn, hi, hR2⟩ := I3.hok _ _ hRt
  have hit : its.length = pool.length := by rw [← Paired.length hi, List.length_map]
  refine call_c (by rw [hit]; exact hr) (by rw [hit]; exact hn) ⟨_, hR2, rfl, _, rfl⟩ fun h1 hk => ?_
  refine args_nil ?_
  obtain ⟨rest, hcs, hsq, hlen, hrow⟩ := combs_ok hr hn
  have hz1 : (h1.push (tupObj its.toArray)).objs.size = h1.objs.size + 1 := Heap.size_push ..
  have gT : ((h1.push (tupObj its.toArray)).push (cObj (.ref h1.objs.size) .none 0 (List.range r'))).get? h1.objs.size = some (tupObj its.toArray) := Heap.get?_push_of_some _ (Heap.get?_push_size _ rfl)
  have gC : ((h1.push (tupObj its.toArray)).push (cObj (.ref h1.objs.size) .none 0 (List.range r'))).get? (h1.push (tupObj its.toArray)).objs.size = some (cObj (.ref h1.objs.size) .none 0 (List.range r')) := Heap.get?_push_size _ rfl
  have hz2 : ((h1.push (tupObj its.toArray)).push (cObj (.ref h1.objs.size) .none 0 (List.range r'))).objs.size = h1.objs.size + 2 := by rw [Heap.size_push, hz1]
  have hac : its.toArray.size = pool.length := by rw [List.size_toArray, hit]
  have I4 : Inv X pins σ H2 { s2 with heap := h1 } := I3.kept hk
  refine list_c (s := { s2 with heap := (h1.push (tupObj its.toArray)).push (cObj (.ref h1.objs.size) .none 0 (List.range r')) }) (items := its.toArray) (T := h1.objs.size) (all := combs pool.length r') (I3.ok.hd hc) (by rw [hz1]; exact Nat.ne_of_lt (Nat.lt_succ_self _)) (by rw [sizeLine_eq]; omega) hrow
    ⟨_, _, .inl ⟨gC, rest, hcs, by rw [hac]; exact hsq⟩⟩ gT fun h2 tk2 acc2 c as b1 b2 b3 b4 => ?_
  dsimp only at b1 b2 b3 ⊢
  have kk : ∀ b o, h1.get? b = some o → h2.get? b = some o := fun b o e => by
    have hl := Heap.lt_size e
    exact b1 b o (by rw [hz1]; exact Nat.ne_of_lt (Nat.lt_succ_of_lt hl)) (Heap.get?_push_of_some _ (Heap.get?_push_of_some _ e))
  obtain ⟨H', k1, k2, k3, k4, k5, k6, J⟩ := combs_laid (tk := tk2) I4 hr hn hi ((h1.push (tupObj its.toArray)).push (cObj (.ref h1.objs.size) .none 0 (List.range r'))).objs.size (by show h1.objs.size ≤ _; rw [hz2]; exact Nat.le_add_right _ _) kk b2 b3 b4
  exact ⟨.ref _, H', J, rfl, q H' _ as k1 k2 k3 k4 k5 k6⟩
end
end Cb

set_option Elab.async false
set_option linter.all false
set_option maxRecDepth 100000
set_option maxHeartbeats 2000000
/-! enumerate of a tuple, walked -/
namespace En
open PySem PySem.Spec PyProof.Rows L2
abbrev tIt (t : Addr) : Obj := { cls := .type "tuple_iterator", data := .fields #[.ref t, .int 0 0] }
abbrev eIt (it : Addr) : Obj := { cls := .type "enumerate", data := .fields #[.none, .bool false, .ref it, rawInt 0, .none, .none] }
theorem new_t (t : Addr) (items : Array Value) :
    Meets (Builtin.«enumerate.__new__» ⟨[.type "enumerate", .ref t], []⟩) (fun _ R s => s.heap.IsTuple t items ∧
      R (.ok (.ret (.ref (s.heap.push (tIt t)).objs.size))) { s with heap := (s.heap.push (tIt t)).push (eIt s.heap.objs.size) }) :=
  .of_wp fun prog w A R s h => by
    obtain ⟨hp, g, d, tk, os⟩ := s
    obtain ⟨h1, h⟩ := h
    have hsub := sub_enumerate
    have q1 : ∀ {A' : Around} {E : Value → Shared → Prop} {Q : Value → Shared → Prop}, Q (.ref hp.objs.size) ⟨hp.push (tIt t), g, d, tk, os⟩ → wpAny (model prog w) A' (pyIter (.ref t)) Q E ⟨hp, g, d, tk, os⟩ :=
      fun q => wpAny_pyIter_tuple (s := ⟨hp, g, d, tk, os⟩) h1 q
    wp_walk using q1
    refine wpAny_stack_any fun st => wpAny_pure ?_
    split
    · rename_i c _ _ _ _ _
      cases (c == Value.type "enumerate")
      · wp_walk using q1
        exact ⟨_, rfl, h⟩
      · wp_walk using q1
        exact ⟨_, rfl, h⟩
    · wp_walk using q1
      exact ⟨_, rfl, h⟩
section
variable {prog : Program} {w : World} {A : Around} {E : Value → Shared → Prop} {s : Shared}
theorem call_enum_tup {t : Addr} {items : Array Value} {Q : Value → Shared → Prop} (hT : s.heap.IsTuple t items)
    (h : ∀ h', IsEnum h' (s.heap.objs.size + 1) s.heap.objs.size 0 .none → h'.IsTupleIter s.heap.objs.size t 0 → (∀ b o, s.heap.get? b = some o → h'.get? b = some o) → Q (.ref (s.heap.objs.size + 1)) { s with heap := h' }) :
    wpAny (model prog w) A (call (.type "enumerate") [.ref t]) Q E s := by
  refine callType_new F.called_enumerate (by decide) (F.typeCall_enumerate_1 _) (F.newCall_enumerate_1 _) (fun obj => F.args_object_init_2 obj _) F.entry_enumerate_new (new_t t items) ⟨hT, ?_⟩
  have hz : (s.heap.push (tIt t)).objs.size = s.heap.objs.size + 1 := Heap.size_push ..
  show _ ∧ _
  rw [hz]
  have he : IsEnum ((s.heap.push (tIt t)).push (eIt s.heap.objs.size)) (s.heap.objs.size + 1) s.heap.objs.size 0 .none := by
    have z := Heap.get?_push_size (s.heap.push (tIt t)) (o := eIt s.heap.objs.size) rfl
    rw [hz] at z
    exact z
  exact ⟨⟨_, he, rfl⟩, h _ he ⟨_, Heap.get?_push_of_some _ (Heap.get?_push_size _ rfl), rfl, rfl⟩ fun b o x => Heap.get?_push_of_some _ (Heap.get?_push_of_some _ x)⟩
end
/-- the tuple at a as it stands at each turn, each item in a new pair -/
def IteT (K : PySem.W.Frag) (a : Addr) : It :=
  ⟨fun i H => ∃ (xs : List V) (x : V), SqT K H a xs ∧ xs[i]? = some x, fun i H v H' => ∃ T x, v = .ref T ∧ H T = none ∧ H' = upd H T (.tup [.int (i : Nat), x]) ∧ ∀ xs, SqT K H a xs → xs[i]? = some x, fun i H => ∃ xs : List V, SqT K H a xs ∧ xs.length = i⟩
theorem turn_enumT {P : Program} {w : World} {K : PySem.W.Frag} {elts : List Expr} {kk : Nat} {tpos : Pos} (a e it : Addr) :
    Turn P w K (.Tuple elts kk tpos) (IteT K a) [e, it] e (fun i h => (∃ old, IsEnum h e it ((i : Nat) : Int) old) ∧ h.IsTupleIter it a i ∧ e ≠ it) where
  mem := by simp
  obj := fun i h st b hb => by
    obtain ⟨⟨old, he⟩, ⟨o, ho, hc, hd⟩, _⟩ := st
    have e' : b = e ∨ b = it := by simpa using hb
    rcases e' with z | z
    · rw [z]; exact ⟨_, he, fun v q => nomatch q⟩
    · rw [z]; exact ⟨o, ho, fun v q => by rw [hd] at q; cases q⟩
  keep := fun i h h' st k => let ⟨⟨old, he⟩, hi, hne⟩ := st; ⟨⟨old, k e (by simp) _ he⟩, hi.at fun o q => k it (by simp) o q, hne⟩
  item := by
    intro X hP hw hK hc i pins s σ H E I hf st hg
    subst hP hw hK
    obtain ⟨⟨old, he⟩, hit, hne⟩ := st
    obtain ⟨xs, x, hq, hx⟩ := hg
    obtain ⟨its, rv, p, hz⟩ := I.tuple hq
    obtain ⟨u, hu, ru⟩ := rv.get hx
    have hel : e < s.heap.objs.size := Heap.lt_size he
    have hil : it < s.heap.objs.size := by obtain ⟨_, q, _⟩ := hit; exact Heap.lt_size q
    have hnt : a ≠ it := by
      rintro rfl
      obtain ⟨_, q, c1, _⟩ := hit
      obtain ⟨_, q', c2, _⟩ := p
      rw [q] at q'
      cases q'
      rw [c1] at c2
      exact absurd c2 (by decide)
    have hea : e ≠ a := by
      rintro rfl
      obtain ⟨_, q', c2, _⟩ := p
      rw [he] at q'
      cases q'
      exact absurd (show Value.type "enumerate" = Value.type "tuple" from c2) (by decide)
    have hui : its.toArray[i]? = some u := by simpa using hu
    have hlt : i < its.toArray.size := by
      rcases Nat.lt_or_ge i its.toArray.size with z | z
      · exact z
      · rw [Array.getElem?_eq_none z] at hui; cases hui
    refine wpAny_pyNext_enum_itemD (Draws.tuple (A := X.A.in1) (I.ok.hd hc) it a hnt its.toArray) he ⟨hit, p⟩ hlt hne (by simp [hne, hea]) fun u' h' tk hpu ho hst' hT hsz hk => ?_
    have eu : u' = u := Option.some.inj (hpu.symm.trans hui)
    subst eu
    refine ⟨_, rfl, wpAny_letOwnedTupleGo_enum (s := { s with heap := h', toks := tk + 1 }) ho fun h'' he' sb => ?_⟩
    have hT2 : h''.get? s.heap.objs.size = some { cls := .type "tuple", data := .seq #[.int i tk, u'] } := (sb.2 _ (Nat.ne_of_gt hel)).trans hT
    have new : ObjOk X.prog X.w (upd H s.heap.objs.size (.tup [.int (i : Nat), x])) h'' s.heap.objs.size (.tup [.int (i : Nat), x]) :=
      ⟨by show 2 ≤ sizeLine; decide, [.int i tk, u'], .cons ⟨_, rfl⟩ (.cons ru .nil), ⟨_, hT2, rfl, _, rfl⟩⟩
    have I1 : Inv X pins σ (upd H s.heap.objs.size (.tup [.int (i : Nat), x])) { s with heap := h'', toks := tk + 1 } :=
      I.turnedNew (ch := [e, it]) (fun b ob hb q => (sb.2 b (fun z => hb (by simp [z]))).trans (hk b ob (fun z => hb (by simp [z])) (fun z => hb (by simp [z])) q)) hf (Nat.le_refl _) new
    refine ⟨.ref s.heap.objs.size, _, I1, rfl, ⟨_, x, rfl, I.hok.fresh (Nat.le_refl _), rfl, fun ys hy => by rw [I.tuple_inj hy hq]; exact hx⟩, ⟨⟨u', ?_⟩, hst'.1.at fun o q => (sb.2 it (Ne.symm hne)).trans q, hne⟩, fun b hb => ?_⟩
    · have e1 : ((i + 1 : Nat) : Int) = (i : Int) + 1 := by omega
      rw [e1]; exact he'
    · have hb' : b < s.heap.objs.size := by
        have e' : b = e ∨ b = it := by simpa using hb
        rcases e' with z | z
        · rw [z]; exact hel
        · rw [z]; exact hil
      rw [upd_ne (Nat.ne_of_lt hb')]
      exact (hf b hb).1
  done := by
    intro X hP hw hK hc i pins s σ H E I hf st hg
    subst hP hw hK
    obtain ⟨⟨old, he⟩, hit, hne⟩ := st
    obtain ⟨xs, hq, hx⟩ := hg
    obtain ⟨its, rv, p, hz⟩ := I.tuple hq
    obtain ⟨f0, f1, f2, f3, f4, f5⟩ := hf it (by simp)
    have hl := rv.length
    have hnt : a ≠ it := by
      rintro rfl
      obtain ⟨_, q, c1, _⟩ := hit
      obtain ⟨_, q', c2, _⟩ := p
      rw [q] at q'
      cases q'
      rw [c1] at c2
      exact absurd c2 (by decide)
    have hi : i = its.toArray.size := by rw [List.size_toArray]; omega
    subst hi
    exact wpAny_pyNext_enum_endD (Draws.tuple (A := X.A.in1) (I.ok.hd hc) it a hnt its.toArray) he ⟨hit, p⟩ fun h' eb => ⟨rfl, I.turned (t' := s.toks) (fun b o hb q => eb b o hb q) f0 f1 f3 f4 f5⟩
  self := fun A i s Q E st h => let ⟨⟨_, he⟩, _⟩ := st; wpAny_pyIter_enum he h
def iEnumT (K : PySem.W.Frag) (ta : TA) : TI := fun σ H R => ta σ H fun vs H1 => ∃ a xs, vs = [.ref a] ∧ SqT K H1 a xs ∧ R (IteT K a) H1
theorem pi_enumT {X : Cx} {e : Expr} {ta : TA} {p pos tpos : Pos} {elts : List Expr} {kk : Nat} (hg : Gl X "enumerate") (hm : X.mg "enumerate" = none) (ha : PA X [e] ta) (hs : starEach [e] X.env = [(false, eval e X.env)] := by rfl) :
    PI X (.Tuple elts kk tpos) (.Call (.Name "enumerate" p) [e] [] pos) (iEnumT X.K ta) := by
  refine ⟨fun pins s σ H R I h => ?_⟩
  refine Call_ (ld_blt I hg hm boot_enumerate (PyProof.Rows.callWith_type1 (thn (ha.run pos pins s σ H _ I h) fun us s1 ⟨vs, H1, I1, r1, q1⟩ => ?_) hs rfl))
  obtain ⟨a, xs, ex, hq, q⟩ := q1
  subst ex
  cases r1 with
  | cons r rr =>
    cases rr
    cases r
    obtain ⟨its, rv, p', hz⟩ := I1.tuple hq
    refine call_enum_tup p' fun h' he hit hk => wpAny_pyIter_enum he ?_
    have I2 : Inv X pins σ H1 { s1 with heap := h' } := I1.kept (t' := s1.toks) hk
    refine ⟨s1.heap.objs.size + 1, [s1.heap.objs.size + 1, s1.heap.objs.size], _, _, H1, rfl, I2, turn_enumT a (s1.heap.objs.size + 1) s1.heap.objs.size, ⟨⟨.none, he⟩, hit, Nat.succ_ne_self _⟩, fun b hb => ?_, q⟩
    have e' : b = s1.heap.objs.size + 1 ∨ b = s1.heap.objs.size := by simpa using hb
    have hle : s1.heap.objs.size ≤ b := by
      rcases e' with z | z
      · rw [z]; exact Nat.le_add_right _ _
      · rw [z]; exact Nat.le_refl _
    exact I1.fpOk hle (I1.hok.fresh hle)
/-- a loop over enumerate(t) with a pair as target, by what holds between two turns -/
theorem for_enumT {K : PySem.W.Frag} {a : Addr} {xs : List V} {g : TG} {tb : TS} {D : Ends} {σ : L2.St} {H : Hp} (Pv : Nat → L2.St → Hp → Prop) (h0 : Pv 0 σ H) (hl : ∀ i σ H, i ≤ xs.length → Pv i σ H → SqT K H a xs)
    (hs : ∀ i x T σ H, xs[i]? = some x → Pv i σ H → H T = none → g (.ref T) σ (upd H T (.tup [.int (i : Nat), x])) fun σ2 H2 => tb { D with nx := Pv (i + 1), ct := Pv (i + 1), bk := D.nx } σ2 H2) (hd : ∀ σ H, Pv xs.length σ H → D.nx σ H) :
    ∃ W : Nat → Nat → L2.St → Hp → Prop, (∃ m, W 0 m σ H) ∧ ∀ i m σ H, W i m σ H →
      ((IteT K a).stop i H ∧ D.nx σ H) ∨ ((IteT K a).go i H ∧ ∃ N : L2.St → Hp → Prop, (∀ σ' H', N σ' H' → ∃ m', m' < m ∧ W (i + 1) m' σ' H') ∧ ∀ x H', (IteT K a).yld i H x H' → g x σ H' fun σ2 H2 => tb { D with nx := N, ct := N, bk := D.nx } σ2 H2) := by
  refine ⟨fun i m σ H => m = xs.length - i ∧ i ≤ xs.length ∧ Pv i σ H, ⟨xs.length, rfl, Nat.zero_le _, h0⟩, ?_⟩
  rintro i m σ H ⟨rfl, hi, p⟩
  have q := hl i σ H hi p
  by_cases hlt : i < xs.length
  · refine .inr ⟨⟨xs, xs[i], q, List.getElem?_eq_getElem hlt⟩, Pv (i + 1), fun σ' H' p' => ⟨xs.length - (i + 1), by omega, rfl, hlt, p'⟩, fun x H' y => ?_⟩
    obtain ⟨T, x, rfl, hT, rfl, hx⟩ := y
    exact hs i x T σ H (hx xs q) p hT
  · have e : i = xs.length := by omega
    subst e
    exact .inl ⟨⟨xs, q, rfl⟩, hd σ H p⟩
end En

set_option Elab.async false
set_option linter.all false
set_option maxRecDepth 100000
set_option maxHeartbeats 2000000
/-! what all the defs lean on -/
namespace N
open Cb (lotV combs combsOf combsOf_sub)
open PySem PySem.Spec PyProof.Rows L2
structure Def (K : PySem.W.Frag) (mg : Str → Option Value) (x : String) (st : Stmt) (ps : List Str) where
  f : Addr
  fd : FuncData
  F : Fun K x x st f fd
  g : mg x = some (.ref f)
  b : Binds K fd ps []
theorem Same.tup {K : PySem.W.Frag} {H H' : Hp} {a : Addr} {xs : List V} (e : Same H H') (h : SqT K H a xs) : SqT K H' a xs := by
  rcases h with (h | ⟨o, h⟩) | h
  · exact .inl (.inl (e _ _ h))
  · exact .inl (.inr ⟨o, e _ _ h⟩)
  · exact .inr h
theorem same_upd {H : Hp} {p : Addr} {o : HO} (h : H p = none) : Same H (upd H p o) := fun b x e => by
  rw [upd_ne (ne_of_none e h)]
  exact e
theorem SqT.up {K : PySem.W.Frag} {H : Hp} {a : Addr} {xs : List V} (h : H a = some (.tup xs)) : SqT K H a xs := .inl (.inl h)
theorem SqL.up {K : PySem.W.Frag} {H : Hp} {a : Addr} {xs : List V} (h : H a = some (.lst xs)) : SqL K H a xs := .inl (.inl h)
/-- a lot stands at a -/
def LotAt (K : PySem.W.Frag) (H : Hp) (a : Addr) (l : List Nat) : Prop := SqT K H a (lotV l)
theorem LotAt.same {K : PySem.W.Frag} {H H' : Hp} {a : Addr} {l : List Nat} (h : LotAt K H a l) (e : Same H H') : LotAt K H' a l := Same.tup e h
/-- a house stands at a -/
def HouseAt (K : PySem.W.Frag) (H : Hp) (a : Addr) (h : List (List Nat)) : Prop := ∃ rs : List Addr, SqT K H a (rs.map V.ref) ∧ Paired (fun r row => LotAt K H r row) rs h
theorem paired_mono {α β : Type} {F G : α → β → Prop} : ∀ {as : List α} {bs : List β}, Paired F as bs → (∀ a b, F a b → G a b) → Paired G as bs
  | _, _, .nil, _ => .nil
  | _, _, .cons r t, f => .cons (f _ _ r) (paired_mono t f)
theorem HouseAt.same {K : PySem.W.Frag} {H H' : Hp} {a : Addr} {h : List (List Nat)} (x : HouseAt K H a h) (e : Same H H') : HouseAt K H' a h := by
  obtain ⟨rs, h1, h2⟩ := x
  exact ⟨rs, Same.tup e h1, paired_mono h2 fun _ _ z => z.same e⟩
/-- a lot of n clerks -/
def LotOk (n : Nat) (l : List Nat) : Prop := l.Sublist (List.range n)
structure HouseOk (h : List (List Nat)) : Prop where
  lo : 1 ≤ h.length
  hi : h.length ≤ 7
  ok : ∀ row ∈ h, row ≠ [] ∧ LotOk h.length row
theorem LotOk.lt {n : Nat} {l : List Nat} (h : LotOk n l) : ∀ i ∈ l, i < n := fun i hi => List.mem_range.mp (h.subset hi)
theorem LotOk.len {n : Nat} {l : List Nat} (h : LotOk n l) : l.length ≤ n := by
  have := h.length_le
  rwa [List.length_range] at this
theorem LotOk.rise {n : Nat} {l : List Nat} (h : LotOk n l) : l.Pairwise (· < ·) := List.Pairwise.sublist h List.pairwise_lt_range
theorem get_lotV {l : List Nat} {i : Nat} {x : V} (h : (lotV l)[i]? = some x) : ∃ k, l[i]? = some k ∧ x = .int (k : Int) := by
  rw [List.getElem?_map] at h
  cases e : l[i]? with
  | none => rw [e] at h; cases h
  | some k => rw [e] at h; exact ⟨k, rfl, (Option.some.inj h).symm⟩
theorem get_refs {as : List Addr} {i : Nat} {x : V} (h : (as.map V.ref)[i]? = some x) : ∃ a, as[i]? = some a ∧ x = .ref a := by
  rw [List.getElem?_map] at h
  cases e : as[i]? with
  | none => rw [e] at h; cases h
  | some k => rw [e] at h; exact ⟨k, rfl, (Option.some.inj h).symm⟩
end N

set_option Elab.async false
set_option linter.all false
set_option maxRecDepth 100000
set_option maxHeartbeats 2000000
/-! more rules: bits of whole numbers, enumerate of a list -/
namespace N
open Cb (lotV combs combsOf combsOf_sub)
open PySem PySem.Spec PyProof.Rows L2
section
variable {X : Cx}
theorem ip_orN : PIp X .BitOr (fun x y H Q => ∃ m n : Nat, x = .int m ∧ y = .int n ∧ Q (.int ((m ||| n : Nat) : Int)) H) := by
  intro pins s σ H x y v u Q I r1 r2 h
  obtain ⟨m, n, e1, e2, q⟩ := h
  subst e1; subst e2
  obtain ⟨t, rfl⟩ := r1
  obtain ⟨t', rfl⟩ := r2
  have e : Builtin.bitOr (m : Int) (n : Int) = ((m ||| n : Nat) : Int) := by
    rw [bitOr_nn (Int.natCast_nonneg _) (Int.natCast_nonneg _), Int.toNat_natCast, Int.toNat_natCast]
  refine ior_int ?_
  rw [e]
  exact ⟨.int ((m ||| n : Nat) : Int), H, I.tok _, ⟨_, rfl⟩, q⟩
theorem op_orN : OpR X (binaryOp .BitOr) (fun x y H Q => ∃ m n : Nat, x = .int m ∧ y = .int n ∧ Q (.int ((m ||| n : Nat) : Int)) H) := by
  intro pins s σ H x y v u Q I r1 r2 h
  obtain ⟨m, n, e1, e2, q⟩ := h
  refine op_or pins s σ H x y v u Q I r1 r2 ⟨m, n, e1, e2, ?_⟩
  show Q (.int (Builtin.bitOr (m : Int) (n : Int))) H
  rw [bitOr_nn (Int.natCast_nonneg _) (Int.natCast_nonneg _), Int.toNat_natCast, Int.toNat_natCast]
  exact q
theorem op_andN : OpR X (binaryOp .BitAnd) (fun x y H Q => ∃ m n : Nat, x = .int m ∧ y = .int n ∧ Q (.int ((m &&& n : Nat) : Int)) H) := by
  intro pins s σ H x y v u Q I r1 r2 h
  obtain ⟨m, n, e1, e2, q⟩ := h
  refine op_and pins s σ H x y v u Q I r1 r2 ⟨m, n, e1, e2, ?_⟩
  show Q (.int (Builtin.bitAnd (m : Int) (n : Int))) H
  rw [show Builtin.bitAnd (m : Int) (n : Int) = ((m &&& n : Nat) : Int) by simp [Builtin.bitAnd]]
  exact q
theorem op_shl1 : OpR X (binaryOp .LShift) (fun x y H Q => ∃ n : Nat, x = .int 1 ∧ y = .int n ∧ n ≤ 1000 ∧ Q (.int ((2 ^ n : Nat) : Int)) H) := by
  intro pins s σ H x y v u Q I r1 r2 h
  obtain ⟨n, e1, e2, hn, q⟩ := h
  refine op_shl pins s σ H x y v u Q I r1 r2 ⟨1, n, e1, e2, ⟨Int.natCast_nonneg _, by omega, by decide⟩, ?_⟩
  show Q (.int (1 * 2 ^ (n : Int).toNat)) H
  rw [Int.toNat_natCast, Int.one_mul]
  have e : ((2 : Int) ^ n) = ((2 ^ n : Nat) : Int) := by rw [Int.natCast_pow]; rfl
  rw [e]
  exact q
end
/-- a loop over enumerate(l), l a list that stands still -/
theorem for_enumL {K : PySem.W.Frag} {a : Addr} {xs : List V} {g : TG} {tb : TS} {D : Ends} {σ : L2.St} {H : Hp} (Pv : Nat → L2.St → Hp → Prop) (h0 : Pv 0 σ H) (hl : ∀ i σ H, i ≤ xs.length → Pv i σ H → SqL K H a xs)
    (hs : ∀ i x T σ H, xs[i]? = some x → Pv i σ H → H T = none → g (.ref T) σ (upd H T (.tup [.int (i : Nat), x])) fun σ2 H2 => tb { D with nx := Pv (i + 1), ct := Pv (i + 1), bk := D.nx } σ2 H2) (hd : ∀ σ H, Pv xs.length σ H → D.nx σ H) :
    ∃ W : Nat → Nat → L2.St → Hp → Prop, (∃ m, W 0 m σ H) ∧ ∀ i m σ H, W i m σ H →
      ((Ite K a).stop i H ∧ D.nx σ H) ∨ ((Ite K a).go i H ∧ ∃ N : L2.St → Hp → Prop, (∀ σ' H', N σ' H' → ∃ m', m' < m ∧ W (i + 1) m' σ' H') ∧ ∀ x H', (Ite K a).yld i H x H' → g x σ H' fun σ2 H2 => tb { D with nx := N, ct := N, bk := D.nx } σ2 H2) := by
  refine ⟨fun i m σ H => m = xs.length - i ∧ i ≤ xs.length ∧ Pv i σ H, ⟨xs.length, rfl, Nat.zero_le _, h0⟩, ?_⟩
  rintro i m σ H ⟨rfl, hi, p⟩
  have q := hl i σ H hi p
  by_cases hlt : i < xs.length
  · refine .inr ⟨⟨xs, xs[i], q, List.getElem?_eq_getElem hlt⟩, Pv (i + 1), fun σ' H' p' => ⟨xs.length - (i + 1), by omega, rfl, hlt, p'⟩, fun x H' y => ?_⟩
    obtain ⟨T, x, rfl, hT, rfl, hx⟩ := y
    exact hs i x T σ H (hx xs q) p hT
  · have e : i = xs.length := by omega
    subst e
    exact .inl ⟨⟨xs, q, Nat.le_refl _⟩, hd σ H p⟩
theorem tt_if {A B : Hp → Prop} {H : Hp} (h : A H) : (fun (b : Bool) (H3 : Hp) => if b = true then A H3 else B H3) true H := by
  show (if true = true then A H else B H)
  rw [if_pos rfl]
  exact h
theorem ff_if {A B : Hp → Prop} {H : Hp} (h : B H) : (fun (b : Bool) (H3 : Hp) => if b = true then A H3 else B H3) false H := by
  show (if false = true then A H else B H)
  rw [if_neg Bool.false_ne_true]
  exact h
/-! ### rules with the written part named, for use within a comprehension -/
theorem c_len (K : PySem.W.Frag) {X : Cx} (hK : X.K = K := by rfl) : CallR X (.builtin "len") (fun xs H Q => ∃ p ys, xs = [.ref p] ∧ (SqL K H p ys ∨ SqT K H p ys) ∧ Q (.int ys.length) H) := by
  subst hK
  exact call_len_seq
theorem x_list (K : PySem.W.Frag) {X : Cx} (hK : X.K = K := by rfl) : IxR X (rIxL K) := by
  subst hK
  exact ix_list
theorem x_tup (K : PySem.W.Frag) {X : Cx} (hK : X.K = K := by rfl) : IxR X (rIxT K) := by
  subst hK
  exact ix_tup
/-! ### masks -/
def maskOf (l : List Nat) : Nat := l.foldl (fun m i => m ||| 2 ^ i) 0
def natsV (ms : List Nat) : List V := ms.map fun (m : Nat) => V.int m
def holdsB (m : Nat) (l : List Nat) : Bool := (m &&& maskOf l) == maskOf l
/-- the clerks from a place on whose sights are all held, above some already found -/
def nextFrom (held : Nat) : Nat → List Nat → Nat → Nat
  | _, [], acc => acc
  | i, s :: ss, acc => nextFrom held (i + 1) ss (if (s &&& held) = s then acc ||| 2 ^ i else acc)
def nextM (ss : List Nat) (held : Nat) : Nat := nextFrom held 0 ss 0
theorem maskOf_take {l : List Nat} {i k : Nat} (h : l[i]? = some k) : maskOf (l.take (i + 1)) = maskOf (l.take i) ||| 2 ^ k := by
  unfold maskOf
  rw [List.take_add_one, h, List.foldl_append]
  rfl
theorem natsV_take {l : List Nat} {i m : Nat} (h : l[i]? = some m) : natsV (l.take (i + 1)) = natsV (l.take i) ++ [V.int m] := by
  unfold natsV
  rw [List.take_add_one, h, List.map_append]
  rfl
/-- the masks of the lots within a lot that may bear coins -/
def coinMasks (lot : List Nat) (c : Nat) : List Nat := (combsOf lot (min c lot.length)).map maskOf
/-- .. by the day of an allowance -/
def cmsOf (lot alw : List Nat) : List (List Nat) := alw.map (coinMasks lot)
end N

set_option Elab.async false
set_option linter.all false
set_option maxRecDepth 100000
set_option maxHeartbeats 2000000
/-! what can be covered: the search by masks -/
namespace N
open Cb (lotV combs combsOf combsOf_sub)
open L2 (nat_nodup_len)
/-- where coins lead from a place: the mask covered, the day of the allowance -/
def nx (ss : List Nat) (n : Nat) (p : Nat × Nat) (cm : Nat) : Nat × Nat := (nextM ss (p.1 ||| cm), (p.2 + 1) % n)
/-- places that come on a day -/
def Rch (ss : List Nat) (cms : List (List Nat)) : Nat → Nat × Nat → Prop
  | 0, p => p = (0, 0)
  | t + 1, p => ∃ c cm, Rch ss cms t c ∧ cm ∈ cms.getD c.2 [] ∧ p = nx ss cms.length c cm
def FD (ss : List Nat) (cms : List (List Nat)) (m : Nat × Nat) (d : Nat) : Prop := Rch ss cms d m ∧ ∀ d', d' < d → ¬ Rch ss cms d' m
theorem FD.inj {ss : List Nat} {cms : List (List Nat)} {m : Nat × Nat} {d d' : Nat} (h : FD ss cms m d) (h' : FD ss cms m d') : d = d' := by
  rcases Nat.lt_trichotomy d d' with z | z | z
  · exact absurd h.1 (h'.2 d z)
  · exact z
  · exact absurd h'.1 (h.2 d' z)
theorem first_day {ss : List Nat} {cms : List (List Nat)} {m : Nat × Nat} : ∀ {t : Nat}, Rch ss cms t m → ∃ d, d ≤ t ∧ FD ss cms m d := by
  intro t
  induction t using Nat.strongRecOn with
  | ind t ih =>
    intro h
    by_cases c : ∃ d', d' < t ∧ Rch ss cms d' m
    · obtain ⟨d', h1, h2⟩ := c
      obtain ⟨d, h3, h4⟩ := ih d' h1 h2
      exact ⟨d, by omega, h4⟩
    · exact ⟨t, Nat.le_refl _, h, fun d' hd hr => c ⟨d', hd, hr⟩⟩
theorem FD.pred {ss : List Nat} {cms : List (List Nat)} {m : Nat × Nat} {d : Nat} (h : FD ss cms m (d + 1)) : ∃ c cm, FD ss cms c d ∧ cm ∈ cms.getD c.2 [] ∧ m = nx ss cms.length c cm := by
  obtain ⟨⟨c, cm, h1, h2, h3⟩, h4⟩ := h
  refine ⟨c, cm, ⟨h1, fun d' hd hr => h4 (d' + 1) (by omega) ⟨c, cm, hr, h2, h3⟩⟩, h2, h3⟩
theorem FD.below {ss : List Nat} {cms : List (List Nat)} : ∀ {d : Nat} {m : Nat × Nat} {k : Nat}, FD ss cms m d → k ≤ d → ∃ c, FD ss cms c k
  | 0, m, k, h, hk => by
    have : k = 0 := by omega
    subst this
    exact ⟨m, h⟩
  | d + 1, m, k, h, hk => by
    by_cases e : k = d + 1
    · subst e; exact ⟨m, h⟩
    · obtain ⟨c, _, hc, _⟩ := h.pred
      exact FD.below hc (by omega)
/-- an entry: a mask, its first day, where it comes from -/
structure Ent where
  p : Nat × Nat
  d : Nat
  b : Option ((Nat × Nat) × Nat)
abbrev Ent.m (e : Ent) : Nat := e.p.1
def BackOk (ss : List Nat) (cms : List (List Nat)) (e : Ent) : Prop := match e.b with
  | none => e.p = (0, 0) ∧ e.d = 0
  | some (c, cm) => ∃ d, e.d = d + 1 ∧ FD ss cms c d ∧ cm ∈ cms.getD c.2 [] ∧ e.p = nx ss cms.length c cm
structure BInv (ss : List Nat) (cms : List (List Nat)) (k : Nat) (es : List Ent) : Prop where
  fd : ∀ e ∈ es, FD ss cms e.p e.d ∧ e.d ≤ k
  all : ∀ m d, d ≤ k → FD ss cms m d → ∃ e ∈ es, e.p = m
  nd : (es.map (·.p)).Nodup
  mono : es.Pairwise (fun e f => e.d ≤ f.d)
  back : ∀ e ∈ es, BackOk ss cms e
def LatestOk (ss : List Nat) (cms : List (List Nat)) (k : Nat) (L : List (Nat × Nat)) : Prop := ∀ m, m ∈ L ↔ FD ss cms m k
theorem fd_zero {ss : List Nat} {cms : List (List Nat)} {m : Nat × Nat} : FD ss cms m 0 ↔ m = (0, 0) := by
  constructor
  · intro h; exact h.1
  · intro h; exact ⟨h, fun d' hd => by omega⟩
theorem binv_start (ss : List Nat) (cms : List (List Nat)) : BInv ss cms 0 [⟨(0, 0), 0, none⟩] ∧ LatestOk ss cms 0 [(0, 0)] := by
  refine ⟨⟨fun e he => ?_, fun m d hd h => ?_, by simp, by simp, fun e he => ?_⟩, fun m => ?_⟩
  · rw [List.mem_singleton.mp he]
    exact ⟨fd_zero.mpr rfl, Nat.le_refl _⟩
  · have : d = 0 := by omega
    subst this
    exact ⟨_, List.mem_singleton.mpr rfl, (fd_zero.mp h).symm⟩
  · rw [List.mem_singleton.mp he]
    exact ⟨rfl, rfl⟩
  · rw [List.mem_singleton, fd_zero]
/-- in the middle of a day's search: new entries behind the old ones; done says for which pairs the outcome is in -/
structure Mid (ss : List Nat) (cms : List (List Nat)) (k : Nat) (es new : List Ent) (Done : Nat × Nat → Nat → Prop) : Prop where
  nw : ∀ e ∈ new, e.d = k + 1 ∧ FD ss cms e.p (k + 1) ∧ BackOk ss cms e
  nd : ((es ++ new).map (·.p)).Nodup
  done : ∀ c cm, Done c cm → ∃ e ∈ es ++ new, e.p = nx ss cms.length c cm
theorem mid_start {ss : List Nat} {cms : List (List Nat)} {k : Nat} {es : List Ent} (B : BInv ss cms k es) : Mid ss cms k es [] (fun _ _ => False) :=
  ⟨(fun e he => by cases he), (by rw [List.append_nil]; exact B.nd), fun _ _ h => h.elim⟩
theorem Mid.weaken {ss : List Nat} {cms : List (List Nat)} {k : Nat} {es new : List Ent} {D D' : Nat × Nat → Nat → Prop} (M : Mid ss cms k es new D) (h : ∀ c cm, D' c cm → D c cm) : Mid ss cms k es new D' :=
  ⟨M.nw, M.nd, fun c cm hd => M.done c cm (h c cm hd)⟩
theorem Mid.skip {ss : List Nat} {cms : List (List Nat)} {k : Nat} {es new : List Ent} {D D' : Nat × Nat → Nat → Prop} (M : Mid ss cms k es new D) {c : Nat × Nat} {cm : Nat} (hin : ∃ e ∈ es ++ new, e.p = nx ss cms.length c cm) (h : ∀ c' cm', D' c' cm' → D c' cm' ∨ (c' = c ∧ cm' = cm)) : Mid ss cms k es new D' :=
  ⟨M.nw, M.nd, fun c' cm' hd => by
    rcases h c' cm' hd with z | ⟨rfl, rfl⟩
    · exact M.done _ _ z
    · exact hin⟩
theorem Mid.add {ss : List Nat} {cms : List (List Nat)} {k : Nat} {es new : List Ent} {D D' : Nat × Nat → Nat → Prop} (B : BInv ss cms k es) (M : Mid ss cms k es new D) {c : Nat × Nat} {cm : Nat} (hc : FD ss cms c k) (hcm : cm ∈ cms.getD c.2 []) (hout : ¬ ∃ e ∈ es ++ new, e.p = nx ss cms.length c cm)
    (h : ∀ c' cm', D' c' cm' → D c' cm' ∨ (c' = c ∧ cm' = cm)) : Mid ss cms k es (new ++ [⟨nx ss cms.length c cm, k + 1, some (c, cm)⟩]) D' := by
  have hfd : FD ss cms (nx ss cms.length c cm) (k + 1) := by
    refine ⟨⟨c, cm, hc.1, hcm, rfl⟩, fun d' hd hr => ?_⟩
    obtain ⟨d, hd2, hf⟩ := first_day hr
    obtain ⟨e, he, em⟩ := B.all _ d (by omega) hf
    exact hout ⟨e, List.mem_append_left _ he, em⟩
  refine ⟨fun e he => ?_, ?_, fun c' cm' hd => ?_⟩
  · rcases List.mem_append.mp he with z | z
    · exact M.nw e z
    · rw [List.mem_singleton.mp z]
      exact ⟨rfl, hfd, k, rfl, hc, hcm, rfl⟩
  · rw [← List.append_assoc, List.map_append]
    refine List.nodup_append.mpr ⟨M.nd, by simp, fun x hx y hy => ?_⟩
    obtain ⟨e, he, rfl⟩ := List.mem_map.mp hx
    have ey : y = nx ss cms.length c cm := by simpa using hy
    rw [ey]
    exact fun z => hout ⟨e, he, z⟩
  · rw [← List.append_assoc]
    rcases h c' cm' hd with z | ⟨rfl, rfl⟩
    · obtain ⟨e, he, em⟩ := M.done _ _ z
      exact ⟨e, List.mem_append_left _ he, em⟩
    · exact ⟨_, List.mem_append_right _ (List.mem_singleton.mpr rfl), rfl⟩
theorem mid_end {ss : List Nat} {cms : List (List Nat)} {k : Nat} {es new : List Ent} {L : List (Nat × Nat)} {D : Nat × Nat → Nat → Prop} (B : BInv ss cms k es) (hL : LatestOk ss cms k L) (M : Mid ss cms k es new D) (h : ∀ c ∈ L, ∀ cm ∈ cms.getD c.2 [], D c cm) :
    BInv ss cms (k + 1) (es ++ new) ∧ LatestOk ss cms (k + 1) (new.map (·.p)) := by
  have hall : ∀ m d, d ≤ k + 1 → FD ss cms m d → ∃ e ∈ es ++ new, e.p = m := by
    intro m d hd hf
    by_cases e : d = k + 1
    · subst e
      obtain ⟨c, cm, hc, hcm, rfl⟩ := hf.pred
      exact M.done c cm (h c ((hL c).mpr hc) cm hcm)
    · obtain ⟨e, he, em⟩ := B.all m d (by omega) hf
      exact ⟨e, List.mem_append_left _ he, em⟩
  refine ⟨⟨fun e he => ?_, hall, M.nd, ?_, fun e he => ?_⟩, fun m => ?_⟩
  · rcases List.mem_append.mp he with z | z
    · obtain ⟨h1, h2⟩ := B.fd e z
      exact ⟨h1, by omega⟩
    · obtain ⟨h1, h2, _⟩ := M.nw e z
      rw [h1]
      exact ⟨h2, Nat.le_refl _⟩
  · refine List.pairwise_append.mpr ⟨B.mono, ?_, fun e he f hf => ?_⟩
    · refine List.Pairwise.imp_of_mem (R := fun _ _ => True) (fun {a b} ha hb _ => ?_) (List.pairwise_of_forall fun _ _ => trivial)
      rw [(M.nw a ha).1, (M.nw b hb).1]
      exact Nat.le_refl _
    · have h1 := (B.fd e he).2
      have h2 := (M.nw f hf).1
      omega
  · rcases List.mem_append.mp he with z | z
    · exact B.back e z
    · exact (M.nw e z).2.2
  · constructor
    · intro hm
      obtain ⟨e, he, rfl⟩ := List.mem_map.mp hm
      exact (M.nw e he).2.1
    · intro hf
      obtain ⟨e, he, em⟩ := hall m (k + 1) (Nat.le_refl _) hf
      rcases List.mem_append.mp he with z | z
      · obtain ⟨h1, h2⟩ := B.fd e z
        rw [em] at h1
        have := h1.inj hf
        omega
      · exact List.mem_map.mpr ⟨e, z, em⟩
/-- the whole search -/
structure WaysOk (ss : List Nat) (cms : List (List Nat)) (es : List Ent) : Prop where
  fd : ∀ e ∈ es, FD ss cms e.p e.d
  all : ∀ m t, Rch ss cms t m → ∃ e ∈ es, e.p = m
  nd : (es.map (·.p)).Nodup
  mono : es.Pairwise (fun e f => e.d ≤ f.d)
  back : ∀ e ∈ es, BackOk ss cms e
theorem ways_end {ss : List Nat} {cms : List (List Nat)} {k : Nat} {es : List Ent} (B : BInv ss cms k es) (hL : LatestOk ss cms k []) : WaysOk ss cms es := by
  refine ⟨fun e he => (B.fd e he).1, fun m t h => ?_, B.nd, B.mono, B.back⟩
  obtain ⟨d, _, hf⟩ := first_day h
  rcases Nat.lt_or_ge k d with z | z
  · obtain ⟨c, hc⟩ := FD.below hf (Nat.le_of_lt z)
    exact absurd ((hL c).mpr hc) (by simp)
  · exact B.all m d z hf
theorem nextFrom_lt {held n : Nat} : ∀ {ss : List Nat} {i acc : Nat}, i + ss.length ≤ n → acc < 2 ^ n → nextFrom held i ss acc < 2 ^ n
  | [], _, _, _, h => h
  | s :: ss, i, acc, hi, h => by
    rw [List.length_cons] at hi
    have h2 : (if (s &&& held) = s then acc ||| 2 ^ i else acc) < 2 ^ n := by
      split
      · exact Nat.or_lt_two_pow h (Nat.pow_lt_pow_of_lt (by decide) (by omega))
      · exact h
    exact nextFrom_lt (ss := ss) (i := i + 1) (by omega) h2
theorem nextM_lt (ss : List Nat) (held : Nat) : nextM ss held < 2 ^ ss.length := nextFrom_lt (by omega) (Nat.two_pow_pos _)
theorem rch_lt {ss : List Nat} {cms : List (List Nat)} (hc : 1 ≤ cms.length) : ∀ {t : Nat} {m : Nat × Nat}, Rch ss cms t m → m.1 < 2 ^ ss.length ∧ m.2 < cms.length
  | 0, m, h => by
    rw [show m = (0, 0) from h]
    exact ⟨Nat.two_pow_pos _, hc⟩
  | t + 1, m, ⟨c, cm, _, _, e⟩ => by
    rw [e]
    exact ⟨nextM_lt _ _, Nat.mod_lt _ hc⟩
theorem nodup_le : ∀ (n : Nat) (l : List Nat), l.Nodup → (∀ x ∈ l, x < n) → l.length ≤ n := fun n l h1 h2 => by
  have z := nat_nodup_len l (List.range n) h1 (fun x hx => List.mem_range.mpr (h2 x hx))
  rwa [List.length_range] at z
theorem nodup_on {α β : Type} (f : α → β) : ∀ {l : List α}, l.Nodup → (∀ a ∈ l, ∀ b ∈ l, f a = f b → a = b) → (l.map f).Nodup
  | [], _, _ => List.nodup_nil
  | x :: l, nd, inj => by
    obtain ⟨h1, h2⟩ := List.nodup_cons.mp nd
    rw [List.map_cons]
    refine List.nodup_cons.mpr ⟨fun z => ?_, nodup_on f h2 fun a ha b hb => inj a (List.mem_cons_of_mem _ ha) b (List.mem_cons_of_mem _ hb)⟩
    obtain ⟨y, hy, e⟩ := List.mem_map.mp z
    have := inj y (List.mem_cons_of_mem _ hy) x List.mem_cons_self e
    rw [this] at hy
    exact h1 hy
/-- a place as a number -/
def plN (p : Nat × Nat) : Nat := p.1 * 6 + p.2
theorem binv_len {ss : List Nat} {cms : List (List Nat)} {k : Nat} {es new : List Ent} {D : Nat × Nat → Nat → Prop} (hs : ss.length ≤ 7) (hc : 1 ≤ cms.length) (hc6 : cms.length ≤ 6) (B : BInv ss cms k es) (M : Mid ss cms k es new D) : (es ++ new).length ≤ 768 := by
  have lt : ∀ e ∈ es ++ new, e.p.1 < 2 ^ ss.length ∧ e.p.2 < cms.length := fun e he => by
    rcases List.mem_append.mp he with z | z
    · exact rch_lt hc (B.fd e z).1.1
    · exact rch_lt hc (M.nw e z).2.1.1
  have h2 : 2 ^ ss.length ≤ 2 ^ 7 := Nat.pow_le_pow_right (by decide) hs
  have nd : (((es ++ new).map (·.p)).map plN).Nodup := nodup_on plN M.nd fun a ha b hb h => by
    obtain ⟨e, he, rfl⟩ := List.mem_map.mp ha
    obtain ⟨f, hf, rfl⟩ := List.mem_map.mp hb
    have h1 := lt e he
    have h3 := lt f hf
    unfold plN at h
    exact Prod.ext (by omega) (by omega)
  have h := nodup_le 768 _ nd (fun x hx => by
    obtain ⟨p, hp, rfl⟩ := List.mem_map.mp hx
    obtain ⟨e, he, rfl⟩ := List.mem_map.mp hp
    have := lt e he
    unfold plN
    omega)
  rw [List.length_map, List.length_map] at h
  exact h
end N

set_option Elab.async false
set_option linter.all false
set_option maxRecDepth 100000
set_option maxHeartbeats 2000000
/-! lots and masks -/
namespace N
open Cb (lotV combs combsOf combsOf_sub)
/-- the lot covered behind a day -/
def nextL (h : List (List Nat)) (S L : List Nat) : List Nat := (List.range h.length).filter fun i => (h.getD i []).all fun s => decide (s ∈ S) || decide (s ∈ L)
def RchL (h : List (List Nat)) (c : Nat) : Nat → List Nat → Prop
  | 0, S => S = []
  | t + 1, S => ∃ S' L, RchL h c t S' ∧ LotOk h.length L ∧ L.length ≤ c ∧ S = nextL h S' L
/-- so many coins can cover a goal in just so many days -/
def Cov (h : List (List Nat)) (c : Nat) (goal : List Nat) (t : Nat) : Prop := ∃ S, RchL h c t S ∧ ∀ i ∈ goal, i ∈ S
def IsDays (h : List (List Nat)) (c : Nat) (goal : List Nat) : Option Nat → Prop
  | some d => Cov h c goal d ∧ ∀ d', d' < d → ¬ Cov h c goal d'
  | none => ∀ d, ¬ Cov h c goal d
theorem IsDays.inj {h : List (List Nat)} {c : Nat} {goal : List Nat} {o o' : Option Nat} (x : IsDays h c goal o) (y : IsDays h c goal o') : o = o' := by
  cases o with
  | none =>
    cases o' with
    | none => rfl
    | some d => exact absurd y.1 (x d)
  | some d =>
    cases o' with
    | none => exact absurd x.1 (y d)
    | some d' =>
      rcases Nat.lt_trichotomy d d' with z | z | z
      · exact absurd x.1 (y.2 d z)
      · rw [z]
      · exact absurd y.1 (x.2 d' z)
def Can (h : List (List Nat)) (c : Nat) (goal : List Nat) : Prop := ∃ t, Cov h c goal t
def IsNum (h : List (List Nat)) (goal : List Nat) (c : Nat) : Prop := Can h c goal ∧ ∀ c', c' < c → ¬ Can h c' goal
theorem IsNum.inj {h : List (List Nat)} {goal : List Nat} {c c' : Nat} (x : IsNum h goal c) (y : IsNum h goal c') : c = c' := by
  rcases Nat.lt_trichotomy c c' with z | z | z
  · exact absurd x.1 (y.2 c z)
  · exact z
  · exact absurd y.1 (x.2 c' z)
theorem isDays_none {h : List (List Nat)} {c : Nat} {goal : List Nat} {o : Option Nat} (x : IsDays h c goal o) : o = none ↔ ¬ Can h c goal := by
  cases o with
  | none => exact ⟨fun _ ⟨t, z⟩ => x t z, fun _ => rfl⟩
  | some d => exact ⟨fun z => by (cases z), fun z => absurd ⟨d, x.1⟩ z⟩
theorem mem_nextL {h : List (List Nat)} {S L : List Nat} {i : Nat} : i ∈ nextL h S L ↔ i < h.length ∧ ∀ s ∈ h.getD i [], s ∈ S ∨ s ∈ L := by
  unfold nextL
  rw [List.mem_filter, List.mem_range, List.all_eq_true]
  simp
theorem nextL_ok (h : List (List Nat)) (S L : List Nat) : LotOk h.length (nextL h S L) := List.filter_sublist
theorem rchL_ok {h : List (List Nat)} {c : Nat} : ∀ {t : Nat} {S : List Nat}, RchL h c t S → LotOk h.length S
  | 0, S, e => by rw [show S = [] from e]; exact List.nil_sublist _
  | t + 1, S, ⟨_, _, _, _, _, e⟩ => by rw [e]; exact nextL_ok _ _ _
/-! ### bits -/
theorem testBit_maskFrom {l : List Nat} {i acc : Nat} : (l.foldl (fun m j => m ||| 2 ^ j) acc).testBit i = (acc.testBit i || decide (i ∈ l)) := by
  induction l generalizing acc with
  | nil => simp
  | cons x l ih =>
    rw [List.foldl_cons, ih, Nat.testBit_or, Nat.testBit_two_pow]
    by_cases e : x = i
    · subst e; simp
    · have e2 : ¬ i = x := fun z => e z.symm
      simp [e, e2]
theorem testBit_mask {l : List Nat} {i : Nat} : (maskOf l).testBit i = decide (i ∈ l) := by
  unfold maskOf
  rw [testBit_maskFrom]
  simp
theorem mask_sub {m : Nat} {l : List Nat} : (m &&& maskOf l) = maskOf l ↔ ∀ i ∈ l, m.testBit i = true := by
  constructor
  · intro h i hi
    have z : (m &&& maskOf l).testBit i = true := by rw [h, testBit_mask]; exact decide_eq_true hi
    rw [Nat.testBit_and, Bool.and_eq_true] at z
    exact z.1
  · intro h
    apply Nat.eq_of_testBit_eq
    intro i
    rw [Nat.testBit_and, testBit_mask]
    by_cases hi : i ∈ l
    · rw [h i hi]; rfl
    · simp [hi]
theorem sub_mask {m : Nat} {l : List Nat} : (maskOf l &&& m) = maskOf l ↔ ∀ i ∈ l, m.testBit i = true := by
  rw [Nat.and_comm]
  exact mask_sub
theorem holds_iff {m : Nat} {l : List Nat} : holdsB m l = true ↔ ∀ i ∈ l, m.testBit i = true := by
  unfold holdsB
  rw [beq_iff_eq]
  exact mask_sub
theorem holds_lot {S l : List Nat} : holdsB (maskOf S) l = true ↔ ∀ i ∈ l, i ∈ S := by
  rw [holds_iff]
  simp only [testBit_mask, decide_eq_true_eq]
theorem testBit_nextFrom {held : Nat} : ∀ {ss : List Nat} {i acc j : Nat}, (nextFrom held i ss acc).testBit j = (acc.testBit j || decide (i ≤ j ∧ j < i + ss.length ∧ (ss.getD (j - i) 0 &&& held) = ss.getD (j - i) 0))
  | [], i, acc, j => by
    have e : ¬ (i ≤ j ∧ j < i + ([] : List Nat).length ∧ (([] : List Nat).getD (j - i) 0 &&& held) = ([] : List Nat).getD (j - i) 0) := fun z => by
      have := z.1
      have := z.2.1
      simp at this
      omega
    rw [decide_eq_false e]
    show acc.testBit j = _
    simp
  | s :: ss, i, acc, j => by
    show (nextFrom held (i + 1) ss (if (s &&& held) = s then acc ||| 2 ^ i else acc)).testBit j = _
    rw [testBit_nextFrom]
    by_cases e : j = i
    · subst e
      have e1 : ¬ (j + 1 ≤ j ∧ j < j + 1 + ss.length ∧ (ss.getD (j - (j + 1)) 0 &&& held) = ss.getD (j - (j + 1)) 0) := fun z => by omega
      rw [decide_eq_false e1, Bool.or_false, Nat.sub_self]
      by_cases hb : (s &&& held) = s
      · rw [if_pos hb, Nat.testBit_or, Nat.testBit_two_pow]
        have e2 : j ≤ j ∧ j < j + (s :: ss).length ∧ ((s :: ss).getD 0 0 &&& held) = (s :: ss).getD 0 0 := ⟨Nat.le_refl _, by rw [List.length_cons]; omega, hb⟩
        rw [decide_eq_true e2]
        simp
      · rw [if_neg hb]
        have e2 : ¬ (j ≤ j ∧ j < j + (s :: ss).length ∧ ((s :: ss).getD 0 0 &&& held) = (s :: ss).getD 0 0) := fun z => hb z.2.2
        rw [decide_eq_false e2, Bool.or_false]
    · have ea : (if (s &&& held) = s then acc ||| 2 ^ i else acc).testBit j = acc.testBit j := by
        split
        · rw [Nat.testBit_or, Nat.testBit_two_pow]
          have : ¬ i = j := fun z => e z.symm
          simp [this]
        · rfl
      rw [ea]
      congr 1
      rw [decide_eq_decide]
      by_cases hl : i + 1 ≤ j
      · have ej : j - i = (j - (i + 1)) + 1 := by omega
        rw [ej, List.getD_cons_succ, List.length_cons]
        constructor
        · rintro ⟨h1, h2, h3⟩; exact ⟨by omega, by omega, h3⟩
        · rintro ⟨h1, h2, h3⟩; exact ⟨hl, by omega, h3⟩
      · constructor
        · rintro ⟨h1, _⟩; omega
        · rintro ⟨h1, _⟩; omega
theorem testBit_nextM {ss : List Nat} {held j : Nat} : (nextM ss held).testBit j = decide (j < ss.length ∧ (ss.getD j 0 &&& held) = ss.getD j 0) := by
  unfold nextM
  rw [testBit_nextFrom]
  simp
theorem next_mask (h : List (List Nat)) (S L : List Nat) : nextM (h.map maskOf) (maskOf S ||| maskOf L) = maskOf (nextL h S L) := by
  apply Nat.eq_of_testBit_eq
  intro i
  rw [testBit_nextM, testBit_mask, decide_eq_decide, mem_nextL, List.length_map]
  by_cases hi : i < h.length
  · have eg : (h.map maskOf).getD i 0 = maskOf (h.getD i []) := by
      rw [List.getD_eq_getElem?_getD, List.getElem?_map, List.getD_eq_getElem?_getD, List.getElem?_eq_getElem hi]
      rfl
    rw [eg, sub_mask]
    simp only [hi, true_and, Nat.testBit_or, testBit_mask, Bool.or_eq_true, decide_eq_true_eq]
  · simp [hi]
theorem nextL_mono {h : List (List Nat)} {S S' L L' : List Nat} (h1 : ∀ i ∈ S, i ∈ S') (h2 : ∀ i ∈ L, i ∈ L') : ∀ i ∈ nextL h S L, i ∈ nextL h S' L' := by
  intro i hi
  rw [mem_nextL] at hi ⊢
  exact ⟨hi.1, fun s hs => (hi.2 s hs).elim (fun z => .inl (h1 s z)) (fun z => .inr (h2 s z))⟩
/-- a lot within a pool can be made greater -/
theorem grow {pool : List Nat} (hp : pool.Nodup) : ∀ {l : List Nat}, l.Sublist pool → ∀ {r : Nat}, l.length ≤ r → r ≤ pool.length → ∃ l' : List Nat, l'.Sublist pool ∧ l'.length = r ∧ ∀ i ∈ l, i ∈ l' := by
  induction pool with
  | nil =>
    intro l hl r h1 h2
    exact ⟨l, hl, by have := List.sublist_nil.mp hl; subst this; simp at h1 h2 ⊢; omega, fun i hi => hi⟩
  | cons x pool ih =>
    have hp' := (List.nodup_cons.mp hp).2
    intro l hl r h1 h2
    rw [List.length_cons] at h2
    cases hl with
    | cons _ hl =>
      by_cases hr : r ≤ pool.length
      · obtain ⟨l', a, b, c⟩ := ih hp' hl h1 hr
        exact ⟨l', a.cons x, b, c⟩
      · exact ⟨x :: pool, List.Sublist.refl _, by rw [List.length_cons]; omega, fun i hi => List.mem_cons_of_mem _ (hl.subset hi)⟩
    | cons_cons _ hl =>
      rename_i l
      rw [List.length_cons] at h1
      obtain ⟨l', a, b, c⟩ := ih hp' hl (r := r - 1) (by omega) (by omega)
      refine ⟨x :: l', a.cons_cons x, by rw [List.length_cons]; omega, fun i hi => ?_⟩
      rcases List.mem_cons.mp hi with z | z
      · rw [z]; exact List.mem_cons_self
      · exact List.mem_cons_of_mem _ (c i z)
theorem lot_growA {lot L : List Nat} {c : Nat} (nd : lot.Nodup) (hL : L.Sublist lot) (hc : L.length ≤ c) : ∃ L', L' ∈ combsOf lot (min c lot.length) ∧ ∀ i ∈ L, i ∈ L' := by
  have hn := hL.length_le
  obtain ⟨L', a, b, d⟩ := grow nd hL (r := min c lot.length) (by omega) (by omega)
  exact ⟨L', combsOf_sub.mpr ⟨a, b⟩, d⟩
theorem lot_grow {n c : Nat} {L : List Nat} (hL : LotOk n L) (hc : L.length ≤ c) : ∃ L', L' ∈ combs n (min c n) ∧ ∀ i ∈ L, i ∈ L' := by
  obtain ⟨L', a, b⟩ := lot_growA (c := c) List.nodup_range hL hc
  rw [List.length_range] at a
  exact ⟨L', a, b⟩
/-! ### coins on slates of a lot, by an allowance -/
def RchA (h : List (List Nat)) (lot alw : List Nat) : Nat → List Nat → Prop
  | 0, S => S = []
  | t + 1, S => ∃ S' L, RchA h lot alw t S' ∧ L.Sublist lot ∧ L.length ≤ alw.getD (t % alw.length) 0 ∧ S = nextL h S' L
def CovA (h : List (List Nat)) (lot alw goal : List Nat) (t : Nat) : Prop := ∃ S, RchA h lot alw t S ∧ ∀ i ∈ goal, i ∈ S
def CanA (h : List (List Nat)) (lot alw goal : List Nat) : Prop := ∃ t, CovA h lot alw goal t
/-- the first day of those of which something holds -/
def IsFirst (C : Nat → Prop) : Option Nat → Prop
  | some d => C d ∧ ∀ d', d' < d → ¬ C d'
  | none => ∀ d, ¬ C d
theorem IsFirst.inj {C : Nat → Prop} {o o' : Option Nat} (x : IsFirst C o) (y : IsFirst C o') : o = o' := by
  cases o with
  | none =>
    cases o' with
    | none => rfl
    | some d => exact absurd y.1 (x d)
  | some d =>
    cases o' with
    | none => exact absurd x.1 (y d)
    | some d' =>
      rcases Nat.lt_trichotomy d d' with z | z | z
      · exact absurd x.1 (y.2 d z)
      · rw [z]
      · exact absurd y.1 (x.2 d' z)
theorem IsFirst.none_iff {C : Nat → Prop} {o : Option Nat} (x : IsFirst C o) : o = none ↔ ¬ ∃ t, C t := by
  cases o with
  | none => exact ⟨fun _ ⟨t, z⟩ => x t z, fun _ => rfl⟩
  | some d => exact ⟨fun z => by (cases z), fun z => absurd ⟨d, x.1⟩ z⟩
theorem IsFirst.iff {C D : Nat → Prop} (h : ∀ t, C t ↔ D t) {o : Option Nat} (x : IsFirst C o) : IsFirst D o := by
  have e : C = D := funext fun t => propext (h t)
  rw [← e]
  exact x
theorem isDays_first {h : List (List Nat)} {c : Nat} {goal : List Nat} {o : Option Nat} : IsDays h c goal o ↔ IsFirst (Cov h c goal) o := by
  cases o <;> exact Iff.rfl
theorem rchA_ok {h : List (List Nat)} {lot alw : List Nat} : ∀ {t : Nat} {S : List Nat}, RchA h lot alw t S → LotOk h.length S
  | 0, S, e => by rw [show S = [] from e]; exact List.nil_sublist _
  | t + 1, S, ⟨_, _, _, _, _, e⟩ => by rw [e]; exact nextL_ok _ _ _
/-- as many coins each day, on all slates -/
theorem rchA_one {h : List (List Nat)} {c : Nat} : ∀ {t : Nat} {S : List Nat}, RchA h (List.range h.length) [c] t S ↔ RchL h c t S
  | 0, S => Iff.rfl
  | t + 1, S => by
    have e : ([c] : List Nat).getD (t % ([c] : List Nat).length) 0 = c := by
      rw [show ([c] : List Nat).length = 1 from rfl, Nat.mod_one]
      rfl
    constructor
    · rintro ⟨S', L, h1, h2, h3, h4⟩
      rw [e] at h3
      exact ⟨S', L, rchA_one.mp h1, h2, h3, h4⟩
    · rintro ⟨S', L, h1, h2, h3, h4⟩
      rw [← e] at h3
      exact ⟨S', L, rchA_one.mpr h1, h2, h3, h4⟩
theorem covA_one {h : List (List Nat)} {c : Nat} {goal : List Nat} {t : Nat} : CovA h (List.range h.length) [c] goal t ↔ Cov h c goal t :=
  ⟨fun ⟨S, a, b⟩ => ⟨S, rchA_one.mp a, b⟩, fun ⟨S, a, b⟩ => ⟨S, rchA_one.mpr a, b⟩⟩
theorem canA_one {h : List (List Nat)} {c : Nat} {goal : List Nat} : CanA h (List.range h.length) [c] goal ↔ Can h c goal :=
  ⟨fun ⟨t, a⟩ => ⟨t, covA_one.mp a⟩, fun ⟨t, a⟩ => ⟨t, covA_one.mpr a⟩⟩
/-- no lot holds more than the lot of all its slates -/
theorem rchA_min {h : List (List Nat)} {lot : List Nat} {c : Nat} : ∀ {t : Nat} {S : List Nat}, RchA h lot [c] t S → RchA h lot [min c lot.length] t S
  | 0, S, e => e
  | t + 1, S, ⟨S', L, h1, h2, h3, h4⟩ => by
    have e : ∀ c : Nat, ([c] : List Nat).getD (t % ([c] : List Nat).length) 0 = c := fun c => by
      rw [show ([c] : List Nat).length = 1 from rfl, Nat.mod_one]
      rfl
    rw [e] at h3
    refine ⟨S', L, rchA_min h1, h2, ?_, h4⟩
    rw [e]
    have := h2.length_le
    omega
theorem canA_min {h : List (List Nat)} {lot goal : List Nat} {c : Nat} (x : CanA h lot [c] goal) : CanA h lot [min c lot.length] goal := by
  obtain ⟨t, S, a, b⟩ := x
  exact ⟨t, S, rchA_min a, b⟩
theorem cms_len (lot alw : List Nat) : (cmsOf lot alw).length = alw.length := List.length_map ..
theorem cms_get {lot alw : List Nat} {i : Nat} (hi : i < alw.length) : (cmsOf lot alw).getD i [] = coinMasks lot (alw.getD i 0) := by
  rw [List.getD_eq_getElem?_getD, List.getD_eq_getElem?_getD, cmsOf, List.getElem?_map, List.getElem?_eq_getElem hi]
  rfl
/-- the search by masks finds lots -/
theorem rch_lotA {h : List (List Nat)} {lot alw : List Nat} (ha : 1 ≤ alw.length) : ∀ {t : Nat} {p : Nat × Nat}, Rch (h.map maskOf) (cmsOf lot alw) t p → ∃ S, RchA h lot alw t S ∧ p = (maskOf S, t % alw.length)
  | 0, p, e => ⟨[], rfl, by rw [show p = (0, 0) from e, Nat.zero_mod]; rfl⟩
  | t + 1, p, ⟨c, cm, h1, h2, e⟩ => by
    obtain ⟨S, hS, rfl⟩ := rch_lotA ha h1
    dsimp only at h2
    rw [cms_get (Nat.mod_lt _ ha)] at h2
    obtain ⟨L, hL, rfl⟩ := List.mem_map.mp h2
    have hm := combsOf_sub.mp hL
    refine ⟨nextL h S L, ⟨S, L, hS, hm.1, by rw [hm.2]; exact Nat.min_le_left _ _, rfl⟩, ?_⟩
    rw [e, nx, cms_len, next_mask, Nat.mod_add_mod]
theorem lot_rchA {h : List (List Nat)} {lot alw : List Nat} (nd : lot.Nodup) (ha : 1 ≤ alw.length) : ∀ {t : Nat} {S : List Nat}, RchA h lot alw t S → ∃ S', Rch (h.map maskOf) (cmsOf lot alw) t (maskOf S', t % alw.length) ∧ ∀ i ∈ S, i ∈ S'
  | 0, S, e => ⟨[], by rw [Nat.zero_mod]; rfl, fun i hi => by rw [show S = [] from e] at hi; exact hi⟩
  | t + 1, S, ⟨S1, L, h1, h2, h3, e⟩ => by
    obtain ⟨S', hS', hsub⟩ := lot_rchA nd ha h1
    obtain ⟨L', hL', hsub2⟩ := lot_growA nd h2 h3
    refine ⟨nextL h S' L', ⟨_, maskOf L', hS', ?_, ?_⟩, ?_⟩
    · dsimp only
      rw [cms_get (Nat.mod_lt _ ha)]
      exact List.mem_map.mpr ⟨L', hL', rfl⟩
    · rw [nx, cms_len, next_mask, Nat.mod_add_mod]
    · rw [e]
      exact nextL_mono hsub hsub2
theorem covA_iff {h : List (List Nat)} {lot alw goal : List Nat} {t : Nat} (nd : lot.Nodup) (ha : 1 ≤ alw.length) : CovA h lot alw goal t ↔ ∃ p, Rch (h.map maskOf) (cmsOf lot alw) t p ∧ holdsB p.1 goal = true := by
  constructor
  · rintro ⟨S, h1, h2⟩
    obtain ⟨S', h3, h4⟩ := lot_rchA nd ha h1
    exact ⟨_, h3, holds_lot.mpr fun i hi => h4 i (h2 i hi)⟩
  · rintro ⟨p, h1, h2⟩
    obtain ⟨S, hS, rfl⟩ := rch_lotA ha h1
    exact ⟨S, hS, holds_lot.mp h2⟩
/-- the first entry that holds a goal -/
def firstOf (es : List Ent) (goal : List Nat) : Option Ent := es.find? fun e => holdsB e.p.1 goal
theorem first_daysA {h : List (List Nat)} {lot alw goal : List Nat} {es : List Ent} (nd : lot.Nodup) (ha : 1 ≤ alw.length) (W : WaysOk (h.map maskOf) (cmsOf lot alw) es) : IsFirst (CovA h lot alw goal) ((firstOf es goal).map (·.d)) := by
  unfold firstOf
  cases e : es.find? fun e => holdsB e.p.1 goal with
  | none =>
    intro d hc
    obtain ⟨m, h1, h2⟩ := (covA_iff nd ha).mp hc
    obtain ⟨x, hx, rfl⟩ := W.all m d h1
    have z := List.find?_eq_none.mp e x hx
    exact z h2
  | some x =>
    have hx := List.mem_of_find?_eq_some e
    have hh : holdsB x.p.1 goal = true := by have := List.find?_some e; exact this
    refine ⟨(covA_iff nd ha).mpr ⟨x.p, (W.fd x hx).1, hh⟩, fun d' hd hc => ?_⟩
    obtain ⟨m, h1, h2⟩ := (covA_iff nd ha).mp hc
    obtain ⟨d, hd2, hf⟩ := first_day h1
    obtain ⟨y, hy, rfl⟩ := W.all m d hf.1
    have ed : y.d = d := (W.fd y hy).inj hf
    have hd' : d' < x.d := hd
    obtain ⟨_, as, bs, rfl, hn⟩ := List.find?_eq_some_iff_append.mp e
    rcases List.mem_append.mp hy with z | z
    · have q := hn y z
      rw [h2] at q
      exact absurd q (by decide)
    · rcases List.mem_cons.mp z with z | z
      · have hdx : y.d = x.d := by rw [z]
        omega
      · have q := (List.pairwise_cons.mp (List.pairwise_append.mp W.mono).2.1).1 y z
        omega
theorem first_canA {h : List (List Nat)} {lot alw goal : List Nat} {es : List Ent} (nd : lot.Nodup) (ha : 1 ≤ alw.length) (W : WaysOk (h.map maskOf) (cmsOf lot alw) es) : firstOf es goal = none ↔ ¬ CanA h lot alw goal := by
  have q := (first_daysA (goal := goal) nd ha W).none_iff
  rw [Option.map_eq_none_iff] at q
  exact q
theorem first_days {h : List (List Nat)} {c : Nat} {goal : List Nat} {es : List Ent} (W : WaysOk (h.map maskOf) (cmsOf (List.range h.length) [c]) es) : IsDays h c goal ((firstOf es goal).map (·.d)) :=
  isDays_first.mpr ((first_daysA (alw := [c]) List.nodup_range (Nat.le_refl 1) W).iff fun _ => covA_one)
theorem rch_lot {h : List (List Nat)} {c t : Nat} {p : Nat × Nat} (x : Rch (h.map maskOf) (cmsOf (List.range h.length) [c]) t p) : ∃ S, RchL h c t S ∧ p = (maskOf S, 0) := by
  obtain ⟨S, a, b⟩ := rch_lotA (alw := [c]) (Nat.le_refl 1) x
  rw [show ([c] : List Nat).length = 1 from rfl, Nat.mod_one] at b
  exact ⟨S, rchA_one.mp a, b⟩
theorem lot_rch {h : List (List Nat)} {c t : Nat} {S : List Nat} (x : RchL h c t S) : ∃ S', Rch (h.map maskOf) (cmsOf (List.range h.length) [c]) t (maskOf S', 0) ∧ ∀ i ∈ S, i ∈ S' := by
  obtain ⟨S', a, b⟩ := lot_rchA (alw := [c]) List.nodup_range (Nat.le_refl 1) (rchA_one.mpr x)
  rw [show ([c] : List Nat).length = 1 from rfl, Nat.mod_one] at a
  exact ⟨S', a, b⟩
theorem LotOk.nodup {n : Nat} {l : List Nat} (h : LotOk n l) : l.Nodup := List.Pairwise.sublist h List.nodup_range
/-- the least number of coins on slates of a lot -/
def IsNumL (h : List (List Nat)) (goal lot : List Nat) : Option Nat → Prop
  | some c => CanA h lot [c] goal ∧ ∀ c', c' < c → ¬ CanA h lot [c'] goal
  | none => ∀ c, ¬ CanA h lot [c] goal
theorem isNumL_first {h : List (List Nat)} {goal lot : List Nat} {o : Option Nat} : IsNumL h goal lot o ↔ IsFirst (fun c => CanA h lot [c] goal) o := by
  cases o <;> exact Iff.rfl
theorem isNumL_le {h : List (List Nat)} {goal lot : List Nat} {c : Nat} (x : IsNumL h goal lot (some c)) : c ≤ lot.length := by
  rcases Nat.lt_or_ge lot.length c with z | z
  · have q := canA_min x.1
    rw [Nat.min_eq_right (Nat.le_of_lt z)] at q
    exact absurd q (x.2 _ z)
  · exact z
/-- as many coins as clerks cover all -/
theorem can_all {h : List (List Nat)} (ok : HouseOk h) {goal : List Nat} (hg : LotOk h.length goal) : Can h h.length goal := by
  refine ⟨1, nextL h [] (List.range h.length), ⟨[], List.range h.length, rfl, List.Sublist.refl _, by rw [List.length_range]; exact Nat.le_refl _, rfl⟩, fun i hi => ?_⟩
  rw [mem_nextL]
  have hlt := hg.lt i hi
  refine ⟨hlt, fun s hs => .inr ?_⟩
  have hm : h.getD i [] ∈ h := by
    rw [List.getD_eq_getElem?_getD, List.getElem?_eq_getElem hlt]
    exact List.getElem_mem hlt
  exact (ok.ok _ hm).2.subset hs
theorem isNumL_all {h : List (List Nat)} (ok : HouseOk h) {goal : List Nat} (hg : LotOk h.length goal) {o : Option Nat} (x : IsNumL h goal (List.range h.length) o) : ∃ c, o = some c ∧ IsNum h goal c ∧ c ≤ h.length := by
  cases o with
  | none => exact absurd (canA_one.mpr (can_all ok hg)) (x _)
  | some c =>
    have hl := isNumL_le x
    rw [List.length_range] at hl
    exact ⟨c, rfl, ⟨canA_one.mp x.1, fun c' hc z => x.2 c' hc (canA_one.mpr z)⟩, hl⟩
end N

set_option Elab.async false
set_option linter.all false
set_option maxRecDepth 100000
set_option maxHeartbeats 2000000
namespace N
open Cb (lotV combs combsOf combsOf_sub)
open PySem PySem.Spec PyProof.Rows L2
def topS (i : Nat) : Stmt := PySem.Challenge.pw_nightslates_k01_whole_coins.main.body.getD i (.Pass ⟨0, 0, 0, 0⟩)
abbrev s_is_number : Stmt := topS 8
abbrev s_is_lot : Stmt := topS 9
abbrev s_check_number : Stmt := topS 10
abbrev s_check_house : Stmt := topS 11
abbrev s_check_lot : Stmt := topS 12
abbrev s_check_goal : Stmt := topS 13
abbrev s_after : Stmt := topS 15
abbrev s_slate_number : Stmt := topS 17
abbrev s_number_of : Stmt := topS 18
abbrev s_days_to : Stmt := topS 19
abbrev s_cover_row : Stmt := topS 20
abbrev s_shows_cover_row : Stmt := topS 21
abbrev s_closed_family : Stmt := topS 22
abbrev s_shows_closed_family : Stmt := topS 23
abbrev s_all_slates : Stmt := topS 24
abbrev s_lots_within : Stmt := topS 25
abbrev s_can_cover : Stmt := topS 26
abbrev s_least_coins : Stmt := topS 27
abbrev s_covered_lots : Stmt := topS 28
abbrev s_quickest_row : Stmt := topS 29
abbrev s_is_quickest_row : Stmt := topS 30
abbrev s__check_cover : Stmt := topS 31
abbrev s__mask_of : Stmt := topS 32
abbrev s__lot_of : Stmt := topS 33
abbrev s__holds : Stmt := topS 34
abbrev s__coin_masks : Stmt := topS 35
abbrev s__next_cover : Stmt := topS 36
abbrev s__ways : Stmt := topS 37
abbrev s__first_cover : Stmt := topS 38
abbrev s__row_covers : Stmt := topS 39
abbrev s__is_family : Stmt := topS 40
abbrev s__is_closed : Stmt := topS 41
abbrev s__law_taken : Stmt := topS 43
abbrev s__law_house : Stmt := topS 44
abbrev s__law_lots : Stmt := topS 45
abbrev s__law_pick : Stmt := topS 46
abbrev s__law_alike : Stmt := topS 47
abbrev s__law_next : Stmt := topS 48
abbrev s__law_covered : Stmt := topS 49
abbrev s__law_holds : Stmt := topS 50
abbrev s__law_days : Stmt := topS 51
abbrev s__law_number : Stmt := topS 52
abbrev s__law_leads : Stmt := topS 53
abbrev s__law_closed : Stmt := topS 54
abbrev s_law : Stmt := topS 55
structure Txt (K : PySem.W.Frag) (mg : Str → Option Value) where
  d_is_number : Def K mg "is_number" s_is_number ["value", "low", "high"]
  d_is_lot : Def K mg "is_lot" s_is_lot ["house", "value"]
  d_check_number : Def K mg "check_number" s_check_number ["value", "low", "high"]
  d_check_house : Def K mg "check_house" s_check_house ["house"]
  d_check_lot : Def K mg "check_lot" s_check_lot ["house", "lot"]
  d_check_goal : Def K mg "check_goal" s_check_goal ["house", "goal"]
  d_after : Def K mg "after" s_after ["house", "covered", "coins"]
  d_slate_number : Def K mg "slate_number" s_slate_number ["house"]
  d_number_of : Def K mg "number_of" s_number_of ["house", "goal"]
  d_days_to : Def K mg "days_to" s_days_to ["house", "coins", "goal"]
  d_cover_row : Def K mg "cover_row" s_cover_row ["house", "coins", "goal"]
  d_shows_cover_row : Def K mg "shows_cover_row" s_shows_cover_row ["house", "coins", "goal", "value"]
  d_closed_family : Def K mg "closed_family" s_closed_family ["house", "coins", "goal"]
  d_shows_closed_family : Def K mg "shows_closed_family" s_shows_closed_family ["house", "coins", "goal", "value"]
  d_all_slates : Def K mg "all_slates" s_all_slates ["house"]
  d_lots_within : Def K mg "lots_within" s_lots_within ["lot", "size"]
  d_can_cover : Def K mg "can_cover" s_can_cover ["house", "coins", "goal", "lot"]
  d_least_coins : Def K mg "least_coins" s_least_coins ["house", "goal", "lot"]
  d_covered_lots : Def K mg "covered_lots" s_covered_lots ["house", "coins"]
  d_quickest_row : Def K mg "quickest_row" s_quickest_row ["house", "allowance", "goal"]
  d_is_quickest_row : Def K mg "is_quickest_row" s_is_quickest_row ["house", "allowance", "goal", "value"]
  d__check_cover : Def K mg "_check_cover" s__check_cover ["house", "coins", "goal"]
  d__mask_of : Def K mg "_mask_of" s__mask_of ["lot"]
  d__lot_of : Def K mg "_lot_of" s__lot_of ["mask"]
  d__holds : Def K mg "_holds" s__holds ["mask", "goal"]
  d__coin_masks : Def K mg "_coin_masks" s__coin_masks ["lot", "coins"]
  d__next_cover : Def K mg "_next_cover" s__next_cover ["sights", "held"]
  d__ways : Def K mg "_ways" s__ways ["house", "lot", "allowance"]
  d__first_cover : Def K mg "_first_cover" s__first_cover ["ways", "goal"]
  d__row_covers : Def K mg "_row_covers" s__row_covers ["house", "row", "goal"]
  d__is_family : Def K mg "_is_family" s__is_family ["house", "value"]
  d__is_closed : Def K mg "_is_closed" s__is_closed ["house", "coins", "masks"]
  d__law_taken : Def K mg "_law_taken" s__law_taken ["row", "many"]
  d__law_house : Def K mg "_law_house" s__law_house ["row", "many", "most"]
  d__law_lots : Def K mg "_law_lots" s__law_lots ["many"]
  d__law_pick : Def K mg "_law_pick" s__law_pick ["row", "things"]
  d__law_alike : Def K mg "_law_alike" s__law_alike ["found", "due"]
  d__law_next : Def K mg "_law_next" s__law_next ["house", "covered", "coins"]
  d__law_covered : Def K mg "_law_covered" s__law_covered ["house", "coins"]
  d__law_holds : Def K mg "_law_holds" s__law_holds ["lot", "part"]
  d__law_days : Def K mg "_law_days" s__law_days ["house", "coins", "goal"]
  d__law_number : Def K mg "_law_number" s__law_number ["house", "goal"]
  d__law_leads : Def K mg "_law_leads" s__law_leads ["house", "coins", "goal", "value", "days"]
  d__law_closed : Def K mg "_law_closed" s__law_closed ["house", "coins", "goal", "value"]
  n_len : mg "len" = none
  n_range : mg "range" = none
  n_tuple : mg "tuple" = none
  n_list : mg "list" = none
  n_sorted : mg "sorted" = none
  n_enumerate : mg "enumerate" = none
  n_min : mg "min" = none
  n_type : mg "type" = none
  n_int : mg "int" = none
  n_isinstance : mg "isinstance" = none
  n_zip : mg "zip" = none
  n_any : mg "any" = none
  n_all : mg "all" = none
  n_bool : mg "bool" = none
  n_str : mg "str" = none
  n_set : mg "set" = none
  g_MOST_CLERKS : ∃ t, mg "MOST_CLERKS" = some (.int 7 t)
  g_combinations : mg "combinations" = some (.type Cb.TC)
end N

set_option Elab.async false
set_option linter.all false
set_option maxRecDepth 100000
set_option maxHeartbeats 2000000
namespace N
open Cb (lotV combs combsOf combsOf_sub)
open PySem PySem.Spec PyProof.Rows L2
section
variable {P : Program} {w : World} {K : PySem.W.Frag} {mg : Str → Option Value} {base : Heap}
/-- is_number -/
def isNum (x : V) (lo hi : Int) : Bool := match x with
  | .int i => decide (lo ≤ i) && decide (i ≤ hi)
  | _ => false
theorem tyb_not {H : Hp} {x : V} {T : String} (t : TyB K H x T) (h : T ≠ "int") (lo hi : Int) : isNum x lo hi = false := by
  cases t <;> first | rfl | exact absurd rfl h
theorem tyb_int {H : Hp} {x : V} (t : TyB K H x "int") : ∃ i, x = .int i := by
  generalize e : ("int" : String) = T at t
  cases t <;> first | exact ⟨_, rfl⟩ | exact absurd e (by decide)
def sp_is_number (K : PySem.W.Frag) : Sp := fun vs H Q _ => ∃ (x : V) (T : String) (lo hi : Int), vs = [x, .int lo, .int hi] ∧ TyB K H x T ∧ Q (.bl (isNum x lo hi)) H
theorem sc_is_number : FnScope ["value", "low", "high"] ["value", "low", "high"] (defScope s_is_number) := ⟨rfl, rfl, rfl, by decide +kernel, rfl, by decide +kernel, by decide +kernel⟩
theorem ok_is_number (T : Txt K mg) : FnOk P w K mg base CX0 1 T.d_is_number.f T.d_is_number.fd ["value", "low", "high"] (sp_is_number K) := by
  refine T.d_is_number.F.ok sc_is_number (fun vs H Q E h => ?_) (fun cdv A outer s H vs Q E hr h => ?_)
  · obtain ⟨x, _, lo, hi, rfl, _⟩ := h
    rfl
  · obtain ⟨x, ty, lo, hi, rfl, ht, q⟩ := h
    refine ⟨_, pss_one (ps_ret (pe_and (pe_cmpR op_isTyB (pe_callTy call_type1 (by rfl) T.n_type (by decide +kernel) (pa_cons (pv 0) pa_nil)) (pe_bltn (v := .ty "int") (u := .type "int") (by rfl) T.n_int (by decide +kernel) rfl) (nomark _))
      (pe_one (pe_chain op_le op_le (pv 1) (pv 0) (pv 2))))), ?_⟩
    refine ⟨x, rfl, x, ty, rfl, ht, ty, "int", rfl, rfl, _, rfl, ?_⟩
    by_cases e : ty = "int"
    · subst e
      obtain ⟨i, rfl⟩ := tyb_int ht
      rw [decide_eq_true rfl]
      refine iteT ⟨.int lo, rfl, .int i, rfl, lo, i, rfl, rfl, _, rfl, ?_⟩
      by_cases h1 : lo ≤ i
      · rw [decide_eq_true h1]
        refine iteT ⟨.int hi, rfl, i, hi, rfl, rfl, ?_⟩
        have e2 : isNum (.int i) lo hi = decide (i ≤ hi) := by simp [isNum, h1]
        rw [e2] at q
        exact q
      · rw [decide_eq_false h1]
        refine iteF ?_
        have e2 : isNum (.int i) lo hi = false := by simp [isNum, h1]
        rw [e2] at q
        exact q
    · rw [decide_eq_false e]
      refine iteF ?_
      rw [tyb_not ht e] at q
      exact q
/-- is_lot, of any value -/
def lotB (n : Int) : Int → List V → Bool
  | _, [] => true
  | least, y :: ys => isNum y least (n - 1) && match y with
    | .int i => lotB n (i + 1) ys
    | _ => false
def sp_is_lot (K : PySem.W.Frag) : Sp := fun vs H Q _ => ∃ (hp : Addr) (hs : List V) (x : V), vs = [.ref hp, x] ∧ SqT K H hp hs ∧
  ((∃ ty, TyB K H x ty ∧ ty ≠ "tuple" ∧ Q (.bl false) H) ∨ ∃ (a : Addr) (xs : List V), x = .ref a ∧ SqT K H a xs ∧ (∀ y ∈ xs, ∃ ty, TyB K H y ty) ∧ Q (.bl (lotB hs.length 0 xs)) H)
theorem sc_is_lot : FnScope ["house", "value", "least", "clerk"] ["house", "value"] (defScope s_is_lot) := ⟨rfl, rfl, rfl, by decide +kernel, rfl, by decide +kernel, by decide +kernel⟩
theorem ok_is_lot (T : Txt K mg) : FnOk P w K mg base CX0 2 T.d_is_lot.f T.d_is_lot.fd ["house", "value"] (sp_is_lot K) := by
  have G := ok_is_number (P := P) (w := w) (base := base) T
  refine T.d_is_lot.F.ok sc_is_lot (fun vs H Q E h => ?_) (fun cdv A outer s H vs Q E hr h => ?_)
  · obtain ⟨hp, hs, x, rfl, _⟩ := h
    rfl
  · obtain ⟨hp, hs, x, rfl, hh, h⟩ := h
    refine ⟨_, pss_cons (ps_if (pt_cmpR op_notTyB (pe_callTy call_type1 (by rfl) T.n_type (by decide +kernel) (pa_cons (pv 1) pa_nil)) (pe_bltn (v := .ty "tuple") (u := .type "tuple") (by rfl) T.n_tuple (by decide +kernel) rfl) (nomark _)) (pss_one (ps_ret pe_bl)) pss_nil)
      (pss_cons (ps_set (i := 2) sc_is_lot.nd rfl (.inl rfl) pe_int)
      (pss_cons (ps_for PassesOwn.never rfl (pi_tup (pv 1)) (pg_name (i := 3) sc_is_lot.nd rfl (.inl rfl))
        (pss_cons (ps_if (pt_not (pt_val (pe_call G hr (by rfl) T.d_is_number.g T.d_is_number.F.kp T.d_is_number.b .nil pass0 (pa_cons (pv 3) (pa_cons (pv 2) (pa_cons (pe_op op_sub (pe_callB call_len_seq (by rfl) T.n_len PySem.boot_len (pa_cons (pv 0) pa_nil)) pe_int) pa_nil)))))) (pss_one (ps_ret pe_bl)) pss_nil)
        (pss_one (ps_set (i := 2) sc_is_lot.nd rfl (.inl rfl) (pe_op op_add (pv 3) pe_int)))))
      (pss_one (ps_ret pe_bl)))), ?_⟩
    rcases h with ⟨ty, ht, hne, q⟩ | ⟨a, xs, rfl, hx, hty, q⟩
    · refine ⟨x, rfl, x, ty, rfl, ht, ty, "tuple", rfl, rfl, _, rfl, ?_⟩
      rw [decide_eq_false hne]
      exact iteT q
    · refine ⟨.ref a, rfl, .ref a, "tuple", rfl, .tup hx, "tuple", "tuple", rfl, rfl, _, rfl, ?_⟩
      rw [decide_eq_true rfl]
      refine iteF ?_
      refine ⟨.ref a, rfl, a, rfl, ⟨_, hx⟩, for_tup (K := K) (a := a) (xs := xs) (fun i σ H2 => H2 = H ∧ ∃ (least : Int) (c : Option V), σ = [some (.ref hp), some (.ref a), some (.int least), c] ∧ lotB hs.length 0 xs = lotB hs.length least (xs.drop i))
        ⟨rfl, 0, none, rfl, rfl⟩ (fun i σ H2 _ h2 => by rw [h2.1]; exact hx) ?_ ?_⟩
      · rintro i y σ H2 hi ⟨rfl, least, c, rfl, e⟩
        have hlt : i < xs.length := (List.getElem?_eq_some_iff.mp hi).1
        have ey : xs.drop i = y :: xs.drop (i + 1) := by
          rw [List.drop_eq_getElem_cons hlt]
          congr 1
          exact (List.getElem?_eq_some_iff.mp hi).2
        rw [ey] at e
        obtain ⟨ty, ht⟩ := hty y (List.mem_of_getElem? hi)
        refine ⟨y, rfl, .int least, rfl, .ref hp, rfl, hp, hs, rfl, .inr hh, hs.length, 1, rfl, rfl, y, ty, least, (hs.length : Int) - 1, rfl, ht, isNum y least ((hs.length : Int) - 1), rfl, ?_⟩
        cases hb : isNum y least ((hs.length : Int) - 1) with
        | false =>
          refine iteT ?_
          have e2 : lotB hs.length 0 xs = false := by
            rw [e]
            show (isNum y least ((hs.length : Int) - 1) && _) = false
            rw [hb]
            rfl
          rw [e2] at q
          exact q
        | true =>
          refine iteF ?_
          obtain ⟨k, rfl⟩ : ∃ k, y = .int k := by
            cases y <;> first | exact ⟨_, rfl⟩ | (simp [isNum] at hb)
          refine ⟨.int k, rfl, k, 1, rfl, rfl, rfl, k + 1, _, rfl, ?_⟩
          rw [e]
          show (isNum (.int k) least ((hs.length : Int) - 1) && _) = _
          rw [hb]
          rfl
      · rintro σ H2 ⟨rfl, least, c, rfl, e⟩
        rw [List.drop_length] at e
        have e2 : lotB hs.length 0 xs = true := e
        rw [e2] at q
        exact q
theorem lotB_ok {n : Nat} : ∀ {l : List Nat} {least : Int}, (∀ i ∈ l, i < n) → l.Pairwise (· < ·) → (∀ i ∈ l, least ≤ i) → lotB n least (lotV l) = true
  | [], _, _, _, _ => rfl
  | i :: l, least, h1, h2, h3 => by
    have hi := h1 i List.mem_cons_self
    have hl := h3 i List.mem_cons_self
    obtain ⟨p1, p2⟩ := List.pairwise_cons.mp h2
    show (isNum (.int (i : Int)) least ((n : Int) - 1) && lotB n ((i : Int) + 1) (lotV l)) = true
    rw [lotB_ok (fun j hj => h1 j (List.mem_cons_of_mem _ hj)) p2 (fun j hj => by have := p1 j hj; omega), Bool.and_true]
    simp only [isNum, Bool.and_eq_true, decide_eq_true_eq]
    exact ⟨hl, by omega⟩
theorem LotOk.b {n : Nat} {l : List Nat} (h : LotOk n l) : lotB n 0 (lotV l) = true := lotB_ok h.lt h.rise fun i _ => by omega
theorem tyb_lot {H : Hp} {l : List Nat} : ∀ y ∈ lotV l, ∃ ty, TyB K H y ty := fun y hy => by
  obtain ⟨i, _, rfl⟩ := List.mem_map.mp hy
  exact ⟨"int", .int _⟩
end
end N

set_option Elab.async false
set_option linter.all false
set_option maxRecDepth 100000
set_option maxHeartbeats 2000000
namespace N
open Cb (lotV combs combsOf combsOf_sub)
open PySem PySem.Spec PyProof.Rows L2
section
variable {P : Program} {w : World} {K : PySem.W.Frag} {mg : Str → Option Value} {base : Heap}
def sp_check_number (K : PySem.W.Frag) : Sp := fun vs H Q _ => ∃ (i lo hi : Int), vs = [.int i, .int lo, .int hi] ∧ lo ≤ i ∧ i ≤ hi ∧ Q .non H
theorem sc_check_number : FnScope ["value", "low", "high"] ["value", "low", "high"] (defScope s_check_number) := ⟨rfl, rfl, rfl, by decide +kernel, rfl, by decide +kernel, by decide +kernel⟩
theorem ok_check_number (T : Txt K mg) : FnOk P w K mg base CX0 2 T.d_check_number.f T.d_check_number.fd ["value", "low", "high"] (sp_check_number K) := by
  have G := ok_is_number (P := P) (w := w) (base := base) T
  refine T.d_check_number.F.ok sc_check_number (fun vs H Q E h => ?_) (fun cdv A outer s H vs Q E hr h => ?_)
  · obtain ⟨i, lo, hi, rfl, _⟩ := h
    rfl
  · obtain ⟨i, lo, hi, rfl, h1, h2, q⟩ := h
    refine ⟨_, pss_one (ps_if (pt_not (pt_val (pe_call G hr (by rfl) T.d_is_number.g T.d_is_number.F.kp T.d_is_number.b .nil pass0 (pa_cons (pv 0) (pa_cons (pv 1) (pa_cons (pv 2) pa_nil)))))) (pss_one ps_never) pss_nil), ?_⟩
    refine ⟨.int i, rfl, .int lo, rfl, .int hi, rfl, .int i, "int", lo, hi, rfl, .int i, isNum (.int i) lo hi, rfl, ?_⟩
    rw [show isNum (.int i) lo hi = true by simp [isNum, h1, h2]]
    exact iteF q
def sp_check_house (K : PySem.W.Frag) : Sp := fun vs H Q _ => ∃ (a : Addr) (h : List (List Nat)), vs = [.ref a] ∧ HouseAt K H a h ∧ HouseOk h ∧ ∀ H', Same H H' → Q .non H'
theorem sc_check_house : FnScope ["house", "clerk", "row"] ["house"] (defScope s_check_house) := ⟨rfl, rfl, rfl, by decide +kernel, rfl, by decide +kernel, by decide +kernel⟩
theorem paired_at {α β : Type} {F : α → β → Prop} : ∀ {xs : List α} {ys : List β}, Paired F xs ys → ∀ {i : Nat} {x : α}, xs[i]? = some x → ∃ y, ys[i]? = some y ∧ F x y
  | _, _, .nil, i, x, h => by cases h
  | _, _, .cons r t, 0, x, h => by
    have e := Option.some.inj h
    subst e
    exact ⟨_, rfl, r⟩
  | _, _, .cons r t, i + 1, x, h => paired_at t h
theorem ok_check_house (T : Txt K mg) : FnOk P w K mg base CX0 3 T.d_check_house.f T.d_check_house.fd ["house"] (sp_check_house K) := by
  have G := ok_is_lot (P := P) (w := w) (base := base) T
  obtain ⟨tm, gm⟩ := T.g_MOST_CLERKS
  refine T.d_check_house.F.ok sc_check_house (fun vs H Q E h => ?_) (fun cdv A outer s H vs Q E hr h => ?_)
  · obtain ⟨a, h, rfl, _⟩ := h
    rfl
  · obtain ⟨a, hs, rfl, ⟨rs, hA, hP⟩, ok, q⟩ := h
    have hl : rs.length = hs.length := Paired.length hP
    have hlv : (rs.map V.ref).length = hs.length := by rw [List.length_map, hl]
    refine ⟨_, pss_cons (ps_if (PW.pt (pw_or (pt_cmpR op_notTyB (pe_callTy call_type1 (by rfl) T.n_type (by decide +kernel) (pa_cons (pv 0) pa_nil)) (pe_bltn (v := .ty "tuple") (u := .type "tuple") (by rfl) T.n_tuple (by decide +kernel) rfl) (nomark _))
        (pw_or1 (pt_not (pt_chain op_le op_le pe_int (pe_callB call_len_seq (by rfl) T.n_len PySem.boot_len (pa_cons (pv 0) pa_nil)) (pe_glob (v := .int 7) (by rfl) gm ⟨_, rfl⟩)))))) (pss_one ps_never) pss_nil)
      (pss_one (ps_for PassesOwn.never rfl (En.pi_enumT (by rfl) T.n_enumerate (pa_cons (pv 0) pa_nil)) (pg_tup rfl (pgs_cons (pg_name (i := 1) sc_check_house.nd rfl (.inl rfl)) (pgs_cons (pg_name (i := 2) sc_check_house.nd rfl (.inl rfl)) pgs_nil)))
        (pss_one (ps_if (PW.pt (pw_or (pt_not (pt_val (pe_call G hr (by rfl) T.d_is_lot.g T.d_is_lot.F.kp T.d_is_lot.b .nil pass0 (pa_cons (pv 0) (pa_cons (pv 2) pa_nil)))))
          (pw_or1 (pt_cmpR op_eq (pe_callB call_len_seq (by rfl) T.n_len PySem.boot_len (pa_cons (pv 2) pa_nil)) pe_int (nomark _))))) (pss_one ps_never) pss_nil)))), ?_⟩
    refine ⟨.ref a, rfl, .ref a, "tuple", rfl, .tup hA, "tuple", "tuple", rfl, rfl, _, rfl, ?_⟩
    rw [decide_eq_true rfl]
    refine iteF ⟨.ref a, rfl, a, _, rfl, .inr hA, 1, _, rfl, rfl, _, rfl, ?_⟩
    have h1 := ok.lo
    have h2 := ok.hi
    rw [hlv]
    rw [decide_eq_true (by omega : (1 : Int) ≤ (hs.length : Int))]
    refine iteT ⟨_, 7, rfl, rfl, _, rfl, ?_⟩
    rw [decide_eq_true (by omega : (hs.length : Int) ≤ 7)]
    refine iteF ?_
    refine ⟨.ref a, rfl, a, _, rfl, hA, En.for_enumT (K := K) (a := a) (xs := rs.map V.ref) (fun i σ H2 => Same H H2 ∧ ∃ c r : Option V, σ = [some (.ref a), c, r]) ⟨Same.refl _, none, none, rfl⟩ (fun i σ H2 _ h3 => Same.tup h3.1 hA) ?_ ?_⟩
    · rintro i x T2 σ H2 hi ⟨sm, c, r, rfl⟩ hT
      obtain ⟨rp, hri, rfl⟩ := get_refs hi
      obtain ⟨row, hrow, hat⟩ := paired_at hP hri
      have okr := ok.ok row (List.mem_of_getElem? hrow)
      have sm2 : Same H (upd H2 T2 (.tup [.int (i : Nat), .ref rp])) := sm.trans (same_upd hT)
      refine ⟨T2, [.int (i : Nat), .ref rp], rfl, .inl (.inl upd_same), rfl, .int (i : Nat), [.ref rp], rfl, .ref rp, [], rfl, rfl, ?_⟩
      have hat2 : LotAt K (upd H2 T2 (.tup [.int (i : Nat), .ref rp])) rp row := hat.same sm2
      refine ⟨.ref a, rfl, .ref rp, rfl, a, _, .ref rp, rfl, Same.tup sm2 hA, .inr ⟨rp, _, rfl, hat2, tyb_lot, ?_⟩⟩
      rw [hlv, okr.2.b]
      refine ⟨true, rfl, iteF ?_⟩
      refine ⟨.ref rp, rfl, rp, _, rfl, .inr hat2, rfl, _, rfl, ?_⟩
      have hne : ¬ ((V.int ((lotV row).length : Int)) = V.int 0) := fun z => by
        have z2 := V.int.inj z
        rw [List.length_map] at z2
        exact okr.1 (List.length_eq_zero_iff.mp (by omega))
      rw [decide_eq_false hne]
      refine iteF ?_
      exact ⟨sm2, _, _, rfl⟩
    · rintro σ H2 ⟨sm, c, r, rfl⟩
      exact q H2 sm
def sp_check_lot (K : PySem.W.Frag) : Sp := fun vs H Q _ => ∃ (a g : Addr) (h : List (List Nat)) (l : List Nat), vs = [.ref a, .ref g] ∧ HouseAt K H a h ∧ LotAt K H g l ∧ LotOk h.length l ∧ Q .non H
theorem sc_check_lot : FnScope ["house", "lot"] ["house", "lot"] (defScope s_check_lot) := ⟨rfl, rfl, rfl, by decide +kernel, rfl, by decide +kernel, by decide +kernel⟩
theorem ok_check_lot (T : Txt K mg) : FnOk P w K mg base CX0 3 T.d_check_lot.f T.d_check_lot.fd ["house", "lot"] (sp_check_lot K) := by
  have G := ok_is_lot (P := P) (w := w) (base := base) T
  refine T.d_check_lot.F.ok sc_check_lot (fun vs H Q E h => ?_) (fun cdv A outer s H vs Q E hr h => ?_)
  · obtain ⟨a, g, h, l, rfl, _⟩ := h
    rfl
  · obtain ⟨a, g, hs, l, rfl, ⟨rs, hA, hP⟩, hL, ok, q⟩ := h
    have hl : rs.length = hs.length := Paired.length hP
    have hlv : (rs.map V.ref).length = hs.length := by rw [List.length_map, hl]
    refine ⟨_, pss_one (ps_if (pt_not (pt_val (pe_call G hr (by rfl) T.d_is_lot.g T.d_is_lot.F.kp T.d_is_lot.b .nil pass0 (pa_cons (pv 0) (pa_cons (pv 1) pa_nil))))) (pss_one ps_never) pss_nil), ?_⟩
    refine ⟨.ref a, rfl, .ref g, rfl, a, _, .ref g, rfl, hA, .inr ⟨g, _, rfl, hL, tyb_lot, ?_⟩⟩
    rw [hlv, ok.b]
    exact ⟨true, rfl, iteF q⟩
def sp_check_goal (K : PySem.W.Frag) : Sp := fun vs H Q _ => ∃ (a g : Addr) (h : List (List Nat)) (l : List Nat), vs = [.ref a, .ref g] ∧ HouseAt K H a h ∧ LotAt K H g l ∧ LotOk h.length l ∧ l ≠ [] ∧ Q .non H
theorem sc_check_goal : FnScope ["house", "goal"] ["house", "goal"] (defScope s_check_goal) := ⟨rfl, rfl, rfl, by decide +kernel, rfl, by decide +kernel, by decide +kernel⟩
theorem ok_check_goal (T : Txt K mg) : FnOk P w K mg base CX0 4 T.d_check_goal.f T.d_check_goal.fd ["house", "goal"] (sp_check_goal K) := by
  have G := ok_check_lot (P := P) (w := w) (base := base) T
  refine T.d_check_goal.F.ok sc_check_goal (fun vs H Q E h => ?_) (fun cdv A outer s H vs Q E hr h => ?_)
  · obtain ⟨a, g, h, l, rfl, _⟩ := h
    rfl
  · obtain ⟨a, g, hs, l, rfl, hA, hL, ok, hne, q⟩ := h
    refine ⟨_, pss_cons (ps_expr (pe_call G hr (by rfl) T.d_check_lot.g T.d_check_lot.F.kp T.d_check_lot.b .nil pass0 (pa_cons (pv 0) (pa_cons (pv 1) pa_nil))))
      (pss_one (ps_if (pt_cmpR op_eq (pe_callB call_len_seq (by rfl) T.n_len PySem.boot_len (pa_cons (pv 1) pa_nil)) pe_int (nomark _)) (pss_one ps_never) pss_nil)), ?_⟩
    refine ⟨.ref a, rfl, .ref g, rfl, a, g, hs, l, rfl, hA, hL, ok, ?_⟩
    refine ⟨.ref g, rfl, g, _, rfl, .inr hL, rfl, _, rfl, ?_⟩
    have hn : ¬ ((V.int ((lotV l).length : Int)) = V.int 0) := fun z => by
      have z2 := V.int.inj z
      rw [List.length_map] at z2
      exact hne (List.length_eq_zero_iff.mp (by omega))
    rw [decide_eq_false hn]
    exact iteF q
end
end N

set_option Elab.async false
set_option linter.all false
set_option maxRecDepth 100000
set_option maxHeartbeats 2000000
namespace N
open Cb (lotV combs combsOf combsOf_sub)
open PySem PySem.Spec PyProof.Rows L2
section
variable {P : Program} {w : World} {K : PySem.W.Frag} {mg : Str → Option Value} {base : Heap}
theorem tYes_if {σ : L2.St} {H : Hp} {A B : Hp → Prop} (h : A H) : tYes σ H (fun b H3 => if b = true then A H3 else B H3) := by
  show (if true = true then A H else B H)
  rw [if_pos rfl]
  exact h
def sp_mask_of (K : PySem.W.Frag) : Sp := fun vs H Q _ => ∃ (g : Addr) (l : List Nat), vs = [.ref g] ∧ LotAt K H g l ∧ (∀ i ∈ l, i ≤ 1000) ∧ Q (.int (maskOf l : Nat)) H
theorem sc_mask_of : FnScope ["lot", "mask", "clerk"] ["lot"] (defScope s__mask_of) := ⟨rfl, rfl, rfl, by decide +kernel, rfl, by decide +kernel, by decide +kernel⟩
theorem ok_mask_of (T : Txt K mg) : FnOk P w K mg base CX0 1 T.d__mask_of.f T.d__mask_of.fd ["lot"] (sp_mask_of K) := by
  refine T.d__mask_of.F.ok sc_mask_of (fun vs H Q E h => ?_) (fun cdv A outer s H vs Q E hr h => ?_)
  · obtain ⟨g, l, rfl, _⟩ := h
    rfl
  · obtain ⟨g, l, rfl, hL, hb, q⟩ := h
    refine ⟨_, pss_cons (ps_set (i := 1) sc_mask_of.nd rfl (.inl rfl) pe_int)
      (pss_cons (ps_for PassesOwn.never rfl (pi_tup (pv 0)) (pg_name (i := 2) sc_mask_of.nd rfl (.inl rfl))
        (pss_one (ps_aug (i := 1) sc_mask_of.nd rfl (.inl rfl) (pe_op op_shl1 pe_int (pv 2)) ip_orN)))
      (pss_one (ps_ret (pv 1)))), ?_⟩
    refine ⟨.ref g, rfl, g, rfl, ⟨_, hL⟩, for_tup (K := K) (a := g) (xs := lotV l) (fun i σ H2 => H2 = H ∧ ∃ c : Option V, σ = [some (.ref g), some (.int (maskOf (l.take i) : Nat)), c])
      ⟨rfl, none, rfl⟩ (fun i σ H2 _ h2 => by rw [h2.1]; exact hL) ?_ ?_⟩
    · rintro i y σ H2 hi ⟨rfl, c, rfl⟩
      obtain ⟨k, hk, rfl⟩ := get_lotV hi
      refine ⟨.int (maskOf (l.take i) : Nat), rfl, .int k, rfl, k, rfl, rfl, hb k (List.mem_of_getElem? hk), maskOf (l.take i), 2 ^ k, rfl, rfl, rfl, some (.int k), ?_⟩
      rw [maskOf_take hk]
      rfl
    · rintro σ H2 ⟨rfl, c, rfl⟩
      have e : l.take (lotV l).length = l := by rw [List.length_map, List.take_length]
      rw [e]
      exact ⟨_, rfl, q⟩
def sp_holds (K : PySem.W.Frag) : Sp := fun vs H Q _ => ∃ (m : Nat) (g : Addr) (l : List Nat), vs = [.int m, .ref g] ∧ LotAt K H g l ∧ (∀ i ∈ l, i ≤ 1000) ∧ Q (.bl (holdsB m l)) H
theorem sc_holds : FnScope ["mask", "goal", "wanted"] ["mask", "goal"] (defScope s__holds) := ⟨rfl, rfl, rfl, by decide +kernel, rfl, by decide +kernel, by decide +kernel⟩
theorem ok_holds (T : Txt K mg) : FnOk P w K mg base CX0 2 T.d__holds.f T.d__holds.fd ["mask", "goal"] (sp_holds K) := by
  have G := ok_mask_of (P := P) (w := w) (base := base) T
  refine T.d__holds.F.ok sc_holds (fun vs H Q E h => ?_) (fun cdv A outer s H vs Q E hr h => ?_)
  · obtain ⟨m, g, l, rfl, _⟩ := h
    rfl
  · obtain ⟨m, g, l, rfl, hL, hb, q⟩ := h
    refine ⟨_, pss_cons (ps_set (i := 2) sc_holds.nd rfl (.inl rfl) (pe_call G hr (by rfl) T.d__mask_of.g T.d__mask_of.F.kp T.d__mask_of.b .nil pass0 (pa_cons (pv 1) pa_nil)))
      (pss_one (ps_ret (pe_cmpR op_eq (pe_op op_andN (pv 0) (pv 2)) (pv 2) (nomark _)))), ?_⟩
    refine ⟨.ref g, rfl, g, l, rfl, hL, hb, ?_⟩
    refine ⟨.int m, rfl, .int (maskOf l : Nat), rfl, m, maskOf l, rfl, rfl, .int (maskOf l : Nat), rfl, rfl, ?_⟩
    have e : decide (V.int ((m &&& maskOf l : Nat) : Int) = V.int (maskOf l : Nat)) = holdsB m l := by
      unfold holdsB
      by_cases h : (m &&& maskOf l) = maskOf l
      · rw [h]; simp
      · rw [decide_eq_false (fun z => h (by have := V.int.inj z; omega)), beq_eq_false_iff_ne.mpr h]
    rw [e]
    exact q
/-- lots stand at the places of a list -/
def LotsIn (H : Hp) (ts : List Addr) (ls : List (List Nat)) : Prop := Paired (fun (t : Addr) (l : List Nat) => H t = some (.tup (lotV l))) ts ls
def sp_lots_within (K : PySem.W.Frag) : Sp := fun vs H Q _ => ∃ (g : Addr) (pool : List Nat) (r : Nat), vs = [.ref g, .int r] ∧ LotAt K H g pool ∧ r ≤ pool.length ∧ pool.length ≤ 7 ∧ ∀ (H' : Hp) (p : Addr) (ts : List Addr), Same H H' → H p = none → H' p = some (.lst (ts.map V.ref)) → Paired (fun (t : Addr) (l : List Nat) => H' t = some (.tup (lotV l))) ts (combsOf pool r) → Q (.ref p) H'
theorem sc_lots_within : FnScope ["lot", "size", "slates"] ["lot", "size"] (defScope s_lots_within) := ⟨rfl, rfl, rfl, by decide +kernel, rfl, by decide +kernel, by decide +kernel⟩
theorem ok_lots_within (T : Txt K mg) : FnOk P w K mg base CX0 1 T.d_lots_within.f T.d_lots_within.fd ["lot", "size"] (sp_lots_within K) := by
  refine T.d_lots_within.F.ok sc_lots_within (fun vs H Q E h => ?_) (fun cdv A outer s H vs Q E hr h => ?_)
  · obtain ⟨g, pool, r, rfl, _⟩ := h
    rfl
  · obtain ⟨g, pool, r, rfl, hL, h1, h2, q⟩ := h
    have nd := sc_lots_within.nd
    refine ⟨_, pss_cons (ps_set (i := 2) nd rfl (.inl rfl) (pe_callTy call_list_of (by rfl) T.n_list (by decide +kernel) (pa_cons (pv 0) pa_nil)))
      (pss_one (ps_ret (Cb.pe_listComb rfl (pv 2) (pv 1) (by rfl) T.n_list (by rfl) T.g_combinations))), ?_⟩
    refine ⟨.ref g, rfl, g, lotV pool, rfl, .inr hL, fun l hl => ?_⟩
    refine ⟨.ref l, rfl, .int r, rfl, l, pool, r, rfl, rfl, upd_same, h1, h2, fun H' p ts sm hp _ _ hl2 hP => ?_⟩
    exact q H' p ts ((same_upd hl).trans sm) ((same_upd hl).free hp) hl2 hP
theorem combs_small {n r : Nat} (hr : r ≤ n) (hn : n ≤ 7) : (combs n r).length ≤ 128 := (Cb.combs_ok hr hn).choose_spec.2.2.1
theorem combs_mem {n r : Nat} {l : List Nat} : l ∈ combs n r ↔ LotOk n l ∧ l.length = r := combsOf_sub
theorem combsOf_small {pool : List Nat} {r : Nat} (hr : r ≤ pool.length) (hn : pool.length ≤ 7) : (combsOf pool r).length ≤ 128 := by
  rw [Cb.combsOf_pool, List.length_map]
  exact combs_small hr hn
def sp_coin_masks (K : PySem.W.Frag) : Sp := fun vs H Q _ => ∃ (g : Addr) (lot : List Nat) (c : Nat), vs = [.ref g, .int c] ∧ LotAt K H g lot ∧ lot.length ≤ 7 ∧ (∀ i ∈ lot, i ≤ 1000) ∧ ∀ (H' : Hp) (p : Addr), Same H H' → H p = none → H' p = some (.lst (natsV (coinMasks lot c))) → Q (.ref p) H'
theorem sc_coin_masks : FnScope ["lot", "coins", "some"] ["lot", "coins"] (defScope s__coin_masks) := ⟨rfl, rfl, rfl, by decide +kernel, rfl, by decide +kernel, by decide +kernel⟩
theorem lotV_len (l : List Nat) : (lotV l).length = l.length := List.length_map ..
theorem ok_coin_masks (T : Txt K mg) : FnOk P w K mg base CX0 2 T.d__coin_masks.f T.d__coin_masks.fd ["lot", "coins"] (sp_coin_masks K) := by
  have G1 := ok_mask_of (P := P) (w := w) (base := base) T
  have G2 := ok_lots_within (P := P) (w := w) (base := base) T
  refine T.d__coin_masks.F.ok sc_coin_masks (fun vs H Q E h => ?_) (fun cdv A outer s H vs Q E hr h => ?_)
  · obtain ⟨g, lot, c, rfl, _⟩ := h
    rfl
  · obtain ⟨g, lot, c, rfl, hL, hn, hb, q⟩ := h
    refine ⟨_, pss_one (ps_ret (pe_lc (own := [("some", 2)]) (g := gName 2) (tt := tYes) rfl sc_coin_masks.nd
      (pi_list (pe_call G2 hr (by rfl) T.d_lots_within.g T.d_lots_within.F.kp T.d_lots_within.b .nil pass0 (pa_cons (pv 0)
        (pa_cons (pe_callB (call_min2 rfl) (by rfl) T.n_min (by decide +kernel) (pa_cons (pv 1) (pa_cons (pe_callB call_len_seq (by rfl) T.n_len PySem.boot_len (pa_cons (pv 0) pa_nil)) pa_nil))) pa_nil))))
      (blkOk_by (N := ["lot", "coins", "some"]) (sc := defScope s__coin_masks) (by decide +kernel)) (fun _ _ _ _ _ => pg_name (i := 2) sc_coin_masks.nd rfl (.inl rfl)) (fun _ _ _ _ _ => pts_nil)
      (fun _ _ _ _ _ => pe_call G1 hr (by rfl) T.d__mask_of.g T.d__mask_of.F.kp T.d__mask_of.b .nil pass0 (pa_cons (pv 2) pa_nil)))), ?_⟩
    refine ⟨.ref g, rfl, .int c, rfl, .ref g, rfl, g, lotV lot, rfl, .inr hL, c, (lotV lot).length, rfl, ?_⟩
    rw [lotV_len]
    have em : (if (lot.length : Int) < (c : Int) then (lot.length : Int) else (c : Int)) = ((min c lot.length : Nat) : Int) := by
      split <;> omega
    rw [em]
    refine ⟨g, lot, min c lot.length, rfl, hL, Nat.min_le_right _ _, hn, fun H1 p ts sm hp hl hP => ?_⟩
    have hlen : ts.length = (combsOf lot (min c lot.length)).length := Paired.length hP
    have hsm := combsOf_small (Nat.min_le_right c lot.length) hn
    refine ⟨p, rfl, ⟨_, SqL.up hl⟩, fun D hD => lc_list (K := K) (a := p) (xs := ts.map V.ref) (fun i H2 => ∃ H3, Same H1 H3 ∧ H3 D = none ∧ H2 = upd H3 D (.lst (natsV ((coinMasks lot c).take i))))
      ⟨H1, Same.refl _, hD, rfl⟩ ?_ ?_ ?_⟩
    · rintro i H2 _ ⟨H3, s3, hD3, rfl⟩
      refine SqL.up ?_
      rw [upd_ne (ne_of_none (s3 _ _ hl) hD3)]
      exact s3 _ _ hl
    · rintro i y H2 hi ⟨H3, s3, hD3, rfl⟩
      obtain ⟨t, ht, rfl⟩ := get_refs hi
      obtain ⟨l, hl2, e⟩ := paired_at hP ht
      have hm := combsOf_sub.mp (List.mem_of_getElem? hl2)
      refine ⟨rfl, tYes_if ?_⟩
      refine ⟨.ref t, rfl, t, l, rfl, ?_, fun i hi => hb i (hm.1.subset hi), ?_⟩
      · refine SqT.up ?_
        rw [upd_ne (ne_of_none (s3 _ _ e) hD3)]
        exact s3 _ _ e
      · refine ⟨_, upd_same, ?_, H3, s3, hD3, ?_⟩
        · rw [natsV, List.length_map, List.length_take, coinMasks, List.length_map]
          exact Nat.lt_of_le_of_lt (Nat.min_le_right _ _) (small1000 (by omega))
        · rw [upd_upd]
          congr 2
          have e2 : (coinMasks lot c)[i]? = some (maskOf l) := by rw [coinMasks, List.getElem?_map, hl2]; rfl
          exact (natsV_take e2).symm
    · rintro H2 ⟨H3, s3, hD3, rfl⟩
      refine q _ D ((sm.trans s3).trans (same_upd hD3)) (sm.free hD) ?_
      rw [upd_same]
      congr 3
      refine List.take_of_length_le ?_
      rw [coinMasks, List.length_map, List.length_map, hlen]
      exact Nat.le_refl _
def sp_next_cover (K : PySem.W.Frag) : Sp := fun vs H Q _ => ∃ (a : Addr) (ss : List Nat) (held : Nat), vs = [.ref a, .int held] ∧ SqL K H a (natsV ss) ∧ ss.length ≤ 1000 ∧ ∀ H', Same H H' → Q (.int (nextM ss held : Nat)) H'
theorem sc_next_cover : FnScope ["sights", "held", "cover", "clerk", "sight"] ["sights", "held"] (defScope s__next_cover) := ⟨rfl, rfl, rfl, by decide +kernel, rfl, by decide +kernel, by decide +kernel⟩
theorem ok_next_cover (T : Txt K mg) : FnOk P w K mg base CX0 1 T.d__next_cover.f T.d__next_cover.fd ["sights", "held"] (sp_next_cover K) := by
  refine T.d__next_cover.F.ok sc_next_cover (fun vs H Q E h => ?_) (fun cdv A outer s H vs Q E hr h => ?_)
  · obtain ⟨a, ss, held, rfl, _⟩ := h
    rfl
  · obtain ⟨a, ss, held, rfl, hA, hn, q⟩ := h
    have nd := sc_next_cover.nd
    refine ⟨_, pss_cons (ps_set (i := 2) nd rfl (.inl rfl) pe_int)
      (pss_cons (ps_for PassesOwn.never rfl (pi_enum (by rfl) T.n_enumerate (pa_cons (pv 0) pa_nil)) (pg_tup rfl (pgs_cons (pg_name (i := 3) nd rfl (.inl rfl)) (pgs_cons (pg_name (i := 4) nd rfl (.inl rfl)) pgs_nil)))
        (pss_one (ps_if (pt_cmpR op_eq (pe_op op_andN (pv 4) (pv 1)) (pv 4) (nomark _)) (pss_one (ps_aug (i := 2) nd rfl (.inl rfl) (pe_op op_shl1 pe_int (pv 3)) ip_orN)) pss_nil)))
      (pss_one (ps_ret (pv 2)))), ?_⟩
    refine ⟨.ref a, rfl, a, _, rfl, hA, for_enumL (K := K) (a := a) (xs := natsV ss) (fun i σ H2 => Same H H2 ∧ ∃ (acc : Nat) (c d : Option V), σ = [some (.ref a), some (.int held), some (.int acc), c, d] ∧ nextM ss held = nextFrom held i (ss.drop i) acc)
      ⟨Same.refl _, 0, none, none, rfl, rfl⟩ (fun i σ H2 _ h3 => Same.seq h3.1 hA) ?_ ?_⟩
    · rintro i y T2 σ H2 hi ⟨sm, acc, c, d, rfl, e⟩ hT
      obtain ⟨k, hk, rfl⟩ := get_lotV hi
      have hlt : i < ss.length := (List.getElem?_eq_some_iff.mp hk).1
      have ek : ss.drop i = k :: ss.drop (i + 1) := by
        rw [List.drop_eq_getElem_cons hlt]
        congr 1
        exact (List.getElem?_eq_some_iff.mp hk).2
      rw [ek] at e
      refine ⟨T2, [.int (i : Nat), .int (k : Int)], rfl, .inl (.inl upd_same), rfl, .int (i : Nat), [.int (k : Int)], rfl, .int (k : Int), [], rfl, rfl, ?_⟩
      have sm2 := sm.trans (same_upd (o := .tup [.int (i : Nat), .int (k : Int)]) hT)
      refine ⟨.int (k : Int), rfl, .int (held : Int), rfl, k, held, rfl, rfl, .int (k : Int), rfl, rfl, _, rfl, ?_⟩
      refine ite2 (fun hb => ?_) (fun hb => ?_)
      · have hb2 : (k &&& held) = k := by
          have := V.int.inj (of_decide_eq_true hb)
          omega
        refine ⟨.int (acc : Int), rfl, .int (i : Nat), rfl, i, rfl, rfl, by omega, acc, 2 ^ i, rfl, rfl, ?_⟩
        refine ⟨sm2, acc ||| 2 ^ i, _, _, rfl, ?_⟩
        rw [e]
        show nextFrom held (i + 1) (ss.drop (i + 1)) (if (k &&& held) = k then acc ||| 2 ^ i else acc) = _
        rw [if_pos hb2]
      · have hb2 : ¬ ((k &&& held) = k) := fun z => hb (by rw [z]; exact decide_eq_true rfl)
        refine ⟨sm2, acc, _, _, rfl, ?_⟩
        rw [e]
        show nextFrom held (i + 1) (ss.drop (i + 1)) (if (k &&& held) = k then acc ||| 2 ^ i else acc) = _
        rw [if_neg hb2]
    · rintro σ H2 ⟨sm, acc, c, d, rfl, e⟩
      have e2 : ss.drop (natsV ss).length = [] := by rw [natsV, List.length_map, List.drop_length]
      rw [e2] at e
      refine ⟨_, rfl, ?_⟩
      have z := q H2 sm
      rw [e] at z
      exact z
end
end N

set_option Elab.async false
set_option linter.all false
set_option maxRecDepth 100000
set_option maxHeartbeats 2000000
/-! {t: v}, t a tuple -/
namespace N
open Cb (lotV combs combsOf combsOf_sub)
open PySem PySem.Spec PyProof.Rows L2
def tDispT (tk tv : TE) : TE := fun σ H Q => ∀ d, H d = none → tk σ (upd H d (.dT [])) fun x H1 => tv σ H1 fun y H2 => ∃ (b : Addr) (k : List Key), x = .ref b ∧ H2 b = some (.tup (k.map kV)) ∧ H2 d = some (.dT []) ∧ Q (.ref d) (upd H2 d (.dT [(k, y)]))
theorem pe_dispT {X : Cx} {pos : Pos} {ke ve : Expr} {tk tv : TE} (hu : X.A.units + 1 < cLine) (hk : PE X ke tk) (hv : PE X ve tv) : PE X (.Dict [some ke] [ve] pos) (tDispT tk tv) := by
  refine ⟨fun pins s σ H Q I q => ?_⟩
  have hn := I.hok.fresh (Nat.le_refl s.heap.objs.size)
  have I1 := I.laid (a := s.heap.objs.size) (o := .dT []) (h' := s.heap.push { cls := .type "dict", data := .dict #[] }) (t' := s.toks) (fun _ _ q => Heap.get?_push_of_some _ q) (Nat.le_refl _) (dt_empty s.heap I.big)
  rw [arm_eval_Dict, zip_pairTrees [some ke] [ve] X.env pos rfl rfl, dictDisplay_pairs _ (by simp [pairTrees]) (by simp [pairTrees])]
  refine wpAny_bind (wpAny_standAt (wpAny_bind ?_))
  unfold subDict
  refine wpAny_bind (wpAny_alloc ?_)
  refine wpAny_bind (wpAny_holding ?_)
  rw [if_pos (by simp [pairTrees])]
  refine wpAny_bind ?_
  refine wpAny_mono (pairTrees_cons_walk (Q := fun vs s' => ∃ u v, vs = [(u, v)] ∧ EP X pins σ (fun x H2 => ∃ (y : V) (b : Addr) (k : List Key), RelV y v ∧ x = .ref b ∧ H2 b = some (.tup (k.map kV)) ∧ H2 s.heap.objs.size = some (.dT []) ∧ Q (.ref s.heap.objs.size) (upd H2 s.heap.objs.size (.dT [(k, y)]))) u s')
    (thn (hk.run pins _ σ _ _ I1 (q _ hn)) fun u s1 ⟨x, H1, I2, rx, q1⟩ => thn (hv.run pins s1 σ H1 _ I2 q1) fun v s2 ⟨y, H2, I3, ry, b, k, ex, hb, hd, q2⟩ => evalPairs_nil ⟨u, v, rfl, x, H2, I3, rx, y, b, k, ry, ex, hb, hd, q2⟩)) (fun vs s1 h1 => ?_) fun _ _ e => e
  obtain ⟨u, v, rfl, x, H2, I2, rx, y, b, k, ry, rfl, hb, hd, q2⟩ := h1
  cases rx
  refine wpAny_holding ?_
  refine wpAny_bind ?_
  rw [List.forIn_cons]
  obtain ⟨z, hds, xs, rel, dd⟩ := dt_of I2.hok hd
  cases rel
  refine wpAny_bind (wpAny_bind (wpAny_dictSet_heap (hsz := Nat.zero_le _) ?hu (key_of I2.hok hb) dd fun h' dd' hs => wpAny_pure ?_))
  case hu => exact (Nat.lt_of_succ_lt hu : X.A.units < cLine)
  try dsimp only
  rw [List.forIn_nil]
  refine wpAny_pure (wpAny_pure (wpAny_pure (wpAny_pure ?_)))
  obtain ⟨qo, es, ep, hq, h2, h3, h4, _, h5⟩ := dd'
  have new : ObjOk X.prog X.w (upd H2 s.heap.objs.size (.dT [(k, y)])) h' s.heap.objs.size (.dT [(k, y)]) :=
    ⟨(by show 1 ≤ sizeLine; decide), hds, _, (KT.put (H := H2) Paired.nil k hb ry).keeps fun c ys ec => by
      rw [upd_ne (ne_of ec hd (fun z => nomatch z))]
      exact ec, qo, es, ep, hq, h2, h3, h4, h5⟩
  exact ⟨.ref s.heap.objs.size, _, d_write I2 (by rw [hd]; exact True.intro) hs ⟨qo, hq⟩ new, rfl, q2⟩
end N

set_option Elab.async false
set_option linter.all false
set_option maxRecDepth 100000
set_option maxHeartbeats 2000000
/-! the dict of the search, over the heap -/
namespace N
open Cb (lotV combs combsOf combsOf_sub)
open PySem PySem.Spec PyProof.Rows L2
/-- a place as values -/
abbrev plV (p : Nat × Nat) : List V := [.int (p.1 : Int), .int (p.2 : Int)]
def keyP (p : Nat × Nat) : List Key := [Sum.inl (p.1 : Int), Sum.inl (p.2 : Int)]
theorem keyP_V (p : Nat × Nat) : (keyP p).map kV = plV p := rfl
theorem keyP_inj {p q : Nat × Nat} (h : keyP p = keyP q) : p = q := by
  unfold keyP at h
  have h1 := (List.cons.inj h).1
  have h2 := (List.cons.inj (List.cons.inj h).2).1
  have h3 := Sum.inl.inj h1
  have h4 := Sum.inl.inj h2
  exact Prod.ext (by omega) (by omega)
def BackAt (H : Hp) (v : V) : Option ((Nat × Nat) × Nat) → Prop
  | none => v = .non
  | some (c, cm) => ∃ t u, v = .ref t ∧ H t = some (.tup [.ref u, .int (cm : Int)]) ∧ H u = some (.tup (plV c))
theorem BackAt.mono {H H' : Hp} {v : V} {b : Option ((Nat × Nat) × Nat)} (h : BackAt H v b) (k : ∀ t xs, H t = some (.tup xs) → H' t = some (.tup xs)) : BackAt H' v b := by
  cases b with
  | none => exact h
  | some p =>
    obtain ⟨t, u, e, ht, hu⟩ := h
    exact ⟨t, u, e, k _ _ ht, k _ _ hu⟩
def EntAt (H : Hp) (kv : List Key × V) (e : Ent) : Prop := kv.1 = keyP e.p ∧ BackAt H kv.2 e.b
def WaysAt (H : Hp) (wp : Addr) (es : List Ent) : Prop := ∃ kvs, H wp = some (.dT kvs) ∧ Paired (EntAt H) kvs es
theorem valV_ents {H : Hp} {m : Nat × Nat} : ∀ {kvs : List (List Key × V)} {es : List Ent}, Paired (EntAt H) kvs es → (valV kvs (keyP m) = none ↔ ¬ ∃ e ∈ es, e.p = m)
  | _, _, .nil => by simp [valV_nil]
  | kv :: kvs, e :: es, .cons r t => by
    by_cases h : e.p = m
    · have e1 : kv.1 = keyP m := by rw [r.1, h]
      rw [valV_pos e1]
      constructor
      · intro z; cases z
      · intro z; exact absurd ⟨e, List.mem_cons_self, h⟩ z
    · have e1 : ¬ kv.1 = keyP m := by
        rw [r.1]
        intro z
        exact h (keyP_inj z)
      rw [valV_neg e1, valV_ents t]
      constructor
      · rintro z ⟨x, hx, ex⟩
        rcases List.mem_cons.mp hx with y | y
        · rw [y] at ex; exact h ex
        · exact z ⟨x, y, ex⟩
      · rintro z ⟨x, hx, ex⟩
        exact z ⟨x, List.mem_cons_of_mem _ hx, ex⟩
/-- places stand at the items of a list -/
abbrev PlsAt (H : Hp) (ts : List Addr) (ps : List (Nat × Nat)) : Prop := Paired (fun (t : Addr) (p : Nat × Nat) => H t = some (.tup (plV p))) ts ps
/-- what stands in the heap within a day's search -/
structure WH (H0 H : Hp) (wp lp fp : Addr) (es : List Ent) (ts : List Addr) (L : List (Nat × Nat)) (fs : List Addr) (F : List (Nat × Nat)) : Prop where
  sm : Same H0 H
  ways : WaysAt H wp es
  lat : H lp = some (.lst (ts.map V.ref))
  ltp : PlsAt H ts L
  fnd : H fp = some (.lst (fs.map V.ref))
  ftp : PlsAt H fs F
  nw : H0 wp = none
  nf : H0 fp = none
  nlf : lp ≠ fp
theorem WaysAt.same {H H' : Hp} {wp : Addr} {es : List Ent} (x : WaysAt H wp es) (e : Same H H') : WaysAt H' wp es := by
  obtain ⟨kvs, h1, h2⟩ := x
  exact ⟨kvs, e _ _ h1, paired_mono h2 fun _ _ z => ⟨z.1, z.2.mono fun t xs q => e _ _ q⟩⟩
theorem WH.same {H0 H H' : Hp} {wp lp fp : Addr} {es : List Ent} {ts fs : List Addr} {L F : List (Nat × Nat)} (x : WH H0 H wp lp fp es ts L fs F) (e : Same H H') : WH H0 H' wp lp fp es ts L fs F :=
  ⟨x.sm.trans e, x.ways.same e, e _ _ x.lat, paired_mono x.ltp fun _ _ z => e _ _ z, e _ _ x.fnd, paired_mono x.ftp fun _ _ z => e _ _ z, x.nw, x.nf, x.nlf⟩
theorem WH.put {H0 H : Hp} {wp lp fp t u f : Addr} {es : List Ent} {ts fs : List Addr} {L F : List (Nat × Nat)} {kvs : List (List Key × V)} {m c : Nat × Nat} {d cm : Nat} (x : WH H0 H wp lp fp es ts L fs F) (ht : H t = some (.tup [.ref u, .int (cm : Int)])) (hu : H u = some (.tup (plV c))) (hf : H f = some (.tup (plV m)))
    (hk : H wp = some (.dT kvs)) (hP : Paired (EntAt H) kvs es) (hn : valV kvs (keyP m) = none) :
    WH H0 (upd (upd H wp (.dT (putK kvs (keyP m) (.ref t)))) fp (.lst (fs.map V.ref ++ [.ref f]))) wp lp fp (es ++ [⟨m, d, some (c, cm)⟩]) ts L (fs ++ [f]) (F ++ [m]) := by
  have wlp : lp ≠ wp := ne_of x.lat hk (by intro z; cases z)
  have wfp : fp ≠ wp := ne_of x.fnd hk (by intro z; cases z)
  generalize eH : upd (upd H wp (.dT (putK kvs (keyP m) (.ref t)))) fp (.lst (fs.map V.ref ++ [.ref f])) = H'
  have kp : ∀ b o, H b = some o → b ≠ wp → b ≠ fp → H' b = some o := fun b o e h1 h2 => by
    rw [← eH, upd_ne h2, upd_ne h1]
    exact e
  have tups : ∀ b xs, H b = some (.tup xs) → H' b = some (.tup xs) := fun b xs e =>
    kp b _ e (ne_of e hk (by intro z; cases z)) (ne_of e x.fnd (by intro z; cases z))
  refine ⟨fun b o e => kp b o (x.sm b o e) (ne_of_none e x.nw) (ne_of_none e x.nf), ⟨putK kvs (keyP m) (.ref t), ?_, ?_⟩, kp lp _ x.lat wlp x.nlf, paired_mono x.ltp fun _ _ z => tups _ _ z, ?_, ?_, x.nw, x.nf, x.nlf⟩
  · rw [← eH, upd_ne wfp.symm, upd_same]
  · rw [putK_new (V.ref t) hn]
    exact Cb.paired_snoc (F := EntAt H') (a := (keyP m, V.ref t)) (b := ⟨m, d, some (c, cm)⟩) ⟨rfl, t, u, rfl, tups _ _ ht, tups _ _ hu⟩ (paired_mono hP fun kv e z => ⟨z.1, z.2.mono tups⟩)
  · rw [← eH, upd_same, List.map_append]
    rfl
  · exact Cb.paired_snoc (F := fun (t : Addr) (p : Nat × Nat) => H' t = some (.tup (plV p))) (tups _ _ hf) (paired_mono x.ftp fun _ _ z => tups _ _ z)
section
variable {P : Program} {w : World} {K : PySem.W.Frag} {mg : Str → Option Value} {base : Heap}
theorem natsV_get {l : List Nat} {i : Nat} {x : V} (h : (natsV l)[i]? = some x) : ∃ k, l[i]? = some k ∧ x = .int (k : Int) := get_lotV h
theorem natsV_len (l : List Nat) : (natsV l).length = l.length := List.length_map ..
theorem paired_right {α β : Type} {F : α → β → Prop} : ∀ {xs : List α} {ys : List β}, Paired F xs ys → ∀ {i : Nat} {y : β}, ys[i]? = some y → ∃ x, xs[i]? = some x ∧ F x y
  | _, _, .nil, i, x, h => by cases h
  | _, _, .cons r t, 0, x, h => by
    have e := Option.some.inj h
    subst e
    exact ⟨_, rfl, r⟩
  | _, _, .cons r t, i + 1, x, h => paired_right t h
theorem take_mem_succ {α : Type} {l : List α} {i : Nat} {k : α} (h : l[i]? = some k) {x : α} (hx : x ∈ l.take (i + 1)) : x ∈ l.take i ∨ x = k := by
  rw [List.take_add_one, h] at hx
  rcases List.mem_append.mp hx with z | z
  · exact .inl z
  · exact .inr (by simpa using z)
/-- lists of numbers stand at the items of a list -/
abbrev NatsAt (H : Hp) (ts : List Addr) (ls : List (List Nat)) : Prop := Paired (fun (t : Addr) (l : List Nat) => H t = some (.lst (natsV l))) ts ls
def sp_ways (K : PySem.W.Frag) : Sp := fun vs H Q _ => ∃ (a g ap : Addr) (h : List (List Nat)) (lot alw : List Nat), vs = [.ref a, .ref g, .ref ap] ∧ HouseAt K H a h ∧ HouseOk h ∧ LotAt K H g lot ∧ LotOk h.length lot ∧ LotAt K H ap alw ∧ 1 ≤ alw.length ∧ alw.length ≤ 6 ∧
  ∀ (H' : Hp) (wp : Addr) (es : List Ent), Same H H' → H wp = none → WaysAt H' wp es → WaysOk (h.map maskOf) (cmsOf lot alw) es → Q (.ref wp) H'
theorem sc_ways : FnScope ["house", "lot", "allowance", "sights", "coin_masks", "ways", "latest", "found", "cover", "day", "next_day", "coin_mask", "following", "row", "coins"] ["house", "lot", "allowance"] (defScope s__ways) := ⟨rfl, rfl, rfl, by decide +kernel, rfl, by decide +kernel, by decide +kernel⟩
theorem ok_ways (T : Txt K mg) : FnOk P w K mg base CX0 3 T.d__ways.f T.d__ways.fd ["house", "lot", "allowance"] (sp_ways K) := by
  have G1 := ok_mask_of (P := P) (w := w) (base := base) T
  have G2 := ok_coin_masks (P := P) (w := w) (base := base) T
  have G3 := ok_next_cover (P := P) (w := w) (base := base) T
  refine T.d__ways.F.ok sc_ways (fun vs H Q E h => ?_) (fun cdv A outer s H vs Q E hr h => ?_)
  · obtain ⟨a, g, ap, h, lot, alw, rfl, _⟩ := h
    rfl
  · obtain ⟨a, g, ap, hs, lot, alw, rfl, hA, ok, hL, okL, hW, ha1, ha6, q⟩ := h
    have nd := sc_ways.nd
    have hu := hu_of hr
    have hr1 : Room 1 _ := hr.mono (by decide)
    have hr2 : Room 2 _ := hr.mono (by decide)
    obtain ⟨rs, hR, hP⟩ := id hA
    have hl : rs.length = hs.length := Paired.length hP
    have hlv : (rs.map V.ref).length = hs.length := by rw [List.length_map, hl]
    have hlen := okL.len
    have h7 := ok.hi
    refine ⟨_, pss_cons (ps_setLc (i := 3) (own := [("row", 13)]) (g := gName 13) (tt := tYes) rfl nd rfl rfl (sw_true rfl rfl rfl (by decide +kernel)) (pi_tup (pv 0))
        (blkOk_by (N := ["house", "lot", "allowance", "sights", "coin_masks", "ways", "latest", "found", "cover", "day", "next_day", "coin_mask", "following", "row", "coins"]) (sc := defScope s__ways) (by decide +kernel)) (fun _ _ _ _ _ => pg_name (i := 13) nd rfl (.inl rfl)) (fun _ _ _ _ _ => pts_nil)
        (fun _ _ _ _ _ => pe_call G1 hr1 (by rfl) T.d__mask_of.g T.d__mask_of.F.kp T.d__mask_of.b .nil pass0 (pa_cons (pv 13) pa_nil)))
      (pss_cons (ps_setLc (i := 4) (own := [("coins", 14)]) (g := gName 14) (tt := tYes) rfl nd rfl rfl (sw_true rfl rfl rfl (by decide +kernel)) (pi_tup (pv 2))
        (blkOk_by (N := ["house", "lot", "allowance", "sights", "coin_masks", "ways", "latest", "found", "cover", "day", "next_day", "coin_mask", "following", "row", "coins"]) (sc := defScope s__ways) (by decide +kernel)) (fun _ _ _ _ _ => pg_name (i := 14) nd rfl (.inl rfl)) (fun _ _ _ _ _ => pts_nil)
        (fun _ _ _ _ _ => pe_call G2 hr2 (by rfl) T.d__coin_masks.g T.d__coin_masks.F.kp T.d__coin_masks.b .nil pass0 (pa_cons (pv 1) (pa_cons (pv 14) pa_nil))))
      (pss_cons (ps_set (i := 5) nd rfl (.inl rfl) (pe_dispT hu (pe_tup (pa_cons pe_int (pa_cons pe_int pa_nil))) pe_non))
      (pss_cons (ps_set (i := 6) nd rfl (.inl rfl) (pe_lst (pa_cons (pe_tup (pa_cons pe_int (pa_cons pe_int pa_nil))) pa_nil)))
      (pss_cons (ps_while PassesOwn.never (pt_truth (pv 6) (by intro _; rfl))
        (pss_cons (ps_set (i := 7) nd rfl (.inl rfl) (pe_lst pa_nil))
        (pss_cons (ps_for PassesOwn.never rfl (pi_list (pv 6)) (pg_tup rfl (pgs_cons (pg_name (i := 8) nd rfl (.inl rfl)) (pgs_cons (pg_name (i := 9) nd rfl (.inl rfl)) pgs_nil)))
          (pss_cons (ps_set (i := 10) nd rfl (.inl rfl) (pe_op op_mod (pe_op op_add (pv 9) pe_int) (pe_callB call_len_seq (by rfl) T.n_len PySem.boot_len (pa_cons (pv 2) pa_nil))))
          (pss_one (ps_for PassesOwn.never rfl (pi_list (pe_ix ix_list (pv 4) (pv 9) (fun _ _ => rfl))) (pg_name (i := 11) nd rfl (.inl rfl))
            (pss_cons (ps_set (i := 12) nd rfl (.inl rfl) (pe_tup (pa_cons (pe_call G3 hr1 (by rfl) T.d__next_cover.g T.d__next_cover.F.kp T.d__next_cover.b .nil pass0 (pa_cons (pv 3) (pa_cons (pe_op op_orN (pv 8) (pv 11)) pa_nil))) (pa_cons (pv 10) pa_nil))))
            (pss_one (ps_if (pt_cmp (pc_dnotin hu (pv 12) (pv 5)))
              (pss_cons (ps_dput hu (pv 5) (pv 12) (pe_tup (pa_cons (pe_tup (pa_cons (pv 8) (pa_cons (pv 9) pa_nil))) (pa_cons (pv 11) pa_nil))) rfl)
              (pss_one (ps_expr (pe_bm PySem.F.plainAttrs_list PySem.F.slot_list_append PySem.F.type_list_append mt_append (pv 7) (pa_cons (pv 12) pa_nil))))) pss_nil)))))))
        (pss_one (ps_set (i := 6) nd rfl (.inl rfl) (pv 7))))))
      (pss_one (ps_ret (pv 5))))))), ?_⟩
    -- sights
    refine ⟨.ref a, rfl, a, rfl, ⟨_, hR⟩, fun sp hsp => lc_tup (K := K) (a := a) (xs := rs.map V.ref) (fun i H2 => H2 = upd H sp (.lst (natsV ((hs.map maskOf).take i)))) rfl (fun i H2 _ e => by rw [e]; exact Same.tup (same_upd hsp) hR) ?_ ?_⟩
    · rintro i y H2 hi rfl
      obtain ⟨r, hri, rfl⟩ := get_refs hi
      obtain ⟨row, hrow, hat⟩ := paired_at hP hri
      have okr := (ok.ok row (List.mem_of_getElem? hrow)).2
      refine ⟨rfl, tYes_if ?_⟩
      refine ⟨.ref r, rfl, r, row, rfl, hat.same (same_upd hsp), fun j hj => by have h1 := okr.lt j hj; omega, _, upd_same, ?_, ?_⟩
      · rw [natsV_len, List.length_take, List.length_map]
        exact Nat.lt_of_le_of_lt (Nat.min_le_right _ _) (small1000 (by omega))
      · rw [upd_upd]
        have e2 : (hs.map maskOf)[i]? = some (maskOf row) := by rw [List.getElem?_map, hrow]; rfl
        rw [natsV_take e2]
    · rintro H2 rfl
      have et : (hs.map maskOf).take (rs.map V.ref).length = hs.map maskOf := List.take_of_length_le (by rw [hlv, List.length_map]; exact Nat.le_refl _)
      rw [et]
      have sm2 : Same H (upd H sp (.lst (natsV (hs.map maskOf)))) := same_upd hsp
      generalize eH2 : upd H sp (.lst (natsV (hs.map maskOf))) = H2 at sm2
      have esp2 : H2 sp = some (.lst (natsV (hs.map maskOf))) := by rw [← eH2, upd_same]
      -- coin_masks
      refine ⟨.ref ap, rfl, ap, rfl, ⟨_, Same.tup sm2 hW⟩, fun cp hcp => lc_tup (K := K) (a := ap) (xs := lotV alw) (fun i H3 => ∃ (ts : List Addr) (H4 : Hp), Same H2 H4 ∧ H4 cp = none ∧ H3 = upd H4 cp (.lst (ts.map V.ref)) ∧ NatsAt H4 ts ((cmsOf lot alw).take i))
        ⟨[], H2, Same.refl _, hcp, rfl, .nil⟩ (fun i H3 _ ⟨ts, H4, s4, h4, e, _⟩ => by rw [e]; exact Same.tup ((sm2.trans s4).trans (same_upd h4)) hW) ?_ ?_⟩
      · rintro i y H3 hi ⟨ts, H4, s4, h4, rfl, hts⟩
        obtain ⟨c, hc, rfl⟩ := get_lotV hi
        have s5 : Same H (upd H4 cp (.lst (ts.map V.ref))) := (sm2.trans s4).trans (same_upd h4)
        refine ⟨rfl, tYes_if ?_⟩
        refine ⟨.ref g, rfl, .int (c : Int), rfl, g, lot, c, rfl, hL.same s5, by omega, fun j hj => by have h1 := okL.lt j hj; omega, fun H6 p6 s6 hp6 e6 => ?_⟩
        have ecp : H6 cp = some (.lst (ts.map V.ref)) := s6 _ _ upd_same
        have hp4 : H4 p6 = none := by
          rw [upd_ne (fun z => by rw [z, upd_same] at hp6; cases hp6)] at hp6
          exact hp6
        have pne : p6 ≠ cp := fun z => by rw [z, upd_same] at hp6; cases hp6
        have hlt : ts.length = ((cmsOf lot alw).take i).length := Paired.length hts
        refine ⟨_, ecp, ?_, ts ++ [p6], fun b => if b = cp then none else H6 b, ?_, ?_, ?_, ?_⟩
        · rw [List.length_map, hlt, List.length_take]
          refine Nat.lt_of_le_of_lt (Nat.min_le_right _ _) (small1000 ?_)
          rw [cms_len]
          omega
        · intro b o e
          have hb : b ≠ cp := ne_of_none e hcp
          show (if b = cp then none else H6 b) = _
          rw [if_neg hb]
          refine s6 _ _ ?_
          rw [upd_ne hb]
          exact s4 _ _ e
        · exact if_pos rfl
        · funext b
          by_cases hb : b = cp
          · subst hb
            rw [upd_same, upd_same, List.map_append]
            rfl
          · rw [upd_ne hb, upd_ne hb]
            show _ = (if b = cp then none else H6 b)
            rw [if_neg hb]
        · have ec : (cmsOf lot alw)[i]? = some (coinMasks lot c) := by rw [cmsOf, List.getElem?_map, hc]; rfl
          have etk : (cmsOf lot alw).take (i + 1) = (cmsOf lot alw).take i ++ [coinMasks lot c] := by rw [List.take_add_one, ec]; rfl
          rw [etk]
          refine Cb.paired_snoc (F := fun (t : Addr) (l : List Nat) => (if t = cp then none else H6 t) = some (.lst (natsV l))) ?_ (paired_mono hts fun t l z => ?_)
          · rw [if_neg pne]
            exact e6
          · have hb : t ≠ cp := ne_of_none z h4
            rw [if_neg hb]
            refine s6 _ _ ?_
            rw [upd_ne hb]
            exact z
      · rintro H3' ⟨cts, H4, s4, h4, rfl, hcts⟩
        have etk : (cmsOf lot alw).take (lotV alw).length = cmsOf lot alw := List.take_of_length_le (by rw [cms_len, lotV_len]; exact Nat.le_refl _)
        rw [etk] at hcts
        have sm5 : Same H4 (upd H4 cp (.lst (cts.map V.ref))) := same_upd h4
        have ecp : (upd H4 cp (.lst (cts.map V.ref))) cp = some (.lst (cts.map V.ref)) := upd_same
        have hcts5 : NatsAt (upd H4 cp (.lst (cts.map V.ref))) cts (cmsOf lot alw) := paired_mono hcts fun t l z => sm5 _ _ z
        have smH : Same H (upd H4 cp (.lst (cts.map V.ref))) := (sm2.trans s4).trans sm5
        have esp : (upd H4 cp (.lst (cts.map V.ref))) sp = some (.lst (natsV (hs.map maskOf))) := sm5 _ _ (s4 _ _ esp2)
        generalize upd H4 cp (.lst (cts.map V.ref)) = H3 at ecp hcts5 smH esp
        clear hcts sm5
        have hss : (hs.map maskOf).length ≤ 7 := by rw [List.length_map]; exact ok.hi
        have hcl : (cmsOf lot alw).length = alw.length := cms_len lot alw
        generalize eC : cmsOf lot alw = cms at hcts5 hcl q
        generalize eS : hs.map maskOf = ss at esp hss q
        -- ways
        intro wp hwp
        refine ⟨(by show 2 ≤ sizeLine; decide), fun kp hkp => ?_⟩
        have wk : wp ≠ kp := fun e => by rw [e, upd_same] at hkp; cases hkp
        have hkp3 : H3 kp = none := by rw [upd_ne wk.symm] at hkp; exact hkp
        refine ⟨kp, keyP (0, 0), rfl, upd_same, by rw [upd_ne wk, upd_same], ?_⟩
        -- latest
        refine ⟨(by show 2 ≤ sizeLine; decide), fun tp htp => ⟨(by show 1 ≤ sizeLine; decide), fun lp hlp => ?_⟩⟩
        generalize eH5 : upd (upd (upd H3 wp (.dT [])) kp (.tup [V.int 0, V.int 0])) wp (.dT [(keyP (0, 0), .non)]) = H5 at htp hlp
        have s35 : Same H3 H5 := fun b o e => by
          rw [← eH5, upd_ne (ne_of_none e hwp), upd_ne (ne_of_none e hkp3), upd_ne (ne_of_none e hwp)]
          exact e
        have ew5 : H5 wp = some (.dT [(keyP (0, 0), .non)]) := by rw [← eH5, upd_same]
        have s57 : Same H5 (upd (upd H5 tp (.tup [V.int 0, V.int 0])) lp (.lst [V.ref tp])) := (same_upd htp).trans (same_upd hlp)
        have tl : tp ≠ lp := fun e => by rw [← e, upd_same] at hlp; cases hlp
        have start : WaysAt (upd (upd H5 tp (.tup [V.int 0, V.int 0])) lp (.lst [V.ref tp])) wp [⟨(0, 0), 0, none⟩] := ⟨_, s57 _ _ ew5, Paired.cons ⟨rfl, rfl⟩ Paired.nil⟩
        refine ⟨fun m σ H' => ∃ (k : Nat) (es : List Ent) (ts : List Addr) (L : List (Nat × Nat)) (lp : Addr) (v7 v8 v9 v10 v11 v12 v13 v14 : Option V), m = (768 - es.length) * 2 + (if L = [] then 0 else 1) ∧ σ = [some (.ref a), some (.ref g), some (.ref ap), some (.ref sp), some (.ref cp), some (.ref wp), some (.ref lp), v7, v8, v9, v10, v11, v12, v13, v14] ∧
            Same H3 H' ∧ WaysAt H' wp es ∧ H' lp = some (.lst (ts.map V.ref)) ∧ PlsAt H' ts L ∧ BInv ss cms k es ∧ LatestOk ss cms k L,
          ⟨_, 0, [⟨(0, 0), 0, none⟩], [tp], [(0, 0)], lp, none, none, none, none, none, none, none, none, rfl, rfl, s35.trans s57, start, upd_same, .cons (by rw [upd_ne tl, upd_same]; rfl) .nil, (binv_start _ _).1, (binv_start _ _).2⟩, ?_⟩
        rintro m σ H4' ⟨k, es, ts, L, lp, v7, v8, v9, v10, v11, v12, v13, v14, rfl, rfl, sm4, hw4, hl4, ht4, B, hLk⟩
        refine ⟨.ref lp, rfl, _, .inl ⟨ts.map V.ref, SqL.up hl4, rfl⟩, ?_⟩
        have htl : ts.length = L.length := Paired.length ht4
        cases L with
        | nil =>
          have e0 : ts = [] := List.eq_nil_of_length_eq_zero (by rw [htl]; rfl)
          subst e0
          show (if false = true then _ else _)
          refine iteF ?_
          exact ⟨_, rfl, q H4' wp es (smH.trans sm4) (smH.free hwp) hw4 (ways_end B hLk)⟩
        | cons c0 L0 =>
          obtain ⟨t0, ts0, e0⟩ : ∃ t0 ts0, ts = t0 :: ts0 := by
            cases ts with
            | nil => cases htl
            | cons t0 ts0 => exact ⟨t0, ts0, rfl⟩
          rw [show (!((ts.map V.ref).isEmpty)) = true by rw [e0]; rfl]
          show (if true = true then _ else _)
          rw [if_pos rfl]
          have hcl1 : 1 ≤ cms.length := by omega
          have hcl6 : cms.length ≤ 6 := by omega
          have hBl := binv_len hss hcl1 hcl6 B (mid_start B)
          rw [List.append_nil] at hBl
          refine ⟨fun σ' H' => ∃ m', m' < (768 - es.length) * 2 + (if c0 :: L0 = [] then 0 else 1) ∧ ∃ (k : Nat) (es : List Ent) (ts : List Addr) (L : List (Nat × Nat)) (lp : Addr) (v7 v8 v9 v10 v11 v12 v13 v14 : Option V), m' = (768 - es.length) * 2 + (if L = [] then 0 else 1) ∧ σ' = [some (.ref a), some (.ref g), some (.ref ap), some (.ref sp), some (.ref cp), some (.ref wp), some (.ref lp), v7, v8, v9, v10, v11, v12, v13, v14] ∧
            Same H3 H' ∧ WaysAt H' wp es ∧ H' lp = some (.lst (ts.map V.ref)) ∧ PlsAt H' ts L ∧ BInv ss cms k es ∧ LatestOk ss cms k L, fun σ' H' z => z, ?_⟩
          -- found = []
          refine ⟨by decide, fun fp hfp => ?_⟩
          have h3f : H3 fp = none := sm4.free hfp
          have W0 : WH H3 (upd H4' fp (.lst [])) wp lp fp es ts (c0 :: L0) [] [] :=
            ⟨sm4.trans (same_upd hfp), hw4.same (same_upd hfp), (same_upd hfp) _ _ hl4, paired_mono ht4 fun _ _ z => (same_upd hfp) _ _ z, upd_same, .nil, hwp, h3f, ne_of_none hl4 hfp⟩
          -- for cover, day in latest
          refine ⟨.ref lp, rfl, lp, rfl, ⟨_, SqL.up W0.lat⟩, for_list (K := K) (a := lp) (xs := ts.map V.ref) (fun i σ H5 => ∃ (new : List Ent) (fs : List Addr) (v8 v9 v10 v11 v12 v13 v14 : Option V), σ = [some (.ref a), some (.ref g), some (.ref ap), some (.ref sp), some (.ref cp), some (.ref wp), some (.ref lp), some (.ref fp), v8, v9, v10, v11, v12, v13, v14] ∧
              WH H3 H5 wp lp fp (es ++ new) ts (c0 :: L0) fs (new.map (·.p)) ∧ Mid ss cms k es new (fun c' cm' => c' ∈ (c0 :: L0).take i ∧ cm' ∈ cms.getD c'.2 []))
            ⟨[], [], v8, v9, v10, v11, v12, v13, v14, rfl, by rw [List.append_nil]; exact W0, (mid_start B).weaken fun c' cm' z => by simp at z⟩ (fun i σ H5 _ ⟨_, _, _, _, _, _, _, _, _, _, z, _⟩ => SqL.up z.lat) ?_ ?_⟩
          · rintro i y σ H5' hi ⟨new, fs, v8, v9, v10, v11, v12, v13, v14, rfl, W5, M5⟩
            obtain ⟨ct, hct, rfl⟩ := get_refs hi
            obtain ⟨cv, hcv, hcat⟩ := paired_at W5.ltp hct
            have hcfd : FD ss cms cv k := (hLk cv).mp (List.mem_of_getElem? hcv)
            have hday := (rch_lt hcl1 hcfd.1).2
            obtain ⟨cmsd, ecd⟩ : ∃ l, cms[cv.2]? = some l := ⟨_, List.getElem?_eq_getElem hday⟩
            have ecg : cms.getD cv.2 [] = cmsd := by rw [List.getD_eq_getElem?_getD, ecd]; rfl
            obtain ⟨cq, hcq, ecq⟩ := paired_right hcts5 ecd
            -- cover, day
            refine ⟨ct, plV cv, rfl, SqT.up hcat, rfl, .int (cv.1 : Int), [.int (cv.2 : Int)], rfl, .int (cv.2 : Int), [], rfl, rfl, ?_⟩
            -- next_day
            refine ⟨.int (cv.2 : Int), rfl, (cv.2 : Int), 1, rfl, rfl, .ref ap, rfl, ap, lotV alw, rfl, .inr (Same.tup (smH.trans W5.sm) hW), (cv.2 : Int) + 1, ((lotV alw).length : Int), rfl, rfl, by rw [lotV_len]; omega, ?_⟩
            have en : ((cv.2 : Int) + 1) % (((lotV alw).length : Nat) : Int) = (((cv.2 + 1) % cms.length : Nat) : Int) := by
              rw [lotV_len, ← hcl, Int.natCast_emod]
              rfl
            -- for coin_mask in coin_masks[day]
            refine ⟨.ref cp, rfl, .int (cv.2 : Int), rfl, cp, cts.map V.ref, (cv.2 : Int), .ref cq, rfl, rfl, SqL.up (W5.sm _ _ ecp), atI_nat (by rw [List.getElem?_map, hcq]; rfl), cq, rfl, ⟨_, SqL.up (W5.sm _ _ ecq)⟩,
              for_list (K := K) (a := cq) (xs := natsV cmsd) (fun j σ H6 => ∃ (new : List Ent) (fs : List Addr) (v11 v12 v13 v14 : Option V), σ = [some (.ref a), some (.ref g), some (.ref ap), some (.ref sp), some (.ref cp), some (.ref wp), some (.ref lp), some (.ref fp), some (.int (cv.1 : Int)), some (.int (cv.2 : Int)), some (.int (((cv.2 + 1) % cms.length : Nat) : Int)), v11, v12, v13, v14] ∧
                WH H3 H6 wp lp fp (es ++ new) ts (c0 :: L0) fs (new.map (·.p)) ∧ Mid ss cms k es new (fun c' cm' => (c' ∈ (c0 :: L0).take i ∧ cm' ∈ cms.getD c'.2 []) ∨ (c' = cv ∧ cm' ∈ cmsd.take j)))
              ⟨new, fs, v11, v12, v13, v14, by rw [← en]; rfl, W5, M5.weaken fun c' cm' z => by
                rcases z with z | ⟨_, z⟩
                · exact z
                · simp at z⟩ (fun j σ H6 _ ⟨_, _, _, _, _, _, _, z, _⟩ => SqL.up (z.sm _ _ ecq)) ?_ ?_⟩
            · rintro j y σ H6 hj ⟨new, fs, v11, v12, v13, v14, rfl, W6, M6⟩
              obtain ⟨cm, hcm, rfl⟩ := natsV_get hj
              have hcmm : cm ∈ cms.getD cv.2 [] := by rw [ecg]; exact List.mem_of_getElem? hcm
              have hstep : ∀ c' cm', ((c' ∈ (c0 :: L0).take i ∧ cm' ∈ cms.getD c'.2 []) ∨ (c' = cv ∧ cm' ∈ cmsd.take (j + 1))) → ((c' ∈ (c0 :: L0).take i ∧ cm' ∈ cms.getD c'.2 []) ∨ (c' = cv ∧ cm' ∈ cmsd.take j)) ∨ (c' = cv ∧ cm' = cm) := by
                intro c' cm' z
                rcases z with z | ⟨z1, z2⟩
                · exact .inl (.inl z)
                · rcases take_mem_succ hcm z2 with z3 | z3
                  · exact .inl (.inr ⟨z1, z3⟩)
                  · exact .inr ⟨z1, z3⟩
              -- following
              refine ⟨.ref sp, rfl, .int (cv.1 : Int), rfl, .int (cm : Int), rfl, cv.1, cm, rfl, rfl, sp, ss, cv.1 ||| cm, rfl, SqL.up (W6.sm _ _ esp), by omega, fun H7 sm7 => ?_⟩
              have W7 := W6.same sm7
              refine ⟨_, rfl, (by show 2 ≤ sizeLine; decide), fun f hf => ?_⟩
              have smf : Same H7 (upd H7 f (.tup [.int ((nextM ss (cv.1 ||| cm) : Nat) : Int), .int (((cv.2 + 1) % cms.length : Nat) : Int)])) := same_upd hf
              have W8 := W7.same smf
              have ef : (upd H7 f (.tup [.int ((nextM ss (cv.1 ||| cm) : Nat) : Int), .int (((cv.2 + 1) % cms.length : Nat) : Int)])) f = some (.tup (plV (nx ss cms.length cv cm))) := upd_same
              generalize upd H7 f (.tup [.int ((nextM ss (cv.1 ||| cm) : Nat) : Int), .int (((cv.2 + 1) % cms.length : Nat) : Int)]) = H8 at W8 ef
              obtain ⟨kvs, hk8, hP8⟩ := W8.ways
              refine ⟨.ref f, rfl, .ref wp, rfl, wp, _, rfl, DGet.t (k := keyP (nx ss cms.length cv cm)) hk8 ef, _, rfl, ?_⟩
              cases hv : valV kvs (keyP (nx ss cms.length cv cm)) with
              | some x =>
                refine iteF ?_
                have hin : ∃ e ∈ es ++ new, e.p = nx ss cms.length cv cm := by
                  rcases Classical.em (∃ e ∈ es ++ new, e.p = nx ss cms.length cv cm) with z | z
                  · exact z
                  · rw [(valV_ents hP8).mpr z] at hv
                    cases hv
                exact ⟨new, fs, _, _, _, _, rfl, W8, M6.skip hin hstep⟩
              | none =>
                refine iteT ?_
                have hout := (valV_ents hP8).mp hv
                have hlen := binv_len hss hcl1 hcl6 B M6
                have hkl : kvs.length = (es ++ new).length := Paired.length hP8
                refine ⟨.int (cv.1 : Int), rfl, .int (cv.2 : Int), rfl, (by show 2 ≤ sizeLine; decide), fun u hu' => ⟨.int (cm : Int), rfl, (by show 2 ≤ sizeLine; decide), fun t ht => ?_⟩⟩
                have s9 : Same H8 (upd H8 u (.tup (plV cv))) := same_upd hu'
                have s10 : Same (upd H8 u (.tup (plV cv))) (upd (upd H8 u (.tup (plV cv))) t (.tup [.ref u, .int (cm : Int)])) := same_upd ht
                have eu : (upd (upd H8 u (.tup (plV cv))) t (.tup [.ref u, .int (cm : Int)])) u = some (.tup (plV cv)) := s10 _ _ upd_same
                have et : (upd (upd H8 u (.tup (plV cv))) t (.tup [.ref u, .int (cm : Int)])) t = some (.tup [.ref u, .int (cm : Int)]) := upd_same
                have W10 := W8.same (s9.trans s10)
                have ef10 := (s9.trans s10) _ _ ef
                have hk10 := (s9.trans s10) _ _ hk8
                have hP10 : Paired (EntAt (upd (upd H8 u (.tup (plV cv))) t (.tup [.ref u, .int (cm : Int)]))) kvs (es ++ new) := paired_mono hP8 fun _ _ z => ⟨z.1, z.2.mono fun t xs q => (s9.trans s10) _ _ q⟩
                generalize upd (upd H8 u (.tup (plV cv))) t (.tup [.ref u, .int (cm : Int)]) = H10 at eu et W10 ef10 hk10 hP10
                refine ⟨.ref wp, rfl, .ref f, rfl, wp, _, rfl, DPut.t (k := keyP (nx ss cms.length cv cm)) hk10 ef10 (small1000 (by omega)), ?_⟩
                have hf11 : (upd H10 wp (.dT (putK kvs (keyP (nx ss cms.length cv cm)) (.ref t)))) fp = some (.lst (fs.map V.ref)) := by
                  rw [upd_ne (ne_of W10.fnd hk10 (by intro z; cases z))]
                  exact W10.fnd
                have hnl : new.length ≤ 768 := by rw [List.length_append] at hlen; omega
                have hfl : fs.length = new.length := by
                  have z : fs.length = (new.map (·.p)).length := Paired.length W10.ftp
                  rw [z, List.length_map]
                refine ⟨.ref fp, rfl, .inl ⟨rfl, _, SqL.up hf11⟩, .ref f, rfl, fp, _, _, rfl, rfl, hf11, by rw [List.length_map]; exact small1000 (by omega), ?_⟩
                have W11 := W10.put (m := nx ss cms.length cv cm) (d := k + 1) (c := cv) (cm := cm) et eu ef10 hk10 hP10 hv
                refine ⟨new ++ [⟨nx ss cms.length cv cm, k + 1, some (cv, cm)⟩], fs ++ [f], _, _, _, _, rfl, ?_, M6.add B hcfd hcmm hout hstep⟩
                rw [List.append_assoc] at W11
                rw [List.map_append]
                exact W11
            · rintro σ H6 ⟨new, fs, v11, v12, v13, v14, rfl, W6, M6⟩
              refine ⟨new, fs, _, _, _, _, _, _, _, rfl, W6, M6.weaken fun c' cm' z => ?_⟩
              rcases take_mem_succ hcv z.1 with z1 | z1
              · exact .inl ⟨z1, z.2⟩
              · refine .inr ⟨z1, ?_⟩
                rw [natsV_len, List.take_length, ← ecg, ← z1]
                exact z.2
          · rintro σ H5' ⟨new, fs, v8, v9, v10, v11, v12, v13, v14, rfl, W5, M5⟩
            -- latest = found
            refine ⟨.ref fp, rfl, ?_⟩
            have hall : ∀ c' ∈ c0 :: L0, ∀ cm' ∈ cms.getD c'.2 [], c' ∈ (c0 :: L0).take (ts.map V.ref).length ∧ cm' ∈ cms.getD c'.2 [] := fun c' h1 cm' h2 => by
              rw [List.length_map, htl, List.take_length]
              exact ⟨h1, h2⟩
            obtain ⟨B2, L2'⟩ := mid_end B hLk M5 hall
            have hlen := binv_len hss hcl1 hcl6 B M5
            refine ⟨_, ?_, k + 1, es ++ new, fs, new.map (·.p), fp, _, _, _, _, _, _, _, _, rfl, rfl, W5.sm, W5.ways, W5.fnd, W5.ftp, B2, L2'⟩
            rw [List.length_append] at hlen ⊢
            rw [if_neg (List.cons_ne_nil c0 L0)]
            cases new with
            | nil =>
              show (768 - (es.length + 0)) * 2 + (if ([] : List (Nat × Nat)) = [] then 0 else 1) < _
              rw [if_pos rfl]
              omega
            | cons e0 new =>
              rw [List.length_cons] at hlen ⊢
              have z : (if (e0 :: new).map (·.p) = [] then 0 else 1) = 1 := if_neg (by simp)
              rw [z]
              omega
end
end N

set_option Elab.async false
set_option linter.all false
set_option maxRecDepth 100000
set_option maxHeartbeats 2000000
namespace N
open Cb (lotV combs combsOf combsOf_sub)
open PySem PySem.Spec PyProof.Rows L2
theorem upd_id {H : Hp} {a : Addr} {o : HO} (h : H a = some o) : upd H a o = H := by
  funext b
  unfold upd
  split
  · rename_i e; rw [e, h]
  · rfl
section
variable {P : Program} {w : World} {K : PySem.W.Frag} {mg : Str → Option Value} {base : Heap}
theorem sqT_off {H : Hp} {d a : Addr} {xs : List V} {kvs : List (List Key × V)} {o : HO} (h : SqT K H a xs) (hd : H d = some (.dT kvs)) : SqT K (upd H d o) a xs := by
  rcases h with (h | ⟨o', h⟩) | h
  · exact .inl (.inl (by rw [upd_ne (ne_of h hd (by intro z; cases z))]; exact h))
  · exact .inl (.inr ⟨o', by rw [upd_ne (ne_of h hd (by intro z; cases z))]; exact h⟩)
  · exact .inr h
/-- a place or None -/
def PlV (H : Hp) (v : V) : Option (Nat × Nat) → Prop
  | none => v = .non
  | some p => ∃ t, v = .ref t ∧ H t = some (.tup (plV p))
def sp_first_cover (K : PySem.W.Frag) : Sp := fun vs H Q _ => ∃ (wp g : Addr) (es : List Ent) (l : List Nat), vs = [.ref wp, .ref g] ∧ WaysAt H wp es ∧ LotAt K H g l ∧ (∀ i ∈ l, i ≤ 1000) ∧ ∀ (H' : Hp) (v : V), Same H H' → PlV H' v ((firstOf es l).map (·.p)) → Q v H'
theorem sc_first_cover : FnScope ["ways", "goal", "cover", "day"] ["ways", "goal"] (defScope s__first_cover) := ⟨rfl, rfl, rfl, by decide +kernel, rfl, by decide +kernel, by decide +kernel⟩
theorem ok_first_cover (T : Txt K mg) : FnOk P w K mg base CX0 3 T.d__first_cover.f T.d__first_cover.fd ["ways", "goal"] (sp_first_cover K) := by
  have G := ok_holds (P := P) (w := w) (base := base) T
  refine T.d__first_cover.F.ok sc_first_cover (fun vs H Q E h => ?_) (fun cdv A outer s H vs Q E hr h => ?_)
  · obtain ⟨wp, g, es, l, rfl, _⟩ := h
    rfl
  · obtain ⟨wp, g, es, l, rfl, ⟨kvs, hk, hP⟩, hL, hb, q⟩ := h
    have nd := sc_first_cover.nd
    refine ⟨_, pss_cons (ps_lock (ps_for PassesOwn.never rfl (pi_keys (pv 0)) (pg_tup rfl (pgs_cons (pg_name (i := 2) nd rfl (.inl rfl)) (pgs_cons (pg_name (i := 3) nd rfl (.inl rfl)) pgs_nil)))
        (pss_one (ps_if (pt_val (pe_call G hr (by rfl) T.d__holds.g T.d__holds.F.kp T.d__holds.b .nil pass0 (pa_cons (pv 2) (pa_cons (pv 1) pa_nil)))) (pss_one (ps_ret (pe_tup (pa_cons (pv 2) (pa_cons (pv 3) pa_nil))))) pss_nil))))
      (pss_one (ps_ret pe_non)), ?_⟩
    refine ⟨wp, _, hk, True.intro, fun od => ?_⟩
    refine ⟨.ref wp, rfl, wp, od, rfl, .inr ⟨kvs, upd_same, for_it walk_keysT (fun i σ H2 => H2 = upd H wp (.frz od (.dT kvs)) ∧ (∃ c d : Option V, σ = [some (.ref wp), some (.ref g), c, d]) ∧ ∀ e ∈ es.take i, ¬ holdsB e.p.1 l = true)
      ⟨rfl, ⟨none, none, rfl⟩, fun e he => by simp at he⟩ (fun i σ H2 _ h2 => by rw [h2.1]; exact upd_same) ?_ ?_⟩⟩
    · rintro i y σ H2 H3 hi ⟨rfl, ⟨c, d, rfl⟩, hno⟩ ⟨rfl, k, v, kq, hkv, rfl, hq⟩
      obtain ⟨e, he, ek, _⟩ := paired_at hP hkv
      have ek' : k = keyP e.p := ek
      subst ek'
      refine ⟨kq, plV e.p, rfl, SqT.up hq, rfl, .int (e.p.1 : Int), [.int (e.p.2 : Int)], rfl, .int (e.p.2 : Int), [], rfl, rfl, ?_⟩
      refine ⟨.int (e.p.1 : Int), rfl, .ref g, rfl, e.p.1, g, l, rfl, sqT_off hL hk, hb, _, rfl, ?_⟩
      cases hh : holdsB e.p.1 l with
      | true =>
        refine iteT ?_
        refine ⟨.int (e.p.1 : Int), rfl, .int (e.p.2 : Int), rfl, (by show 2 ≤ sizeLine; decide), fun t ht => ?_⟩
        have tw : t ≠ wp := fun z => by rw [z, upd_same] at ht; cases ht
        have htH : H t = none := by rw [upd_ne tw] at ht; exact ht
        refine ⟨by rw [upd_ne tw.symm]; exact upd_same, ?_⟩
        have eH : upd (upd (upd H wp (.frz od (.dT kvs))) t (.tup (plV e.p))) wp (.dT kvs) = upd H t (.tup (plV e.p)) := by
          funext b
          by_cases b1 : b = wp
          · subst b1
            rw [upd_same, upd_ne tw.symm, hk]
          · rw [upd_ne b1]
            by_cases b2 : b = t
            · subst b2; rw [upd_same, upd_same]
            · rw [upd_ne b2, upd_ne b1, upd_ne b2]
        show Q _ (upd (upd (upd H wp (.frz od (.dT kvs))) t (.tup (plV e.p))) wp (.dT kvs))
        rw [eH]
        have ef : firstOf es l = some e := by
          unfold firstOf
          have hlt : i < es.length := (List.getElem?_eq_some_iff.mp he).1
          have hsp : es = es.take i ++ e :: es.drop (i + 1) := by
            rw [← (List.getElem?_eq_some_iff.mp he).2, ← List.drop_eq_getElem_cons hlt, List.take_append_drop]
          rw [hsp, List.find?_append]
          have hn : (es.take i).find? (fun e => holdsB e.p.1 l) = none := List.find?_eq_none.mpr fun x hx => hno x hx
          rw [hn, Option.none_or, List.find?_cons, hh]
        exact q _ _ (same_upd htH) (by rw [ef]; exact ⟨t, rfl, upd_same⟩)
      | false =>
        refine iteF ?_
        refine ⟨rfl, ⟨_, _, rfl⟩, fun x hx => ?_⟩
        rw [List.take_add_one, he] at hx
        rcases List.mem_append.mp hx with z | z
        · exact hno x z
        · have ex : x = e := by simpa using z
          rw [ex, hh]
          exact Bool.false_ne_true
    · rintro σ H2 ⟨rfl, ⟨c, d, rfl⟩, hno⟩
      refine ⟨upd_same, ?_⟩
      rw [upd_upd, upd_id hk]
      have ef : firstOf es l = none := by
        unfold firstOf
        refine List.find?_eq_none.mpr fun x hx => ?_
        have hl : kvs.length = es.length := Paired.length hP
        rw [hl, List.take_length] at hno
        exact hno x hx
      exact q H .non (Same.refl _) (by rw [ef]; rfl)
def sp_all_slates (K : PySem.W.Frag) : Sp := fun vs H Q _ => ∃ (a : Addr) (xs : List V), vs = [.ref a] ∧ SqT K H a xs ∧ xs.length ≤ 7 ∧ ∀ (H' : Hp) (p : Addr), Same H H' → H' p = some (.tup (lotV (List.range xs.length))) → Q (.ref p) H'
theorem sc_all_slates : FnScope ["house"] ["house"] (defScope s_all_slates) := ⟨rfl, rfl, rfl, by decide +kernel, rfl, by decide +kernel, by decide +kernel⟩
theorem rgV_lot (n : Nat) : rgV 0 (n : Int) = lotV (List.range n) := by
  unfold rgV lotV
  rw [show ((n : Int) - 0).toNat = n by omega]
  refine List.map_congr_left fun i _ => ?_
  rw [Int.zero_add]
theorem ok_all_slates (T : Txt K mg) : FnOk P w K mg base CX0 1 T.d_all_slates.f T.d_all_slates.fd ["house"] (sp_all_slates K) := by
  refine T.d_all_slates.F.ok sc_all_slates (fun vs H Q E h => ?_) (fun cdv A outer s H vs Q E hr h => ?_)
  · obtain ⟨a, xs, rfl, _⟩ := h
    rfl
  · obtain ⟨a, xs, rfl, hA, hn, q⟩ := h
    refine ⟨_, pss_one (ps_ret (pe_tupRg rfl (by rfl) T.n_tuple (prg_1 (by rfl) T.n_range (pe_callB call_len_seq (by rfl) T.n_len PySem.boot_len (pa_cons (pv 0) pa_nil))))), ?_⟩
    refine ⟨.ref a, rfl, a, xs, rfl, .inr hA, xs.length, rfl, RgOk.of_le (by decide) (by omega) (by decide) (by omega), fun p hp => ?_⟩
    rw [rgV_lot]
    exact q _ p (same_upd hp) upd_same
theorem plV_non {H : Hp} {v : V} {o : Option (Nat × Nat)} (h : PlV H v o) : decide (v = .non) = o.isNone := by
  cases o with
  | none => rw [show v = .non from h]; rfl
  | some p =>
    obtain ⟨t, rfl, _⟩ := h
    rfl
def sp_can_cover (K : PySem.W.Frag) : Sp := fun vs H Q _ => ∃ (a g lp : Addr) (h : List (List Nat)) (c : Nat) (l lot : List Nat), vs = [.ref a, .int c, .ref g, .ref lp] ∧ HouseAt K H a h ∧ HouseOk h ∧ LotAt K H g l ∧ LotOk h.length l ∧ LotAt K H lp lot ∧ LotOk h.length lot ∧
  ∀ (H' : Hp) (b : Bool), Same H H' → (b = true ↔ CanA h lot [c] l) → Q (.bl b) H'
theorem sc_can_cover : FnScope ["house", "coins", "goal", "lot"] ["house", "coins", "goal", "lot"] (defScope s_can_cover) := ⟨rfl, rfl, rfl, by decide +kernel, rfl, by decide +kernel, by decide +kernel⟩
theorem ok_can_cover (T : Txt K mg) : FnOk P w K mg base CX0 4 T.d_can_cover.f T.d_can_cover.fd ["house", "coins", "goal", "lot"] (sp_can_cover K) := by
  have G1 := ok_ways (P := P) (w := w) (base := base) T
  have G2 := ok_first_cover (P := P) (w := w) (base := base) T
  refine T.d_can_cover.F.ok sc_can_cover (fun vs H Q E h => ?_) (fun cdv A outer s H vs Q E hr h => ?_)
  · obtain ⟨a, g, lp, h, c, l, lot, rfl, _⟩ := h
    rfl
  · obtain ⟨a, g, lp, hs, c, l, lot, rfl, hA, ok, hL, okL, hM, okM, q⟩ := h
    refine ⟨_, pss_one (ps_ret (pe_cmpR op_notN (pe_call G2 hr (by rfl) T.d__first_cover.g T.d__first_cover.F.kp T.d__first_cover.b .nil pass0 (pa_cons (pe_call G1 hr (by rfl) T.d__ways.g T.d__ways.F.kp T.d__ways.b .nil pass0 (pa_cons (pv 0) (pa_cons (pv 3) (pa_cons (pe_tup (pa_cons (pv 1) pa_nil)) pa_nil)))) (pa_cons (pv 2) pa_nil))) pe_non (nomark _))), ?_⟩
    refine ⟨.ref a, rfl, .ref lp, rfl, .int (c : Int), rfl, (by show 1 ≤ sizeLine; decide), fun ap hap => ?_⟩
    have s1 : Same H (upd H ap (.tup [.int (c : Int)])) := same_upd hap
    refine ⟨a, lp, ap, hs, lot, [c], rfl, hA.same s1, ok, hM.same s1, okM, SqT.up upd_same, Nat.le_refl 1, (by show 1 ≤ 6; decide), fun H2 wp es s2 hwp hW okW => ?_⟩
    refine ⟨.ref g, rfl, wp, g, es, l, rfl, hW, hL.same (s1.trans s2), fun i hi => by have h1 := okL.lt i hi; have h2 := ok.hi; omega, fun H3 v s3 hv => ?_⟩
    refine ⟨rfl, ?_⟩
    rw [plV_non hv]
    refine q H3 _ ((s1.trans s2).trans s3) ?_
    have z := first_canA (alw := [c]) (goal := l) okM.nodup (Nat.le_refl 1) okW
    cases ef : firstOf es l with
    | none =>
      rw [ef] at z
      exact ⟨fun y => (by cases y), fun y => absurd y (z.mp rfl)⟩
    | some e =>
      rw [ef] at z
      refine ⟨fun _ => Classical.byContradiction fun y => ?_, fun _ => rfl⟩
      have := z.mpr y
      cases this
/-- a number or None -/
def optV : Option Nat → V
  | none => .non
  | some c => .int (c : Int)
def sp_least_coins (K : PySem.W.Frag) : Sp := fun vs H Q _ => ∃ (a g lp : Addr) (h : List (List Nat)) (l lot : List Nat), vs = [.ref a, .ref g, .ref lp] ∧ HouseAt K H a h ∧ HouseOk h ∧ LotAt K H g l ∧ LotOk h.length l ∧ LotAt K H lp lot ∧ LotOk h.length lot ∧
  ∀ (H' : Hp) (o : Option Nat), Same H H' → IsNumL h l lot o → Q (optV o) H'
theorem sc_least_coins : FnScope ["house", "goal", "lot", "coins"] ["house", "goal", "lot"] (defScope s_least_coins) := ⟨rfl, rfl, rfl, by decide +kernel, rfl, by decide +kernel, by decide +kernel⟩
theorem ok_least_coins (T : Txt K mg) : FnOk P w K mg base CX0 5 T.d_least_coins.f T.d_least_coins.fd ["house", "goal", "lot"] (sp_least_coins K) := by
  have G := ok_can_cover (P := P) (w := w) (base := base) T
  refine T.d_least_coins.F.ok sc_least_coins (fun vs H Q E h => ?_) (fun cdv A outer s H vs Q E hr h => ?_)
  · obtain ⟨a, g, lp, h, l, lot, rfl, _⟩ := h
    rfl
  · obtain ⟨a, g, lp, hs, l, lot, rfl, hA, ok, hL, okL, hM, okM, q⟩ := h
    have nd := sc_least_coins.nd
    have h7 := ok.hi
    have hlen := okM.len
    refine ⟨_, pss_cons (ps_for PassesOwn.never rfl (pi_range1 (by rfl) T.n_range (pa_cons (pe_op op_add (pe_callB call_len_seq (by rfl) T.n_len PySem.boot_len (pa_cons (pv 2) pa_nil)) pe_int) pa_nil)) (pg_name (i := 3) nd rfl (.inl rfl))
        (pss_one (ps_if (pt_val (pe_call G hr (by rfl) T.d_can_cover.g T.d_can_cover.F.kp T.d_can_cover.b .nil pass0 (pa_cons (pv 0) (pa_cons (pv 3) (pa_cons (pv 1) (pa_cons (pv 2) pa_nil)))))) (pss_one (ps_ret (pv 3))) pss_nil)))
      (pss_one (ps_ret pe_non)), ?_⟩
    refine ⟨.ref lp, rfl, lp, lotV lot, rfl, .inr hM, ((lotV lot).length : Int), 1, rfl, rfl, ((lotV lot).length : Int) + 1, rfl, by rw [lotV_len]; omega, by rw [lotV_len]; omega, ?_⟩
    have en : (((lotV lot).length : Int) + 1).toNat = lot.length + 1 := by rw [lotV_len]; omega
    show ∃ W, _
    rw [en]
    refine for_range (lo := 0) (n := lot.length + 1) (fun i σ H2 => (∃ c : Option V, σ = [some (.ref a), some (.ref g), some (.ref lp), c]) ∧ Same H H2 ∧ ∀ c', c' < i → ¬ CanA hs lot [c'] l)
      ⟨⟨none, rfl⟩, Same.refl _, fun c' z => absurd z (Nat.not_lt_zero _)⟩ ?_ ?_
    · rintro i σ H2 hi ⟨⟨c, rfl⟩, sm, hno⟩
      rw [Int.zero_add]
      refine ⟨.ref a, rfl, .int (i : Int), rfl, .ref g, rfl, .ref lp, rfl, a, g, lp, hs, i, l, lot, rfl, hA.same sm, ok, hL.same sm, okL, hM.same sm, okM, fun H3 b s3 hb => ⟨_, rfl, ?_⟩⟩
      cases b with
      | true =>
        refine iteT ?_
        exact ⟨_, rfl, q H3 (some i) (sm.trans s3) ⟨hb.mp rfl, hno⟩⟩
      | false =>
        refine iteF ?_
        refine ⟨⟨_, rfl⟩, sm.trans s3, fun c' z => ?_⟩
        by_cases e : c' = i
        · rw [e]
          exact fun y => Bool.false_ne_true (hb.mpr y)
        · exact hno c' (by omega)
    · rintro σ H2 ⟨⟨c, rfl⟩, sm, hno⟩
      refine q H2 none sm fun c z => ?_
      have y := canA_min z
      exact hno _ (by omega) y
def sp_slate_number (K : PySem.W.Frag) : Sp := fun vs H Q _ => ∃ (a : Addr) (h : List (List Nat)), vs = [.ref a] ∧ HouseAt K H a h ∧ HouseOk h ∧ ∀ (H' : Hp) (c : Nat), Same H H' → IsNum h (List.range h.length) c → c ≤ h.length → Q (.int (c : Int)) H'
theorem sc_slate_number : FnScope ["house"] ["house"] (defScope s_slate_number) := ⟨rfl, rfl, rfl, by decide +kernel, rfl, by decide +kernel, by decide +kernel⟩
theorem range_ok (n : Nat) : LotOk n (List.range n) := List.Sublist.refl _
theorem ok_slate_number (T : Txt K mg) : FnOk P w K mg base CX0 6 T.d_slate_number.f T.d_slate_number.fd ["house"] (sp_slate_number K) := by
  have G1 := (ok_check_house (P := P) (w := w) (base := base) T)
  have G2 := (ok_all_slates (P := P) (w := w) (base := base) T)
  have G3 := ok_least_coins (P := P) (w := w) (base := base) T
  refine T.d_slate_number.F.ok sc_slate_number (fun vs H Q E h => ?_) (fun cdv A outer s H vs Q E hr h => ?_)
  · obtain ⟨a, h, rfl, _⟩ := h
    rfl
  · obtain ⟨a, hs, rfl, hA, ok, q⟩ := h
    refine ⟨_, pss_cons (ps_expr (pe_call G1 (hr.mono (by decide)) (by rfl) T.d_check_house.g T.d_check_house.F.kp T.d_check_house.b .nil pass0 (pa_cons (pv 0) pa_nil)))
      (pss_one (ps_ret (pe_call G3 hr (by rfl) T.d_least_coins.g T.d_least_coins.F.kp T.d_least_coins.b .nil pass0 (pa_cons (pv 0) (pa_cons (pe_call G2 (hr.mono (by decide)) (by rfl) T.d_all_slates.g T.d_all_slates.F.kp T.d_all_slates.b .nil pass0 (pa_cons (pv 0) pa_nil))
        (pa_cons (pe_call G2 (hr.mono (by decide)) (by rfl) T.d_all_slates.g T.d_all_slates.F.kp T.d_all_slates.b .nil pass0 (pa_cons (pv 0) pa_nil)) pa_nil)))))), ?_⟩
    refine ⟨.ref a, rfl, a, hs, rfl, hA, ok, fun H1 sm1 => ?_⟩
    obtain ⟨rs, hR, hP⟩ := id (hA.same sm1)
    have hlv : (rs.map V.ref).length = hs.length := by rw [List.length_map]; exact Paired.length hP
    refine ⟨.ref a, rfl, .ref a, rfl, a, _, rfl, hR, by rw [hlv]; exact ok.hi, fun H2 p sm2 hp => ?_⟩
    rw [hlv] at hp
    refine ⟨.ref a, rfl, a, _, rfl, Same.tup sm2 hR, by rw [hlv]; exact ok.hi, fun H3 p3 sm3 hp3 => ?_⟩
    rw [hlv] at hp3
    have s13 := (sm1.trans sm2).trans sm3
    refine ⟨a, p, p3, hs, List.range hs.length, List.range hs.length, rfl, hA.same s13, ok, SqT.up (sm3 _ _ hp), range_ok _, SqT.up hp3, range_ok _, fun H4 o s4 hn => ?_⟩
    obtain ⟨c, rfl, h1, h2⟩ := isNumL_all ok (range_ok _) hn
    exact q H4 c (s13.trans s4) h1 h2
def sp_number_of (K : PySem.W.Frag) : Sp := fun vs H Q _ => ∃ (a g : Addr) (h : List (List Nat)) (l : List Nat), vs = [.ref a, .ref g] ∧ HouseAt K H a h ∧ HouseOk h ∧ LotAt K H g l ∧ LotOk h.length l ∧ l ≠ [] ∧ ∀ (H' : Hp) (c : Nat), Same H H' → IsNum h l c → c ≤ h.length → Q (.int (c : Int)) H'
theorem sc_number_of : FnScope ["house", "goal"] ["house", "goal"] (defScope s_number_of) := ⟨rfl, rfl, rfl, by decide +kernel, rfl, by decide +kernel, by decide +kernel⟩
theorem ok_number_of (T : Txt K mg) : FnOk P w K mg base CX0 6 T.d_number_of.f T.d_number_of.fd ["house", "goal"] (sp_number_of K) := by
  have G1 := ok_check_house (P := P) (w := w) (base := base) T
  have G2 := ok_check_goal (P := P) (w := w) (base := base) T
  have G3 := ok_least_coins (P := P) (w := w) (base := base) T
  have G4 := (ok_all_slates (P := P) (w := w) (base := base) T)
  refine T.d_number_of.F.ok sc_number_of (fun vs H Q E h => ?_) (fun cdv A outer s H vs Q E hr h => ?_)
  · obtain ⟨a, g, h, l, rfl, _⟩ := h
    rfl
  · obtain ⟨a, g, hs, l, rfl, hA, ok, hL, okL, hne, q⟩ := h
    refine ⟨_, pss_cons (ps_expr (pe_call G1 (hr.mono (by decide)) (by rfl) T.d_check_house.g T.d_check_house.F.kp T.d_check_house.b .nil pass0 (pa_cons (pv 0) pa_nil)))
      (pss_cons (ps_expr (pe_call G2 (hr.mono (by decide)) (by rfl) T.d_check_goal.g T.d_check_goal.F.kp T.d_check_goal.b .nil pass0 (pa_cons (pv 0) (pa_cons (pv 1) pa_nil))))
      (pss_one (ps_ret (pe_call G3 hr (by rfl) T.d_least_coins.g T.d_least_coins.F.kp T.d_least_coins.b .nil pass0 (pa_cons (pv 0) (pa_cons (pv 1)
        (pa_cons (pe_call G4 (hr.mono (by decide)) (by rfl) T.d_all_slates.g T.d_all_slates.F.kp T.d_all_slates.b .nil pass0 (pa_cons (pv 0) pa_nil)) pa_nil))))))), ?_⟩
    refine ⟨.ref a, rfl, a, hs, rfl, hA, ok, fun H1 sm1 => ?_⟩
    refine ⟨.ref a, rfl, .ref g, rfl, a, g, hs, l, rfl, hA.same sm1, hL.same sm1, okL, hne, ?_⟩
    obtain ⟨rs, hR, hP⟩ := id (hA.same sm1)
    have hlv : (rs.map V.ref).length = hs.length := by rw [List.length_map]; exact Paired.length hP
    refine ⟨.ref a, rfl, .ref g, rfl, .ref a, rfl, a, _, rfl, hR, by rw [hlv]; exact ok.hi, fun H2 p sm2 hp => ?_⟩
    rw [hlv] at hp
    have s12 := sm1.trans sm2
    refine ⟨a, g, p, hs, l, List.range hs.length, rfl, hA.same s12, ok, hL.same s12, okL, SqT.up hp, range_ok _, fun H4 o s4 hn => ?_⟩
    obtain ⟨c, rfl, h1, h2⟩ := isNumL_all ok okL hn
    exact q H4 c (s12.trans s4) h1 h2
def sp_coins_of_enemy (K : PySem.W.Frag) : Sp := fun vs H Q _ => ∃ (a : Addr) (h : List (List Nat)) (x y : Nat), vs = [.ref a, .int x, .int y] ∧ HouseAt K H a h ∧ HouseOk h ∧ x ≤ 7 ∧ y ≤ 7 ∧ ∀ H', Same H H' → Q (.int ((2 * x + y : Nat) : Int)) H'
def sp_lot_bears (K : PySem.W.Frag) : Sp := fun vs H Q _ => ∃ (a g : Addr) (h : List (List Nat)) (l : List Nat) (x y : Nat), vs = [.ref a, .int x, .int y, .ref g] ∧ HouseAt K H a h ∧ HouseOk h ∧ x ≤ 7 ∧ y ≤ 7 ∧ LotAt K H g l ∧ LotOk h.length l ∧ l ≠ [] ∧
  ∀ (H' : Hp) (c : Nat), Same H H' → IsNum h l c → Q (.bl (decide (2 * x + y < c))) H'
end
end N

set_option Elab.async false
set_option linter.all false
set_option maxRecDepth 100000
set_option maxHeartbeats 2000000
/-! a mask's lot; the row that covers within the fewest days -/
namespace N
open Cb (lotV combs combsOf combsOf_sub)
open PySem PySem.Spec PyProof.Rows L2
def bitsOf (m : Nat) : List Nat := (List.range 7).filter fun i => m.testBit i
theorem bits_mask {n : Nat} {l : List Nat} (ok : LotOk n l) (hn : n ≤ 7) : bitsOf (maskOf l) = l := by
  have h2 : l.Pairwise (· < ·) := ok.rise
  have h1 : (bitsOf (maskOf l)).Pairwise (· < ·) := List.Pairwise.sublist List.filter_sublist List.pairwise_lt_range
  have hm : ∀ i, i ∈ bitsOf (maskOf l) ↔ i ∈ l := fun i => by
    unfold bitsOf
    rw [List.mem_filter, List.mem_range, testBit_mask, decide_eq_true_eq]
    constructor
    · exact fun z => z.2
    · intro z
      have := ok.lt i z
      exact ⟨by omega, z⟩
  have p : (bitsOf (maskOf l)).Perm l := (List.perm_ext_iff_of_nodup (h1.imp fun h e => by omega) (h2.imp fun h e => by omega)).mpr hm
  exact List.Perm.eq_of_pairwise (le := (· < ·)) (fun a b _ _ x y => by omega) h1 h2 p
theorem bit_and (m k : Nat) : ((((m / 2 ^ k) &&& 1 : Nat) : Int) != 0) = m.testBit k := by
  have e : (m / 2 ^ k) &&& 1 = if m.testBit k then 1 else 0 := by
    rw [Nat.and_comm, Nat.one_and_eq_mod_two, Nat.testBit_eq_decide_div_mod_eq]
    have h : m / 2 ^ k % 2 = 0 ∨ m / 2 ^ k % 2 = 1 := by omega
    rcases h with h | h <;> simp [h]
  rw [e]
  cases m.testBit k <;> rfl
def tTru (K : PySem.W.Frag) (ta : TE) : TT := fun σ H Q => ta σ H fun x H' => ∃ k, TruV K x H' k ∧ Q k H'
theorem p_truthI (K : PySem.W.Frag) {X : Cx} {a : Expr} {ta : TE} (ha : PE X a ta) (he : ∀ whole, isTrue a X.env whole = (do let v ← whole; standAt a.pos; holding [v] (truthy v)) := by intro _; rfl) (hK : X.K = K := by rfl) :
    PT X a (tTru K ta) := by
  subst hK
  exact pt_truth ha he
section
variable {P : Program} {w : World} {K : PySem.W.Frag} {mg : Str → Option Value} {base : Heap}
def sp_lot_of (K : PySem.W.Frag) : Sp := fun vs H Q _ => ∃ m : Nat, vs = [.int m] ∧ ∀ (H' : Hp) (p : Addr), Same H H' → H' p = some (.tup (lotV (bitsOf m))) → Q (.ref p) H'
theorem sc_lot_of : FnScope ["mask", "clerk"] ["mask"] (defScope s__lot_of) := ⟨rfl, rfl, rfl, by decide +kernel, rfl, by decide +kernel, by decide +kernel⟩
theorem ok_lot_of (T : Txt K mg) : FnOk P w K mg base CX0 1 T.d__lot_of.f T.d__lot_of.fd ["mask"] (sp_lot_of K) := by
  obtain ⟨tm, gm⟩ := T.g_MOST_CLERKS
  refine T.d__lot_of.F.ok sc_lot_of (fun vs H Q E h => ?_) (fun cdv A outer s H vs Q E hr h => ?_)
  · obtain ⟨m, rfl, _⟩ := h
    rfl
  · obtain ⟨m, rfl, q⟩ := h
    have nd := sc_lot_of.nd
    refine ⟨_, pss_one (ps_ret (pe_tupleOf (by rfl) T.n_tuple (pe_lc (own := [("clerk", 1)]) (g := gName 1) rfl nd (pi_range1 (by rfl) T.n_range (pa_cons (pe_glob (v := .int 7) (by rfl) gm ⟨_, rfl⟩) pa_nil))
      (blkOk_by (N := ["mask", "clerk"]) (sc := defScope s__lot_of) (by decide +kernel)) (fun _ _ _ _ _ => pg_name (i := 1) nd rfl (.inl rfl))
      (fun _ _ _ _ _ => pts_one (p_truthI K (pe_op op_andN (pe_op op_shrN (pv 0) (pv 1)) pe_int)))
      (fun _ _ _ _ _ => pv 1)))), ?_⟩
    refine ⟨7, rfl, by omega, by omega, fun D hD => ?_⟩
    show ∃ W, _
    rw [show ((7 : Int)).toNat = 7 from rfl]
    refine lc_range (lo := 0) (n := 7) (fun i H2 => H2 = upd H D (.lst (lotV ((List.range i).filter fun i => m.testBit i)))) rfl ?_ ?_
    · rintro i H2 hi rfl
      have ed : (m : Int) / 2 ^ i = ((m / 2 ^ i : Nat) : Int) := by
        rw [Int.natCast_ediv, Int.natCast_pow]
        rfl
      refine ⟨rfl, .int m, rfl, .int (0 + (i : Int)), rfl, m, i, rfl, by rw [Int.zero_add], m / 2 ^ i, 1, by rw [ed], rfl, m.testBit i, (bit_and m i).symm, ?_⟩
      have ef : (List.range (i + 1)).filter (fun i => m.testBit i) = (List.range i).filter (fun i => m.testBit i) ++ if m.testBit i = true then [i] else [] := by
        rw [List.range_succ, List.filter_append, List.filter_cons]
        rfl
      refine ite2 (fun hb => ?_) (fun hb => ?_)
      · rw [if_pos hb] at ef
        refine ⟨_, rfl, _, upd_same, ?_, ?_⟩
        · rw [List.length_map]
          have := List.length_filter_le (fun i => m.testBit i) (List.range i)
          rw [List.length_range] at this
          exact small1000 (by omega)
        · show upd _ _ _ = _
          rw [upd_upd, ef, Int.zero_add]
          unfold lotV
          rw [List.map_append]
          rfl
      · rw [if_neg hb, List.append_nil] at ef
        show _ = _
        rw [ef]
    · rintro H2 rfl
      refine .inl ⟨D, _, rfl, SqL.up upd_same, fun p hp => ?_⟩
      exact q _ p ((same_upd hD).trans (same_upd hp)) upd_same
def sp_check_cover (K : PySem.W.Frag) : Sp := fun vs H Q _ => ∃ (a g : Addr) (h : List (List Nat)) (c : Nat) (l : List Nat), vs = [.ref a, .int c, .ref g] ∧ HouseAt K H a h ∧ HouseOk h ∧ c ≤ 7 ∧ LotAt K H g l ∧ LotOk h.length l ∧ l ≠ [] ∧ ∀ H', Same H H' → Q .non H'
theorem sc_check_cover : FnScope ["house", "coins", "goal"] ["house", "coins", "goal"] (defScope s__check_cover) := ⟨rfl, rfl, rfl, by decide +kernel, rfl, by decide +kernel, by decide +kernel⟩
theorem ok_check_cover (T : Txt K mg) : FnOk P w K mg base CX0 5 T.d__check_cover.f T.d__check_cover.fd ["house", "coins", "goal"] (sp_check_cover K) := by
  have G1 := ok_check_house (P := P) (w := w) (base := base) T
  have G2 := ok_check_number (P := P) (w := w) (base := base) T
  have G3 := ok_check_goal (P := P) (w := w) (base := base) T
  obtain ⟨tm, gm⟩ := T.g_MOST_CLERKS
  refine T.d__check_cover.F.ok sc_check_cover (fun vs H Q E h => ?_) (fun cdv A outer s H vs Q E hr h => ?_)
  · obtain ⟨a, g, h, c, l, rfl, _⟩ := h
    rfl
  · obtain ⟨a, g, hs, c, l, rfl, hA, ok, hc, hL, okL, hne, q⟩ := h
    have hr2 : Room 2 _ := hr.mono (by decide)
    refine ⟨_, pss_cons (ps_expr (pe_call G1 (hr.mono (by decide)) (by rfl) T.d_check_house.g T.d_check_house.F.kp T.d_check_house.b .nil pass0 (pa_cons (pv 0) pa_nil)))
      (pss_cons (ps_expr (pe_call G2 hr2 (by rfl) T.d_check_number.g T.d_check_number.F.kp T.d_check_number.b .nil pass0 (pa_cons (pv 1) (pa_cons pe_int (pa_cons (pe_glob (v := .int 7) (by rfl) gm ⟨_, rfl⟩) pa_nil)))))
      (pss_one (ps_expr (pe_call G3 hr (by rfl) T.d_check_goal.g T.d_check_goal.F.kp T.d_check_goal.b .nil pass0 (pa_cons (pv 0) (pa_cons (pv 2) pa_nil)))))), ?_⟩
    refine ⟨.ref a, rfl, a, hs, rfl, hA, ok, fun H1 sm1 => ?_⟩
    refine ⟨.int c, rfl, c, 0, 7, rfl, by omega, by omega, ?_⟩
    exact ⟨.ref a, rfl, .ref g, rfl, a, g, hs, l, rfl, hA.same sm1, hL.same sm1, okL, hne, q H1 sm1⟩
end
end N

set_option Elab.async false
set_option linter.all false
set_option maxRecDepth 100000
set_option maxHeartbeats 2000000
namespace N
open Cb (lotV combs combsOf combsOf_sub)
open PySem PySem.Spec PyProof.Rows L2
theorem zero_cov {h : List (List Nat)} (ok : HouseOk h) : ∀ {t : Nat} {S : List Nat}, RchL h 0 t S → S = []
  | 0, S, e => e
  | t + 1, S, ⟨S', L, h1, h2, h3, e⟩ => by
    have eS := zero_cov ok h1
    have eL : L = [] := List.eq_nil_of_length_eq_zero (by omega)
    subst eS; subst eL
    rw [e]
    refine List.eq_nil_iff_forall_not_mem.mpr fun i hi => ?_
    obtain ⟨hlt, hs⟩ := mem_nextL.mp hi
    have hm : h.getD i [] ∈ h := by
      rw [List.getD_eq_getElem?_getD, List.getElem?_eq_getElem hlt]
      exact List.getElem_mem hlt
    obtain ⟨s, r, er⟩ := List.exists_cons_of_ne_nil (ok.ok _ hm).1
    have q := hs s (by rw [er]; exact List.mem_cons_self)
    simp at q
theorem num_pos {h : List (List Nat)} (ok : HouseOk h) {goal : List Nat} (hne : goal ≠ []) {c : Nat} (x : IsNum h goal c) : 1 ≤ c := by
  rcases Nat.eq_zero_or_pos c with z | z
  · subst z
    obtain ⟨t, S, hS, hg⟩ := x.1
    have e := zero_cov ok hS
    subst e
    obtain ⟨s, r, er⟩ := List.exists_cons_of_ne_nil hne
    have q := hg s (by rw [er]; exact List.mem_cons_self)
    simp at q
  · exact z
/-- the lots of a size that coins never cover -/
def hardOf (es : List Ent) (n s : Nat) : List (List Nat) := (combs n s).filter fun l => (firstOf es l).isNone
def hards (es : List Ent) (n : Nat) : Nat → List (List Nat)
  | 0 => []
  | k + 1 => hards es n k ++ hardOf es n (k + 1)
def bestOf (ls : List (List Nat)) : List (List Nat) := ls.filter fun l => decide (l.length = (ls.headD []).length)
/-- lots stand at a as a tuple | a list of tuples -/
def LotsAt (K : PySem.W.Frag) (H : Hp) (a : Addr) (ls : List (List Nat)) : Prop := ∃ ts : List Addr, SqT K H a (ts.map V.ref) ∧ Paired (fun t l => LotAt K H t l) ts ls
section
variable {P : Program} {w : World} {K : PySem.W.Frag} {mg : Str → Option Value} {base : Heap}
theorem hards_len (es : List Ent) (n : Nat) (hn : n ≤ 7) : ∀ k, k ≤ n → (hards es n k).length ≤ 128 * k
  | 0, _ => Nat.le_refl _
  | k + 1, h => by
    have ih := hards_len es n hn k (by omega)
    have h2 := combs_small (n := n) (r := k + 1) h hn
    have h3 : (hardOf es n (k + 1)).length ≤ (combs n (k + 1)).length := List.length_filter_le _ _
    unfold hards
    rw [List.length_append]
    omega
theorem hards_ok {es : List Ent} {n : Nat} : ∀ {k : Nat} {l : List Nat}, l ∈ hards es n k → LotOk n l ∧ 1 ≤ l.length
  | 0, l, h => by cases h
  | k + 1, l, h => by
    unfold hards at h
    rcases List.mem_append.mp h with z | z
    · exact hards_ok z
    · have q := combs_mem.mp (List.mem_filter.mp z).1
      exact ⟨q.1, by omega⟩
/-- what is put into a list's place stands apart from the rest -/
theorem un_upd {H H6 : Hp} {D : Addr} {o : HO} (hD : H D = none) (s : Same (upd H D o) H6) : ∃ H', Same H H' ∧ H' D = none ∧ H6 = upd H' D o := by
  refine ⟨fun b => if b = D then none else H6 b, fun b x e => ?_, if_pos rfl, ?_⟩
  · have hb : b ≠ D := ne_of_none e hD
    show (if b = D then none else H6 b) = _
    rw [if_neg hb]
    refine s _ _ ?_
    rw [upd_ne hb]
    exact e
  · funext b
    by_cases hb : b = D
    · subst hb
      rw [upd_same]
      exact s _ _ upd_same
    · rw [upd_ne hb]
      show _ = (if b = D then none else H6 b)
      rw [if_neg hb]
def sp_best_lots (K : PySem.W.Frag) : Sp := fun vs H Q _ => ∃ (a : Addr) (h : List (List Nat)), vs = [.ref a] ∧ HouseAt K H a h ∧ HouseOk h ∧
  ∀ (H' : Hp) (p : Addr) (c : Nat) (es : List Ent), Same H H' → IsNum h (List.range h.length) (c + 1) → WaysOk (h.map maskOf) (cmsOf (List.range h.length) [c]) es → LotsAt K H' p (bestOf (hards es h.length h.length)) → Q (.ref p) H'
end
end N

set_option Elab.async false
set_option linter.all false
set_option maxRecDepth 100000
set_option maxHeartbeats 2000000
namespace N
open Cb (lotV combs combsOf combsOf_sub)
open PySem PySem.Spec PyProof.Rows L2
/-- what is covered behind a row of lots of coins -/
def leadL (h : List (List Nat)) (S : List Nat) (Ls : List (List Nat)) : List Nat := Ls.foldl (fun S L => nextL h S L) S
structure RowOk (h : List (List Nat)) (c : Nat) (goal : List Nat) (Ls : List (List Nat)) : Prop where
  ok : ∀ L ∈ Ls, LotOk h.length L ∧ L.length ≤ c
  leads : ∀ i ∈ goal, i ∈ leadL h [] Ls
/-- a row of coins by an allowance that covers a goal -/
structure RowOkA (h : List (List Nat)) (alw goal : List Nat) (Ls : List (List Nat)) : Prop where
  ok : ∀ j L, Ls[j]? = some L → LotOk h.length L ∧ L.length ≤ alw.getD (j % alw.length) 0
  leads : ∀ i ∈ goal, i ∈ leadL h [] Ls
theorem RowOkA.one {h : List (List Nat)} {c : Nat} {goal : List Nat} {Ls : List (List Nat)} (x : RowOkA h [c] goal Ls) : RowOk h c goal Ls := by
  refine ⟨fun L hL => ?_, x.leads⟩
  obtain ⟨j, hj⟩ := List.getElem?_of_mem hL
  have z := x.ok j L hj
  rw [show ([c] : List Nat).length = 1 from rfl, Nat.mod_one] at z
  exact z
theorem mask_inj {n : Nat} {l m : List Nat} (ol : LotOk n l) (om : LotOk n m) (hn : n ≤ 7) (e : maskOf l = maskOf m) : l = m := by
  rw [← bits_mask ol hn, ← bits_mask om hn, e]
theorem mask_zero {l : List Nat} (e : maskOf l = 0) : l = [] := by
  refine List.eq_nil_iff_forall_not_mem.mpr fun i hi => ?_
  have h : (maskOf l).testBit i = true := by rw [testBit_mask]; exact decide_eq_true hi
  rw [e] at h
  simp at h
theorem fd_small {ss : List Nat} {cms : List (List Nat)} (hs : ss.length ≤ 7) (hc : 1 ≤ cms.length) (hc6 : cms.length ≤ 6) {m : Nat × Nat} {d : Nat} (h : FD ss cms m d) : d < 768 := by
  have hk : ∀ k : Nat, ∃ c, k ≤ d → FD ss cms c k := fun k => by
    by_cases hk : k ≤ d
    · obtain ⟨c, hc⟩ := FD.below h hk
      exact ⟨c, fun _ => hc⟩
    · exact ⟨(0, 0), fun z => absurd z hk⟩
  have hf : ∀ k, k ≤ d → FD ss cms (Classical.choose (hk k)) k := fun k z => Classical.choose_spec (hk k) z
  have h2 : 2 ^ ss.length ≤ 2 ^ 7 := Nat.pow_le_pow_right (by decide) hs
  have lt : ∀ k, k ≤ d → (Classical.choose (hk k)).1 < 2 ^ ss.length ∧ (Classical.choose (hk k)).2 < cms.length := fun k z => rch_lt hc (hf k z).1
  have nd : ((List.range (d + 1)).map fun k => plN (Classical.choose (hk k))).Nodup := nodup_on _ List.nodup_range fun a ha b hb e => by
    have ha' := List.mem_range.mp ha
    have hb' := List.mem_range.mp hb
    have h1 := hf a (by omega)
    have h3 := hf b (by omega)
    have l1 := lt a (by omega)
    have l3 := lt b (by omega)
    have e2 : Classical.choose (hk a) = Classical.choose (hk b) := by
      unfold plN at e
      exact Prod.ext (by omega) (by omega)
    rw [e2] at h1
    exact h1.inj h3
  have hl := nodup_le 768 _ nd fun x hx => by
    obtain ⟨k, hk', rfl⟩ := List.mem_map.mp hx
    have l1 := lt k (by have := List.mem_range.mp hk'; omega)
    unfold plN
    omega
  rw [List.length_map, List.length_range] at hl
  omega
theorem paired_rev {α β : Type} {F : α → β → Prop} : ∀ {as : List α} {bs : List β}, Paired F as bs → Paired F as.reverse bs.reverse
  | _, _, .nil => .nil
  | _, _, .cons r t => by
    rw [List.reverse_cons, List.reverse_cons]
    exact Cb.paired_snoc r (paired_rev t)
theorem ents_get {H : Hp} {m : Nat × Nat} : ∀ {kvs : List (List Key × V)} {es : List Ent}, Paired (EntAt H) kvs es → (∃ e ∈ es, e.p = m) → ∃ v, valV kvs (keyP m) = some v ∧ ∃ e ∈ es, e.p = m ∧ BackAt H v e.b
  | _, _, .nil, ⟨e, h, _⟩ => by cases h
  | kv :: kvs, e :: es, .cons r t, hx => by
    by_cases h : e.p = m
    · have e1 : kv.1 = keyP m := by rw [r.1, h]
      rw [valV_pos e1]
      exact ⟨_, rfl, e, List.mem_cons_self, h, r.2⟩
    · have e1 : ¬ kv.1 = keyP m := by
        rw [r.1]
        intro z
        exact h (keyP_inj z)
      rw [valV_neg e1]
      obtain ⟨x, hx, ex⟩ := hx
      rcases List.mem_cons.mp hx with y | y
      · rw [y] at ex; exact absurd ex h
      · obtain ⟨v, h1, e', h2, h3⟩ := ents_get t ⟨x, y, ex⟩
        exact ⟨v, h1, e', List.mem_cons_of_mem _ h2, h3⟩
section
variable {P : Program} {w : World} {K : PySem.W.Frag} {mg : Str → Option Value} {base : Heap}
def sp_quickest (K : PySem.W.Frag) : Sp := fun vs H Q _ => ∃ (a ap g : Addr) (h : List (List Nat)) (alw l : List Nat), vs = [.ref a, .ref ap, .ref g] ∧ HouseAt K H a h ∧ HouseOk h ∧ LotAt K H ap alw ∧ 1 ≤ alw.length ∧ alw.length ≤ 6 ∧ LotAt K H g l ∧ LotOk h.length l ∧
  (∀ H', Same H H' → IsFirst (CovA h (List.range h.length) alw l) none → Q .non H') ∧ ∀ (H' : Hp) (p : Addr) (Ls : List (List Nat)) (d : Nat), Same H H' → LotsAt K H' p Ls → IsFirst (CovA h (List.range h.length) alw l) (some d) → Ls.length = d → RowOkA h alw l Ls → d < 768 → Q (.ref p) H'
theorem sc_quickest : FnScope ["house", "allowance", "goal", "ways", "place", "row", "coin_mask"] ["house", "allowance", "goal"] (defScope s_quickest_row) := ⟨rfl, rfl, rfl, by decide +kernel, rfl, by decide +kernel, by decide +kernel⟩
theorem ok_quickest (T : Txt K mg) : FnOk P w K mg base CX0 4 T.d_quickest_row.f T.d_quickest_row.fd ["house", "allowance", "goal"] (sp_quickest K) := by
  have G1 := ok_ways (P := P) (w := w) (base := base) T
  have G2 := ok_first_cover (P := P) (w := w) (base := base) T
  have G3 := ok_lot_of (P := P) (w := w) (base := base) T
  have G4 := ok_all_slates (P := P) (w := w) (base := base) T
  refine T.d_quickest_row.F.ok sc_quickest (fun vs H Q E h => ?_) (fun cdv A outer s H vs Q E hr h => ?_)
  · obtain ⟨a, ap, g, h, alw, l, rfl, _⟩ := h
    rfl
  · obtain ⟨a, ap, g, hs, alw, l, rfl, hA, ok, hW, ha1, ha6, hL, okL, qn, q⟩ := h
    have nd := sc_quickest.nd
    have hu := hu_of hr
    have hr1 : Room 1 _ := hr.mono (by decide)
    refine ⟨_, pss_cons (ps_set (i := 3) nd rfl (.inl rfl) (pe_call G1 hr (by rfl) T.d__ways.g T.d__ways.F.kp T.d__ways.b .nil pass0 (pa_cons (pv 0) (pa_cons (pe_call G4 hr1 (by rfl) T.d_all_slates.g T.d_all_slates.F.kp T.d_all_slates.b .nil pass0 (pa_cons (pv 0) pa_nil)) (pa_cons (pv 1) pa_nil)))))
      (pss_cons (ps_set (i := 4) nd rfl (.inl rfl) (pe_call G2 hr (by rfl) T.d__first_cover.g T.d__first_cover.F.kp T.d__first_cover.b .nil pass0 (pa_cons (pv 3) (pa_cons (pv 2) pa_nil))))
      (pss_cons (ps_if (pt_cmpR op_isN (pv 4) pe_non (nomark _)) (pss_one (ps_ret pe_non)) pss_nil)
      (pss_cons (ps_set (i := 5) nd rfl (.inl rfl) (pe_lst pa_nil))
      (pss_cons (ps_while PassesOwn.never (pt_cmpR op_notN (pe_dget hu (pv 3) (pv 4) (fun _ _ => rfl)) pe_non (nomark _))
        (pss_cons (ps_asg (pe_dget hu (pv 3) (pv 4) (fun _ _ => rfl)) (pg_tup rfl (pgs_cons (pg_name (i := 4) nd rfl (.inl rfl)) (pgs_cons (pg_name (i := 6) nd rfl (.inl rfl)) pgs_nil))))
        (pss_one (ps_expr (pe_bm PySem.F.plainAttrs_list PySem.F.slot_list_append PySem.F.type_list_append mt_append (pv 5) (pa_cons (pe_call G3 hr1 (by rfl) T.d__lot_of.g T.d__lot_of.F.kp T.d__lot_of.b .nil pass0 (pa_cons (pv 6) pa_nil)) pa_nil))))))
      (pss_one (ps_ret (pe_callTy call_tuple_of (by rfl) T.n_tuple (by decide +kernel) (pa_cons (pe_revL (pv 5)) pa_nil)))))))), ?_⟩
    obtain ⟨rs0, hR0, hP0⟩ := id hA
    have hlv0 : (rs0.map V.ref).length = hs.length := by rw [List.length_map]; exact Paired.length hP0
    refine ⟨.ref a, rfl, .ref a, rfl, a, _, rfl, hR0, by rw [hlv0]; exact ok.hi, fun H0 p0 sm0 hp0 => ?_⟩
    rw [hlv0] at hp0
    refine ⟨.ref ap, rfl, a, p0, ap, hs, List.range hs.length, alw, rfl, hA.same sm0, ok, SqT.up hp0, range_ok _, hW.same sm0, ha1, ha6, fun H1 wp es sm1' hwp hW1 okW => ?_⟩
    have sm1 := sm0.trans sm1'
    have hd := first_daysA (goal := l) List.nodup_range ha1 okW
    refine ⟨.ref wp, rfl, .ref g, rfl, wp, g, es, l, rfl, hW1, hL.same sm1, fun i hi => by have h1 := okL.lt i hi; have h2 := ok.hi; omega, fun H1b v smb hv => ?_⟩
    have hss : (hs.map maskOf).length ≤ 7 := by rw [List.length_map]; exact ok.hi
    have hcl := cms_len (List.range hs.length) alw
    cases ef : firstOf es l with
    | none =>
      rw [ef] at hd hv
      have ev : v = .non := hv
      subst ev
      refine ⟨.non, rfl, rfl, _, rfl, ?_⟩
      show (if decide (V.non = V.non) = true then _ else _)
      rw [decide_eq_true rfl, if_pos rfl]
      exact qn H1b (sm1.trans smb) hd
    | some e0 =>
      rw [ef] at hd hv
      obtain ⟨pt0, rfl, hpt0⟩ := hv
      have he0 : e0 ∈ es := List.mem_of_find?_eq_some ef
      have hh0 : holdsB e0.p.1 l = true := by
        have := List.find?_some ef
        exact this
      refine ⟨.ref pt0, rfl, rfl, _, rfl, ?_⟩
      show (if decide (V.ref pt0 = V.non) = true then _ else _)
      rw [decide_eq_false (by intro z; cases z), if_neg Bool.false_ne_true]
      refine ⟨Nat.zero_le _, fun rp hrp => ?_⟩
      have hfd0 := okW.fd e0 he0
      have hd768 := fd_small hss (by omega) (by omega) hfd0
      obtain ⟨S0, hS0, em0⟩ := rch_lotA ha1 hfd0.1
      have hpt0' := same_upd (o := .lst []) hrp _ _ hpt0
      refine ⟨fun m σ H2 => ∃ (e : Ent) (pt : Addr) (Lr : List (List Nat)) (ts : List Addr) (S : List Nat) (v6 : Option V), e ∈ es ∧ m = e.d ∧ σ = [some (.ref a), some (.ref ap), some (.ref g), some (.ref wp), some (.ref pt), some (.ref rp), v6] ∧ H2 pt = some (.tup (plV e.p)) ∧
          (∀ b o, H1b b = some o → H2 b = some o) ∧ H2 rp = some (.lst (ts.map V.ref)) ∧ Paired (fun t l => LotAt K H2 t l) ts Lr ∧ (∀ j L, Lr[j]? = some L → LotOk hs.length L ∧ L.length ≤ alw.getD ((e0.d - 1 - j) % alw.length) 0) ∧ LotOk hs.length S ∧ maskOf S = e.p.1 ∧ (∀ i ∈ l, i ∈ leadL hs S Lr.reverse) ∧ Lr.length + e.d = e0.d,
        ⟨_, e0, pt0, [], [], S0, none, he0, rfl, rfl, hpt0', fun b o z => same_upd hrp b o z, upd_same, .nil, (fun j L hL => by cases hL), rchA_ok hS0, by rw [em0], fun i hi => by rw [em0] at hh0; exact holds_lot.mp hh0 i hi, by simp⟩, ?_⟩
      rintro m σ H2 ⟨e, pt, Lr, ts, S, v6, he, rfl, rfl, hpt, sm2, hr2, hPt, hLr, okS, emS, hlead, hlen⟩
      obtain ⟨kvs, hk, hP⟩ := (hW1.same smb).same sm2
      obtain ⟨v, hv, e', he', em', hb'⟩ := ents_get hP ⟨e, he, rfl⟩
      have hget : DGet H2 wp (.ref pt) (some v) := by
        have z := DGet.t (k := keyP e.p) hk hpt
        rw [hv] at z
        exact z
      have hdd : e'.d = e.d := by
        have h1 := okW.fd e' he'
        rw [em'] at h1
        exact h1.inj (okW.fd e he)
      have hbk := okW.back e' he'
      refine ⟨.ref wp, rfl, .ref pt, rfl, wp, v, rfl, hget, rfl, _, rfl, ?_⟩
      have htl : ts.length = Lr.length := Paired.length hPt
      cases eb : e'.b with
      | none =>
        rw [eb] at hb'
        unfold BackOk at hbk
        rw [eb] at hbk
        have ev : v = .non := hb'
        subst ev
        show (if (!decide (V.non = V.non)) = true then _ else _)
        rw [if_neg (by simp)]
        have hS : S = [] := mask_zero (by rw [emS, ← em', hbk.1])
        have hd0 : e.d = 0 := by rw [← hdd]; exact hbk.2
        refine ⟨.ref rp, rfl, rp, _, rfl, SqL.up hr2, fun p2 hp2 => ⟨p2, _, rfl, .inl ⟨SqL.up upd_same, fun p3 hp3 => ?_⟩⟩⟩
        have sm3 : Same H2 (upd (upd H2 p2 (.lst (ts.map V.ref).reverse)) p3 (.tup (ts.map V.ref).reverse)) := (same_upd hp2).trans (same_upd hp3)
        refine q _ p3 Lr.reverse e0.d (((sm1.trans smb).trans sm2).trans sm3) ⟨ts.reverse, SqT.up (by rw [upd_same, List.map_reverse]), paired_rev (paired_mono hPt fun _ _ z => z.same sm3)⟩ hd (by rw [List.length_reverse]; omega) ⟨fun j L hL => ?_, ?_⟩ hd768
        · have hj : j < Lr.length := by
            have := (List.getElem?_eq_some_iff.mp hL).1
            rwa [List.length_reverse] at this
          rw [List.getElem?_reverse hj] at hL
          have z := hLr _ L hL
          rw [show e0.d - 1 - (Lr.length - 1 - j) = j by omega] at z
          exact z
        · rw [hS] at hlead
          exact hlead
      | some cc =>
        obtain ⟨c1, cm⟩ := cc
        rw [eb] at hb'
        unfold BackOk at hbk
        rw [eb] at hbk
        obtain ⟨t, u, rfl, ht, hu'⟩ := hb'
        obtain ⟨d1, ed1, hfd1, hcm, em1⟩ := hbk
        show (if (!decide (V.ref t = V.non)) = true then _ else _)
        rw [if_pos (by simp)]
        refine ⟨fun σ' H' => ∃ m', m' < e.d ∧ ∃ (e : Ent) (pt : Addr) (Lr : List (List Nat)) (ts : List Addr) (S : List Nat) (v6 : Option V), e ∈ es ∧ m' = e.d ∧ σ' = [some (.ref a), some (.ref ap), some (.ref g), some (.ref wp), some (.ref pt), some (.ref rp), v6] ∧ H' pt = some (.tup (plV e.p)) ∧
            (∀ b o, H1b b = some o → H' b = some o) ∧ H' rp = some (.lst (ts.map V.ref)) ∧ Paired (fun t l => LotAt K H' t l) ts Lr ∧ (∀ j L, Lr[j]? = some L → LotOk hs.length L ∧ L.length ≤ alw.getD ((e0.d - 1 - j) % alw.length) 0) ∧ LotOk hs.length S ∧ maskOf S = e.p.1 ∧ (∀ i ∈ l, i ∈ leadL hs S Lr.reverse) ∧ Lr.length + e.d = e0.d, fun σ' H' z => z, ?_⟩
        refine ⟨.ref wp, rfl, .ref pt, rfl, wp, .ref t, rfl, hget, t, [.ref u, .int (cm : Int)], rfl, .inl (.inl ht), rfl, .ref u, [.int (cm : Int)], rfl, .int (cm : Int), [], rfl, rfl, ?_⟩
        obtain ⟨S1, hS1, emS1⟩ := rch_lotA ha1 hfd1.1
        have ec2 : c1.2 = d1 % alw.length := by rw [emS1]
        rw [ec2, cms_get (Nat.mod_lt _ ha1)] at hcm
        obtain ⟨L, hLc, ecm⟩ := List.mem_map.mp hcm
        have hLm := combsOf_sub.mp hLc
        obtain ⟨e2, he2, em2⟩ := okW.all c1 d1 hfd1.1
        have hd2 : e2.d = d1 := by
          have h1 := okW.fd e2 he2
          rw [em2] at h1
          exact h1.inj hfd1
        have okS1 := rchA_ok hS1
        have eS : S = nextL hs S1 L := mask_inj okS (nextL_ok _ _ _) ok.hi (by rw [emS, ← em', em1, nx, ← next_mask, emS1, ecm])
        refine ⟨.ref rp, rfl, .inl ⟨rfl, _, SqL.up hr2⟩, .int (cm : Int), rfl, cm, rfl, fun H5 p5 sm5 hp5 => ?_⟩
        have hr5 := sm5 _ _ hr2
        have hp5' : LotAt K H5 p5 L := by
          have z : bitsOf cm = L := by rw [← ecm]; exact bits_mask (n := hs.length) hLm.1 ok.hi
          rw [z] at hp5
          exact SqT.up hp5
        refine ⟨rp, _, _, rfl, rfl, hr5, by rw [List.length_map]; exact small1000 (by omega), ?_⟩
        have tup : ∀ b l, LotAt K H5 b l → LotAt K (upd H5 rp (.lst (ts.map V.ref ++ [.ref p5]))) b l := fun b l z => by
          rcases z with (z3 | ⟨o', z3⟩) | z3
          · exact .inl (.inl (by rw [upd_ne (ne_of z3 hr5 (by intro y; cases y))]; exact z3))
          · exact .inl (.inr ⟨o', by rw [upd_ne (ne_of z3 hr5 (by intro y; cases y))]; exact z3⟩)
          · exact .inr z3
        have hut := sm5 _ _ hu'
        refine ⟨_, ?_, e2, u, Lr ++ [L], ts ++ [p5], S1, some (.int (cm : Int)), he2, rfl, rfl, ?_, fun b o z => ?_, ?_, ?_, fun j L' hL' => ?_, okS1, by rw [em2, emS1], ?_, ?_⟩
        · omega
        · rw [upd_ne (ne_of hut hr5 (by intro y; cases y)), em2]
          exact hut
        · rw [upd_ne (ne_of_none z hrp)]
          exact sm5 _ _ (sm2 _ _ z)
        · rw [upd_same, List.map_append]
          rfl
        · exact Cb.paired_snoc (F := fun t l => LotAt K (upd H5 rp (.lst (ts.map V.ref ++ [.ref p5]))) t l) (tup _ _ hp5') (paired_mono hPt fun t l z => tup t l (z.same sm5))
        · by_cases hj : j < Lr.length
          · rw [List.getElem?_append_left hj] at hL'
            exact hLr j L' hL'
          · rw [List.getElem?_append_right (by omega)] at hL'
            have hj2 : j - Lr.length = 0 := by
              have := (List.getElem?_eq_some_iff.mp hL').1
              rw [List.length_singleton] at this
              omega
            rw [hj2] at hL'
            have eL : L' = L := (Option.some.inj hL').symm
            rw [eL, show e0.d - 1 - j = d1 by omega]
            exact ⟨hLm.1, by rw [hLm.2]; exact Nat.min_le_left _ _⟩
        · rw [List.reverse_append]
          show ∀ i ∈ l, i ∈ leadL hs (nextL hs S1 L) Lr.reverse
          rw [← eS]
          exact hlead
        · rw [List.length_append]
          show Lr.length + 1 + e2.d = e0.d
          omega
end
end N

set_option Elab.async false
set_option linter.all false
set_option maxRecDepth 100000
set_option maxHeartbeats 2000000
namespace N
open Cb (lotV combs combsOf combsOf_sub)
open PySem PySem.Spec PyProof.Rows L2
/-- the law's store of draws -/
def RowAt (K : PySem.W.Frag) (sa : Addr) (ns : List Int) (H : Hp) (rp : Addr) : Prop := ∃ (k m r : Int), H rp = some (.lst [.ref sa, .int k, .int m, .int r]) ∧ SqL K H sa (ns.map V.int) ∧ 0 ≤ k ∧ (rp ≠ sa ∨ ∀ H', SqL K H' sa (ns.map V.int))
/-- all but the store stands as it was -/
def SameBut (rp : Addr) (H H' : Hp) : Prop := ∀ b o, b ≠ rp → H b = some o → H' b = some o
theorem SameBut.refl (rp : Addr) (H : Hp) : SameBut rp H H := fun _ _ _ e => e
theorem SameBut.trans {rp : Addr} {H H1 H2 : Hp} (a : SameBut rp H H1) (b : SameBut rp H1 H2) : SameBut rp H H2 := fun c o h e => b c o h (a c o h e)
theorem Same.but {rp : Addr} {H H' : Hp} (a : Same H H') : SameBut rp H H' := fun c o _ e => a c o e
theorem but_upd {rp : Addr} {H : Hp} {o : HO} : SameBut rp H (upd H rp o) := fun c x h e => by rw [upd_ne h]; exact e
theorem fmod_nat (v : Int) {many : Nat} (h : 1 ≤ many) : ∃ n : Nat, n < many ∧ v.fmod (many : Int) = (n : Int) := by
  have h1 := Int.fmod_nonneg_of_pos v (b := (many : Int)) (by omega)
  have h2 := Int.fmod_lt_of_pos v (b := (many : Int)) (by omega)
  exact ⟨(v.fmod (many : Int)).toNat, by omega, by omega⟩
section
variable {P : Program} {w : World} {K : PySem.W.Frag} {mg : Str → Option Value} {base : Heap}
theorem seqL_off {H : Hp} {rp a : Addr} {xs : List V} {o : HO} (h : SqL K H a xs) (hne : a ≠ rp) : SqL K (upd H rp o) a xs := by
  rcases h with (h | ⟨o', h⟩) | h
  · exact .inl (.inl (by rw [upd_ne hne]; exact h))
  · exact .inl (.inr ⟨o', by rw [upd_ne hne]; exact h⟩)
  · exact .inr h
theorem row_off {H : Hp} {rp a : Addr} {xs : List V} {o : HO} (h : SqL K H a xs) (hne : rp ≠ a ∨ ∀ H', SqL K H' a xs) : SqL K (upd H rp o) a xs := by
  rcases hne with z | z
  · exact seqL_off h z.symm
  · exact z _
/-- a list that stands is another than what is new, or stands whatever the heap is -/
theorem sqL_new {H0 : Hp} {fp a : Addr} {xs : List V} (h : SqL K H0 a xs) (hf : H0 fp = none) {H : Hp} {o : HO} (h2 : SqL K H a xs) : SqL K (upd H fp o) a xs := by
  rcases h with (h | ⟨o', h⟩) | h
  · exact seqL_off h2 (ne_of_none h hf)
  · exact seqL_off h2 (ne_of_none h hf)
  · exact .inr h
def sp_taken (K : PySem.W.Frag) : Sp := fun vs H Q _ => ∃ (sa : Addr) (ns : List Int) (rp : Addr) (many : Nat), vs = [.ref rp, .int many] ∧ RowAt K sa ns H rp ∧ 1 ≤ many ∧ many ≤ 1000 ∧ ∀ (H' : Hp) (v : Nat), RowAt K sa ns H' rp → SameBut rp H H' → v < many → Q (.int (v : Int)) H'
theorem sc_taken : FnScope ["row", "many", "found", "cell"] ["row", "many"] (defScope s__law_taken) := ⟨rfl, rfl, rfl, by decide +kernel, rfl, by decide +kernel, by decide +kernel⟩
theorem ok_taken (T : Txt K mg) : FnOk P w K mg base CX0 1 T.d__law_taken.f T.d__law_taken.fd ["row", "many"] (sp_taken K) := by
  refine T.d__law_taken.F.ok sc_taken (fun vs H Q E h => ?_) (fun cdv A outer s H vs Q E hr h => ?_)
  · obtain ⟨_, _, rp, many, rfl, _⟩ := h
    rfl
  · obtain ⟨sa, ns, rp, many, rfl, ⟨k, m, r, hR, hS, hk, hne⟩, h1, h2, q⟩ := h
    have nd := sc_taken.nd
    have mi : ∀ {t : TA} {e : Expr}, True := fun {_ _} => trivial
    refine ⟨_, pss_cons (ps_if (pt_cmpR op_gt (pe_ix ix_list (pv 0) pe_int (fun _ _ => rfl)) pe_int (nomark _))
        (pss_cons (ps_set (i := 2) nd rfl (.inl rfl) (pe_op op_modN (pe_callTy call_int1 (by rfl) T.n_int (by decide +kernel) (pa_cons (pe_ix ix_list (pv 0) pe_int (fun _ _ => rfl)) pa_nil)) (pv 1)))
        (pss_cons (ps_asg (pe_op op_fdivN (pe_ix ix_list (pv 0) pe_int (fun _ _ => rfl)) (pv 1)) (pg_sub (pv 0) pe_int set_list))
        (pss_one (ps_ret (pv 2))))) pss_nil)
      (pss_cons (ps_asg (pe_op op_add (pe_ix ix_list (pv 0) pe_int (fun _ _ => rfl)) pe_int) (pg_sub (pv 0) pe_int set_list))
      (pss_cons (ps_if (pt_cmpR op_gt (pe_ix ix_list (pv 0) pe_int (fun _ _ => rfl)) (pe_callB call_len_seq (by rfl) T.n_len PySem.boot_len (pa_cons (pe_ix ix_list (pv 0) pe_int (fun _ _ => rfl)) pa_nil)) (nomark _))
        (pss_cons (ps_asg (pe_op op_modN (pe_callTy call_int1 (by rfl) T.n_int (by decide +kernel) (pa_cons (pe_op op_add (pe_op op_mul (pe_ix ix_list (pv 0) pe_int (fun _ _ => rfl)) pe_int) pe_int) pa_nil)) pe_int) (pg_sub (pv 0) pe_int set_list))
        (pss_one (ps_ret (pe_op op_modN (pe_callTy call_int1 (by rfl) T.n_int (by decide +kernel) (pa_cons (pe_op op_fdivN (pe_ix ix_list (pv 0) pe_int (fun _ _ => rfl)) pe_int) pa_nil)) (pv 1))))) pss_nil)
      (pss_cons (ps_set (i := 3) nd rfl (.inl rfl) (pe_ix ix_list (pe_ix ix_list (pv 0) pe_int (fun _ _ => rfl)) (pe_op op_sub (pe_ix ix_list (pv 0) pe_int (fun _ _ => rfl)) pe_int) (fun _ _ => rfl)))
      (pss_cons (ps_asg (pe_op op_modN (pe_callTy call_int1 (by rfl) T.n_int (by decide +kernel) (pa_cons (pe_op op_add (pe_op op_add (pe_op op_mul (pe_ix ix_list (pv 0) pe_int (fun _ _ => rfl)) pe_int) (pv 3)) pe_int) pa_nil)) pe_int) (pg_sub (pv 0) pe_int set_list))
      (pss_cons (ps_if (pt_cmpR op_ge (pv 3) (pe_op op_pow pe_int pe_int) (nomark _))
        (pss_one (ps_asg (pe_op op_fdivN (pv 3) (pv 1)) (pg_sub (pv 0) pe_int set_list))) pss_nil)
      (pss_one (ps_ret (pe_op op_modN (pe_callTy call_int1 (by rfl) T.n_int (by decide +kernel) (pa_cons (pv 3) pa_nil)) (pv 1))))))))), ?_⟩
    have hm0 : (many : Int) ≠ 0 := by omega
    have hmb : (many : Int) ≠ 0 ∧ ((many : Int)).natAbs < 1073741824 := ⟨hm0, by omega⟩
    have g0 : ∀ {H : Hp} {k m r : Int}, H rp = some (.lst [.ref sa, .int k, .int m, .int r]) → SqL K H rp [.ref sa, .int k, .int m, .int r] := fun e => SqL.up e
    refine ⟨.ref rp, rfl, rp, _, 3, .int r, rfl, rfl, g0 hR, atI_nat (j := 3) rfl, r, 0, rfl, rfl, _, rfl, ?_⟩
    refine ite2 (fun hb => ?_) (fun hb => ?_)
    · obtain ⟨v, hv, ev⟩ := fmod_nat r h1
      refine ⟨.ref rp, rfl, rp, _, 3, .int r, rfl, rfl, g0 hR, atI_nat (j := 3) rfl, .inl ⟨r, rfl, .int many, rfl, r, many, rfl, rfl, hm0, ?_⟩⟩
      refine ⟨.ref rp, rfl, rp, _, 3, .int r, rfl, rfl, g0 hR, atI_nat (j := 3) rfl, .int many, rfl, r, many, rfl, rfl, hmb, ?_⟩
      refine ⟨.ref rp, rfl, rp, _, 3, 3, rfl, rfl, hR, rfl, ?_⟩
      refine ⟨_, rfl, ?_⟩
      show Q (.int (r.fmod (many : Int))) _
      rw [ev]
      exact q _ v ⟨k, m, _, upd_same, row_off hS hne, hk, hne⟩ but_upd hv
    · refine ⟨.ref rp, rfl, rp, _, 1, .int k, rfl, rfl, g0 hR, atI_nat (j := 1) rfl, k, 1, rfl, rfl, ?_⟩
      refine ⟨.ref rp, rfl, rp, _, 1, 1, rfl, rfl, hR, rfl, ?_⟩
      have hR1 : (upd H rp (.lst [.ref sa, .int (k + 1), .int m, .int r])) rp = some (.lst [.ref sa, .int (k + 1), .int m, .int r]) := upd_same
      have hS1 : SqL K (upd H rp (.lst [.ref sa, .int (k + 1), .int m, .int r])) sa (ns.map V.int) := row_off hS hne
      refine ⟨.ref rp, rfl, rp, _, 1, .int (k + 1), rfl, rfl, g0 hR1, atI_nat (j := 1) rfl, .ref rp, rfl, rp, _, 0, .ref sa, rfl, rfl, g0 hR1, atI_nat (j := 0) rfl, sa, _, rfl, .inl hS1, k + 1, _, rfl, rfl, _, rfl, ?_⟩
      refine ite2 (fun hb2 => ?_) (fun hb2 => ?_)
      · -- mixed numbers
        refine ⟨.ref rp, rfl, rp, _, 2, .int m, rfl, rfl, g0 hR1, atI_nat (j := 2) rfl, m, 48271, rfl, rfl, .inr ⟨by decide, by decide⟩, _, 11, rfl, rfl, .inl ⟨_, rfl, _, 2147483647, rfl, rfl, (show (2147483647 : Int) ≠ 0 by decide), ?_⟩⟩
        obtain ⟨m2, em2⟩ : ∃ m2, (m * 48271 + 11).fmod 2147483647 = m2 := ⟨_, rfl⟩
        show (gSub _ _ _) (V.int ((m * 48271 + 11).fmod 2147483647)) _ _ _
        rw [em2]
        refine ⟨.ref rp, rfl, rp, _, 2, 2, rfl, rfl, hR1, rfl, ?_⟩
        rw [upd_upd]
        have hR2 : (upd H rp (.lst [.ref sa, .int (k + 1), .int m2, .int r])) rp = some (.lst [.ref sa, .int (k + 1), .int m2, .int r]) := upd_same
        refine ⟨.ref rp, rfl, rp, _, 2, .int m2, rfl, rfl, g0 hR2, atI_nat (j := 2) rfl, m2, 7, rfl, rfl, ⟨by decide, by decide⟩, .inl ⟨_, rfl, .int many, rfl, _, many, rfl, rfl, hm0, ?_⟩⟩
        obtain ⟨v, hv, ev⟩ := fmod_nat (m2.fdiv 7) h1
        show Q (.int ((m2.fdiv 7).fmod (many : Int))) _
        rw [ev]
        exact q _ v ⟨k + 1, m2, r, upd_same, row_off hS hne, by omega, hne⟩ but_upd hv
      · -- a cell
        have hlt : k < (ns.length : Int) := by
          have z : ¬ (((ns.map V.int).length : Nat) : Int) < k + 1 := fun z => hb2 (decide_eq_true z)
          rw [List.length_map] at z
          omega
        obtain ⟨kn, rfl⟩ : ∃ kn : Nat, k = (kn : Int) := ⟨k.toNat, by omega⟩
        have hkl : kn < ns.length := by omega
        have gS : (ns.map V.int)[kn]? = some (.int ns[kn]) := by rw [List.getElem?_map, List.getElem?_eq_getElem hkl]; rfl
        generalize ns[kn] = cell at gS
        have ek : ((kn : Int) + 1 - 1) = ((kn : Nat) : Int) := by omega
        refine ⟨.ref rp, rfl, rp, _, 0, .ref sa, rfl, rfl, g0 hR1, atI_nat (j := 0) rfl, .ref rp, rfl, rp, _, 1, .int ((kn : Int) + 1), rfl, rfl, g0 hR1, atI_nat (j := 1) rfl, (kn : Int) + 1, 1, rfl, rfl, sa, _, (kn : Int) + 1 - 1, .int cell, rfl, rfl, hS1, by rw [ek]; exact atI_nat gS, ?_⟩
        refine ⟨.ref rp, rfl, rp, _, 2, .int m, rfl, rfl, g0 hR1, atI_nat (j := 2) rfl, m, 48271, rfl, rfl, .inr ⟨by decide, by decide⟩, .int cell, rfl, _, cell, rfl, rfl, _, 11, rfl, rfl, .inl ⟨_, rfl, _, 2147483647, rfl, rfl, (show (2147483647 : Int) ≠ 0 by decide), ?_⟩⟩
        obtain ⟨m2, em2⟩ : ∃ m2, (m * 48271 + cell + 11).fmod 2147483647 = m2 := ⟨_, rfl⟩
        show (gSub _ _ _) (V.int ((m * 48271 + cell + 11).fmod 2147483647)) _ _ _
        rw [em2]
        refine ⟨.ref rp, rfl, rp, _, 2, 2, rfl, rfl, hR1, rfl, ?_⟩
        rw [upd_upd]
        have hR2 : (upd H rp (.lst [.ref sa, .int ((kn : Int) + 1), .int m2, .int r])) rp = some (.lst [.ref sa, .int ((kn : Int) + 1), .int m2, .int r]) := upd_same
        obtain ⟨v, hv, ev⟩ := fmod_nat cell h1
        refine ⟨.int cell, rfl, 10, 18, rfl, rfl, ⟨by decide, by decide, by decide⟩, cell, _, rfl, rfl, _, rfl, ?_⟩
        refine ite2 (fun _ => ?_) (fun _ => ?_)
        · refine ⟨.int cell, rfl, .int many, rfl, cell, many, rfl, rfl, hmb, ?_⟩
          refine ⟨.ref rp, rfl, rp, _, 3, 3, rfl, rfl, hR2, rfl, ?_⟩
          rw [upd_upd]
          refine ⟨.int cell, rfl, .inl ⟨cell, rfl, .int many, rfl, cell, many, rfl, rfl, hm0, ?_⟩⟩
          show Q (.int (cell.fmod (many : Int))) _
          rw [ev]
          exact q _ v ⟨(kn : Int) + 1, m2, _, upd_same, row_off hS hne, by omega, hne⟩ but_upd hv
        · refine ⟨.int cell, rfl, .inl ⟨cell, rfl, .int many, rfl, cell, many, rfl, rfl, hm0, ?_⟩⟩
          show Q (.int (cell.fmod (many : Int))) _
          rw [ev]
          exact q _ v ⟨(kn : Int) + 1, m2, r, upd_same, row_off hS hne, by omega, hne⟩ but_upd hv
end
end N

set_option Elab.async false
set_option linter.all false
set_option maxRecDepth 100000
set_option maxHeartbeats 2000000
namespace N
open Cb (lotV combs combsOf combsOf_sub)
open PySem PySem.Spec PyProof.Rows L2
theorem sub_range' : ∀ {n a : Nat} {l : List Nat}, l.Pairwise (· < ·) → (∀ i ∈ l, a ≤ i ∧ i < a + n) → l.Sublist (List.range' a n)
  | 0, a, l, _, h => by
    cases l with
    | nil => exact List.nil_sublist _
    | cons x xs => have := h x List.mem_cons_self; omega
  | n + 1, a, l, hp, h => by
    rw [List.range'_succ]
    cases l with
    | nil => exact List.nil_sublist _
    | cons x xs =>
      obtain ⟨p1, p2⟩ := List.pairwise_cons.mp hp
      have hx := h x List.mem_cons_self
      by_cases e : x = a
      · subst e
        refine (sub_range' p2 fun i hi => ?_).cons_cons x
        have h1 := p1 i hi
        have h2 := h i (List.mem_cons_of_mem _ hi)
        omega
      · refine (sub_range' hp fun i hi => ?_).cons a
        have h2 := h i hi
        rcases List.mem_cons.mp hi with z | z
        · omega
        · have h1 := p1 i z
          omega
theorem lotOk_of {n : Nat} {l : List Nat} (h1 : l.Pairwise (· < ·)) (h2 : ∀ i ∈ l, i < n) : LotOk n l := by
  unfold LotOk
  rw [List.range_eq_range']
  exact sub_range' h1 fun i hi => ⟨Nat.zero_le _, by have := h2 i hi; omega⟩
def keyN (k : Nat) : Key := Sum.inl (k : Int)
theorem keyN_inj {a b : Nat} (h : keyN a = keyN b) : a = b := by
  have := Sum.inl.inj h
  omega
theorem putK_keys {kvs : List (Key × V)} {ks : List Nat} {v : Nat} {x : V} (h : kvs.map (·.1) = ks.map keyN) : ∃ ks' : List Nat, (putK kvs (keyN v) x).map (·.1) = ks'.map keyN ∧ (∀ k, k ∈ ks' ↔ k ∈ ks ∨ k = v) ∧ (ks.Nodup → ks'.Nodup) ∧ ks'.length ≤ ks.length + 1 := by
  by_cases hv : v ∈ ks
  · refine ⟨ks, ?_, fun k => ⟨.inl, fun z => z.elim id fun e => e ▸ hv⟩, id, by omega⟩
    unfold putK
    have e : (kvs.any fun kv => decide (kv.1 = keyN v)) = true := by
      rw [List.any_eq_true]
      have hm : keyN v ∈ kvs.map (·.1) := by rw [h]; exact List.mem_map.mpr ⟨v, hv, rfl⟩
      obtain ⟨kv, h1, h2⟩ := List.mem_map.mp hm
      exact ⟨kv, h1, decide_eq_true h2⟩
    rw [if_pos e, List.map_map, ← h]
    refine List.map_congr_left fun kv _ => ?_
    show (if kv.1 = keyN v then (kv.1, x) else kv).1 = kv.1
    split <;> rfl
  · refine ⟨ks ++ [v], ?_, fun k => by simp, fun z => ?_, by simp⟩
    · have e : ¬ (kvs.any fun kv => decide (kv.1 = keyN v)) = true := by
        intro z
        obtain ⟨kv, h1, h2⟩ := List.any_eq_true.mp z
        have hm : keyN v ∈ kvs.map (·.1) := List.mem_map.mpr ⟨kv, h1, of_decide_eq_true h2⟩
        rw [h] at hm
        obtain ⟨k, hk, ek⟩ := List.mem_map.mp hm
        exact hv (keyN_inj ek ▸ hk)
      unfold putK
      rw [if_neg e, List.map_append, List.map_append, h]
      rfl
    · refine List.nodup_append.mpr ⟨z, by simp, fun a ha b hb => ?_⟩
      have : b = v := by simpa using hb
      subst this
      exact fun e => hv (e ▸ ha)
/-- the sorted ints of some numbers are a lot -/
theorem sorted_lot {ks : List Nat} {ns' : List Int} {n : Nat} (hp : ns'.Perm (ks.map fun (k : Nat) => (k : Int))) (hs : ns'.Pairwise (· ≤ ·)) (hn : ks.Nodup) (hb : ∀ k ∈ ks, k < n) : ∃ l : List Nat, ns' = l.map (fun (k : Nat) => (k : Int)) ∧ LotOk n l ∧ l.length = ks.length := by
  have hnn : ∀ x ∈ ns', 0 ≤ x ∧ x < n := fun x hx => by
    obtain ⟨k, hk, rfl⟩ := List.mem_map.mp (hp.subset hx)
    have := hb k hk
    omega
  have e : ns' = (ns'.map Int.toNat).map (fun (k : Nat) => (k : Int)) := by
    rw [List.map_map]
    conv => lhs; rw [← List.map_id ns']
    refine List.map_congr_left fun x hx => ?_
    have := (hnn x hx).1
    show x = ((x.toNat : Nat) : Int)
    omega
  have hnd : ns'.Nodup := hp.symm.nodup (List.Pairwise.map _ (fun a b h z => h (by omega)) hn)
  have hlt : ns'.Pairwise (· < ·) := by
    have := List.Pairwise.and hs hnd
    exact this.imp fun {a b} z => by have h1 := z.1; have h2 := z.2; omega
  refine ⟨ns'.map Int.toNat, e, lotOk_of (n := n) ?_ fun i hi => ?_, ?_⟩
  · rw [List.pairwise_map]
    refine List.Pairwise.imp_of_mem (fun {a b} ha hb h => ?_) hlt
    have h1 := hnn a ha
    have h2 := hnn b hb
    omega
  · obtain ⟨x, hx, rfl⟩ := List.mem_map.mp hi
    have := hnn x hx
    omega
  · rw [List.length_map, hp.length_eq, List.length_map]
section
variable {P : Program} {w : World} {K : PySem.W.Frag} {mg : Str → Option Value} {base : Heap}
variable {sa : Addr} {ns : List Int}
theorem RowAt.lst {H : Hp} {rp : Addr} (h : RowAt K sa ns H rp) : ∃ xs, H rp = some (.lst xs) := let ⟨_, _, _, e, _⟩ := h; ⟨_, e⟩
theorem RowAt.keep {H H' : Hp} {rp : Addr} (h : RowAt K sa ns H rp) (k : Same H H') : RowAt K sa ns H' rp := by
  obtain ⟨k1, m, r, e, hS, hk, hne⟩ := h
  exact ⟨k1, m, r, k _ _ e, Same.seq k hS, hk, hne⟩
/-- something else that was not there at a time is stored -/
theorem RowAt.new {H0 H : Hp} {rp fp : Addr} {o : HO} (h0 : RowAt K sa ns H0 rp) (hf : H0 fp = none) (h : RowAt K sa ns H rp) : RowAt K sa ns (upd H fp o) rp := by
  obtain ⟨_, _, _, e0, hS0, _⟩ := h0
  obtain ⟨k1, m, r, e, hS, hk, hne⟩ := h
  exact ⟨k1, m, r, by rw [upd_ne (ne_of_none e0 hf)]; exact e, sqL_new hS0 hf hS, hk, hne⟩
theorem tup_but {H H' : Hp} {rp a : Addr} {xs ys : List V} (h : SqT K H a xs) (hr : H rp = some (.lst ys)) (k : SameBut rp H H') : SqT K H' a xs := by
  rcases h with (z | ⟨x, z⟩) | z
  · exact .inl (.inl (k _ _ (ne_of z hr (by intro y; cases y)) z))
  · exact .inl (.inr ⟨x, k _ _ (ne_of z hr (by intro y; cases y)) z⟩)
  · exact .inr z
theorem LotAt.but {H H' : Hp} {rp a : Addr} {l : List Nat} {ys : List V} (h : LotAt K H a l) (hr : H rp = some (.lst ys)) (k : SameBut rp H H') : LotAt K H' a l := tup_but h hr k
theorem HouseAt.but {H H' : Hp} {rp a : Addr} {h : List (List Nat)} {ys : List V} (x : HouseAt K H a h) (hr : H rp = some (.lst ys)) (k : SameBut rp H H') : HouseAt K H' a h := by
  obtain ⟨rs, h1, h2⟩ := x
  exact ⟨rs, tup_but h1 hr k, paired_mono h2 fun _ _ z => z.but hr k⟩
def sp_house (K : PySem.W.Frag) : Sp := fun vs H Q _ => ∃ (sa : Addr) (ns : List Int) (rp : Addr) (many most : Nat), vs = [.ref rp, .int many, .int most] ∧ RowAt K sa ns H rp ∧ 1 ≤ many ∧ many ≤ 7 ∧ 1 ≤ most ∧ most ≤ 7 ∧
  ∀ (H' : Hp) (p : Addr) (h : List (List Nat)), RowAt K sa ns H' rp → SameBut rp H H' → HouseAt K H' p h → HouseOk h → h.length = many → Q (.ref p) H'
theorem sc_house : FnScope ["row", "many", "most", "found", "clerk", "some", "turn"] ["row", "many", "most"] (defScope s__law_house) := ⟨rfl, rfl, rfl, by decide +kernel, rfl, by decide +kernel, by decide +kernel⟩
theorem ok_house (T : Txt K mg) : FnOk P w K mg base CX0 2 T.d__law_house.f T.d__law_house.fd ["row", "many", "most"] (sp_house K) := by
  have G := ok_taken (P := P) (w := w) (base := base) T
  refine T.d__law_house.F.ok sc_house (fun vs H Q E h => ?_) (fun cdv A outer s H vs Q E hr h => ?_)
  · obtain ⟨_, _, rp, many, most, rfl, _⟩ := h
    rfl
  · obtain ⟨sa, ns, rp, many, most, rfl, hRow, h1, h2, h3, h4, q⟩ := h
    have nd := sc_house.nd
    have hu := hu_of hr
    refine ⟨_, pss_cons (ps_set (i := 3) nd rfl (.inl rfl) (pe_lst pa_nil))
      (pss_cons (ps_for PassesOwn.never rfl (pi_range1 (by rfl) T.n_range (pa_cons (pv 1) pa_nil)) (pg_name (i := 4) nd rfl (.inl rfl))
        (pss_cons (ps_set (i := 5) nd rfl (.inl rfl) pe_dnewK)
        (pss_cons (ps_for PassesOwn.never rfl (pi_range1 (by rfl) T.n_range (pa_cons (pe_op op_add pe_int (pe_call G hr (by rfl) T.d__law_taken.g T.d__law_taken.F.kp T.d__law_taken.b .nil pass0 (pa_cons (pv 0) (pa_cons (pv 2) pa_nil)))) pa_nil)) (pg_name (i := 6) nd rfl (.inl rfl))
          (pss_one (ps_dput hu (pv 5) (pe_call G hr (by rfl) T.d__law_taken.g T.d__law_taken.F.kp T.d__law_taken.b .nil pass0 (pa_cons (pv 0) (pa_cons (pv 1) pa_nil))) pe_bl rfl)))
        (pss_one (ps_expr (pe_bm PySem.F.plainAttrs_list PySem.F.slot_list_append PySem.F.type_list_append mt_append (pv 3) (pa_cons
          (pe_callTy call_tuple_of (by rfl) T.n_tuple (by decide +kernel) (pa_cons (pe_callB cr_sorted (by rfl) T.n_sorted (by decide +kernel) (pa_cons (pe_callTy (call_list_dK rfl) (by rfl) T.n_list (by decide +kernel) (pa_cons (pv 5) pa_nil)) pa_nil)) pa_nil)) pa_nil)))))))
      (pss_one (ps_ret (pe_callTy call_tuple_of (by rfl) T.n_tuple (by decide +kernel) (pa_cons (pv 3) pa_nil))))), ?_⟩
    obtain ⟨xr, hxr⟩ := hRow.lst
    refine ⟨Nat.zero_le _, fun fp hfp => ?_⟩
    have frp : rp ≠ fp := ne_of_none hxr hfp
    refine ⟨.int many, rfl, many, rfl, by omega, by omega, ?_⟩
    rw [Int.toNat_natCast]
    refine for_range (lo := 0) (n := many) (fun i σ H2 => ∃ (ts : List Addr) (hs : List (List Nat)) (v4 v5 v6 : Option V), σ = [some (.ref rp), some (.int many), some (.int most), some (.ref fp), v4, v5, v6] ∧ RowAt K sa ns H2 rp ∧ (∀ b o, b ≠ rp → H b = some o → H2 b = some o) ∧ H2 fp = some (.lst (ts.map V.ref)) ∧
        Paired (fun t l => LotAt K H2 t l) ts hs ∧ hs.length = i ∧ ∀ row ∈ hs, row ≠ [] ∧ LotOk many row)
      ⟨[], [], none, none, none, rfl, hRow.keep (same_upd hfp), fun b o _ e => same_upd hfp b o e, upd_same, .nil, rfl, (fun row hr => by cases hr)⟩ ?_ ?_
    · rintro i σ H2 hi ⟨ts, hs, v4, v5, v6, rfl, hRow2, sb2, hf2, hP2, hlen, hok⟩
      obtain ⟨xr2, hxr2⟩ := hRow2.lst
      -- some = {}
      intro dp hdp
      have dpr : rp ≠ dp := ne_of_none hxr2 hdp
      have dpf : fp ≠ dp := ne_of_none hf2 hdp
      have hRow3 : RowAt K sa ns (upd H2 dp (.dK [])) rp := hRow2.keep (same_upd hdp)
      refine ⟨.ref rp, rfl, .int most, rfl, sa, ns, rp, most, rfl, hRow3, h3, by omega, fun H3 v hRow4 sb3 hv => ?_⟩
      refine ⟨1, v, rfl, rfl, 1 + v, rfl, by omega, by omega, ?_⟩
      have ev : ((1 : Int) + (v : Int)).toNat = v + 1 := by omega
      show ∃ W, _
      rw [ev]
      have hd3 : H3 dp = some (.dK []) := sb3 _ _ dpr.symm upd_same
      have hf3 : H3 fp = some (.lst (ts.map V.ref)) := sb3 _ _ frp.symm (by rw [upd_ne dpf]; exact hf2)
      have sb23 : ∀ b o, b ≠ rp → H2 b = some o → H3 b = some o := fun b o hb e => sb3 b o hb (same_upd hdp b o e)
      refine for_range (lo := 0) (n := v + 1) (fun j σ H4 => ∃ (kvs : List (Key × V)) (ks : List Nat) (v6 : Option V), σ = [some (.ref rp), some (.int many), some (.int most), some (.ref fp), some (.int (0 + (i : Int))), some (.ref dp), v6] ∧ RowAt K sa ns H4 rp ∧ (∀ b o, b ≠ rp → H2 b = some o → H4 b = some o) ∧ H4 dp = some (.dK kvs) ∧
          kvs.map (·.1) = ks.map keyN ∧ ks.Nodup ∧ (∀ k ∈ ks, k < many) ∧ ks.length ≤ j ∧ (1 ≤ j → 1 ≤ ks.length))
        ⟨[], [], v6, rfl, hRow4, sb23, hd3, rfl, List.nodup_nil, (fun k hk => by cases hk), Nat.le_refl _, fun z => by omega⟩ ?_ ?_
      · rintro j σ H4 hj ⟨kvs, ks, v6, rfl, hRow5, sb4, hd4, hks, hnd, hkb, hkl, hk1⟩
        refine ⟨.ref dp, rfl, .ref rp, rfl, .int many, rfl, sa, ns, rp, many, rfl, hRow5, h1, by omega, fun H5 x hRow6 sb5 hx => ?_⟩
        have hd5 : H5 dp = some (.dK kvs) := sb5 _ _ dpr.symm hd4
        have hkvl : kvs.length = ks.length := by
          have := congrArg List.length hks
          rwa [List.length_map, List.length_map] at this
        refine ⟨dp, _, rfl, DPut.k (k := keyN x) hd5 (small1000 (by omega)), ?_⟩
        obtain ⟨ks', e1, e2, e3, e4⟩ := putK_keys (v := x) (x := .bl true) hks
        refine ⟨_, ks', _, rfl, RowAt.new hRow2 hdp hRow6, fun b o hb e => ?_, upd_same, e1, e3 hnd, fun k hk => ?_, by omega, fun _ => ?_⟩
        · have hbd : b ≠ dp := ne_of_none e hdp
          rw [upd_ne hbd]
          exact sb5 b o hb (sb4 b o hb e)
        · rcases (e2 k).mp hk with z | z
          · exact hkb k z
          · rw [z]; exact hx
        · exact List.length_pos_of_mem ((e2 x).mpr (.inr rfl))
      · rintro σ H4 ⟨kvs, ks, v6, rfl, hRow5, sb4, hd4, hks, hnd, hkb, hkl, hk1⟩
        have hf4 : H4 fp = some (.lst (ts.map V.ref)) := sb4 _ _ frp.symm hf2
        refine ⟨.ref fp, rfl, .inl ⟨rfl, _, SqL.up hf4⟩, .ref dp, rfl, dp, kvs, rfl, hd4, fun lp hlp => ?_⟩
        have eks : (kvs.map fun kv => kV kv.1) = (ks.map fun (k : Nat) => (k : Int)).map V.int := by
          have : (kvs.map fun kv => kV kv.1) = (kvs.map (·.1)).map kV := by rw [List.map_map]; rfl
          rw [this, hks, List.map_map, List.map_map]
          rfl
        refine ⟨lp, ks.map fun (k : Nat) => (k : Int), rfl, ?_, ?_, fun ns' sp hperm hsort hsp => ?_⟩
        · rw [← eks]
          exact SqL.up upd_same
        · rw [List.length_map]; omega
        · obtain ⟨l0, rfl, okl, hll⟩ := sorted_lot hperm hsort hnd hkb
          have elv : (l0.map fun (k : Nat) => (k : Int)).map V.int = lotV l0 := by rw [List.map_map]; rfl
          refine ⟨sp, _, rfl, .inl ⟨SqL.up upd_same, fun tp htp => ?_⟩⟩
          rw [elv]
          rw [elv] at htp
          have sm5 : Same H4 (upd (upd (upd H4 lp (.lst (kvs.map fun kv => kV kv.1))) sp (.lst (lotV l0))) tp (.tup (lotV l0))) := ((same_upd hlp).trans (same_upd (by rw [elv] at *; exact hsp))).trans (same_upd htp)
          have hf5 := sm5 _ _ hf4
          have hlt : ts.length < 1000 := by
            have : ts.length = hs.length := Paired.length hP2
            omega
          refine ⟨fp, _, _, rfl, rfl, hf5, by rw [List.length_map]; exact small1000 (by omega), ?_⟩
          have tfp : fp ≠ tp := ne_of_none (((same_upd hlp).trans (same_upd hsp)) _ _ hf4) htp
          refine ⟨ts ++ [tp], hs ++ [l0], _, _, _, rfl, ?_, fun b o hb e => ?_, ?_, ?_, by rw [List.length_append, hlen]; rfl, fun row hrow => ?_⟩
          · exact RowAt.new hRow hfp (hRow5.keep sm5)
          · have hbf : b ≠ fp := ne_of_none e hfp
            rw [upd_ne hbf]
            exact sm5 _ _ (sb4 b o hb (sb2 b o hb e))
          · rw [upd_same, List.map_append]
            rfl
          · have tups : ∀ b l, LotAt K H2 b l → LotAt K (upd (upd (upd (upd H4 lp (.lst (kvs.map fun kv => kV kv.1))) sp (.lst (lotV l0))) tp (.tup (lotV l0))) fp (.lst (ts.map V.ref ++ [.ref tp]))) b l := fun b l z => by
              have z1 : LotAt K H4 b l := tup_but z hxr2 sb4
              have z2 := LotAt.same z1 sm5
              rcases z2 with (z3 | ⟨o', z3⟩) | z3
              · exact .inl (.inl (by rw [upd_ne (ne_of z3 hf5 (by intro y; cases y))]; exact z3))
              · exact .inl (.inr ⟨o', by rw [upd_ne (ne_of z3 hf5 (by intro y; cases y))]; exact z3⟩)
              · exact .inr z3
            refine Cb.paired_snoc (F := fun t l => LotAt K (upd (upd (upd (upd H4 lp (.lst (kvs.map fun kv => kV kv.1))) sp (.lst (lotV l0))) tp (.tup (lotV l0))) fp (.lst (ts.map V.ref ++ [.ref tp]))) t l) (SqT.up ?_) (paired_mono hP2 fun t l z => tups t l z)
            rw [upd_ne tfp.symm, upd_same]
          · rcases List.mem_append.mp hrow with z | z
            · exact hok row z
            · rw [List.mem_singleton.mp z]
              refine ⟨fun z2 => ?_, okl⟩
              have := hk1 (by omega)
              rw [z2] at hll
              simp at hll
              omega
    · rintro σ H2 ⟨ts, hs, v4, v5, v6, rfl, hRow2, sb2, hf2, hP2, hlen, hok⟩
      refine ⟨.ref fp, rfl, fp, _, rfl, .inl ⟨SqL.up hf2, fun p hp => ?_⟩⟩
      refine q _ p hs (hRow2.keep (same_upd hp)) (fun b o hb e => same_upd hp b o (sb2 b o hb e)) ⟨ts, SqT.up upd_same, paired_mono hP2 fun _ _ z => z.same (same_upd hp)⟩ ⟨by omega, by omega, fun row hr => by rw [hlen]; exact hok row hr⟩ hlen
end
end N

set_option Elab.async false
set_option linter.all false
set_option maxRecDepth 100000
set_option maxHeartbeats 2000000
/-! sorted(lots, key=lambda lot: (len(lot), lot)) -/
namespace So
open PySem PySem.Spec PyProof.Rows L2 PySem.W
def lotD (l : List Nat) : PyData := .tuple (l.map fun (i : Nat) => PyData.int i)
def keyD' (l : List Nat) : PyData := .tuple [.int l.length, lotD l]
/-- v is a tuple of the numbers l -/
def IsLot (h : Heap) (v : Value) (l : List Nat) : Prop := ∃ t its, v = .ref t ∧ h.IsTuple t its ∧ Vals (Cb.lotV l) its.toList
theorem reads_lot {h : Heap} : ∀ {l : List Nat} {its : List Value}, Vals (Cb.lotV l) its → ReadsAll h its (l.map fun (i : Nat) => PyData.int i) []
  | [], its, r => by cases r; exact .nil
  | i :: l, its, r => by
    cases r with
    | cons a b =>
      obtain ⟨t, rfl⟩ := a
      exact ReadsAll.cons (as := []) (bs := []) (Reads.int _ _) (reads_lot b)
theorem IsLot.reads {h : Heap} {v : Value} {l : List Nat} (x : IsLot h v l) : Reads h v (lotD l) [] := by
  obtain ⟨t, its, rfl, ⟨o, ho, hc, n, hd⟩, hv⟩ := x
  exact Reads.tuple ho hc hd (reads_lot hv)
theorem IsLot.keeps {h h' : Heap} {v : Value} {l : List Nat} (x : IsLot h v l) (k : ∀ b o, h.get? b = some o → h'.get? b = some o) : IsLot h' v l := by
  obtain ⟨t, its, rfl, ⟨o, ho, r⟩, hv⟩ := x
  exact ⟨t, its, rfl, ⟨o, k _ _ ho, r⟩, hv⟩
structure KeyLam (params : Arguments) (body : Expr) (scope : Scope) : Prop where
  kind : scope.kind = .function
  co : scope.isCoroutine = false
  gen : scope.isGenerator = false
  cell : ∀ y ∈ scope.names, y.2 ≠ .cell
  lot : scope.names.lookup ("lot" : Str) = some NameKind.local
  len : scope.names.lookup ("len" : Str) = some NameKind.globalImplicit
  free : ∀ y ∈ scope.names, y.2 ≠ .free
  bind : ∀ (q : Str) (pm cdv ctv v : Value), bindArgs (kla_fn "<lambda>" q params body scope [] pm cdv ctv) ⟨[v], []⟩ = pure [(("lot" : Str), v)]
  body : ∃ p1 p2 p3 p4 x1 p5, body = .Tuple [.Call (.Name "len" p1) [.Name "lot" p2] [] p3, .Name "lot" p4] x1 p5
section
variable {prog : Program} {w : World} {A : Around} {s : Shared} {f c' : Addr} {mg mb : Str → Option Value} {q : Str} {params : Arguments} {body : Expr} {scope : Scope} {pm ctv : Value} {v : Value} {l : List Nat} {E : Value → Shared → Prop}
theorem key_body {env : Env} {m : Str → Option Value} {t : Addr} {its : Array Value} {p1 p2 p3 p4 p5 : Pos} {x1 : Nat} {Q : Value → Shared → Prop} (h1 : env.scope.kind = .function) (h2 : env.kindOf "lot" = some .local) (h3 : env.kindOf "len" = some .globalImplicit) (h4 : s.heap.Ns env.locals m) (h5 : m "lot" = some (.ref t))
    (h6 : s.heap.Ns env.globals mg) (hm : mg "len" = none) (h7 : s.heap.Ns env.builtins mb) (hbl : mb "len" = bootBuiltins "len") (hT : s.heap.IsTuple t its) (hz : its.size ≤ 1000)
    (h : Q (.ref s.heap.objs.size) { s with heap := s.heap.push { cls := .type "tuple", data := .seq #[.int its.size (s.toks + 1), .ref t] }, toks := s.toks + 1 + 1 }) :
    wpAny (model prog w) A (eval (.Tuple [.Call (.Name "len" p1) [.Name "lot" p2] [] p3, .Name "lot" p4] x1 p5) env) Q E s := by
  refine wpAny_Tuple_spliced ?_
  refine Calls.spliced_cons (wpAny_Call_Name_kw ?_)
  refine Calls.Name_function_global h1 h3 (Calls.loadGlobal_builtin h6 hm h7 (hbl.trans boot_len) ?_) (by decide)
  refine PyProof.Rows.callWith_builtin1 (Calls.spliced_cons (wpAny_Name (wpAny_loadName_local h1 h2 h4 h5 (Calls.spliced_nil ?_)) (by decide))) rfl rfl
  refine len_tuple hT (by omega) ?_
  refine Calls.spliced_cons (wpAny_Name (wpAny_loadName_local h1 h2 h4 h5 (Calls.spliced_nil ⟨(by show 2 ≤ sizeLine; decide), ?_⟩)) (by decide))
  exact h
theorem key_turn (L : KeyLam params body scope) (hd : A.depth < recursionLimit) (hf : s.heap.get? f = some (kla_obj "<lambda>" q params body scope [] pm c' ctv)) (hc : s.heap.CodeRec (.ref c') q) (lim : s.heap.NoLimit)
    (hg : s.heap.Ns mainGlobals mg) (hm : mg "len" = none) (hb : s.heap.Ns builtinsNs mb) (hbl : mb "len" = bootBuiltins "len") (hv : IsLot s.heap v l) (hl : l.length ≤ 1000) :
    wpAny (model prog w) A (call (.ref f) [v]) (KeyPure (keyD' l) s) E s := by
  refine wpAny_call ?_
  refine kla_callFunE hd hf rfl L.co L.gen rfl hc ?_
  rw [L.bind]
  refine wpAny_pure (wpAny_newFunctionEnv L.cell (fun y hy => ?_) (fun h₁ hns hsb => ⟨lim.fresh _ hsb, ?_⟩) L.kind)
  · rw [List.mem_singleton.mp hy]
    exact L.lot
  have kp : ∀ b o, s.heap.get? b = some o → h₁.get? b = some o := fun b o e => hsb.extBut b o (Nat.ne_of_lt (Heap.lt_size e)) (Heap.get?_push_of_some _ e)
  refine kla_codeExpr ?_
  obtain ⟨p1, p2, p3, p4, x1, p5, rfl⟩ := L.body
  obtain ⟨t, its, rfl, hT, hvals⟩ := id hv
  obtain ⟨o, ho, hcl, n, hdt⟩ := id hT
  have hT1 : h₁.IsTuple t its := ⟨o, kp _ _ ho, hcl, n, hdt⟩
  have hlen : its.size = l.length := by
    have := hvals.length
    rw [List.length_map, Array.length_toList] at this
    exact this.symm
  refine key_body (mg := mg) (mb := mb) L.kind L.lot L.len hns rfl (hg.keeps kp) hm (hb.keeps kp) hbl hT1 (by omega) ?_
  rw [hlen]
  refine ⟨_, _, rfl, fun b o e => Heap.get?_push_of_some _ (kp b o e), ?_⟩
  refine Reads.tuple (Heap.get?_push_size _ rfl) rfl rfl ?_
  refine ReadsAll.cons (as := []) (bs := []) (Reads.int _ _) (ReadsAll.cons (as := []) (bs := []) ?_ .nil)
  exact (hv.keeps fun b o e => Heap.get?_push_of_some _ (kp b o e)).reads
end
end So

set_option Elab.async false
set_option linter.all false
set_option maxRecDepth 100000
set_option maxHeartbeats 2000000
/-! a lambda is made: all but its def's table of code objects stays as it was -/
namespace N
open PySem PySem.Spec PyProof.Rows L2
def ExtP (P : Addr) (H H' : Hp) : Prop := ∀ b o, b ≠ P → H b = some o → H' b = some o
theorem ExtP.refl (P : Addr) (H : Hp) : ExtP P H H := fun _ _ _ e => e
theorem ExtP.n {P : Addr} {H H' : Hp} {ps : Array Value} (hP : H P = some (.tbl ps)) (e : ExtP P H H') : LamX.ExtN H H' := fun b o h n => e b o (fun z => n ps (by rw [z, hP] at h; exact (Option.some.inj h).symm)) h
theorem ExtP.trans {P : Addr} {H H1 H2 : Hp} (a : ExtP P H H1) (b : ExtP P H1 H2) : ExtP P H H2 := fun c o hc e => b c o hc (a c o hc e)
theorem extP_same {P : Addr} {H H' : Hp} (e : Same H H') : ExtP P H H' := fun b o _ h => e b o h
theorem extP_tabbed {P : Addr} {H H' : Hp} (e : GxR.Tabbed P H H') : ExtP P H H' := fun b o hb h => by rw [e.2 b hb]; exact h
/-- the tables of code objects: of the lambda, and of the defs with generator expressions -/
structure Tb (L : List Addr) (PT : Addr) (q : Str) (H : Hp) : Prop where
  s : LamX.TabS H PT q
  g : ∀ P ∈ L, P ≠ PT ∧ GxR.TabG H P
theorem Tb.ext {L : List Addr} {PT : Addr} {q : Str} {H H' : Hp} (t : Tb L PT q H) (e : Same H H') : Tb L PT q H' := ⟨t.s.ext e, fun P hP => ⟨(t.g P hP).1, let ⟨ps, h1, h2⟩ := (t.g P hP).2; ⟨ps, e _ _ h1, h2⟩⟩⟩
theorem Tb.lam {L : List Addr} {PT : Addr} {q : Str} {H H' : Hp} (t : Tb L PT q H) (e : ExtP PT H H') (s : LamX.TabS H' PT q) : Tb L PT q H' := ⟨s, fun P hP => ⟨(t.g P hP).1, let ⟨ps, h1, h2⟩ := (t.g P hP).2; ⟨ps, e _ _ (t.g P hP).1 h1, h2⟩⟩⟩
theorem Tb.gen {L : List Addr} {PT PG : Addr} {q : Str} {H H' : Hp} (t : Tb L PT q H) (hG : PG ∈ L) (e : ExtP PG H H') (s : GxR.TabG H' PG) : Tb L PT q H' := by
  have hne := (t.g PG hG).1
  have hGt : ∃ ps, H PG = some (.tbl ps) := let ⟨ps, h1, _⟩ := (t.g PG hG).2; ⟨ps, h1⟩
  refine ⟨?_, fun P hP => ⟨(t.g P hP).1, ?_⟩⟩
  · obtain ⟨ps, b1, b2, b3⟩ := t.s
    refine ⟨ps, e _ _ hne.symm b1, b2, fun pos cv hcv => ?_⟩
    obtain ⟨c0, c1, c2⟩ := b3 pos cv hcv
    obtain ⟨p2, h2⟩ := hGt
    exact ⟨c0, c1, e _ _ (fun z => by rw [z, h2] at c2; exact LamX.codeO_ne _ (Option.some.inj c2).symm) c2⟩
  · by_cases z : P = PG
    · rw [z]; exact s
    · obtain ⟨ps, h1, h2⟩ := (t.g P hP).2
      exact ⟨ps, e _ _ z h1, h2⟩
theorem Tb.lst {L : List Addr} {PT D : Addr} {q : Str} {H : Hp} {xs : List V} {o : HO} (t : Tb L PT q H) (hD : H D = some (.lst xs)) : Tb L PT q (upd H D o) := by
  have key : ∀ b u, u ≠ .lst xs → H b = some u → upd H D o b = some u := fun b u hu e => by
    rw [upd_ne (fun z => hu (by rw [z, hD] at e; exact (Option.some.inj e).symm))]
    exact e
  refine ⟨?_, fun P hP => ⟨(t.g P hP).1, let ⟨ps, h1, h2⟩ := (t.g P hP).2; ⟨ps, key _ _ (by intro z; cases z) h1, h2⟩⟩⟩
  obtain ⟨ps, b1, b2, b3⟩ := t.s
  refine ⟨ps, key _ _ (by intro z; cases z) b1, b2, fun pos cv hcv => ?_⟩
  obtain ⟨c0, c1, c2⟩ := b3 pos cv hcv
  exact ⟨c0, c1, key _ _ (by intro z; unfold LamX.CodeO at z; cases z) c2⟩
theorem Tb.but {L : List Addr} {PT rp : Addr} {q : Str} {H H' : Hp} {xs : List V} (t : Tb L PT q H) (hr : H rp = some (.lst xs)) (k : ∀ b o, b ≠ rp → H b = some o → H' b = some o) : Tb L PT q H' := by
  have key : ∀ b u, u ≠ .lst xs → H b = some u → H' b = some u := fun b u hu e => k b u (fun z => hu (by rw [z, hr] at e; exact (Option.some.inj e).symm)) e
  refine ⟨?_, fun P hP => ⟨(t.g P hP).1, let ⟨ps, h1, h2⟩ := (t.g P hP).2; ⟨ps, key _ _ (by intro z; cases z) h1, h2⟩⟩⟩
  obtain ⟨ps, b1, b2, b3⟩ := t.s
  refine ⟨ps, key _ _ (by intro z; cases z) b1, b2, fun pos cv hcv => ?_⟩
  obtain ⟨c0, c1, c2⟩ := b3 pos cv hcv
  exact ⟨c0, c1, key _ _ (by intro z; unfold LamX.CodeO at z; cases z) c2⟩
section
variable {X : Cx} {pins : List (Addr × Obj)} {σ : L2.St} {H : Hp} {s : Shared}
theorem lam_make3 {c P : Addr} {q : Str} {params : Arguments} {body : Expr} {scope : Scope} {pos : Pos} {E : Value → Shared → Prop} {Q : Value → Shared → Prop} (I : Inv X pins σ H s) (TB : LamX.TabB X.base X.mg c P) (hcode : X.env.code = .ref c) (hq : q = X.env.qual ++ "<lambda>") (hT : LamX.TabS H P q)
    (hdef : defaultsOf params X.env = ([], [])) (hfree : ∀ y ∈ scope.names, y.2 = .free → ∃ c, X.env.cells.lookup y.1 = some c)
    (k : ∀ (f c' : Addr) (pm ctv : Value) (H1 : Hp) (s1 : Shared), Inv X pins σ H1 s1 → ExtP P H H1 → LamX.TabS H1 P q → s1.heap.get? f = some (PySem.W.kla_obj "<lambda>" q params body scope (cloFrom X.env.cells scope.names []) pm c' ctv) → H1 f = none → f ∉ frs X.stack → H1 c' = some (LamX.CodeO c' q) → Q (.ref f) s1) :
    wpAny (model X.prog X.w) X.A (eval (.Lambda params body scope pos) X.env) Q E s := by
  subst hq
  obtain ⟨tb, t1, t2, t3⟩ := hT
  have away : ∀ g, s.heap.objs.size ≤ g → g ∉ frs X.stack := fun g hg hm => (List.mem_cons.mp (I.stkSub _ hm)).elim (fun e => by
    have := I.lt
    rw [← e] at this
    exact absurd (Nat.lt_of_lt_of_le this hg) (Nat.lt_irrefl _)) fun e => I.nofs hg e
  have oldT := I.hok P _ t1
  refine PySem.W.kla_eval hdef ?_
  cases found : codeAmong pos tb.toList with
  | some cv =>
    obtain ⟨c', rfl, hco⟩ := t3 pos cv found
    refine PySem.W.kla_makeFunctionHit (mg := X.mg) (c := c) (P := P) (ps := tb) (closure_ok hfree) I.ok.glob (I.mod.glob.keeps I.bk) hcode (TB.code.keeps I.bk) oldT t2 found (TB.bm.keeps I.bk) fun ct h1 tk kp big => ?_
    exact k _ c' _ ct H _ (I.kept (t' := tk) fun b o e => Heap.get?_push_of_some _ (kp b o e)) (ExtP.refl P H) ⟨tb, t1, t2, t3⟩ (Heap.get?_push_size _ rfl) (I.hok.fresh big) (away _ big) hco
  | none =>
    refine PySem.W.kla_makeFunction (mg := X.mg) (c := c) (P := P) (ps := tb) (closure_ok hfree) I.ok.glob (I.mod.glob.keeps I.bk) hcode (TB.code.keeps I.bk) oldT t2 found TB.gP (TB.bm.keeps I.bk) fun c' ct h1 tk kp ge lt rec tab => ?_
    obtain ⟨c2, oc, vs, tg, e2, o1, o2, o3⟩ := rec
    cases e2
    have big : s.heap.objs.size ≤ h1.objs.size := Nat.le_trans ge (Nat.le_of_lt lt)
    have freeC : H c' = none := I.hok.fresh ge
    have J := LamX.inv_table (t' := tk) (more := #[rawInt pos.line, rawInt pos.col, .ref c']) (h' := h1.push (PySem.W.kla_obj "<lambda>" (X.env.qual ++ "<lambda>") params body scope (cloFrom X.env.cells scope.names []) ((X.mg "__name__").getD .none) c' ct)) I t1
      (fun b o hb e => Heap.get?_push_of_some _ (kp b o hb e)) (Heap.get?_push_of_some _ tab) ge ⟨oc, vs, tg, Heap.get?_push_of_some _ o1, o2, o3⟩
    have ext : ExtP P H (upd (upd H P (.tbl (tb ++ #[rawInt pos.line, rawInt pos.col, .ref c']))) c' (LamX.CodeO c' (X.env.qual ++ "<lambda>"))) := fun b o hb e => by
      rw [upd_ne (ne_of_none e freeC), upd_ne hb]
      exact e
    have asL : (tb ++ #[rawInt pos.line, rawInt pos.col, .ref c']).toList = tb.toList ++ [rawInt pos.line, rawInt pos.col, .ref c'] := by simp
    refine k h1.objs.size c' _ ct _ _ J ext ⟨_, by rw [upd_ne (ne_of_none t1 freeC), upd_same], by rw [asL]; exact PySem.TriplesOk_snoc _ _ _ _ t2, fun p' cv hcv => ?_⟩ (Heap.get?_push_size _ rfl) ?_ (away _ big) upd_same
    · rw [asL] at hcv
      rcases LamX.among_app _ t2 hcv with z | z
      · obtain ⟨c0, a1, a2⟩ := t3 p' cv z
        exact ⟨c0, a1, ext _ _ (fun e => by rw [e, t1] at a2; exact LamX.codeO_ne _ (Option.some.inj a2).symm) a2⟩
      · exact ⟨c', z, upd_same⟩
    · rw [upd_ne (Nat.ne_of_gt lt), upd_ne (Nat.ne_of_gt (Nat.lt_of_lt_of_le (Heap.lt_size oldT) big))]
      exact I.hok.fresh big
end
end N

set_option Elab.async false
set_option linter.all false
set_option maxRecDepth 100000
set_option maxHeartbeats 2000000
namespace So
open PySem PySem.Spec PyProof.Rows L2 PySem.W
theorem depth_ints (f : Nat → PyData) (h : ∀ i, (f i).depth = 0) : ∀ l : List Nat, PyData.depthAll (l.map f) = 0
  | [] => rfl
  | i :: l => by
    rw [List.map_cons, PyData.depthAll, depth_ints f h l, h i]
    rfl
theorem depth_key (l : List Nat) : (keyD' l).depth = 2 := by
  unfold keyD' lotD
  rw [PyData.depth, PyData.depthAll, PyData.depthAll, PyData.depthAll, PyData.depth, PyData.depth, depth_ints _ fun i => by rw [PyData.depth]]
  rfl
theorem alike_ints : ∀ l m : List Nat, alikeAll (l.map fun (i : Nat) => PyData.int i) (m.map fun (i : Nat) => PyData.int i) = true
  | [], _ => by simp [alikeAll]
  | _ :: _, [] => by simp [alikeAll]
  | i :: l, j :: m => by
    rw [List.map_cons, List.map_cons, alikeAll, alike, alike_ints l m]
    rfl
theorem alike_key (l m : List Nat) : alike (keyD' l) (keyD' m) = true := by
  unfold keyD' lotD
  rw [alike, alikeAll, alikeAll, alikeAll, alike, alike, alike_ints]
  rfl
theorem extN_seqT {K : PySem.W.Frag} {H H' : Hp} {a : Addr} {xs : List V} (e : LamX.ExtN H H') (h : SqT K H a xs) : SqT K H' a xs := by
  rcases h with (h | ⟨o, h⟩) | h
  · exact .inl (.inl (e _ _ h fun ps z => by cases z))
  · exact .inl (.inr ⟨o, e _ _ h fun ps z => by cases z⟩)
  · exact .inr h
theorem extN_seqL {K : PySem.W.Frag} {H H' : Hp} {a : Addr} {xs : List V} (e : LamX.ExtN H H') (h : SqL K H a xs) : SqL K H' a xs := by
  rcases h with (h | ⟨o, h⟩) | h
  · exact .inl (.inl (e _ _ h fun ps z => by cases z))
  · exact .inl (.inr ⟨o, e _ _ h fun ps z => by cases z⟩)
  · exact .inr h
def IsT (X : Cx) (H : Hp) (h : Heap) (v : Value) (l : List Nat) : Prop := ∃ t, v = .ref t ∧ N.LotAt X.K H t l ∧ IsLot h v l
theorem each_lots {X : Cx} {pins : List (Addr × Obj)} {σ : L2.St} {H : Hp} {s : Shared} (I : Inv X pins σ H s) : ∀ {ts : List Addr} {ls : List (List Nat)} {its : List Value}, Vals (ts.map V.ref) its → Paired (fun t l => N.LotAt X.K H t l) ts ls → EachIs (IsT X H s.heap) its ls
  | [], ls, its, r, p => by
    cases p
    cases r
    exact .nil
  | t :: ts, ls, its, r, p => by
    cases p with
    | cons a b =>
      cases r with
      | cons c d =>
        cases c
        refine .cons ?_ (each_lots I d b)
        obtain ⟨its, rv, hT, hz⟩ := I.tuple a
        exact ⟨t, rfl, a, t, _, rfl, hT, by rw [List.toList_toArray]; exact rv⟩
theorem each_back {X : Cx} {H : Hp} {h : Heap} : ∀ {us : List Value} {ls : List (List Nat)}, EachIs (IsT X H h) us ls → ∃ ts : List Addr, us = ts.map Value.ref ∧ Paired (fun t l => N.LotAt X.K H t l) ts ls
  | _, _, .nil => ⟨[], rfl, .nil⟩
  | _, _, .cons r t => by
    obtain ⟨ts, rfl, p⟩ := each_back t
    obtain ⟨a, rfl, hl, _⟩ := r
    exact ⟨a :: ts, rfl, .cons hl p⟩
theorem each_zip {R : Value → List Nat → Prop} {Z : List (Addr × List Nat)} : ∀ {ts : List Addr} {its : List Value} {ls : List (List Nat)}, (∀ p ∈ ts.zip ls, p ∈ Z) → EachIs R its ls → Vals (ts.map V.ref) its → EachIs (fun v l => R v l ∧ ∃ t, v = Value.ref t ∧ (t, l) ∈ Z) its ls
  | [], _, _, hz, e, r => by
    cases r
    cases e
    exact .nil
  | t :: ts, _, _, hz, e, r => by
    cases r with
    | cons r1 r2 =>
      cases e with
      | cons e1 e2 =>
        cases r1
        exact .cons ⟨e1, t, rfl, hz _ List.mem_cons_self⟩ (each_zip (fun p hp => hz p (List.mem_cons_of_mem _ hp)) e2 r2)
theorem each_fst {R R' : Value → List Nat → Prop} : ∀ {us : List Value} {ls : List (List Nat)}, EachIs (fun v l => R v l ∧ R' v l) us ls → EachIs R us ls
  | _, _, .nil => .nil
  | _, _, .cons r t => .cons r.1 (each_fst t)
theorem each_mem {R : Value → List Nat → Prop} {Z : List (Addr × List Nat)} : ∀ {ts : List Addr} {ls : List (List Nat)}, EachIs (fun v l => R v l ∧ ∃ t, v = Value.ref t ∧ (t, l) ∈ Z) (ts.map Value.ref) ls → Paired (fun t l => (t, l) ∈ Z) ts ls
  | [], _, h => by cases h; exact .nil
  | t :: ts, _, h => by
    cases h with
    | cons r u =>
      obtain ⟨t', e, m⟩ := r.2
      cases e
      exact .cons m (each_mem u)
theorem zip_of {α β : Type} {F : α → β → Prop} : ∀ {as : List α} {bs : List β}, Paired F as bs → ∀ p ∈ as.zip bs, F p.1 p.2
  | _, _, .nil, p, h => by cases h
  | _, _, .cons r t, p, h => by
    rcases List.mem_cons.mp h with z | z
    · rw [z]; exact r
    · exact zip_of t p z
/-- p is none of what stands, tables aside -/
def NewN (H : Hp) (p : Addr) : Prop := ∀ b o, H b = some o → (∀ ps, o ≠ .tbl ps) → b ≠ p
def tSortLots (K : PySem.W.Frag) (L : List Addr) (P : Addr) (q : Str) (ta : TE) : TE := fun σ H Q => ta σ H fun x H1 => ∃ (a : Addr) (ts : List Addr) (ls : List (List Nat)), x = .ref a ∧ SqL K H1 a (ts.map V.ref) ∧ Paired (fun t l => N.LotAt K H1 t l) ts ls ∧ (∀ l ∈ ls, l.length ≤ 1000) ∧ ls.length ≤ 1000 ∧ N.Tb L P q H1 ∧
  ∀ (H' : Hp) (p : Addr) (ts' : List Addr), LamX.ExtN H1 H' → N.Tb L P q H' → NewN H1 p → H' p = some (.lst (ts'.map V.ref)) → Paired (fun t l => N.LotAt K H' t l) ts' (ls.mergeSort (dataLe false keyD')) → Paired (fun t l => (t, l) ∈ ts.zip ls) ts' (ls.mergeSort (dataLe false keyD')) → Q (.ref p) H'
section
variable {X : Cx} {e : Expr} {ta : TE} {x : Str} {p0 pos kpos lpos : Pos} {params : Arguments} {body : Expr} {scope : Scope} {c P : Addr} {Lt : List Addr}
theorem pe_sortLots (ha : PE X e ta) (L : KeyLam params body scope) (TB : LamX.TabB X.base X.mg c P) (hcode : X.env.code = .ref c) (hd : X.A.depth < recursionLimit) (hu : X.A.units + 100 < cLine) (hg : Gl X "sorted") (hm : X.mg "sorted" = none) (hml : X.mg "len" = none)
    (hdef : defaultsOf params X.env = ([], []) := by rfl) (hclo : cloFrom X.env.cells scope.names [] = [] := by rfl)
    (he : backTo pos (starEach [e] X.env) = (false, eval e X.env) :: backTo pos (starEach [] X.env) := by rfl) (hpl : (backTo pos (starEach [e] X.env)).any (·.1) = false := by rfl)
    (hall : (backToKw pos (keywordEach [⟨some "key", .Lambda params body scope lpos, kpos⟩] X.env)).all (·.1.isSome) = true := by rfl) (hnone : (backToKw pos (keywordEach [⟨some "key", .Lambda params body scope lpos, kpos⟩] X.env)).any (·.1.isNone) = false := by rfl) :
    PE X (.Call (.Name "sorted" p0) [e] [⟨some "key", .Lambda params body scope lpos, kpos⟩] pos) (tSortLots X.K Lt P (X.env.qual ++ "<lambda>") ta) := by
  refine ⟨fun pins s σ H Q I h => ?_⟩
  refine wpAny_Call_Name_kw (ld_blt I hg hm (u := .builtin "sorted") (by first | exact boot_sorted | decide +kernel) ?_ (by decide) (by decide))
  refine PyProof.Rows.callWith_kw ?_ he hpl hall hnone
  rw [he]
  refine Calls.spliced_cons (thn (ha.run pins s σ H _ I h) fun u s1 ⟨x, H1, I1, r1, q1⟩ => Calls.spliced_nil ?_)
  obtain ⟨a, ts, ls, rfl, hA, hP, hll, hlen, hT, q⟩ := q1
  cases r1
  show wpAny _ _ (evalAll ((do let v ← eval (.Lambda params body scope lpos) X.env; standAt pos; pure v) :: [])) _ _ s1
  refine wpAny_evalAll_cons (wpAny_bind (N.lam_make3 I1 TB hcode rfl hT.s hdef (fun y hy hf => absurd hf (L.free y hy))
    fun f c' pm ctv H2 s2 I2 eP T2 hf hfn hfr hco => wpAny_bind (wpAny_standAt (wpAny_pure (wpAny_evalAll_nil ?_)))))
  rw [hclo] at hf
  show wpAny _ _ (call (.builtin "sorted") [.ref a] [(Str.ofString "key", .ref f)]) _ _ s2
  have e2 : LamX.ExtN H1 H2 := let ⟨_, h1, _⟩ := hT.s; eP.n h1
  have hT2 := hT.lam eP T2
  have hP2 : Paired (fun t l => N.LotAt X.K H2 t l) ts ls := N.paired_mono hP fun t l z => extN_seqT e2 z
  obtain ⟨its, rv, hl, hz⟩ := I2.list (extN_seqL e2 hA)
  have E := each_zip (Z := ts.zip ls) (fun p hp => hp) (each_lots I2 rv hP2) rv
  obtain ⟨⟨oc, vs, tq, hoc, hdc, hvc⟩, _, _⟩ := I2.hok c' _ hco
  obtain ⟨mb, hb1, hb2⟩ := I2.mod.blt
  refine sorted_key_data (s := s2) (R := fun v l => IsT X H2 s2.heap v l ∧ ∃ t, v = Value.ref t ∧ (t, l) ∈ ts.zip ls) keyD' hl.isList E (fun d hd d' hd' => ?_) (.inl fun d hd => ?_) (Nat.le_of_lt (small1000 hlen)) (fun l hl => ?_) (ksk_s1 _ _) (fun _ => ksk_l1 _ _) (fun y => ksk_t1 f y) (fun v l hR hl h tk kp => ?_) fun out cc h' tk kp fr hD ol hE => ?_
  · obtain ⟨l, _, rfl⟩ := List.mem_map.mp hd
    obtain ⟨l', _, rfl⟩ := List.mem_map.mp hd'
    exact alike_key l l'
  · obtain ⟨l, _, rfl⟩ := List.mem_map.mp hd
    exact ⟨_, _, rfl⟩
  · rw [depth_key]
    omega
  · obtain ⟨t, rfl, _, hI⟩ := hR.1
    exact key_turn (s := { s2 with heap := h, toks := tk }) L hd (kp _ _ hf) ⟨c', oc, vs, tq, rfl, kp _ _ hoc, hdc, hvc⟩ (I2.nolimit.keeps kp) ((I2.mod.glob.keeps I2.bk).keeps kp) hml ((hb1.keeps I2.bk).keeps kp) (hb2 _ (by decide)) (hI.keeps kp) (hll l hl)
  · obtain ⟨ts', rfl, hP'⟩ := each_back (each_fst hE)
    have hZ := each_mem hE
    have hfr : H2 (s2.heap.objs.size + 1) = none := I2.hok.fresh (Nat.le_succ _)
    have hl' : (ts'.map V.ref).length ≤ sizeLine := by
      rw [List.length_map]
      rw [List.length_map] at ol
      have := small1000 hlen
      omega
    refine ⟨.ref _, upd H2 (s2.heap.objs.size + 1) (.lst (ts'.map V.ref)), I2.laid (t' := tk) kp (Nat.le_succ _) ⟨hl', _, cc, LiI.vals_refs ts', hD⟩, rfl, q _ _ ts' (fun b o e n => ?_) ?_ ?_ upd_same ?_ hZ⟩
    · have e3 := e2 b o e n
      rw [N.same_upd hfr b o e3]
    · exact hT2.ext (N.same_upd hfr)
    · exact fun b o e n => ne_of_none (e2 b o e n) hfr
    · exact N.paired_mono hP' fun t l z => N.LotAt.same z (N.same_upd hfr)
end
end So

set_option Elab.async false
set_option linter.all false
set_option maxRecDepth 100000
set_option maxHeartbeats 2000000
/-! all lots, sorted by length, then as tuples -/
namespace N
open Cb (lotV combs combsOf combsOf_sub)
open PySem PySem.Spec PyProof.Rows L2
def subsL : Nat → List (List Nat)
  | 0 => [[]]
  | k + 1 => subsL k ++ (subsL k).map (· ++ [k])
def allL (n : Nat) : List (List Nat) := (List.range (n + 1)).flatMap fun r => combs n r
def pwB (r : List Nat → List Nat → Bool) : List (List Nat) → Bool
  | [] => true
  | x :: xs => xs.all (r x) && pwB r xs
theorem pw_of {r : List Nat → List Nat → Bool} : ∀ {l : List (List Nat)}, pwB r l = true → l.Pairwise fun a b => r a b = true
  | [], _ => List.Pairwise.nil
  | x :: xs, h => by
    unfold pwB at h
    rw [Bool.and_eq_true] at h
    exact List.Pairwise.cons (fun b hb => List.all_eq_true.mp h.1 b hb) (pw_of h.2)
abbrev lotLe : List Nat → List Nat → Bool := PySem.W.dataLe false So.keyD'
def chkL (n : Nat) : Bool := (allL n).isPerm (subsL n) && (pwB lotLe (allL n) && (allL n).all fun a => (allL n).all fun b => !(lotLe a b && lotLe b a) || a == b)
theorem chkL_all : ((List.range 6).all chkL) = true := by decide +kernel
theorem sort_allL {n : Nat} (hn : n ≤ 5) : (subsL n).mergeSort lotLe = allL n := by
  have h := List.all_eq_true.mp chkL_all n (List.mem_range.mpr (by omega))
  unfold chkL at h
  rw [Bool.and_eq_true, Bool.and_eq_true] at h
  obtain ⟨h1, h2, h3⟩ := h
  have hp : (allL n).Perm (subsL n) := List.isPerm_iff.mp h1
  have hm : ((subsL n).mergeSort lotLe).Perm (subsL n) := List.mergeSort_perm _ _
  refine (List.Perm.eq_of_pairwise (le := fun a b => lotLe a b = true) (fun a b ha hb x y => ?_) (PySem.W.sort_pairwise (PySem.W.sortLe_total _ _ _) _) (pw_of h2) (hm.trans hp.symm))
  have ha' : a ∈ allL n := (hm.trans hp.symm).mem_iff.mp ha
  have z := List.all_eq_true.mp (List.all_eq_true.mp h3 a ha') b hb
  rw [x, y] at z
  simpa using z
theorem subsL_len : ∀ n : Nat, (subsL n).length = 2 ^ n
  | 0 => rfl
  | n + 1 => by rw [subsL, List.length_append, List.length_map, subsL_len n]; omega
theorem subsL_ok : ∀ {n : Nat} {l : List Nat}, l ∈ subsL n → l.length ≤ n
  | 0, l, h => by rw [List.mem_singleton.mp h]; exact Nat.zero_le _
  | n + 1, l, h => by
    rcases List.mem_append.mp h with z | z
    · have := subsL_ok z; omega
    · obtain ⟨m, hm, rfl⟩ := List.mem_map.mp z
      have := subsL_ok hm
      rw [List.length_append]
      simpa using this
theorem mem_allL {n : Nat} {l : List Nat} : l ∈ allL n ↔ LotOk n l := by
  unfold allL
  rw [List.mem_flatMap]
  constructor
  · rintro ⟨r, _, h⟩
    exact (combsOf_sub.mp h).1
  · intro h
    exact ⟨l.length, List.mem_range.mpr (by have := h.len; omega), combsOf_sub.mpr ⟨h, rfl⟩⟩
theorem o_catA (K : PySem.W.Frag) {X : Cx} (hK : X.K = K := by rfl) : OpR X (binaryOp .Add) (rCatA K) := by
  subst hK
  exact op_catA
end N

set_option Elab.async false
set_option linter.all false
set_option maxRecDepth 100000
set_option maxHeartbeats 2000000
namespace N
open Cb (lotV combs combsOf combsOf_sub)
open PySem PySem.Spec PyProof.Rows L2
abbrev lamQ : Str := "_law_lots.<locals>.<lambda>"
section
variable {P : Program} {w : World} {K : PySem.W.Frag} {mg : Str → Option Value} {base : Heap}
theorem LotAt.ext {H H' : Hp} {a : Addr} {l : List Nat} (h : LotAt K H a l) (e : LamX.ExtN H H') : LotAt K H' a l := So.extN_seqT e h
theorem HouseAt.ext {H H' : Hp} {a : Addr} {h : List (List Nat)} (x : HouseAt K H a h) (e : LamX.ExtN H H') : HouseAt K H' a h := by
  obtain ⟨rs, h1, h2⟩ := x
  exact ⟨rs, So.extN_seqT e h1, paired_mono h2 fun _ _ z => z.ext e⟩
theorem Same.extN {H H' : Hp} (e : Same H H') : LamX.ExtN H H' := fun b o h _ => e b o h
theorem paired_app {α β : Type} {F : α → β → Prop} : ∀ {as as' : List α} {bs bs' : List β}, Paired F as bs → Paired F as' bs' → Paired F (as ++ as') (bs ++ bs')
  | _, _, _, _, .nil, h => h
  | _, _, _, _, .cons r t, h => .cons r (paired_app t h)
/-- the lot itself, as it was made -/
def TupA (H : Hp) (t : Addr) (l : List Nat) : Prop := H t = some (.tup (lotV l))
theorem TupA.same {H H' : Hp} {t : Addr} {l : List Nat} (h : TupA H t l) (e : Same H H') : TupA H' t l := e _ _ h
theorem TupA.ext {H H' : Hp} {t : Addr} {l : List Nat} (h : TupA H t l) (e : LamX.ExtN H H') : TupA H' t l := e _ _ h (fun ps z => by cases z)
theorem TupA.lot {K : PySem.W.Frag} {H : Hp} {t : Addr} {l : List Nat} (h : TupA H t l) : LotAt K H t l := SqT.up h
theorem TupA.off {H : Hp} {D t : Addr} {l : List Nat} {ys : List V} {o : HO} (h : TupA H t l) (hD : H D = some (.lst ys)) : TupA (upd H D o) t l := by
  unfold TupA
  rw [upd_ne (ne_of h hD (by intro z; cases z))]
  exact h
def sp_lots (K : PySem.W.Frag) (L : List Addr) (PT : Addr) : Sp := fun vs H Q _ => ∃ n : Nat, vs = [.int n] ∧ n ≤ 5 ∧ Tb L PT lamQ H ∧
  ∀ (H' : Hp) (p : Addr) (ts : List Addr), LamX.ExtN H H' → Tb L PT lamQ H' → So.NewN H p → H' p = some (.lst (ts.map V.ref)) → Paired (fun t l => TupA H' t l) ts (allL n) → Q (.ref p) H'
theorem sc_lots : FnScope ["many", "found", "one", "lot"] ["many"] (defScope s__law_lots) := ⟨rfl, rfl, rfl, by decide +kernel, rfl, by decide +kernel, by decide +kernel⟩
theorem room100 {k : Nat} {A : Around} (h : Room k A) : A.units + 100 < cLine := by
  have := h.un
  omega
theorem lot_off {H : Hp} {D a : Addr} {l : List Nat} {ys : List V} {o : HO} (h : LotAt K H a l) (hD : H D = some (.lst ys)) : LotAt K (upd H D o) a l := h.but hD but_upd
theorem ok_lots {L : List Addr} {c PT : Addr} (T : Txt K mg) (hc : T.d__law_lots.fd.code = .ref c) (TB : LamX.TabB base mg c PT) : FnOk P w K mg base CX0 2 T.d__law_lots.f T.d__law_lots.fd ["many"] (sp_lots K L PT) := by
  obtain ⟨oc, od, kV, doc, pm, an, cdv, ct, osl, efd, lk, hcd⟩ := T.d__law_lots.F.ex
  rw [efd] at lk hc ⊢
  have hc' : cdv = .ref c := hc
  subst hc'
  refine fn_of lk hcd sc_lots (fun vs H Q E h => ?_) (fun A outer s H vs Q E hr h => ?_)
  · obtain ⟨n, rfl, _⟩ := h
    rfl
  · obtain ⟨n, rfl, hn, hT, q⟩ := h
    have nd := sc_lots.nd
    refine ⟨_, PSs.nox (pss_cons (ps_set (i := 1) nd rfl (.inl rfl) (pe_lst (pa_cons (pe_tup pa_nil) pa_nil)))
      (pss_cons (ps_for PassesOwn.never rfl (pi_range1 (by rfl) T.n_range (pa_cons (pv 0) pa_nil)) (pg_name (i := 2) nd rfl (.inr rfl))
        (pss_one (ps_set (i := 1) nd rfl (.inl rfl) (pe_op op_cat (pv 1) (pe_lc (own := [("lot", 3)]) (g := gName 3) (tt := tYes) rfl nd (pi_list (pv 1))
          (blkOk_by (N := ["many", "found", "one", "lot"]) (sc := defScope s__law_lots) (by decide +kernel)) (fun _ _ _ _ _ => pg_name (i := 3) nd rfl (.inl rfl)) (fun _ _ _ _ _ => pts_nil)
          (fun _ _ _ _ _ => pe_op (o_catA K) (pv 3) (pe_tup (pa_cons (pv 2) pa_nil))))))))
      (pss_one (ps_ret (So.pe_sortLots (Lt := L) (c := c) (P := PT) (pv 1) ⟨rfl, rfl, rfl, by decide +kernel, by decide +kernel, by decide +kernel, by decide +kernel, (fun _ _ _ _ _ => rfl), ⟨_, _, _, _, _, _, rfl⟩⟩ TB rfl hr.depth (room100 hr) (by rfl) T.n_sorted T.n_len))))), ?_⟩
    refine ⟨by decide, fun e0 he0 => ⟨by (show 1 ≤ sizeLine; decide), fun fp hfp => ?_⟩⟩
    have hfp' : H fp = none := by
      have : fp ≠ e0 := fun z => by rw [z, upd_same] at hfp; cases hfp
      rw [upd_ne this] at hfp
      exact hfp
    refine ⟨.int n, rfl, n, rfl, by omega, by omega, ?_⟩
    rw [Int.toNat_natCast]
    refine for_range (lo := 0) (n := n) (fun i σ H2 => ∃ (fp : Addr) (ts : List Addr) (v2 v3 : Option V), σ = [some (.int n), some (.ref fp), v2, v3] ∧ Same H H2 ∧ H2 fp = some (.lst (ts.map V.ref)) ∧ Paired (fun t l => TupA H2 t l) ts (subsL i))
      ⟨fp, [e0], none, none, rfl, (same_upd he0).trans (same_upd hfp), upd_same, .cons (same_upd hfp _ _ upd_same) .nil⟩ ?_ ?_
    · rintro i σ H2 hi ⟨fp, ts, v2, v3, rfl, sm, hf, hP⟩
      have hlen : ts.length = (subsL i).length := Paired.length hP
      have h2i : (subsL i).length ≤ 32 := by
        rw [subsL_len]
        exact Nat.pow_le_pow_right (n := 2) (by decide) (by omega : i ≤ 5)
      refine ⟨.ref fp, rfl, .ref fp, rfl, fp, rfl, ⟨_, SqL.up hf⟩, fun D hD => lc_list (K := K) (a := fp) (xs := ts.map V.ref) (fun j H3 => ∃ us : List Addr, H3 D = some (.lst (us.map V.ref)) ∧ Same H2 H3 ∧ Paired (fun t l => TupA H3 t l) us (((subsL i).take j).map (· ++ [i])))
        ⟨[], upd_same, same_upd hD, .nil⟩ (fun j H3 _ h3 => SqL.up (h3.choose_spec.2.1 _ _ hf)) ?_ ?_⟩
      · rintro j y H3 hj ⟨us, hD3, sm3, hPu⟩
        obtain ⟨t, ht, rfl⟩ := get_refs hj
        obtain ⟨l, hl, hat⟩ := paired_at hP ht
        have hat3 : LotAt K H3 t l := (hat.same sm3).lot
        have hll := subsL_ok (List.mem_of_getElem? hl)
        have hul : us.length ≤ 32 := by
          have h1 : us.length = _ := Paired.length hPu
          rw [List.length_map, List.length_take] at h1
          omega
        have etk : ((subsL i).take (j + 1)).map (· ++ [i]) = ((subsL i).take j).map (· ++ [i]) ++ [l ++ [i]] := by rw [List.take_add_one, hl, List.map_append]; rfl
        refine ⟨rfl, tYes_if ⟨.ref t, rfl, .int (0 + (i : Int)), rfl, (by show 1 ≤ sizeLine; decide), fun u hu => ?_⟩⟩
        have eu : (upd H3 u (.tup [V.int (0 + (i : Int))])) u = some (.tup (lotV [i])) := by
          rw [upd_same, Int.zero_add]
          rfl
        have smu : Same H3 (upd H3 u (.tup [V.int (0 + (i : Int))])) := same_upd hu
        have fin : ∀ (H4 : Hp) (r : Addr), Same H3 H4 → TupA H4 r (l ++ [i]) → ∃ xs, H4 D = some (.lst xs) ∧ xs.length < sizeLine ∧ ∃ us : List Addr, (upd H4 D (.lst (xs ++ [V.ref r]))) D = some (.lst (us.map V.ref)) ∧ Same H2 (upd H4 D (.lst (xs ++ [V.ref r]))) ∧
            Paired (fun t l => TupA (upd H4 D (.lst (xs ++ [V.ref r]))) t l) us (((subsL i).take (j + 1)).map (· ++ [i])) := fun H4 r sm4 hr4 => by
          have hD4 := sm4 _ _ hD3
          refine ⟨_, hD4, by rw [List.length_map]; exact small1000 (by omega), us ++ [r], ?_, fun b o e => ?_, ?_⟩
          · rw [upd_same, List.map_append]
            rfl
          · rw [upd_ne (ne_of_none e hD)]
            exact sm4 _ _ (sm3 _ _ e)
          · rw [etk]
            exact Cb.paired_snoc (F := fun t l => TupA (upd H4 D (.lst (us.map V.ref ++ [V.ref r]))) t l) (hr4.off hD4) (paired_mono hPu fun t l z => (z.same sm4).off hD4)
        refine ⟨t, u, lotV l, lotV [i], rfl, rfl, Same.tup smu hat3, SqT.up eu, by rw [List.length_map]; show l.length + 1 ≤ sizeLine; exact Nat.le_of_lt (small1000 (by omega)), fun e => ?_, fun _ e => by (cases e), fun _ _ p hp => ?_⟩
        · have el : l = [] := List.map_eq_nil_iff.mp e
          obtain ⟨xs, a1, a2, a3⟩ := fin _ u smu (by rw [el]; exact eu)
          exact ⟨xs, a1, a2, a3⟩
        · have ep : lotV l ++ lotV [i] = lotV (l ++ [i]) := by
            unfold lotV
            rw [List.map_append]
          rw [ep]
          obtain ⟨xs, a1, a2, a3⟩ := fin _ p (smu.trans (same_upd hp)) upd_same
          exact ⟨xs, a1, a2, a3⟩
      · rintro H3 ⟨us, hD3, sm3, hPu⟩
        have hlu : us.length = (subsL i).length := by
          have h1 : us.length = _ := Paired.length hPu
          rw [List.length_map, List.length_map, hlen, List.take_length] at h1
          exact h1
        refine ⟨fp, D, ts.map V.ref, us.map V.ref, rfl, rfl, sm3 _ _ hf, hD3, ?_, fun p hp => ?_⟩
        · rw [List.length_map, List.length_map]
          exact Nat.le_of_lt (small1000 (by omega))
        · refine ⟨p, ts ++ us, _, _, rfl, (sm.trans sm3).trans (same_upd hp), by rw [upd_same, List.map_append], ?_⟩
          rw [List.length_map, hlen, List.take_length] at hPu
          have hPp : Paired (fun t l => TupA (upd H3 p (.lst (ts.map V.ref ++ us.map V.ref))) t l) ts (subsL i) := paired_mono hP fun t l z => z.same (sm3.trans (same_upd hp))
          have hPq : Paired (fun t l => TupA (upd H3 p (.lst (ts.map V.ref ++ us.map V.ref))) t l) us ((subsL i).map (· ++ [i])) := paired_mono hPu fun t l z => z.same (same_upd hp)
          exact paired_app hPp hPq
    · rintro σ H2 ⟨fp, ts, v2, v3, rfl, sm, hf, hP⟩
      have h2i : (subsL n).length ≤ 32 := by
        rw [subsL_len]
        exact Nat.pow_le_pow_right (n := 2) (by decide) hn
      refine ⟨.ref fp, rfl, fp, ts, subsL n, rfl, SqL.up hf, paired_mono hP (fun _ _ z => z.lot), fun l hl => by have := subsL_ok hl; omega, by omega, hT.ext sm, fun H' p ts' e2 hT' hp hl' _ hZ' => ?_⟩
      have hP' : Paired (fun t l => TupA H' t l) ts' _ := paired_mono hZ' fun t l z => TupA.ext (So.zip_of hP _ z) e2
      rw [sort_allL hn] at hP'
      exact q H' p ts' ((Same.extN sm).trans e2) hT' (fun b o e nt => hp b o (sm _ _ e) nt) hl' hP'
end
end N

set_option Elab.async false
set_option linter.all false
set_option maxRecDepth 100000
set_option maxHeartbeats 2000000
/-! [..] == [], [..] != [], i in a lot -/
namespace N
open Cb (lotV combs combsOf combsOf_sub)
open PySem PySem.Spec PyProof.Rows L2
def natD (l : List Nat) : List PyData := l.map fun (i : Nat) => PyData.int i
theorem lay_nats : ∀ l : List Nat, PyData.canLayAll0 (natD l) = true
  | [] => by rw [natD, List.map_nil, PyData.canLayAll0]
  | i :: l => by
    have ih := lay_nats l
    unfold natD at ih ⊢
    rw [List.map_cons, PyData.canLayAll0, PyData.canLay0, ih]
    rfl
theorem lay_lots : ∀ ls : List (List Nat), PyData.canLayAll0 (ls.map So.lotD) = true
  | [] => by rw [List.map_nil, PyData.canLayAll0]
  | l :: ls => by
    rw [List.map_cons, PyData.canLayAll0, lay_lots ls, So.lotD, PyData.canLay0]
    have := lay_nats l
    unfold natD at this
    rw [this]
    rfl
theorem depth_nats : ∀ l : List Nat, PyData.depthAll (natD l) = 0 := So.depth_ints (fun (i : Nat) => PyData.int i) (fun i => by rw [PyData.depth])
theorem depth_lots : ∀ ls : List (List Nat), PyData.depthAll (ls.map So.lotD) ≤ 1
  | [] => by rw [List.map_nil, PyData.depthAll]; exact Nat.zero_le _
  | l :: ls => by
    rw [List.map_cons, PyData.depthAll, So.lotD, PyData.depth]
    have h1 := depth_nats l
    unfold natD at h1
    rw [h1]
    have h2 := depth_lots ls
    omega
theorem shaped_nats (l : List Nat) : SeqAt.shaped (.list (natD l)) = true := by
  unfold SeqAt.shaped
  rw [PyData.canLay0, lay_nats, PyData.depth, depth_nats]
  rfl
theorem shaped_lot (l : List Nat) : SeqAt.shaped (.tuple (natD l)) = true := by
  unfold SeqAt.shaped
  rw [PyData.canLay0, lay_nats, PyData.depth, depth_nats]
  rfl
theorem shaped_lots (ls : List (List Nat)) : SeqAt.shaped (.list (ls.map So.lotD)) = true := by
  unfold SeqAt.shaped
  rw [PyData.canLay0, lay_lots, PyData.depth]
  have := depth_lots ls
  simp only [Bool.true_and, decide_eq_true_eq]
  omega
theorem dp_nats {K : PySem.W.Frag} {H : Hp} : ∀ l : List Nat, DpAll K H (lotV l) (natD l)
  | [] => .nil
  | i :: l => .cons (.int _) (dp_nats l)
theorem dp_lots {K : PySem.W.Frag} {H : Hp} : ∀ {ts : List Addr} {ls : List (List Nat)}, Paired (fun t l => LotAt K H t l) ts ls → DpAll K H (ts.map V.ref) (ls.map So.lotD)
  | _, _, .nil => .nil
  | _, _, .cons r t => .cons (.tup r (dp_nats _)) (dp_lots t)
def rEmp (K : PySem.W.Frag) (neg : Bool) : R2 := fun x y H Q => ∃ (a b : Addr) (xs : List V) (ds : List PyData), x = .ref a ∧ y = .ref b ∧ SqL K H a xs ∧ DpAll K H xs ds ∧ SeqAt.shaped (.list ds) = true ∧ SqL K H b [] ∧ Q (.bl (if neg then !xs.isEmpty else xs.isEmpty)) H
theorem eqv_emp {K : PySem.W.Frag} {H : Hp} {xs : List V} {ds : List PyData} (h : DpAll K H xs ds) : PyData.eqv (.list ds) (.list []) = xs.isEmpty := by
  cases h with
  | nil => simp [PyData.eqv, PyData.eqvAll]
  | cons a b => simp [PyData.eqv, PyData.eqvAll]
theorem shaped_nil : SeqAt.shaped (.list []) = true := shaped_nats []
theorem op_emp {X : Cx} (hu : X.A.units + 64 < cLine) : OpR X (compareOp .Eq) (rEmp X.K false) := by
  intro pins s σ H x y v u Q I r1 r2 h
  obtain ⟨a, b, xs, ds, rfl, rfl, h1, h2, h3, h4, q⟩ := h
  refine op_eqD hu pins s σ H _ _ v u Q I r1 r2 ⟨.list ds, .list [], .lst h1 h2, .lst h4 .nil, h3, shaped_nil, ?_⟩
  rw [eqv_emp h2]
  exact q
theorem op_nemp {X : Cx} (hu : X.A.units + 64 < cLine) : OpR X (compareOp .NotEq) (rEmp X.K true) := by
  intro pins s σ H x y v u Q I r1 r2 h
  obtain ⟨a, b, xs, ds, rfl, rfl, h1, h2, h3, h4, q⟩ := h
  refine op_neD hu pins s σ H _ _ v u Q I r1 r2 ⟨.list ds, .list [], .lst h1 h2, .lst h4 .nil, h3, shaped_nil, ?_⟩
  rw [eqv_emp h2]
  exact q
theorem o_notIn (K : PySem.W.Frag) {X : Cx} (hK : X.K = K := by rfl) : OpR X (compareOp .NotIn) (rIn K true) := by
  subst hK
  exact op_notIn_seq
theorem flat_lot : ∀ l : List Nat, (lotV l).all flatV = true
  | [] => rfl
  | i :: l => flat_lot l
theorem inV_lot (s : Nat) : ∀ l : List Nat, inV (.int (s : Int)) (lotV l) = decide (s ∈ l)
  | [] => rfl
  | i :: l => by
    have ih := inV_lot s l
    unfold inV at ih ⊢
    show (eqV (.int (i : Int)) (.int (s : Int)) || (lotV l).any fun y => eqV y (.int (s : Int))) = _
    rw [ih]
    by_cases e : s = i
    · subst e
      simp [eqV]
    · have h1 : eqV (.int (i : Int)) (.int (s : Int)) = false := by
        simp only [eqV]
        simp
        omega
      rw [h1]
      simp [e]
end N

set_option Elab.async false
set_option linter.all false
set_option maxRecDepth 100000
set_option maxHeartbeats 2000000
namespace N
open Cb (lotV combs combsOf combsOf_sub)
open PySem PySem.Spec PyProof.Rows L2
section
variable {P : Program} {w : World} {K : PySem.W.Frag} {mg : Str → Option Value} {base : Heap}
def sp_next (K : PySem.W.Frag) : Sp := fun vs H Q _ => ∃ (a b d : Addr) (h : List (List Nat)) (S L : List Nat), vs = [.ref a, .ref b, .ref d] ∧ HouseAt K H a h ∧ HouseOk h ∧ LotAt K H b S ∧ LotAt K H d L ∧
  ∀ (H' : Hp) (p : Addr), Same H H' → H' p = some (.tup (lotV (nextL h S L))) → Q (.ref p) H'
def NL : List Str := ["house", "covered", "coins", "found", "clerk", "sights", "one"]
theorem sc_next : FnScope ["house", "covered", "coins", "found", "clerk", "sights", "one"] ["house", "covered", "coins"] (defScope s__law_next) := ⟨rfl, rfl, rfl, by decide +kernel, rfl, by decide +kernel, by decide +kernel⟩
def missL (S L row : List Nat) : List Nat := row.filter fun s => !decide (s ∈ S) && !decide (s ∈ L)
theorem miss_emp {S L row : List Nat} : (lotV (missL S L row)).isEmpty = row.all fun s => decide (s ∈ S) || decide (s ∈ L) := by
  induction row with
  | nil => rfl
  | cons s row ih =>
    unfold missL at ih ⊢
    rw [List.filter_cons, List.all_cons]
    by_cases h1 : s ∈ S
    · simp only [h1, decide_true, Bool.not_true, Bool.false_and, Bool.true_or, Bool.true_and, Bool.false_eq_true, if_false]
      exact ih
    · by_cases h2 : s ∈ L
      · simp only [h1, h2, decide_true, decide_false, Bool.not_true, Bool.not_false, Bool.true_and, Bool.or_true, Bool.false_eq_true, if_false]
        exact ih
      · simp only [h1, h2, decide_false, Bool.not_false, Bool.true_and, Bool.or_false, Bool.false_and, if_true]
        rfl
theorem ok_next (T : Txt K mg) : FnOk P w K mg base CX0 1 T.d__law_next.f T.d__law_next.fd ["house", "covered", "coins"] (sp_next K) := by
  refine T.d__law_next.F.ok sc_next (fun vs H Q E h => ?_) (fun cdv A outer s H vs Q E hr h => ?_)
  · obtain ⟨a, b, d, h, S, L, rfl, _⟩ := h
    rfl
  · obtain ⟨a, b, d, hs, S, L, rfl, hA, ok, hB, hL, q⟩ := h
    have nd := sc_next.nd
    refine ⟨_, pss_cons (ps_set (i := 3) nd rfl (.inl rfl) (pe_lst pa_nil))
      (pss_cons (ps_for PassesOwn.never rfl (En.pi_enumT (by rfl) T.n_enumerate (pa_cons (pv 0) pa_nil)) (pg_tup rfl (pgs_cons (pg_name (i := 4) nd rfl (.inl rfl)) (pgs_cons (pg_name (i := 5) nd rfl (.inl rfl)) pgs_nil)))
        (pss_one (ps_if (pt_cmpR (op_emp hr.units) (pe_lc (own := [("one", 6)]) (g := gName 6) rfl nd (pi_tup (pv 5))
            (blkOk_by (N := ["house", "covered", "coins", "found", "clerk", "sights", "one"]) (sc := defScope s__law_next) (by decide +kernel)) (fun _ _ _ _ _ => pg_name (i := 6) nd rfl (.inl rfl))
            (fun _ _ _ _ _ => pts_one (PW.pt (pw_and (pt_cmpR (o_notIn K) (pv 6) (pv 1) (by rfl)) (pw_and1 (pt_cmpR (o_notIn K) (pv 6) (pv 2) (by rfl))))))
            (fun _ _ _ _ _ => pv 6)) (pe_lst pa_nil) (nomark _))
          (pss_one (ps_expr (pe_bm PySem.F.plainAttrs_list PySem.F.slot_list_append PySem.F.type_list_append mt_append (pv 3) (pa_cons (pv 4) pa_nil)))) pss_nil)))
      (pss_one (ps_ret (pe_callTy call_tuple_of (by rfl) T.n_tuple (by decide +kernel) (pa_cons (pv 3) pa_nil))))), ?_⟩
    obtain ⟨rs, hR, hP⟩ := id hA
    have hl : rs.length = hs.length := Paired.length hP
    have hlv : (rs.map V.ref).length = hs.length := by rw [List.length_map, hl]
    refine ⟨Nat.zero_le _, fun fp hfp => ?_⟩
    refine ⟨.ref a, rfl, a, _, rfl, Same.tup (same_upd hfp) hR, En.for_enumT (K := K) (a := a) (xs := rs.map V.ref) (fun i σ H2 => (∀ b o, H b = some o → H2 b = some o) ∧ H2 fp = some (.lst (lotV ((List.range i).filter fun i => (hs.getD i []).all fun s => decide (s ∈ S) || decide (s ∈ L)))) ∧ ∃ c r v6 : Option V, σ = [some (.ref a), some (.ref b), some (.ref d), some (.ref fp), c, r, v6])
      ⟨fun b o e => same_upd hfp b o e, upd_same, none, none, none, rfl⟩ (fun i σ H2 _ h3 => Same.tup h3.1 hR) ?_ ?_⟩
    · rintro i x T2 σ H2 hi ⟨sm, hf, c, r, v6, rfl⟩ hT
      obtain ⟨rp, hri, rfl⟩ := get_refs hi
      obtain ⟨row, hrow, hat⟩ := paired_at hP hri
      have hlt : i < hs.length := (List.getElem?_eq_some_iff.mp hrow).1
      have okr := (ok.ok row (List.mem_of_getElem? hrow)).2
      have sm2 : Same H (upd H2 T2 (.tup [.int (i : Nat), .ref rp])) := Same.trans sm (same_upd hT)
      have hf2 := same_upd (o := .tup [.int (i : Nat), .ref rp]) hT _ _ hf
      refine ⟨T2, [.int (i : Nat), .ref rp], rfl, .inl (.inl upd_same), rfl, .int (i : Nat), [.ref rp], rfl, .ref rp, [], rfl, rfl, ?_⟩
      generalize upd H2 T2 (.tup [.int (i : Nat), .ref rp]) = H3 at sm2 hf2
      refine ⟨.ref rp, rfl, rp, rfl, ⟨_, hat.same sm2⟩, fun D hD => lc_tup (K := K) (a := rp) (xs := lotV row) (fun j H4 => H4 = upd H3 D (.lst (lotV (missL S L (row.take j)))))
        rfl (fun j H4 _ e => by rw [e]; exact (hat.same sm2).same (same_upd hD)) ?_ ?_⟩
      · rintro j y H4 hj rfl
        obtain ⟨k, hk, rfl⟩ := get_lotV hj
        have smD : Same H3 (upd H3 D (.lst (lotV (missL S L (row.take j))))) := same_upd hD
        have etk : row.take (j + 1) = row.take j ++ [k] := by rw [List.take_add_one, hk]; rfl
        have em : missL S L (row.take (j + 1)) = missL S L (row.take j) ++ missL S L [k] := by rw [etk]; unfold missL; rw [List.filter_append]
        refine ⟨rfl, .int (k : Int), rfl, .ref b, rfl, b, lotV S, rfl, .inr ((hB.same sm2).same smD), rfl, flat_lot S, ?_⟩
        rw [inV_lot]
        refine ⟨!decide (k ∈ S), rfl, ?_⟩
        by_cases h1 : k ∈ S
        · rw [decide_eq_true h1]
          refine iteF ?_
          show _ = _
          rw [em]
          have e2 : missL S L [k] = [] := by unfold missL; rw [List.filter_cons_of_neg (by simp [h1])]; rfl
          rw [e2, List.append_nil]
        · rw [decide_eq_false h1]
          refine iteT ⟨.int (k : Int), rfl, .ref d, rfl, d, lotV L, rfl, .inr ((hL.same sm2).same smD), rfl, flat_lot L, ?_⟩
          rw [inV_lot]
          refine ⟨!decide (k ∈ L), rfl, ?_⟩
          by_cases h2 : k ∈ L
          · rw [decide_eq_true h2]
            refine iteF ?_
            show _ = _
            rw [em]
            have e2 : missL S L [k] = [] := by unfold missL; rw [List.filter_cons_of_neg (by simp [h2])]; rfl
            rw [e2, List.append_nil]
          · rw [decide_eq_false h2]
            refine iteT ⟨.int (k : Int), rfl, _, upd_same, ?_, ?_⟩
            · rw [List.length_map]
              have h3 : (missL S L (row.take j)).length ≤ (row.take j).length := List.length_filter_le _ _
              have h4 : (row.take j).length ≤ row.length := by rw [List.length_take]; exact Nat.min_le_right _ _
              have h5 := okr.len
              have h6 := ok.hi
              exact small1000 (by omega)
            · show upd _ _ _ = _
              rw [upd_upd, em]
              have e2 : missL S L [k] = [k] := by unfold missL; rw [List.filter_cons_of_pos (by simp [h1, h2])]; rfl
              rw [e2]
              unfold lotV
              rw [List.map_append]
              rfl
      · rintro H4 rfl
        rw [List.length_map, List.take_length]
        refine ⟨Nat.zero_le _, fun e0 he0 => ?_⟩
        have smD : Same H3 (upd H3 D (.lst (lotV (missL S L row)))) := same_upd hD
        have sm4 : Same H (upd (upd H3 D (.lst (lotV (missL S L row)))) e0 (.lst [])) := (Same.trans sm2 smD).trans (same_upd he0)
        have hf4 := same_upd (o := .lst []) he0 _ _ (smD _ _ hf2)
        refine ⟨D, e0, lotV (missL S L row), natD (missL S L row), rfl, rfl, SqL.up (same_upd he0 _ _ upd_same), dp_nats _, shaped_nats _, SqL.up upd_same, _, rfl, ?_⟩
        show (if (lotV (missL S L row)).isEmpty = true then _ else _)
        rw [miss_emp]
        have egd : hs.getD i [] = row := by rw [List.getD_eq_getElem?_getD, hrow]; rfl
        have ef : (List.range (i + 1)).filter (fun i => (hs.getD i []).all fun s => decide (s ∈ S) || decide (s ∈ L)) = (List.range i).filter (fun i => (hs.getD i []).all fun s => decide (s ∈ S) || decide (s ∈ L)) ++ if (row.all fun s => decide (s ∈ S) || decide (s ∈ L)) = true then [i] else [] := by
          rw [List.range_succ, List.filter_append]
          congr 1
          rw [List.filter_cons, egd]
          rfl
        refine ite2 (fun hb => ?_) (fun hb => ?_)
        · rw [if_pos hb] at ef
          refine ⟨.ref fp, rfl, .inl ⟨rfl, _, SqL.up hf4⟩, .int (i : Nat), rfl, fp, _, _, rfl, rfl, hf4, ?_, ?_⟩
          · rw [List.length_map]
            have h3 := List.length_filter_le (fun i => (hs.getD i []).all fun s => decide (s ∈ S) || decide (s ∈ L)) (List.range i)
            rw [List.length_range] at h3
            have h6 := ok.hi
            exact small1000 (by omega)
          · refine ⟨fun b o e => ?_, ?_, _, _, _, rfl⟩
            · rw [upd_ne (ne_of_none e hfp)]
              exact sm4 _ _ e
            · rw [upd_same, ef]
              unfold lotV
              rw [List.map_append]
              rfl
        · rw [if_neg hb, List.append_nil] at ef
          exact ⟨sm4, by rw [ef]; exact hf4, _, _, _, rfl⟩
    · rintro σ H2 ⟨sm, hf, c, r, v6, rfl⟩
      rw [hlv] at hf
      refine ⟨.ref fp, rfl, fp, _, rfl, .inl ⟨SqL.up hf, fun p hp => ?_⟩⟩
      exact q _ p (Same.trans sm (same_upd hp)) upd_same
end
end N

set_option Elab.async false
set_option linter.all false
set_option maxRecDepth 100000
set_option maxHeartbeats 2000000
/-! sorted(lots): tuples of numbers, the empty one among them or not; told is that it is the same tuples -/
namespace St
open PySem PySem.Spec PySem.Calls PyProof.Rows PySem.SeqAt PySem.W
section
variable {prog : Program} {w : World} {A : Around} {E : Value → Shared → Prop} {s : Shared}
theorem call_tuple_lt {Q : Value → Shared → Prop} {l b : Addr} {items items2 : Array Value} {e r : Nat → Bool} (hl : s.heap.IsTuple l items) (hb : s.heap.IsTuple b items2)
    (he : ∀ j (h1 : j < items.size) (h2 : j < items2.size), EqAt A.in1 s items[j] items2[j] (e j)) (hr : ∀ j (h1 : j < items.size) (h2 : j < items2.size), e j = false → RcLt A.in1 s items[j] items2[j] (r j))
    (h : Q (.bool (firstLt e r (decide (items.size < items2.size)) (List.range (min items.size items2.size)))) s) : wpAny (model prog w) A (call (.builtin "tuple.__lt__") [.ref l, .ref b]) Q E s := by
  obtain ⟨⟨cls, dd, data, sl⟩, ho, hc, n, hd⟩ := id hl
  obtain ⟨⟨cls2, dd2, data2, sl2⟩, ho2, hc2, n2, hd2⟩ := id hb
  simp only at hc hd hc2 hd2
  subst hc hd hc2 hd2
  exact call_meets F.slot_tuple_lt ⟨_, ho, rfl⟩ F.entry_tuple_lt (F.args_tuple_lt_2 _ _) (PySem.SeqAt.tuple_ltAt l b items items2 n n2 dd dd2 sl sl2 e r) ⟨ho, ho2, he, hr, h⟩
theorem oneLt_lots {f : Bool} {x y : List Nat} {a b : Value} {as bs : List Addr} {Q : Bool → Shared → Prop} (ra : Reads s.heap a (So.lotD x) as) (rb : Reads s.heap b (So.lotD y) bs) (hu : A.units + 1 < cLine) (hq : Q (dataLt (So.lotD x) (So.lotD y)) s) : wpAny (model prog w) A (oneLt' f a b) Q E s := by
  have hal : alikeAll (x.map fun (i : Nat) => PyData.int i) (y.map fun (i : Nat) => PyData.int i) = true := So.alike_ints x y
  have hda : (So.lotD x).depth = 1 := by rw [So.lotD, PyData.depth, So.depth_ints _ fun i => by rw [PyData.depth]]
  have hdb : (So.lotD y).depth = 1 := by rw [So.lotD, PyData.depth, So.depth_ints _ fun i => by rw [PyData.depth]]
  have hroom : A.units + min (So.lotD x).depth (So.lotD y).depth < cLine := by rw [hda, hdb]; exact hu
  cases f with
  | false =>
    refine oneLt_alike (fun z => by cases z) ra rb (by show alikeAll _ _ = true; exact hal) (fun z => by cases z) hroom hq
  | true =>
    unfold So.lotD at ra rb hroom hq
    cases ra with
    | @tuple l o vs n _ as₁ h1 h2 h3 h4 =>
      cases rb with
      | @tuple l' o' vs' n' _ bs₁ k1 k2 k3 k4 =>
        have n1 : vs.size = (x.map fun (i : Nat) => PyData.int i).length := by simpa using ReadsAll.length _ _ _ h4
        have n2 : vs'.size = (y.map fun (i : Nat) => PyData.int i).length := by simpa using ReadsAll.length _ _ _ k4
        rw [dataLt_tuple, ← firstLt_toks _ _ hal, ← n1, ← n2] at hq
        rw [oneLt'_eq]
        simp only [if_true]
        refine wpAny_bind (wpAny_cRoomFor (room_here hroom) ?_)
        refine wpAny_bind (wpAny_callSpecialIfBound?_slot (T := "tuple") ⟨_, h1, h2⟩ F.slot_tuple_lt (call_tuple_lt (e := pairEq (x.map fun (i : Nat) => PyData.int i) (y.map fun (i : Nat) => PyData.int i)) (r := fun j => dataLt ((x.map fun (i : Nat) => PyData.int i).getD j .none) ((y.map fun (i : Nat) => PyData.int i).getD j .none)) ⟨_, h1, h2, _, h3⟩ ⟨_, k1, k2, _, k3⟩ (fun j j1 j2 => ?_) (fun j j1 j2 hj => ?_) ?_))
        · have := eqAt_alikeAll _ _ A.in1 s vs.toList vs'.toList _ _ h4 k4 hal (room_in hroom) j (by simpa using j1) (by simpa using j2)
          simpa using this
        · have := rcLt_alikeAll _ _ A.in1 s vs.toList vs'.toList _ _ h4 k4 hal (room_in hroom) j (by simpa using j1) (by simpa using j2) hj
          simpa using this
        · exact wpAny_truthy_bool hq
end
section
variable {M : Model} {A : Around} {E : Value → Shared → Prop} {s : Shared}
theorem each_right {α β : Type} {R : α → β → Prop} : ∀ {as : List α} {bs : List β}, EachIs R as bs → ∀ b, b ∈ bs → ∃ a, a ∈ as ∧ R a b
  | _, _, .nil, b, h => by cases h
  | _, _, .cons r t, b, h => by
    rcases List.mem_cons.mp h with e | h
    · subst e; exact ⟨_, List.mem_cons_self, r⟩
    · obtain ⟨a, ha, ra⟩ := each_right t b h
      exact ⟨a, List.mem_cons_of_mem _ ha, ra⟩
/-- the firsts of tuples of numbers: none exactly of the empty one -/
theorem firsts : ∀ {vs : List Value} {ls : List (List Nat)} {Q : List (Option Value) → Shared → Prop}, EachIs (fun v l => ∃ as, Reads s.heap v (So.lotD l) as) vs ls → (∀ fs : List (Option Value), EachIs (fun f l => f.isSome = !l.isEmpty) fs ls → Q fs s) → wpAny M A (vs.mapM firstOfTuple') Q E s
  | _, _, Q, .nil, h => by rw [List.mapM_nil]; exact wpAny_pure (h [] .nil)
  | _, _, Q, .cons (a := v) (b := l) (as := vs) (bs := ls) ⟨as, r⟩ t, h => by
    unfold So.lotD at r
    cases r with
    | @tuple a o xs n _ as₁ h1 h2 h3 h4 =>
      rw [List.mapM_cons]
      refine wpAny_bind ?_
      rw [kas_first_eq]
      refine wpAny_bind (Looks.here (show Looks M s.heap (typeOf (.ref a)) o.cls from (Looks.ld h1).andThen .now) ?_)
      rw [h2, if_neg (by first | decide | simp)]
      refine wpAny_bind (listItems_at h1 h3 (wpAny_pure ?_))
      refine wpAny_bind (firsts (Q := fun bs s' => wpAny M A (pure (xs[0]? :: bs)) Q E s') t fun fs hfs => wpAny_pure (h _ (.cons ?_ hfs)))
      have n1 : xs.size = l.length := by
        have := ReadsAll.length _ _ _ h4
        rw [List.length_map] at this
        simpa using this
      cases l with
      | nil =>
        have : xs[0]? = none := Array.getElem?_eq_none (by rw [n1]; exact Nat.le_refl _)
        rw [this]
        rfl
      | cons i l =>
        have hp : 0 < xs.size := by rw [n1]; exact Nat.succ_pos _
        have : xs[0]? = some (xs[0]'hp) := Array.getElem?_eq_getElem hp
        rw [this]
        rfl
theorem kinds {vs : List Value} {ls : List (List Nat)} {Q : SortKind → Shared → Prop} (h : EachIs (fun v l => ∃ as, Reads s.heap v (So.lotD l) as) vs ls) (h2 : 2 ≤ vs.length) (hn : ∃ l ∈ ls, l = []) (hq : Q (if ls.head? = some [] then oneType' else general') s) : wpAny M A (keyKind' vs.toArray) Q E s := by
  rw [keyKind'_eq, List.mapM_toArray, map_eq_pure_bind]
  refine wpAny_bind (wpAny_bind (firsts h fun fs hfs => wpAny_pure ?_))
  have hall : ¬ (fs.toArray.all fun x => x.isSome) = true := by
    intro z
    rw [List.all_toArray, List.all_eq_true] at z
    obtain ⟨l, hl, rfl⟩ := hn
    obtain ⟨f, hf, e⟩ := each_right hfs _ hl
    have := z f hf
    rw [e] at this
    cases this
  rw [if_neg hall]
  have T : ∀ v ∈ vs, Looks M s.heap (typeOf v) (Value.type "tuple") := fun v hv => by
    obtain ⟨l, _, as, r⟩ := h.left v hv
    exact looks_reads r
  have hl := h.length
  cases hfs with
  | nil =>
    rw [hl] at h2
    exact absurd h2 (by simp)
  | @cons f l fs ls r t =>
    have e0 : ((f :: fs).toArray[0]?.bind id).isSome = !l.isEmpty := by
      show f.isSome = _
      exact r
    rw [e0]
    cases l with
    | cons i l =>
      rw [if_neg (by simp)] at hq
      rw [if_pos (by rfl : (!(i :: l).isEmpty) = true)]
      exact wpAny_pure hq
    | nil =>
      rw [if_pos (by rfl)] at hq
      rw [if_neg (by simp)]
      rw [oneTypeOnly'_eq, List.mapM_toArray, map_eq_pure_bind]
      refine wpAny_bind (wpAny_bind (wpAny_bind (kas_mapM (r := Value.type "tuple") _ (fun v hv Q' hq => (T v hv).here hq) (wpAny_pure ?_))))
      cases vs with
      | nil => exact absurd h2 (by simp)
      | cons v vs =>
        have hall2 : ((List.map (fun _ => Value.type "tuple") (v :: vs)).toArray.all fun x => x == Value.type "tuple") = true := by
          simp only [List.all_toArray, List.all_map, List.all_eq_true]
          intro _ _
          rfl
        have h0 : (List.map (fun _ => Value.type "tuple") (v :: vs)).toArray[0]? = some (Value.type "tuple") := by simp
        rw [h0]
        simp only [hall2, if_true]
        exact wpAny_pure (wpAny_pure hq)
end
section
variable {prog : Program} {w : World} {A : Around} {E : Value → Shared → Prop} {s : Shared}
theorem all_alike (ls : List (List Nat)) : AllAlike (ls.map So.lotD) := fun d hd d' hd' => by
  obtain ⟨l, _, rfl⟩ := List.mem_map.mp hd
  obtain ⟨l', _, rfl⟩ := List.mem_map.mp hd'
  show alikeAll _ _ = true
  exact So.alike_ints l l'
theorem depth_lotD (l : List Nat) : (So.lotD l).depth = 1 := by rw [So.lotD, PyData.depth, So.depth_ints _ fun i => by rw [PyData.depth]]
theorem each_maps {α β γ : Type} {R : α → γ → Prop} (f : β → γ) : ∀ {as : List α} {bs : List β}, EachIs (fun a b => R a (f b)) as bs → EachIs R as (bs.map f)
  | _, _, .nil => .nil
  | _, _, .cons r t => .cons r (each_maps f t)
theorem sortsAt_lots {vs : List Value} {ls : List (List Nat)} (h : EachIs (fun v l => ∃ as, Reads s.heap v (So.lotD l) as) vs ls) (hu : A.units + 1 < cLine) : SortsAt prog w A s (dataKind s.heap (ls.map So.lotD)) vs := by
  have h' : EachIs (fun v d => ∃ as, Reads s.heap v d as) vs (ls.map So.lotD) := each_maps So.lotD h
  by_cases hn : ∃ l ∈ ls, l = []
  · have lt : ∀ kd, kd = general' ∨ kd = oneType' → PyProof.Rows.H.LtAt prog w A s (dataKind s.heap (ls.map So.lotD)) kd := fun kd hk E x y a b Q ha hb hq => by
      obtain ⟨d, as, hd, ra, rfl⟩ := dataKind_inv ha
      obtain ⟨d', as', hd', rb, rfl⟩ := dataKind_inv hb
      obtain ⟨l, _, rfl⟩ := List.mem_map.mp hd
      obtain ⟨l', _, rfl⟩ := List.mem_map.mp hd'
      rcases hk with rfl | rfl
      · show wpAny _ _ (oneLt' false x y) _ _ _
        exact oneLt_lots ra rb hu hq
      · rw [keyLt'_oneType]
        exact oneLt_lots ra rb hu hq
    refine ⟨fun v hv => ?_, ?_⟩
    · obtain ⟨d, hd, as, r⟩ := h'.left v hv
      exact ⟨_, dataKind_some (all_alike ls) hd r⟩
    · exact ⟨if ls.head? = some [] then oneType' else general', lt _ (by split; exact .inr rfl; exact .inl rfl), fun h2 E Q hq => kinds h h2 hn hq⟩
  · refine SortsAt.data h' (all_alike ls) (.inl fun d hd => ?_) fun d hd => ?_
    · obtain ⟨l, hl, rfl⟩ := List.mem_map.mp hd
      cases l with
      | nil => exact absurd ⟨[], hl, rfl⟩ hn
      | cons i l => exact ⟨_, _, rfl⟩
    · obtain ⟨l, _, rfl⟩ := List.mem_map.mp hd
      rw [depth_lotD]
      exact hu
theorem sortVals_perm {κ : PyProof.Rows.KeyKind} (vs : List Value) : (sortVals κ false vs vs).Perm vs := by
  unfold sortVals
  have h1 := (List.mergeSort_perm (vs.zip vs) (sortLe κ.toKeyOrd false fun p : Keyed => keyD κ p.1)).map Prod.snd
  have h2 : (vs.zip vs).map Prod.snd = vs := List.map_snd_zip (Nat.le_refl _)
  rw [h2] at h1
  exact h1
end
theorem refs_of {ts : List Addr} : ∀ {us : List Value}, (∀ u ∈ us, u ∈ ts.map Value.ref) → ∃ ts' : List Addr, us = ts'.map Value.ref
  | [], _ => ⟨[], rfl⟩
  | u :: us, h => by
    obtain ⟨t, _, rfl⟩ := List.mem_map.mp (h u List.mem_cons_self)
    obtain ⟨ts', rfl⟩ := refs_of fun v hv => h v (List.mem_cons_of_mem _ hv)
    exact ⟨t :: ts', rfl⟩
theorem perm_refs {ts ts' : List Addr} (h : (ts'.map Value.ref).Perm (ts.map Value.ref)) : ts'.Perm ts := by
  have z := h.map fun v => match v with
    | Value.ref a => a
    | _ => (0 : Addr)
  rw [List.map_map, List.map_map] at z
  have e : ∀ l : List Addr, l.map ((fun v => match v with
    | Value.ref a => a
    | _ => (0 : Addr)) ∘ Value.ref) = l := fun l => by
    conv => rhs; rw [← List.map_id l]
    rfl
  rw [e, e] at z
  exact z
open L2
theorem vals_are {ts : List Addr} : ∀ {its : List Value}, Vals (ts.map V.ref) its → its = ts.map Value.ref := by
  induction ts with
  | nil => intro its r; cases r; rfl
  | cons t ts ih =>
    intro its r
    cases r with
    | cons a b =>
      cases a
      rw [ih b]
      rfl
theorem each_mono_b {α β : Type} {R R' : α → β → Prop} (h : ∀ a b, R a b → R' a b) : ∀ {as : List α} {bs : List β}, EachIs R as bs → EachIs R' as bs
  | _, _, .nil => .nil
  | _, _, .cons r t => .cons (h _ _ r) (each_mono_b h t)
/-- sorted(lots) -/
theorem cr_sortLots {X : Cx} (hu : X.A.units + 100 < cLine) : CallR X (.builtin "sorted") (fun xs H Q => ∃ (a : Addr) (ts : List Addr) (ls : List (List Nat)), xs = [.ref a] ∧ SqL X.K H a (ts.map V.ref) ∧ Paired (fun t l => N.LotAt X.K H t l) ts ls ∧
    ∀ (ts' : List Addr) (p : Addr), ts'.Perm ts → H p = none → Q (.ref p) (upd H p (.lst (ts'.map V.ref)))) := by
  intro pins s σ H xs us Q I r h
  obtain ⟨a, ts, ls, rfl, hA, hP, q⟩ := h
  obtain rfl := Vals.ref1 r
  obtain ⟨its, rv, hl, hz⟩ := I.list hA
  have E := So.each_lots I rv hP
  have hits := vals_are rv
  have hlen : its.length = ts.length := by rw [hits, List.length_map]
  rw [List.length_map] at hz
  have key : EachIs (fun v l => ∃ as, Reads (sortingHeap (copyHeap s.heap its) (s.heap.objs.size + 1) its) v (So.lotD l) as) its ls :=
    each_mono_b (fun v l (h : So.IsT X H s.heap v l) => by
      obtain ⟨t, rfl, _, hI⟩ := h
      exact ⟨[], (hI.keeps fun b o e => sorting_copy_old e).reads⟩) E
  refine sorted_vals (κ := dataKind (sortingHeap (copyHeap s.heap its) (s.heap.objs.size + 1) its) (ls.map So.lotD)) hl.isList (sortsAt_lots (s := { s with heap := sortingHeap (copyHeap s.heap its) (s.heap.objs.size + 1) its }) key (by show X.A.units + 1 + 1 + 1 < cLine; omega)) (by omega) ?_
  have hp := sortVals_perm (κ := dataKind (sortingHeap (copyHeap s.heap its) (s.heap.objs.size + 1) its) (ls.map So.lotD)) its
  generalize sortVals _ false its its = out at hp
  obtain ⟨ts', rfl⟩ := refs_of (ts := ts) fun u hu => by rw [← hits]; exact hp.mem_iff.mp hu
  have hp' : ts'.Perm ts := perm_refs (by rw [← hits]; exact hp)
  obtain ⟨ep, he'⟩ := PyProof.Rows.sortedAll_at s.heap its (ts'.map Value.ref).toArray
  have hl' : (ts'.map V.ref).length ≤ sizeLine := by rw [List.length_map, hp'.length_eq]; exact hz
  exact ⟨.ref _, upd H (s.heap.objs.size + 1) (.lst (ts'.map V.ref)), I.laid (t' := s.toks) (fun _ _ => PyProof.Rows.sortedAll_old) (Nat.le_succ _) ⟨hl', _, ep, LiI.vals_refs ts', he'⟩, rfl, q _ _ hp' (I.hok.fresh (Nat.le_succ _))⟩
end St

set_option Elab.async false
set_option linter.all false
set_option maxRecDepth 100000
set_option maxHeartbeats 2000000
/-! the law's own search: what is covered first on which day; dicts by lots -/
namespace N
open Cb (lotV combs combsOf combsOf_sub)
open PySem PySem.Spec PyProof.Rows L2
def keyL (l : List Nat) : List Key := l.map keyN
theorem keyL_inj : ∀ {a b : List Nat}, keyL a = keyL b → a = b
  | [], [], _ => rfl
  | [], _ :: _, h => by cases h
  | _ :: _, [], h => by cases h
  | i :: a, j :: b, h => by
    have h1 := List.cons.inj h
    rw [keyN_inj h1.1, keyL_inj h1.2]
theorem keyL_V (l : List Nat) : (keyL l).map kV = lotV l := by
  unfold keyL lotV
  rw [List.map_map]
  rfl
section
variable {α κ : Type} [DecidableEq α] [DecidableEq κ] {f : α → κ}
theorem putG_keys (inj : ∀ {a b}, f a = f b → a = b) {kvs : List (κ × V)} {ks : List α} {v : α} {x : V} (h : kvs.map (·.1) = ks.map f) : ∃ ks' : List α, (putK kvs (f v) x).map (·.1) = ks'.map f ∧ (∀ k, k ∈ ks' ↔ k ∈ ks ∨ k = v) ∧ (ks.Nodup → ks'.Nodup) := by
  by_cases hv : v ∈ ks
  · refine ⟨ks, ?_, fun k => ⟨.inl, fun z => z.elim id fun e => e ▸ hv⟩, id⟩
    unfold putK
    have e : (kvs.any fun kv => decide (kv.1 = f v)) = true := by
      rw [List.any_eq_true]
      have hm : f v ∈ kvs.map (·.1) := by rw [h]; exact List.mem_map.mpr ⟨v, hv, rfl⟩
      obtain ⟨kv, h1, h2⟩ := List.mem_map.mp hm
      exact ⟨kv, h1, decide_eq_true h2⟩
    rw [if_pos e, List.map_map, ← h]
    refine List.map_congr_left fun kv _ => ?_
    show (if kv.1 = f v then (kv.1, x) else kv).1 = kv.1
    split <;> rfl
  · refine ⟨ks ++ [v], ?_, fun k => by simp, fun z => ?_⟩
    · have e : ¬ (kvs.any fun kv => decide (kv.1 = f v)) = true := by
        intro z
        obtain ⟨kv, h1, h2⟩ := List.any_eq_true.mp z
        have hm : f v ∈ kvs.map (·.1) := List.mem_map.mpr ⟨kv, h1, of_decide_eq_true h2⟩
        rw [h] at hm
        obtain ⟨k, hk, ek⟩ := List.mem_map.mp hm
        exact hv (inj ek ▸ hk)
      unfold putK
      rw [if_neg e, List.map_append, List.map_append, h]
      rfl
    · refine List.nodup_append.mpr ⟨z, by simp, fun a ha b hb => ?_⟩
      have : b = v := by simpa using hb
      subst this
      exact fun e => hv (e ▸ ha)
theorem valG (inj : ∀ {a b}, f a = f b → a = b) {v : α} : ∀ {kvs : List (κ × V)} {ks : List α}, kvs.map (·.1) = ks.map f → (valV kvs (f v)).isSome = decide (v ∈ ks)
  | [], [], _ => by simp [valV_nil]
  | [], _ :: _, h => by cases h
  | _ :: _, [], h => by cases h
  | kv :: kvs, k :: ks, h => by
    obtain ⟨h1, h2⟩ := List.cons.inj (show kv.1 :: kvs.map (·.1) = f k :: ks.map f from h)
    by_cases e : k = v
    · subst e
      rw [valV_pos h1]
      simp
    · rw [valV_neg (by rw [h1]; exact fun z => e (inj z)), valG inj h2]
      have e' : ¬ v = k := fun z => e z.symm
      simp [e']
theorem nodup_len : ∀ {l m : List α}, l.Nodup → (∀ x ∈ l, x ∈ m) → l.length ≤ m.length
  | [], _, _, _ => Nat.zero_le _
  | x :: l, m, h, hs => by
    obtain ⟨h1, h2⟩ := List.nodup_cons.mp h
    have hx := hs x List.mem_cons_self
    have ih := nodup_len (m := m.erase x) h2 fun y hy => (List.mem_erase_of_ne (fun e : y = x => h1 (e ▸ hy))).mpr (hs y (List.mem_cons_of_mem _ hy))
    have hl := List.length_erase_of_mem hx
    have hp := List.length_pos_of_mem hx
    rw [List.length_cons]
    omega
end
theorem paired_perm {α β : Type} {F : α → β → Prop} {as' as : List α} (p : as'.Perm as) : ∀ {bs : List β}, Paired F as bs → ∃ bs', Paired F as' bs' ∧ bs'.Perm bs := by
  induction p with
  | nil => intro bs h; cases h; exact ⟨[], .nil, .nil⟩
  | cons x _ ih =>
    intro bs h
    cases h with
    | cons r t =>
      obtain ⟨bs', h1, h2⟩ := ih t
      exact ⟨_ :: bs', .cons r h1, h2.cons _⟩
  | swap x y l =>
    intro bs h
    cases h with
    | cons r t =>
      cases t with
      | cons r2 t2 => exact ⟨_, .cons r2 (.cons r t2), .swap _ _ _⟩
  | trans _ _ ih1 ih2 =>
    intro bs h
    obtain ⟨b1, h1, p1⟩ := ih2 h
    obtain ⟨b2, h2, p2⟩ := ih1 h1
    exact ⟨b2, h2, p2.trans p1⟩
/-! ### first days -/
def FirstL (h : List (List Nat)) (c t : Nat) (S : List Nat) : Prop := RchL h c t S ∧ ∀ t', t' < t → ¬ RchL h c t' S
section
variable {h : List (List Nat)} {c : Nat}
theorem first_zero {S : List Nat} : FirstL h c 0 S ↔ S = [] := ⟨fun x => x.1, fun x => ⟨x, fun t' z => by omega⟩⟩
theorem exists_first : ∀ {t : Nat} {S : List Nat}, RchL h c t S → ∃ j, j ≤ t ∧ FirstL h c j S := by
  intro t
  induction t using Nat.strongRecOn with
  | _ t ih =>
    intro S x
    rcases Classical.em (∃ t', t' < t ∧ RchL h c t' S) with ⟨t', h1, h2⟩ | z
    · obtain ⟨j, hj, hf⟩ := ih t' h1 h2
      exact ⟨j, by omega, hf⟩
    · exact ⟨t, Nat.le_refl _, x, fun t' h1 h2 => z ⟨t', h1, h2⟩⟩
theorem first_step {t : Nat} {S : List Nat} : FirstL h c (t + 1) S ↔ (∃ S0 L, FirstL h c t S0 ∧ LotOk h.length L ∧ L.length ≤ c ∧ S = nextL h S0 L) ∧ ¬ ∃ j, j ≤ t ∧ FirstL h c j S := by
  constructor
  · rintro ⟨⟨S0, L, h1, h2, h3, e⟩, hno⟩
    refine ⟨⟨S0, L, ⟨h1, fun t' ht z => ?_⟩, h2, h3, e⟩, ?_⟩
    · exact hno (t' + 1) (by omega) ⟨S0, L, z, h2, h3, e⟩
    · rintro ⟨j, hj, hf⟩
      exact hno j (by omega) hf.1
  · rintro ⟨⟨S0, L, h1, h2, h3, e⟩, hno⟩
    refine ⟨⟨S0, L, h1.1, h2, h3, e⟩, fun t' ht z => ?_⟩
    obtain ⟨j, hj, hf⟩ := exists_first z
    exact hno ⟨j, by omega, hf⟩
theorem no_more {t : Nat} (hn : ∀ S, ¬ FirstL h c t S) : ∀ {u : Nat} {S : List Nat}, RchL h c u S → ∃ j, j < t ∧ FirstL h c j S := by
  have base : ∀ {u : Nat} {S : List Nat}, u ≤ t → RchL h c u S → ∃ j, j < t ∧ FirstL h c j S := fun {u S} hu x => by
    obtain ⟨j, hj, hf⟩ := exists_first x
    refine ⟨j, ?_, hf⟩
    rcases Nat.lt_or_ge j t with z | z
    · exact z
    · have : j = t := by omega
      subst this
      exact absurd hf (hn S)
  intro u
  induction u with
  | zero => exact fun {S} x => base (Nat.zero_le _) x
  | succ u ih =>
    intro S x
    obtain ⟨S0, L, h1, h2, h3, e⟩ := x
    obtain ⟨j, hj, hf⟩ := ih h1
    exact base (u := j + 1) (by omega) ⟨S0, L, hf.1, h2, h3, e⟩
/-- the levels of the search, the last of them empty -/
structure Lvls (h : List (List Nat)) (c : Nat) (Fs : List (List (List Nat))) : Prop where
  pos : 1 ≤ Fs.length
  at_ : ∀ (j : Nat) (F : List (List Nat)), Fs[j]? = some F → ∀ S, S ∈ F ↔ FirstL h c j S
  last : ∀ S, ¬ FirstL h c (Fs.length - 1) S
theorem isDays_some {Fs : List (List (List Nat))} (x : Lvls h c Fs) {goal : List Nat} {d : Nat} {F : List (List Nat)} (hd : Fs[d]? = some F) (hS : ∃ S ∈ F, ∀ i ∈ goal, i ∈ S) (hno : ∀ (j : Nat) (F : List (List Nat)), j < d → Fs[j]? = some F → ¬ ∃ S ∈ F, ∀ i ∈ goal, i ∈ S) : IsDays h c goal (some d) := by
  obtain ⟨S, hS, hg⟩ := hS
  refine ⟨⟨S, ((x.at_ d F hd S).mp hS).1, hg⟩, fun d' hd' z => ?_⟩
  obtain ⟨S', hr, hg'⟩ := z
  obtain ⟨j, hj, hf⟩ := exists_first hr
  have hl : d < Fs.length := (List.getElem?_eq_some_iff.mp hd).1
  have hj2 : j < Fs.length := by omega
  exact hno j _ (by omega) (List.getElem?_eq_getElem hj2) ⟨S', (x.at_ j _ (List.getElem?_eq_getElem hj2) S').mpr hf, hg'⟩
theorem isDays_no {Fs : List (List (List Nat))} (x : Lvls h c Fs) {goal : List Nat} (hno : ∀ (j : Nat) (F : List (List Nat)), Fs[j]? = some F → ¬ ∃ S ∈ F, ∀ i ∈ goal, i ∈ S) : IsDays h c goal none := by
  rintro d ⟨S, hr, hg⟩
  obtain ⟨j, hj, hf⟩ := no_more x.last hr
  have hj2 : j < Fs.length := by omega
  exact hno j _ (List.getElem?_eq_getElem hj2) ⟨S, (x.at_ j _ (List.getElem?_eq_getElem hj2) S).mpr hf, hg⟩
end
end N

set_option Elab.async false
set_option linter.all false
set_option maxRecDepth 100000
set_option maxHeartbeats 2000000
namespace N
open Cb (lotV combs combsOf combsOf_sub)
open PySem PySem.Spec PyProof.Rows L2
def TupAt (H : Hp) (t : Addr) (l : List Nat) : Prop := H t = some (.tup (lotV l))
def LvAt (H : Hp) (q : Addr) (ls : List (List Nat)) : Prop := ∃ ts : List Addr, H q = some (.lst (ts.map V.ref)) ∧ Paired (fun t l => TupAt H t l) ts ls
theorem TupAt.same {H H' : Hp} {t : Addr} {l : List Nat} (x : TupAt H t l) (e : Same H H') : TupAt H' t l := e _ _ x
theorem LvAt.same {H H' : Hp} {q : Addr} {ls : List (List Nat)} (x : LvAt H q ls) (e : Same H H') : LvAt H' q ls := by
  obtain ⟨ts, h1, h2⟩ := x
  exact ⟨ts, e _ _ h1, paired_mono h2 fun _ _ z => z.same e⟩
theorem TupAt.lot {K : PySem.W.Frag} {H : Hp} {t : Addr} {l : List Nat} (x : TupAt H t l) : LotAt K H t l := SqT.up x
theorem isKeys_lots {H : Hp} : ∀ {kvs : List (List Key × V)} {bs : List Addr} {ks : List (List Nat)}, IsKeys H kvs bs → kvs.map (·.1) = ks.map keyL → Paired (fun t l => TupAt H t l) bs ks
  | _, _, [], .nil, _ => .nil
  | _, _, _ :: _, .nil, h => by cases h
  | _, _, [], .cons _ _, h => by cases h
  | kv :: kvs, b :: bs, k :: ks, .cons r t, h => by
    obtain ⟨h1, h2⟩ := List.cons.inj (show kv.1 :: kvs.map (·.1) = keyL k :: ks.map keyL from h)
    refine .cons ?_ (isKeys_lots t h2)
    have r' : H b = some (.tup (kv.1.map kV)) := r
    rw [h1, keyL_V] at r'
    exact r'
theorem allL_len {n : Nat} (hn : n ≤ 5) : (allL n).length ≤ 32 := by
  have h := List.all_eq_true.mp chkL_all n (List.mem_range.mpr (by omega))
  unfold chkL at h
  rw [Bool.and_eq_true] at h
  have hp : (allL n).Perm (subsL n) := List.isPerm_iff.mp h.1
  rw [hp.length_eq, subsL_len]
  exact Nat.pow_le_pow_right (n := 2) (by decide) hn
structure CM (h : List (List Nat)) (c t : Nat) (Fs : List (List (List Nat))) (L ks : List (List Nat)) : Prop where
  len : Fs.length = t + 1
  at_ : ∀ (j : Nat) (F : List (List Nat)), Fs[j]? = some F → ∀ S, S ∈ F ↔ FirstL h c j S
  cur : ∀ S, S ∈ L ↔ FirstL h c t S
  kk : ∀ S, S ∈ ks ↔ ∃ j, j ≤ t ∧ FirstL h c j S
  nd : ks.Nodup
  tt : t + (if L = [] then 0 else 1) ≤ ks.length
section
variable {h : List (List Nat)} {c t : Nat} {Fs : List (List (List Nat))} {L ks : List (List Nat)}
theorem lots_len {n : Nat} (hn : n ≤ 5) {ks : List (List Nat)} (nd : ks.Nodup) (ok : ∀ S ∈ ks, LotOk n S) : ks.length ≤ 32 :=
  Nat.le_trans (nodup_len nd fun S hS => mem_allL.mpr (ok S hS)) (allL_len hn)
theorem CM.ks_len (x : CM h c t Fs L ks) (hn : h.length ≤ 5) : ks.length ≤ 32 := lots_len hn x.nd fun S hS => by
  obtain ⟨j, _, hf⟩ := (x.kk S).mp hS
  exact rchL_ok hf.1
theorem cm_start : CM h c 0 [[[]]] [[]] [[]] := by
  refine ⟨rfl, fun j F hj S => ?_, fun S => ?_, fun S => ?_, by simp, by simp⟩
  · cases j with
    | zero =>
      have : F = [[]] := (Option.some.inj hj).symm
      rw [this, first_zero]
      simp
    | succ j => simp at hj
  · rw [first_zero]
    simp
  · constructor
    · intro z
      exact ⟨0, Nat.le_refl _, first_zero.mpr (by simpa using z)⟩
    · rintro ⟨j, hj, hf⟩
      have : j = 0 := by omega
      subst this
      rw [first_zero.mp hf]
      simp
theorem CM.step (x : CM h c t Fs L ks) (hL : L ≠ []) {lots fr L' ks' : List (List Nat)} (hlots : ∀ l, l ∈ lots ↔ LotOk h.length l ∧ l.length ≤ c) (hfr : ∀ S, S ∈ fr ↔ ∃ S0 ∈ L, ∃ L1 ∈ lots, S = nextL h S0 L1)
    (hL' : ∀ S, S ∈ L' ↔ S ∈ fr ∧ S ∉ ks) (hk : ∀ S, S ∈ ks' ↔ S ∈ ks ∨ S ∈ L') (nd' : ks'.Nodup) : CM h c (t + 1) (Fs ++ [L']) L' ks' := by
  have cur : ∀ S, S ∈ L' ↔ FirstL h c (t + 1) S := fun S => by
    rw [hL', hfr, first_step, x.kk]
    constructor
    · rintro ⟨⟨S0, h1, L1, h2, e⟩, hno⟩
      exact ⟨⟨S0, L1, (x.cur S0).mp h1, ((hlots L1).mp h2).1, ((hlots L1).mp h2).2, e⟩, hno⟩
    · rintro ⟨⟨S0, L1, h1, h2, h3, e⟩, hno⟩
      exact ⟨⟨S0, (x.cur S0).mpr h1, L1, (hlots L1).mpr ⟨h2, h3⟩, e⟩, hno⟩
  refine ⟨by rw [List.length_append, x.len]; rfl, fun j F hj S => ?_, cur, fun S => ?_, nd', ?_⟩
  · rcases Nat.lt_or_ge j Fs.length with z | z
    · rw [List.getElem?_append_left z] at hj
      exact x.at_ j F hj S
    · rw [List.getElem?_append_right z] at hj
      have hj0 : j - Fs.length = 0 := by
        rcases Nat.eq_zero_or_pos (j - Fs.length) with y | y
        · exact y
        · obtain ⟨m, hm⟩ : ∃ m, j - Fs.length = m + 1 := ⟨j - Fs.length - 1, by omega⟩
          rw [hm] at hj
          simp at hj
      rw [hj0] at hj
      have e : F = L' := (Option.some.inj hj).symm
      have ej : j = t + 1 := by rw [x.len] at hj0 z; omega
      rw [e, ej]
      exact cur S
  · rw [hk, x.kk, cur]
    constructor
    · rintro (⟨j, hj, hf⟩ | hf)
      · exact ⟨j, by omega, hf⟩
      · exact ⟨t + 1, Nat.le_refl _, hf⟩
    · rintro ⟨j, hj, hf⟩
      rcases Nat.lt_or_ge j (t + 1) with z | z
      · exact .inl ⟨j, by omega, hf⟩
      · have : j = t + 1 := by omega
        subst this
        exact .inr hf
  · have ht := x.tt
    rw [if_neg hL] at ht
    cases L' with
    | nil =>
      rw [if_pos rfl]
      have := nodup_len x.nd (m := ks') fun S hS => (hk S).mpr (.inl hS)
      omega
    | cons S L' =>
      rw [if_neg (List.cons_ne_nil _ _)]
      have hS := (hL' S).mp List.mem_cons_self
      have nd2 : (S :: ks).Nodup := List.nodup_cons.mpr ⟨hS.2, x.nd⟩
      have := nodup_len nd2 (m := ks') fun S' hS' => by
        rcases List.mem_cons.mp hS' with e | e
        · rw [e]; exact (hk S).mpr (.inr List.mem_cons_self)
        · exact (hk S').mpr (.inl e)
      rw [List.length_cons] at this
      omega
theorem CM.grow (x : CM h c t Fs L ks) {L' ks' : List (List Nat)} (hno : ∀ S, S ∈ L' → S ∉ ks) (hk : ∀ S, S ∈ ks' ↔ S ∈ ks ∨ S ∈ L') (hne : L' ≠ []) : ks.length < ks'.length := by
  obtain ⟨S, r, rfl⟩ := List.exists_cons_of_ne_nil hne
  have nd2 : (S :: ks).Nodup := List.nodup_cons.mpr ⟨hno S List.mem_cons_self, x.nd⟩
  have := nodup_len nd2 (m := ks') fun S' hS' => by
    rcases List.mem_cons.mp hS' with e | e
    · rw [e]; exact (hk S).mpr (.inr List.mem_cons_self)
    · exact (hk S').mpr (.inl e)
  rw [List.length_cons] at this
  omega
theorem CM.end_ (x : CM h c t Fs [] ks) : Lvls h c Fs := ⟨by rw [x.len]; omega, x.at_, fun S hS => by
  rw [x.len] at hS
  have := (x.cur S).mpr hS
  cases this⟩
end
/-- what stands in the heap between two turns of the law's search -/
structure CH (Hb H : Hp) (fp sp lp : Addr) (fps : List Addr) (Fs : List (List (List Nat))) (L ks : List (List Nat)) : Prop where
  sm : Same Hb H
  ef : H fp = some (.lst (fps.map V.ref))
  lv : Paired (fun q ls => LvAt H q ls) fps Fs
  es : ∃ kvs, H sp = some (.dT kvs) ∧ kvs.map (·.1) = ks.map keyL
  el : LvAt H lp L
  nf : Hb fp = none
  ns : Hb sp = none
  dl : lp ≠ fp
  df : ∀ q ∈ fps, q ≠ fp
  ln : ∀ F ∈ Fs, F.length ≤ 32
theorem CH.same {Hb H H' : Hp} {fp sp lp : Addr} {fps : List Addr} {Fs : List (List (List Nat))} {L ks : List (List Nat)} (x : CH Hb H fp sp lp fps Fs L ks) (e : Same H H') : CH Hb H' fp sp lp fps Fs L ks := by
  obtain ⟨kvs, h1, h2⟩ := x.es
  exact ⟨x.sm.trans e, e _ _ x.ef, paired_mono x.lv fun _ _ z => z.same e, ⟨kvs, e _ _ h1, h2⟩, x.el.same e, x.nf, x.ns, x.dl, x.df, x.ln⟩
end N

set_option Elab.async false
set_option linter.all false
set_option maxRecDepth 100000
set_option maxHeartbeats 2000000
namespace N
open Cb (lotV combs combsOf combsOf_sub)
open PySem PySem.Spec PyProof.Rows L2
theorem paired_mem {α β : Type} {F G : α → β → Prop} : ∀ {as : List α} {bs : List β}, Paired F as bs → (∀ a b, a ∈ as → F a b → G a b) → Paired G as bs
  | _, _, .nil, _ => .nil
  | _, _, .cons r t, f => .cons (f _ _ List.mem_cons_self r) (paired_mem t fun a b ha => f a b (List.mem_cons_of_mem _ ha))
theorem TupAt.off {H H' : Hp} {fp sp t : Addr} {xs : List V} {kvs : List (List Key × V)} {l : List Nat} (x : TupAt H t l) (hf : H fp = some (.lst xs)) (hs : H sp = some (.dT kvs)) (k : ∀ b o, b ≠ sp → b ≠ fp → H b = some o → H' b = some o) : TupAt H' t l :=
  k _ _ (ne_of x hs (by intro z; cases z)) (ne_of x hf (by intro z; cases z)) x
theorem LvAt.off {H H' : Hp} {fp sp q : Addr} {xs : List V} {kvs : List (List Key × V)} {ls : List (List Nat)} (x : LvAt H q ls) (hf : H fp = some (.lst xs)) (hs : H sp = some (.dT kvs)) (hq : q ≠ fp) (k : ∀ b o, b ≠ sp → b ≠ fp → H b = some o → H' b = some o) : LvAt H' q ls := by
  obtain ⟨ts, h1, h2⟩ := x
  exact ⟨ts, k _ _ (ne_of h1 hs (by intro z; cases z)) hq h1, paired_mono h2 fun _ _ z => z.off hf hs k⟩
theorem take_succ {α : Type} {l : List α} {i : Nat} {x : α} (h : l[i]? = some x) : l.take (i + 1) = l.take i ++ [x] := by
  rw [List.take_add_one, h]
  rfl
section
variable {P : Program} {w : World} {K : PySem.W.Frag} {mg : Str → Option Value} {base : Heap}
def sp_covered (K : PySem.W.Frag) (L : List Addr) (PT : Addr) : Sp := fun vs H Q _ => ∃ (a : Addr) (h : List (List Nat)) (c : Nat), vs = [.ref a, .int c] ∧ HouseAt K H a h ∧ HouseOk h ∧ h.length ≤ 5 ∧ Tb L PT lamQ H ∧
  ∀ (H' : Hp) (p : Addr) (fps : List Addr) (Fs : List (List (List Nat))), LamX.ExtN H H' → Tb L PT lamQ H' → So.NewN H p → H' p = some (.lst (fps.map V.ref)) → Paired (fun q ls => LvAt H' q ls) fps Fs → Lvls h c Fs → (∀ F ∈ Fs, F.length ≤ 32) → Q (.ref p) H'
theorem sc_covered : FnScope ["house", "coins", "lot", "lots", "found", "seen", "last", "fresh", "covered"] ["house", "coins"] (defScope s__law_covered) := ⟨rfl, rfl, rfl, by decide +kernel, rfl, by decide +kernel, by decide +kernel⟩
theorem ok_covered {L : List Addr} {c PT : Addr} (T : Txt K mg) (hc : T.d__law_lots.fd.code = .ref c) (TB : LamX.TabB base mg c PT) : FnOk P w K mg base CX0 3 T.d__law_covered.f T.d__law_covered.fd ["house", "coins"] (sp_covered K L PT) := by
  have G1 := ok_next (P := P) (w := w) (base := base) T
  have G2 := ok_lots (P := P) (w := w) (base := base) (L := L) T hc TB
  refine T.d__law_covered.F.ok sc_covered (fun vs H Q E h => ?_) (fun cdv A outer s H vs Q E hr h => ?_)
  · obtain ⟨a, h, c, rfl, _⟩ := h
    rfl
  · obtain ⟨a, hs, c, rfl, hA, ok, hn5, hT, q⟩ := h
    have nd := sc_covered.nd
    have hu := hu_of hr
    have hr1 : Room 1 _ := hr.mono (by decide)
    refine ⟨_, pss_cons (ps_setLc (i := 3) (own := [("lot", 2)]) (g := gName 2) rfl nd rfl rfl (sw_true rfl rfl rfl (by decide +kernel))
        (pi_list (pe_call G2 hr (by rfl) T.d__law_lots.g T.d__law_lots.F.kp T.d__law_lots.b .nil pass0 (pa_cons (pe_callB call_len_seq (by rfl) T.n_len PySem.boot_len (pa_cons (pv 0) pa_nil)) pa_nil)))
        (blkOk_by (N := ["house", "coins", "lot", "lots", "found", "seen", "last", "fresh", "covered"]) (sc := defScope s__law_covered) (by decide +kernel)) (fun _ _ _ _ _ => pg_name (i := 2) nd rfl (.inl rfl))
        (fun _ _ _ _ _ => pts_one (pt_cmpR op_le (pe_callB (c_len K) (by rfl) T.n_len PySem.boot_len (pa_cons (pv 2) pa_nil)) (pv 1) (nomark _)))
        (fun _ _ _ _ _ => pv 2))
      (pss_cons (ps_asg (pe_tup (pa_cons (pe_lst (pa_cons (pe_lst (pa_cons (pe_tup pa_nil) pa_nil)) pa_nil)) (pa_cons (pe_dispT hu (pe_tup pa_nil) pe_bl) (pa_cons (pe_lst (pa_cons (pe_tup pa_nil) pa_nil)) pa_nil))))
          (pg_tup rfl (pgs_cons (pg_name (i := 4) nd rfl (.inl rfl)) (pgs_cons (pg_name (i := 5) nd rfl (.inr rfl)) (pgs_cons (pg_name (i := 6) nd rfl (.inl rfl)) pgs_nil)))))
      (pss_cons (ps_while PassesOwn.never (pt_cmpR (op_nemp hr.units) (pv 6) (pe_lst pa_nil) (nomark _))
        (pss_cons (ps_set (i := 7) nd rfl (.inl rfl) pe_dnewT)
        (pss_cons (ps_for PassesOwn.never rfl (pi_list (pv 6)) (pg_name (i := 8) nd rfl (.inl rfl))
          (pss_one (ps_for PassesOwn.never rfl (pi_list (pv 3)) (pg_name (i := 2) nd rfl (.inl rfl))
            (pss_one (ps_dput hu (pv 7) (pe_call G1 hr1 (by rfl) T.d__law_next.g T.d__law_next.F.kp T.d__law_next.b .nil pass0 (pa_cons (pv 0) (pa_cons (pv 8) (pa_cons (pv 2) pa_nil)))) pe_bl rfl)))))
        (pss_cons (ps_setLc (i := 6) (own := [("lot", 2)]) (g := gName 2) rfl nd rfl rfl (sw_true rfl rfl rfl (by decide +kernel))
            (pi_list (pe_callB (St.cr_sortLots (room100 hr)) (by rfl) T.n_sorted (by decide +kernel) (pa_cons (pe_callTy (call_list_dT rfl) (by rfl) T.n_list (by decide +kernel) (pa_cons (pv 7) pa_nil)) pa_nil)))
            (blkOk_by (N := ["house", "coins", "lot", "lots", "found", "seen", "last", "fresh", "covered"]) (sc := defScope s__law_covered) (by decide +kernel)) (fun _ _ _ _ _ => pg_name (i := 2) nd rfl (.inl rfl))
            (fun _ _ _ _ _ => pts_one (pt_cmp (pc_dnotin hu (pv 2) (pv 5))))
            (fun _ _ _ _ _ => pv 2))
        (pss_cons (ps_for PassesOwn.never rfl (pi_list (pv 6)) (pg_name (i := 2) nd rfl (.inl rfl))
          (pss_one (ps_dput hu (pv 5) (pv 2) pe_bl rfl)))
        (pss_one (ps_expr (pe_bm PySem.F.plainAttrs_list PySem.F.slot_list_append PySem.F.type_list_append mt_append (pv 4) (pa_cons (pv 6) pa_nil)))))))))
      (pss_one (ps_ret (pv 4))))), ?_⟩
    obtain ⟨rs, hR, hP⟩ := id hA
    have hlv : (rs.map V.ref).length = hs.length := by rw [List.length_map]; exact Paired.length hP
    refine ⟨.ref a, rfl, a, _, rfl, .inr hR, hs.length, by rw [hlv]; rfl, hn5, hT, fun H1 p1 ts1 e1 hT1 hp1 hl1 hP1' => ?_⟩
    have hP1 : Paired (fun t l => LotAt K H1 t l) ts1 (allL hs.length) := paired_mono hP1' fun _ _ z => z.lot
    refine ⟨p1, rfl, ⟨_, SqL.up hl1⟩, fun D hD => ?_⟩
    have hla := allL_len hn5
    have hts1 : ts1.length = (allL hs.length).length := Paired.length hP1
    refine lc_list (K := K) (a := p1) (xs := ts1.map V.ref) (fun j H2 => ∃ us : List Addr, H2 = upd H1 D (.lst (us.map V.ref)) ∧ Paired (fun t l => LotAt K H1 t l) us (((allL hs.length).take j).filter fun l => decide (l.length ≤ c)))
      ⟨[], rfl, .nil⟩ (fun j H2 _ h2 => ?_) ?_ ?_
    · obtain ⟨us, rfl, _⟩ := h2
      exact SqL.up (same_upd hD _ _ hl1)
    · rintro j y H2 hj ⟨us, rfl, hPu⟩
      obtain ⟨t, ht, rfl⟩ := get_refs hj
      obtain ⟨l, hl, hat⟩ := paired_at hP1 ht
      have etk : (allL hs.length).take (j + 1) = (allL hs.length).take j ++ [l] := by rw [List.take_add_one, hl]; rfl
      refine ⟨rfl, .ref t, rfl, t, _, rfl, .inr (hat.same (same_upd hD)), .int c, rfl, _, c, rfl, rfl, _, rfl, ?_⟩
      show (if decide (((lotV l).length : Int) ≤ (c : Int)) = true then _ else _)
      have ed : decide (((lotV l).length : Int) ≤ (c : Int)) = decide (l.length ≤ c) := decide_eq_decide.mpr (by rw [List.length_map]; omega)
      rw [ed]
      refine ite2 (fun hb => ?_) (fun hb => ?_)
      · refine ⟨.ref t, rfl, _, upd_same, ?_, us ++ [t], ?_, ?_⟩
        · have h1 : us.length = _ := Paired.length hPu
          have h2 := List.length_filter_le (fun l : List Nat => decide (l.length ≤ c)) ((allL hs.length).take j)
          rw [List.length_take] at h2
          rw [List.length_map]
          exact small1000 (by omega)
        · rw [upd_upd, List.map_append]
          rfl
        · have e3 : [l].filter (fun l => decide (l.length ≤ c)) = [l] := by
            rw [List.filter_cons, if_pos (by exact hb)]
            rfl
          rw [etk, List.filter_append, e3]
          exact Cb.paired_snoc (F := fun t l => LotAt K H1 t l) hat hPu
      · refine ⟨us, rfl, ?_⟩
        have e3 : [l].filter (fun l => decide (l.length ≤ c)) = [] := by
          rw [List.filter_cons, if_neg (by exact hb)]
          rfl
        rw [etk, List.filter_append, e3, List.append_nil]
        exact hPu
    · rintro H2 ⟨us0, rfl, hPu0⟩
      rw [List.length_map, hts1, List.take_length] at hPu0
      have hlots : ∀ l, l ∈ (allL hs.length).filter (fun l => decide (l.length ≤ c)) ↔ LotOk hs.length l ∧ l.length ≤ c := fun l => by
        rw [List.mem_filter, mem_allL, decide_eq_true_eq]
      have hll := Nat.le_trans (List.length_filter_le (fun l : List Nat => decide (l.length ≤ c)) (allL hs.length)) hla
      generalize (allL hs.length).filter (fun l => decide (l.length ≤ c)) = lots at hPu0 hlots hll
      have hPu : Paired (fun t l => LotAt K (upd H1 D (.lst (us0.map V.ref))) t l) us0 lots := paired_mono hPu0 fun _ _ z => z.same (same_upd hD)
      have hlD : (upd H1 D (.lst (us0.map V.ref))) D = some (.lst (us0.map V.ref)) := upd_same
      have e2 : LamX.ExtN H (upd H1 D (.lst (us0.map V.ref))) := e1.trans (Same.extN (same_upd hD))
      have hT2 : Tb L PT lamQ (upd H1 D (.lst (us0.map V.ref))) := hT1.ext (same_upd hD)
      generalize upd H1 D (.lst (us0.map V.ref)) = Hb at hPu hlD e2 hT2
      -- found, seen, last
      have hAb : HouseAt K Hb a hs := hA.ext e2
      refine ⟨by decide, fun x0 hx0 => ⟨by (show 1 ≤ sizeLine; decide), fun q0 hq0 => ⟨by (show 1 ≤ sizeLine; decide), fun fp hfp => ?_⟩⟩⟩
      have s1 : Same Hb (upd Hb x0 (.tup [])) := same_upd hx0
      have t1 : TupAt (upd Hb x0 (.tup [])) x0 [] := upd_same
      generalize upd Hb x0 (.tup []) = h1 at hq0 hfp s1 t1
      have s2 : Same h1 (upd h1 q0 (.lst [V.ref x0])) := same_upd hq0
      have t2 : LvAt (upd h1 q0 (.lst [V.ref x0])) q0 [[]] := ⟨[x0], upd_same, .cons (s2 _ _ t1) .nil⟩
      generalize upd h1 q0 (.lst [V.ref x0]) = h2 at hfp s2 t2
      have s3 : Same h2 (upd h2 fp (.lst [V.ref q0])) := same_upd hfp
      have t3 : (upd h2 fp (.lst [V.ref q0])) fp = some (.lst ([q0].map V.ref)) := upd_same
      have q0fp : q0 ≠ fp := by
        obtain ⟨ts, z, _⟩ := t2
        exact ne_of_none z hfp
      have nfp : Hb fp = none := Same.free (s1.trans s2) hfp
      generalize upd h2 fp (.lst [V.ref q0]) = h3 at s3 t3
      refine fun sp hsp => ⟨by decide, fun x1 hx1 => ⟨x1, [], rfl, upd_same, ?_, ?_⟩⟩
      · rw [upd_ne (fun z => by rw [← z, upd_same] at hx1; cases hx1)]
        exact upd_same
      have nsp : Hb sp = none := Same.free ((s1.trans s2).trans s3) hsp
      have s4 : Same h3 (upd (upd (upd h3 sp (.dT [])) x1 (.tup [])) sp (.dT [([], .bl true)])) := fun b o e => by
        rw [upd_ne (ne_of_none e hsp)]
        exact same_upd hx1 _ _ (same_upd hsp _ _ e)
      have t4 : (upd (upd (upd h3 sp (.dT [])) x1 (.tup [])) sp (.dT [([], .bl true)])) sp = some (.dT [([], .bl true)]) := upd_same
      generalize upd (upd (upd h3 sp (.dT [])) x1 (.tup [])) sp (.dT [([], .bl true)]) = h4 at s4 t4
      refine ⟨by decide, fun x2 hx2 => ⟨by (show 1 ≤ sizeLine; decide), fun lp0 hlp0 => ⟨by (show 3 ≤ sizeLine; decide), fun tp htp => ?_⟩⟩⟩
      have s5 : Same h4 (upd h4 x2 (.tup [])) := same_upd hx2
      have t5 : TupAt (upd h4 x2 (.tup [])) x2 [] := upd_same
      generalize upd h4 x2 (.tup []) = h5 at hlp0 htp s5 t5
      have s6 : Same h5 (upd h5 lp0 (.lst [V.ref x2])) := same_upd hlp0
      have t6 : LvAt (upd h5 lp0 (.lst [V.ref x2])) lp0 [[]] := ⟨[x2], upd_same, .cons (s6 _ _ t5) .nil⟩
      have lpfp : lp0 ≠ fp := (ne_of_none (s5 _ _ (s4 _ _ t3)) hlp0).symm
      generalize upd h5 lp0 (.lst [V.ref x2]) = h6 at htp s6 t6
      refine ⟨tp, [.ref fp, .ref sp, .ref lp0], rfl, .inl (.inl upd_same), rfl, .ref fp, [.ref sp, .ref lp0], rfl, .ref sp, [.ref lp0], rfl, .ref lp0, [], rfl, rfl, ?_⟩
      have s7 : Same h6 (upd h6 tp (.tup [.ref fp, .ref sp, .ref lp0])) := same_upd htp
      generalize upd h6 tp (.tup [.ref fp, .ref sp, .ref lp0]) = h7 at s7
      have s36 : Same h3 h6 := (s4.trans s5).trans s6
      have start : CH Hb h6 fp sp lp0 [q0] [[[]]] [[]] [[]] := ⟨((s1.trans s2).trans s3).trans s36, s36 _ _ t3, .cons ((t2.same s3).same s36) .nil, ⟨_, s6 _ _ (s5 _ _ t4), rfl⟩, t6, nfp, nsp, lpfp, (fun q hq => by rw [List.mem_singleton.mp hq]; exact q0fp), fun F hF => by rw [List.mem_singleton.mp hF]; decide⟩
      refine ⟨fun m σ H' => ∃ (t : Nat) (Fs : List (List (List Nat))) (L ks : List (List Nat)) (fps : List Addr) (lp : Addr) (v2 v7 v8 : Option V), m = (32 - ks.length) * 2 + (if L = [] then 0 else 1) ∧ σ = [some (.ref a), some (.int c), v2, some (.ref D), some (.ref fp), some (.ref sp), some (.ref lp), v7, v8] ∧
          CH Hb H' fp sp lp fps Fs L ks ∧ CM hs c t Fs L ks,
        ⟨_, 0, _, _, _, _, lp0, none, none, none, rfl, rfl, start.same s7, cm_start⟩, ?_⟩
      rintro m σ H4 ⟨t, Fs, L, ks, fps, lp, v2, v7, v8, rfl, rfl, C, M⟩
      obtain ⟨ts, hlp, hPt⟩ := C.el
      refine ⟨.ref lp, rfl, Nat.zero_le _, fun x9 hx9 => ?_⟩
      have s9 : Same H4 (upd H4 x9 (.lst [])) := same_upd hx9
      refine ⟨lp, x9, ts.map V.ref, L.map So.lotD, rfl, rfl, SqL.up (s9 _ _ hlp), dp_lots (paired_mono hPt fun _ _ z => (z.same s9).lot), shaped_lots L, SqL.up upd_same, _, rfl, ?_⟩
      have Cx := C.same s9
      generalize upd H4 x9 (.lst []) = Hx at s9 Cx
      by_cases hL : L = []
      · subst hL
        cases hPt
        show (if (!([] : List V).isEmpty) = true then _ else _)
        rw [if_neg (by simp)]
        exact ⟨.ref fp, rfl, q Hx fp fps Fs (e2.trans (Same.extN Cx.sm)) (hT2.ext Cx.sm) (fun b o e n => ne_of_none (e2 b o e n) nfp) Cx.ef Cx.lv M.end_ Cx.ln⟩
      · have hne : (!(ts.map V.ref).isEmpty) = true := by
          cases hPt with
          | nil => exact absurd rfl hL
          | cons r t => rfl
        show (if (!(ts.map V.ref).isEmpty) = true then _ else _)
        rw [if_pos hne]
        refine ⟨fun σ' H' => ∃ m', m' < (32 - ks.length) * 2 + (if L = [] then 0 else 1) ∧ ∃ (t : Nat) (Fs : List (List (List Nat))) (L ks : List (List Nat)) (fps : List Addr) (lp : Addr) (v2 v7 v8 : Option V), m' = (32 - ks.length) * 2 + (if L = [] then 0 else 1) ∧ σ' = [some (.ref a), some (.int c), v2, some (.ref D), some (.ref fp), some (.ref sp), some (.ref lp), v7, v8] ∧
            CH Hb H' fp sp lp fps Fs L ks ∧ CM hs c t Fs L ks, fun σ' H' z => z, ?_⟩
        have hPx : Paired (fun t l => TupAt Hx t l) ts L := paired_mono hPt fun _ _ z => z.same s9
        have hlx := s9 _ _ hlp
        -- fresh = {}
        intro dp hdp
        have sdp : Same Hx (upd Hx dp (.dT [])) := same_upd hdp
        refine ⟨.ref lp, rfl, lp, rfl, ⟨_, SqL.up (sdp _ _ hlx)⟩, for_list (K := K) (a := lp) (xs := ts.map V.ref) (fun i σ H5 => ∃ (kvs : List (List Key × V)) (ksf : List (List Nat)) (v2 v8 : Option V), σ = [some (.ref a), some (.int c), v2, some (.ref D), some (.ref fp), some (.ref sp), some (.ref lp), some (.ref dp), v8] ∧
            Same Hx H5 ∧ H5 dp = some (.dT kvs) ∧ kvs.map (·.1) = ksf.map keyL ∧ ksf.Nodup ∧ ∀ S, S ∈ ksf ↔ ∃ S0 ∈ L.take i, ∃ L1 ∈ lots, S = nextL hs S0 L1)
          ⟨[], [], v2, v8, rfl, sdp, upd_same, rfl, List.nodup_nil, fun S => by simp⟩ (fun i σ H5 _ ⟨_, _, _, _, _, z, _⟩ => SqL.up (z _ _ hlx)) ?_ ?_⟩
        · rintro i y σ H5 hi ⟨kvs, ksf, v2, v8, rfl, s5, hd5, hk5, nd5, hm5⟩
          obtain ⟨tc, htc, rfl⟩ := get_refs hi
          obtain ⟨Sc, hSc, hatc⟩ := paired_at hPx htc
          have sbx := Cx.sm.trans s5
          refine ⟨.ref D, rfl, D, rfl, ⟨_, SqL.up (sbx _ _ hlD)⟩, for_list (K := K) (a := D) (xs := us0.map V.ref) (fun j σ H6 => ∃ (kvs : List (List Key × V)) (ksf : List (List Nat)) (v2 : Option V), σ = [some (.ref a), some (.int c), v2, some (.ref D), some (.ref fp), some (.ref sp), some (.ref lp), some (.ref dp), some (.ref tc)] ∧
              Same Hx H6 ∧ H6 dp = some (.dT kvs) ∧ kvs.map (·.1) = ksf.map keyL ∧ ksf.Nodup ∧ ∀ S, S ∈ ksf ↔ (∃ S0 ∈ L.take i, ∃ L1 ∈ lots, S = nextL hs S0 L1) ∨ ∃ L1 ∈ lots.take j, S = nextL hs Sc L1)
            ⟨kvs, ksf, v2, rfl, s5, hd5, hk5, nd5, fun S => by rw [hm5]; simp⟩ (fun j σ H6 _ ⟨_, _, _, _, z, _⟩ => SqL.up ((Cx.sm.trans z) _ _ hlD)) ?_ ?_⟩
          · rintro j y σ H6 hj ⟨kvs, ksf, v2, rfl, s6, hd6, hk6, nd6, hm6⟩
            obtain ⟨tl, htl, rfl⟩ := get_refs hj
            obtain ⟨Ll, hLl, hatl⟩ := paired_at hPu htl
            have sbx6 := Cx.sm.trans s6
            have oks : ∀ S ∈ ksf, LotOk hs.length S := fun S hS => by
              rcases (hm6 S).mp hS with ⟨S0, _, L1, _, e⟩ | ⟨L1, _, e⟩ <;> (rw [e]; exact nextL_ok _ _ _)
            have hkl : kvs.length ≤ 32 := by
              have := congrArg List.length hk6
              rw [List.length_map, List.length_map] at this
              rw [this]
              exact lots_len hn5 nd6 oks
            refine ⟨.ref dp, rfl, .ref a, rfl, .ref tc, rfl, .ref tl, rfl, a, tc, tl, hs, Sc, Ll, rfl, hAb.same sbx6, ok, (hatc.same s6).lot, hatl.same sbx6, fun H7 p7 sm7 hp7 => ?_⟩
            have hd7 := sm7 _ _ hd6
            refine ⟨dp, _, rfl, DPut.t (k := keyL (nextL hs Sc Ll)) hd7 (by rw [keyL_V]; exact hp7) (small1000 (by omega)), ?_⟩
            obtain ⟨ksf', a1, a2, a3⟩ := putG_keys (f := keyL) keyL_inj (v := nextL hs Sc Ll) (x := .bl true) hk6
            refine ⟨_, ksf', _, rfl, fun b o e => ?_, upd_same, a1, a3 nd6, fun S => ?_⟩
            · rw [upd_ne (ne_of_none e hdp)]
              exact sm7 _ _ (s6 _ _ e)
            · rw [a2, hm6, take_succ hLl]
              constructor
              · rintro ((z | ⟨L1, h1, e⟩) | e)
                · exact .inl z
                · exact .inr ⟨L1, List.mem_append_left _ h1, e⟩
                · exact .inr ⟨Ll, List.mem_append_right _ (List.mem_singleton.mpr rfl), e⟩
              · rintro (z | ⟨L1, h1, e⟩)
                · exact .inl (.inl z)
                · rcases List.mem_append.mp h1 with z | z
                  · exact .inl (.inr ⟨L1, z, e⟩)
                  · rw [List.mem_singleton.mp z] at e
                    exact .inr e
          · rintro σ H6 ⟨kvs, ksf, v2, rfl, s6, hd6, hk6, nd6, hm6⟩
            refine ⟨kvs, ksf, _, _, rfl, s6, hd6, hk6, nd6, fun S => ?_⟩
            have hlen : us0.length = lots.length := Paired.length hPu
            rw [hm6, take_succ hSc, List.length_map, hlen, List.take_length]
            constructor
            · rintro (⟨S0, h1, z⟩ | ⟨L1, h1, e⟩)
              · exact ⟨S0, List.mem_append_left _ h1, z⟩
              · exact ⟨Sc, List.mem_append_right _ (List.mem_singleton.mpr rfl), L1, h1, e⟩
            · rintro ⟨S0, h1, L1, h2, e⟩
              rcases List.mem_append.mp h1 with z | z
              · exact .inl ⟨S0, z, L1, h2, e⟩
              · rw [List.mem_singleton.mp z] at e
                exact .inr ⟨L1, h2, e⟩
        · rintro σ H5 ⟨kvs, ksf, v2, v8, rfl, s5, hd5, hk5, nd5, hm5⟩
          have hlen : ts.length = L.length := Paired.length hPt
          rw [List.length_map, hlen, List.take_length] at hm5
          have C5 := Cx.same s5
          -- last = ..
          refine ⟨.ref dp, rfl, dp, kvs, rfl, .inl hd5, fun l2 bs hl2 hK => ?_⟩
          have hPk := isKeys_lots hK hk5
          have sl2 : Same H5 (upd H5 l2 (.lst (bs.map V.ref))) := same_upd hl2
          refine ⟨l2, bs, ksf, rfl, SqL.up upd_same, paired_mono hPk fun _ _ z => (z.same sl2).lot, fun ts' sp2 hperm hsp2 => ?_⟩
          obtain ⟨ls', hPl, hpl⟩ := paired_perm hperm hPk
          have sG : Same H5 (upd (upd H5 l2 (.lst (bs.map V.ref))) sp2 (.lst (ts'.map V.ref))) := sl2.trans (same_upd hsp2)
          have hG : (upd (upd H5 l2 (.lst (bs.map V.ref))) sp2 (.lst (ts'.map V.ref))) sp2 = some (.lst (ts'.map V.ref)) := upd_same
          generalize upd (upd H5 l2 (.lst (bs.map V.ref))) sp2 (.lst (ts'.map V.ref)) = G at sG hG
          have hPG : Paired (fun t l => TupAt G t l) ts' ls' := paired_mono hPl fun _ _ z => z.same sG
          have CG := C5.same sG
          obtain ⟨kvss, hks, hkk⟩ := CG.es
          have hksf : ksf.length ≤ 32 := lots_len hn5 nd5 fun S hS => by
            obtain ⟨S0, _, L1, _, e⟩ := (hm5 S).mp hS
            rw [e]
            exact nextL_ok _ _ _
          have hlt' : ls'.length ≤ 32 := by rw [hpl.length_eq]; exact hksf
          refine ⟨sp2, rfl, ⟨_, SqL.up hG⟩, fun D2 hD2 => ?_⟩
          have sD2 : ∀ us : List Addr, Same G (upd G D2 (.lst (us.map V.ref))) := fun us => same_upd hD2
          refine lc_list (K := K) (a := sp2) (xs := ts'.map V.ref) (fun j H6 => ∃ us : List Addr, H6 = upd G D2 (.lst (us.map V.ref)) ∧ Paired (fun t l => TupAt G t l) us ((ls'.take j).filter fun S => !decide (S ∈ ks)))
            ⟨[], rfl, .nil⟩ (fun j H6 _ h6 => ?_) ?_ ?_
          · obtain ⟨us, rfl, _⟩ := h6
            exact SqL.up (sD2 us _ _ hG)
          · rintro j y H6 hj ⟨us, rfl, hPus⟩
            obtain ⟨tl, htl, rfl⟩ := get_refs hj
            obtain ⟨S, hS, hat⟩ := paired_at hPG htl
            refine ⟨rfl, .ref tl, rfl, .ref sp, rfl, sp, _, rfl, DGet.t (k := keyL S) (sD2 us _ _ hks) (by rw [keyL_V]; exact sD2 us _ _ hat), _, rfl, ?_⟩
            show (if (!(valV kvss (keyL S)).isSome) = true then _ else _)
            rw [valG keyL_inj hkk]
            refine ite2 (fun hb => ?_) (fun hb => ?_)
            · refine ⟨.ref tl, rfl, _, upd_same, ?_, us ++ [tl], ?_, ?_⟩
              · have h1 : us.length = _ := Paired.length hPus
                have h2 := List.length_filter_le (fun S : List Nat => !decide (S ∈ ks)) (ls'.take j)
                rw [List.length_take] at h2
                rw [List.length_map]
                exact small1000 (by omega)
              · rw [upd_upd, List.map_append]
                rfl
              · have e3 : [S].filter (fun S => !decide (S ∈ ks)) = [S] := by
                  rw [List.filter_cons, if_pos (by simpa using hb)]
                  rfl
                rw [take_succ hS, List.filter_append, e3]
                exact Cb.paired_snoc (F := fun t l => TupAt G t l) hat hPus
            · refine ⟨us, rfl, ?_⟩
              have e3 : [S].filter (fun S => !decide (S ∈ ks)) = [] := by
                rw [List.filter_cons, if_neg (by simpa using hb)]
                rfl
              rw [take_succ hS, List.filter_append, e3, List.append_nil]
              exact hPus
          · rintro H6 ⟨us, rfl, hPus⟩
            have hlts : ts'.length = ls'.length := Paired.length hPl
            rw [List.length_map, hlts, List.take_length] at hPus
            have hL' : ∀ S, S ∈ ls'.filter (fun S => !decide (S ∈ ks)) ↔ S ∈ ksf ∧ S ∉ ks := fun S => by
              rw [List.mem_filter, hpl.mem_iff]
              simp
            have hll' := Nat.le_trans (List.length_filter_le (fun S : List Nat => !decide (S ∈ ks)) ls') hlt'
            generalize ls'.filter (fun S => !decide (S ∈ ks)) = L' at hPus hL' hll'
            have CD := CG.same (sD2 us)
            have hD2at : (upd G D2 (.lst (us.map V.ref))) D2 = some (.lst (us.map V.ref)) := upd_same
            have hPD : Paired (fun t l => TupAt (upd G D2 (.lst (us.map V.ref))) t l) us L' := paired_mono hPus fun _ _ z => z.same (sD2 us)
            have D2fp : D2 ≠ fp := (ne_of_none CG.ef hD2).symm
            generalize upd G D2 (.lst (us.map V.ref)) = G3 at CD hD2at hPD
            obtain ⟨kvs3, hk3, hkk3⟩ := CD.es
            -- for lot in last
            refine ⟨.ref D2, rfl, D2, rfl, ⟨_, SqL.up hD2at⟩, for_list (K := K) (a := D2) (xs := us.map V.ref) (fun i σ H7 => ∃ (kvs : List (List Key × V)) (ksn : List (List Nat)) (v2 : Option V), σ = [some (.ref a), some (.int c), v2, some (.ref D), some (.ref fp), some (.ref sp), some (.ref D2), some (.ref dp), v8] ∧
                (∀ b o, b ≠ sp → G3 b = some o → H7 b = some o) ∧ H7 sp = some (.dT kvs) ∧ kvs.map (·.1) = ksn.map keyL ∧ ksn.Nodup ∧ ∀ S, S ∈ ksn ↔ S ∈ ks ∨ S ∈ L'.take i)
              ⟨kvs3, ks, v2, rfl, fun b o _ e => e, hk3, hkk3, M.nd, fun S => by simp⟩ (fun i σ H7 _ ⟨_, _, _, _, z, _⟩ => SqL.up (z _ _ (ne_of hD2at hk3 (by intro y; cases y)) hD2at)) ?_ ?_⟩
            · rintro i y σ H7 hi ⟨kvs, ksn, v2, rfl, s7, hd7, hk7, nd7, hm7⟩
              obtain ⟨tl, htl, rfl⟩ := get_refs hi
              obtain ⟨S, hS, hat⟩ := paired_at hPD htl
              have oks : ∀ S ∈ ksn, LotOk hs.length S := fun S hS => by
                rcases (hm7 S).mp hS with z | z
                · obtain ⟨j, _, hf⟩ := (M.kk S).mp z
                  exact rchL_ok hf.1
                · obtain ⟨S0, _, L1, _, e⟩ := (hm5 S).mp ((hL' S).mp (List.mem_of_mem_take z)).1
                  rw [e]
                  exact nextL_ok _ _ _
              have hkl : kvs.length ≤ 32 := by
                have := congrArg List.length hk7
                rw [List.length_map, List.length_map] at this
                rw [this]
                exact lots_len hn5 nd7 oks
              have hat7 : H7 tl = some (.tup (lotV S)) := s7 _ _ (ne_of hat hk3 (by intro y; cases y)) hat
              refine ⟨.ref sp, rfl, .ref tl, rfl, sp, _, rfl, DPut.t (k := keyL S) hd7 (by rw [keyL_V]; exact hat7) (small1000 (by omega)), ?_⟩
              obtain ⟨ksn', a1, a2, a3⟩ := putG_keys (f := keyL) keyL_inj (v := S) (x := .bl true) hk7
              refine ⟨_, ksn', _, rfl, fun b o hb e => ?_, upd_same, a1, a3 nd7, fun S' => ?_⟩
              · rw [upd_ne hb]
                exact s7 _ _ hb e
              · rw [a2, hm7, take_succ hS, List.mem_append, List.mem_singleton, or_assoc]
            · rintro σ H7 ⟨kvs, ksn, v2, rfl, s7, hd7, hk7, nd7, hm7⟩
              have hlu : us.length = L'.length := Paired.length hPD
              rw [List.length_map, hlu, List.take_length] at hm7
              have fpsp : fp ≠ sp := ne_of CD.ef hk3 (by intro y; cases y)
              have hf7 := s7 _ _ fpsp CD.ef
              have M' := M.step hL hlots hm5 hL' hm7 nd7
              have hfl : fps.length = Fs.length := Paired.length CD.lv
              have hkl := M.ks_len hn5
              have hkl' := M'.ks_len hn5
              have htt := M.tt
              have hfsl := M.len
              refine ⟨.ref fp, rfl, .inl ⟨rfl, _, SqL.up hf7⟩, .ref D2, rfl, fp, _, _, rfl, rfl, hf7, by rw [List.length_map]; exact small1000 (by omega), ?_⟩
              have k8 : ∀ b o, b ≠ sp → b ≠ fp → G3 b = some o → (upd H7 fp (.lst (fps.map V.ref ++ [V.ref D2]))) b = some o := fun b o h1 h2 e => by
                rw [upd_ne h2]
                exact s7 _ _ h1 e
              refine ⟨_, ?_, t + 1, Fs ++ [L'], L', ksn, fps ++ [D2], D2, _, _, _, rfl, rfl, ⟨fun b o e => ?_, ?_, ?_, ⟨kvs, ?_, hk7⟩, ?_, nfp, nsp, D2fp, (fun q hq => ?_), fun F hF => ?_⟩, M'⟩
              · rw [if_neg hL]
                by_cases hL2 : L' = []
                · rw [if_pos hL2]
                  have := nodup_len M.nd (m := ksn) fun S hS => (hm7 S).mpr (.inl hS)
                  omega
                · rw [if_neg hL2]
                  have := M.grow (fun S hS => ((hL' S).mp hS).2) hm7 hL2
                  omega
              · exact k8 b o (ne_of_none e nsp) (ne_of_none e nfp) (CD.sm _ _ e)
              · rw [upd_same, List.map_append]
                rfl
              · refine Cb.paired_snoc (F := fun q ls => LvAt (upd H7 fp (.lst (fps.map V.ref ++ [V.ref D2]))) q ls) ?_ (paired_mem CD.lv fun q ls hq z => z.off CD.ef hk3 (CD.df q hq) k8)
                exact LvAt.off ⟨us, hD2at, hPD⟩ CD.ef hk3 D2fp k8
              · rw [upd_ne fpsp.symm]
                exact hd7
              · exact LvAt.off ⟨us, hD2at, hPD⟩ CD.ef hk3 D2fp k8
              · rcases List.mem_append.mp hq with z | z
                · exact CD.df q z
                · rw [List.mem_singleton.mp z]
                  exact D2fp
              · rcases List.mem_append.mp hF with z | z
                · exact CD.ln F z
                · rw [List.mem_singleton.mp z]
                  exact hll'
end
end N

set_option Elab.async false
set_option linter.all false
set_option maxRecDepth 100000
set_option maxHeartbeats 2000000
namespace N
open Cb (lotV combs combsOf combsOf_sub)
open PySem PySem.Spec PyProof.Rows L2
def dayV : Option Nat → V
  | none => .non
  | some d => .int (d : Int)
def missP (S part : List Nat) : List Nat := part.filter fun s => !decide (s ∈ S)
theorem missP_emp {S part : List Nat} : (lotV (missP S part)).isEmpty = part.all fun s => decide (s ∈ S) := by
  induction part with
  | nil => rfl
  | cons s part ih =>
    unfold missP at ih ⊢
    rw [List.filter_cons, List.all_cons]
    by_cases h1 : s ∈ S
    · simp only [h1, decide_true, Bool.not_true, Bool.false_eq_true, if_false, Bool.true_and]
      exact ih
    · simp only [h1, decide_false, Bool.not_false, if_true, Bool.false_and]
      rfl
section
variable {P : Program} {w : World} {K : PySem.W.Frag} {mg : Str → Option Value} {base : Heap}
def sp_lholds (K : PySem.W.Frag) : Sp := fun vs H Q _ => ∃ (b g : Addr) (S goal : List Nat), vs = [.ref b, .ref g] ∧ LotAt K H b S ∧ LotAt K H g goal ∧ goal.length ≤ 1000 ∧ ∀ H', Same H H' → Q (.bl (goal.all fun s => decide (s ∈ S))) H'
theorem sc_lholds : FnScope ["lot", "part", "one"] ["lot", "part"] (defScope s__law_holds) := ⟨rfl, rfl, rfl, by decide +kernel, rfl, by decide +kernel, by decide +kernel⟩
theorem ok_lholds (T : Txt K mg) : FnOk P w K mg base CX0 1 T.d__law_holds.f T.d__law_holds.fd ["lot", "part"] (sp_lholds K) := by
  refine T.d__law_holds.F.ok sc_lholds (fun vs H Q E h => ?_) (fun cdv A outer s H vs Q E hr h => ?_)
  · obtain ⟨b, g, S, goal, rfl, _⟩ := h
    rfl
  · obtain ⟨b, g, S, goal, rfl, hB, hG, hgl, q⟩ := h
    have nd := sc_lholds.nd
    refine ⟨_, pss_one (ps_ret (pe_cmpR (op_emp hr.units) (pe_lc (own := [("one", 2)]) (g := gName 2) rfl nd (pi_tup (pv 1))
        (blkOk_by (N := ["lot", "part", "one"]) (sc := defScope s__law_holds) (by decide +kernel)) (fun _ _ _ _ _ => pg_name (i := 2) nd rfl (.inl rfl))
        (fun _ _ _ _ _ => pts_one (pt_cmpR (o_notIn K) (pv 2) (pv 0) (by rfl)))
        (fun _ _ _ _ _ => pv 2)) (pe_lst pa_nil) (nomark _))), ?_⟩
    refine ⟨.ref g, rfl, g, rfl, ⟨_, hG⟩, fun D hD => lc_tup (K := K) (a := g) (xs := lotV goal) (fun j H4 => H4 = upd H D (.lst (lotV (missP S (goal.take j)))))
      rfl (fun j H4 _ e => by rw [e]; exact hG.same (same_upd hD)) ?_ ?_⟩
    · rintro j y H4 hj rfl
      obtain ⟨k, hk, rfl⟩ := get_lotV hj
      have smD : Same H (upd H D (.lst (lotV (missP S (goal.take j))))) := same_upd hD
      have em : missP S (goal.take (j + 1)) = missP S (goal.take j) ++ missP S [k] := by rw [take_succ hk]; unfold missP; rw [List.filter_append]
      refine ⟨rfl, .int (k : Int), rfl, .ref b, rfl, b, lotV S, rfl, .inr (hB.same smD), rfl, flat_lot S, ?_⟩
      rw [inV_lot]
      refine ⟨!decide (k ∈ S), rfl, ?_⟩
      by_cases h1 : k ∈ S
      · rw [decide_eq_true h1]
        refine iteF ?_
        show _ = _
        have e2 : missP S [k] = [] := by unfold missP; rw [List.filter_cons_of_neg (by simp [h1])]; rfl
        rw [em, e2, List.append_nil]
      · rw [decide_eq_false h1]
        refine iteT ⟨.int (k : Int), rfl, _, upd_same, ?_, ?_⟩
        · rw [List.length_map]
          have h3 : (missP S (goal.take j)).length ≤ (goal.take j).length := List.length_filter_le _ _
          have h4 : (goal.take j).length ≤ goal.length := by rw [List.length_take]; exact Nat.min_le_right _ _
          exact small1000 (by omega)
        · show upd _ _ _ = _
          have e2 : missP S [k] = [k] := by unfold missP; rw [List.filter_cons_of_pos (by simp [h1])]; rfl
          rw [upd_upd, em, e2]
          unfold lotV
          rw [List.map_append]
          rfl
    · rintro H4 rfl
      rw [List.length_map, List.take_length]
      refine ⟨Nat.zero_le _, fun e0 he0 => ?_⟩
      have smD : Same H (upd H D (.lst (lotV (missP S goal)))) := same_upd hD
      refine ⟨D, e0, lotV (missP S goal), natD (missP S goal), rfl, rfl, SqL.up (same_upd he0 _ _ upd_same), dp_nats _, shaped_nats _, SqL.up upd_same, ?_⟩
      show Q (.bl (lotV (missP S goal)).isEmpty) _
      rw [missP_emp]
      exact q _ (smD.trans (same_upd he0))
def sp_days (K : PySem.W.Frag) (L : List Addr) (PT : Addr) : Sp := fun vs H Q _ => ∃ (a g : Addr) (h : List (List Nat)) (c : Nat) (goal : List Nat), vs = [.ref a, .int c, .ref g] ∧ HouseAt K H a h ∧ HouseOk h ∧ h.length ≤ 5 ∧ LotAt K H g goal ∧ goal.length ≤ 1000 ∧ Tb L PT lamQ H ∧
  ∀ (H' : Hp) (o : Option Nat), LamX.ExtN H H' → Tb L PT lamQ H' → IsDays h c goal o → Q (dayV o) H'
theorem sc_days : FnScope ["house", "coins", "goal", "day", "some", "lot"] ["house", "coins", "goal"] (defScope s__law_days) := ⟨rfl, rfl, rfl, by decide +kernel, rfl, by decide +kernel, by decide +kernel⟩
def onesV (n : Nat) : List V := lotV (List.replicate n 1)
theorem ok_days {L : List Addr} {c PT : Addr} (T : Txt K mg) (hc : T.d__law_lots.fd.code = .ref c) (TB : LamX.TabB base mg c PT) : FnOk P w K mg base CX0 4 T.d__law_days.f T.d__law_days.fd ["house", "coins", "goal"] (sp_days K L PT) := by
  have G1 := ok_lholds (P := P) (w := w) (base := base) T
  have G2 := ok_covered (P := P) (w := w) (base := base) (L := L) T hc TB
  refine T.d__law_days.F.ok sc_days (fun vs H Q E h => ?_) (fun cdv A outer s H vs Q E hr h => ?_)
  · obtain ⟨a, g, h, c, goal, rfl, _⟩ := h
    rfl
  · obtain ⟨a, g, hs, c, goal, rfl, hA, ok, hn5, hG, hgl, hT, q⟩ := h
    have nd := sc_days.nd
    have hr1 : Room 1 _ := hr.mono (by decide)
    refine ⟨_, pss_cons (ps_for PassesOwn.never rfl (pi_enum (by rfl) T.n_enumerate (pa_cons (pe_call G2 hr (by rfl) T.d__law_covered.g T.d__law_covered.F.kp T.d__law_covered.b .nil pass0 (pa_cons (pv 0) (pa_cons (pv 1) pa_nil))) pa_nil)) (pg_tup rfl (pgs_cons (pg_name (i := 3) nd rfl (.inl rfl)) (pgs_cons (pg_name (i := 4) nd rfl (.inl rfl)) pgs_nil)))
        (pss_one (ps_if (pt_cmpR (op_nemp hr.units) (pe_lc (own := [("lot", 5)]) (g := gName 5) rfl nd (pi_list (pv 4))
            (blkOk_by (N := ["house", "coins", "goal", "day", "some", "lot"]) (sc := defScope s__law_days) (by decide +kernel)) (fun _ _ _ _ _ => pg_name (i := 5) nd rfl (.inl rfl))
            (fun _ _ _ _ _ => pts_one (pt_val (pe_call G1 hr1 (by rfl) T.d__law_holds.g T.d__law_holds.F.kp T.d__law_holds.b .nil pass0 (pa_cons (pv 5) (pa_cons (pv 2) pa_nil)))))
            (fun _ _ _ _ _ => pe_int)) (pe_lst pa_nil) (nomark _))
          (pss_one (ps_ret (pv 3))) pss_nil)))
      (pss_one (ps_ret pe_non)), ?_⟩
    refine ⟨.ref a, rfl, .int c, rfl, a, hs, c, rfl, hA, ok, hn5, hT, fun H1 p fps Fs e1 hT1 hp1 hl1 hP1 LV LN => ?_⟩
    have hlen : fps.length = Fs.length := Paired.length hP1
    refine ⟨p, _, rfl, SqL.up hl1, for_enumL (K := K) (a := p) (xs := fps.map V.ref) (fun i σ H2 => Same H1 H2 ∧ (∀ (j : Nat) (F : List (List Nat)), j < i → Fs[j]? = some F → ¬ ∃ S ∈ F, ∀ k ∈ goal, k ∈ S) ∧ ∃ v3 v4 v5 : Option V, σ = [some (.ref a), some (.int c), some (.ref g), v3, v4, v5])
      ⟨Same.refl _, fun j F hj => by omega, none, none, none, rfl⟩ (fun i σ H2 _ h3 => SqL.up (h3.1 _ _ hl1)) ?_ ?_⟩
    · rintro i x T2 σ H2 hi ⟨sm, hno, v3, v4, v5, rfl⟩ hT2
      obtain ⟨qa, hqa, rfl⟩ := get_refs hi
      obtain ⟨F, hF, ts, hts, hPt⟩ := paired_at hP1 hqa
      have hFl := LN F (List.mem_of_getElem? hF)
      refine ⟨T2, [.int (i : Nat), .ref qa], rfl, .inl (.inl upd_same), rfl, .int (i : Nat), [.ref qa], rfl, .ref qa, [], rfl, rfl, ?_⟩
      have sm3 : Same H1 (upd H2 T2 (.tup [.int (i : Nat), .ref qa])) := Same.trans sm (same_upd hT2)
      generalize upd H2 T2 (.tup [.int (i : Nat), .ref qa]) = H3 at sm3
      have htsl : ts.length = F.length := Paired.length hPt
      refine ⟨.ref qa, rfl, qa, rfl, ⟨_, SqL.up (sm3 _ _ hts)⟩, fun D hD => lc_list (K := K) (a := qa) (xs := ts.map V.ref) (fun j H4 => ∃ n : Nat, n ≤ j ∧ (n = 0 ↔ ∀ S ∈ F.take j, ¬ ∀ k ∈ goal, k ∈ S) ∧ Same H3 H4 ∧ H4 D = some (.lst (onesV n)))
        ⟨0, Nat.le_refl _, by simp, same_upd hD, upd_same⟩ (fun j H4 _ ⟨_, _, _, z, _⟩ => SqL.up (z _ _ (sm3 _ _ hts))) ?_ ?_⟩
      · rintro j y H4 hj ⟨n, hn, hn0, sm4, hd4⟩
        obtain ⟨t, ht, rfl⟩ := get_refs hj
        obtain ⟨S, hS, hat⟩ := paired_at hPt ht
        have hjl : j < ts.length := (List.getElem?_eq_some_iff.mp ht).1
        have hG4 : LotAt K H4 g goal := (hG.ext e1).same (sm3.trans sm4)
        refine ⟨rfl, .ref t, rfl, .ref g, rfl, t, g, S, goal, rfl, (hat.same (sm3.trans sm4)).lot, hG4, hgl, fun H5 sm5 => ⟨_, rfl, ?_⟩⟩
        refine ite2 (fun hb => ?_) (fun hb => ?_)
        · refine ⟨_, sm5 _ _ hd4, ?_, n + 1, by omega, ?_, fun b o e => ?_, ?_⟩
          · unfold onesV
            rw [List.length_map, List.length_replicate]
            exact small1000 (by omega)
          · constructor
            · intro z; omega
            · intro z
              have := z S (by rw [take_succ hS]; exact List.mem_append_right _ (List.mem_singleton.mpr rfl))
              exact absurd (fun k hk => by simpa using List.all_eq_true.mp hb k hk) this
          · rw [upd_ne (ne_of_none e hD)]
            exact sm5 _ _ (sm4 _ _ e)
          · rw [upd_same]
            unfold onesV lotV
            rw [List.replicate_succ', List.map_append]
            rfl
        · refine ⟨n, by omega, ?_, sm4.trans sm5, sm5 _ _ hd4⟩
          rw [hn0, take_succ hS]
          constructor
          · intro z S' hS'
            rcases List.mem_append.mp hS' with y | y
            · exact z S' y
            · rw [List.mem_singleton.mp y]
              intro hall
              exact hb (List.all_eq_true.mpr fun k hk => decide_eq_true (hall k hk))
          · intro z S' hS'
            exact z S' (List.mem_append_left _ hS')
      · rintro H4 ⟨n, hn, hn0, sm4, hd4⟩
        rw [List.length_map, htsl, List.take_length] at hn0
        refine ⟨Nat.zero_le _, fun e0 he0 => ⟨D, e0, onesV n, natD (List.replicate n 1), rfl, rfl, SqL.up (same_upd he0 _ _ hd4), dp_nats _, shaped_nats _, SqL.up upd_same, _, rfl, ?_⟩⟩
        have sm9 : Same H1 (upd H4 e0 (.lst [])) := (sm3.trans sm4).trans (same_upd he0)
        show (if (!(onesV n).isEmpty) = true then _ else _)
        cases n with
        | zero =>
          rw [if_neg (by simp [onesV])]
          refine ⟨sm9, fun j F' hj hF' => ?_, _, _, _, rfl⟩
          rcases Nat.lt_or_ge j i with z | z
          · exact hno j F' z hF'
          · have : j = i := by omega
            subst this
            have e : F' = F := Option.some.inj (hF'.symm.trans hF)
            subst e
            rintro ⟨S, hS, hall⟩
            exact (hn0.mp rfl) S hS hall
        | succ n =>
          rw [if_pos (by simp [onesV, List.replicate_succ])]
          refine ⟨_, rfl, ?_⟩
          have hex : ∃ S ∈ F, ∀ k ∈ goal, k ∈ S := Classical.byContradiction fun z => by
            have := hn0.mpr fun S hS hall => z ⟨S, hS, hall⟩
            omega
          exact q _ (some i) (e1.trans (Same.extN sm9)) (hT1.ext sm9) (isDays_some LV hF hex fun j F' hj hF' => hno j F' hj hF')
    · rintro σ H2 ⟨sm, hno, v3, v4, v5, rfl⟩
      rw [List.length_map, hlen] at hno
      exact q _ none (e1.trans (Same.extN sm)) (hT1.ext sm) (isDays_no LV fun j F hF => hno j F (List.getElem?_eq_some_iff.mp hF).1 hF)
def sp_number (K : PySem.W.Frag) (L : List Addr) (PT : Addr) : Sp := fun vs H Q _ => ∃ (a g : Addr) (h : List (List Nat)) (goal : List Nat), vs = [.ref a, .ref g] ∧ HouseAt K H a h ∧ HouseOk h ∧ h.length ≤ 5 ∧ LotAt K H g goal ∧ LotOk h.length goal ∧ Tb L PT lamQ H ∧
  ∀ (H' : Hp) (c : Nat), LamX.ExtN H H' → Tb L PT lamQ H' → IsNum h goal c → c ≤ h.length → Q (.int (c : Int)) H'
theorem sc_number : FnScope ["house", "goal", "coins"] ["house", "goal"] (defScope s__law_number) := ⟨rfl, rfl, rfl, by decide +kernel, rfl, by decide +kernel, by decide +kernel⟩
/-- the numbers of coins, up to a bound, that can cover a goal -/
noncomputable def cans (h : List (List Nat)) (goal : List Nat) (n : Nat) : List Nat := open Classical in (List.range n).filter fun c => decide (Can h c goal)
theorem cans_succ {h : List (List Nat)} {goal : List Nat} {n : Nat} : (Can h n goal → cans h goal (n + 1) = cans h goal n ++ [n]) ∧ (¬ Can h n goal → cans h goal (n + 1) = cans h goal n) := by
  unfold cans
  rw [List.range_succ, List.filter_append]
  constructor
  · intro z
    rw [List.filter_cons_of_pos (by simp [z])]
    rfl
  · intro z
    rw [List.filter_cons_of_neg (by simp [z])]
    simp
theorem cans_head {h : List (List Nat)} {goal : List Nat} {n : Nat} (hc : ∃ c, c < n ∧ Can h c goal) : ∃ c r, cans h goal n = c :: r ∧ IsNum h goal c ∧ c < n := by
  induction n with
  | zero => obtain ⟨c, hc, _⟩ := hc; omega
  | succ n ih =>
    rcases Classical.em (∃ c, c < n ∧ Can h c goal) with z | z
    · obtain ⟨c, r, e, hn, hlt⟩ := ih z
      rcases Classical.em (Can h n goal) with y | y
      · exact ⟨c, r ++ [n], by rw [cans_succ.1 y, e]; rfl, hn, by omega⟩
      · exact ⟨c, r, by rw [cans_succ.2 y, e], hn, by omega⟩
    · obtain ⟨c, hlt, hcan⟩ := hc
      have ec : c = n := by
        rcases Nat.lt_or_ge c n with y | y
        · exact absurd ⟨c, y, hcan⟩ z
        · omega
      subst ec
      refine ⟨c, [], ?_, ⟨hcan, fun c' hc' hcan' => z ⟨c', hc', hcan'⟩⟩, by omega⟩
      rw [cans_succ.1 hcan]
      have e0 : cans h goal c = [] := by
        unfold cans
        rw [List.filter_eq_nil_iff]
        intro x hx
        simp only [decide_eq_true_eq]
        exact fun y => z ⟨x, List.mem_range.mp hx, y⟩
      rw [e0]
      rfl
theorem cans_len (h : List (List Nat)) (goal : List Nat) (n : Nat) : (cans h goal n).length ≤ n := by
  unfold cans
  have := List.length_filter_le (fun c => @decide (Can h c goal) (Classical.propDecidable _)) (List.range n)
  rw [List.length_range] at this
  exact this
theorem ok_number {L : List Addr} {c PT : Addr} (T : Txt K mg) (hc : T.d__law_lots.fd.code = .ref c) (TB : LamX.TabB base mg c PT) : FnOk P w K mg base CX0 5 T.d__law_number.f T.d__law_number.fd ["house", "goal"] (sp_number K L PT) := by
  have G1 := ok_days (P := P) (w := w) (base := base) (L := L) T hc TB
  refine T.d__law_number.F.ok sc_number (fun vs H Q E h => ?_) (fun cdv A outer s H vs Q E hr h => ?_)
  · obtain ⟨a, g, h, goal, rfl, _⟩ := h
    rfl
  · obtain ⟨a, g, hs, goal, rfl, hA, ok, hn5, hG, okG, hT, q⟩ := h
    have nd := sc_number.nd
    refine ⟨_, pss_one (ps_ret (pe_ix ix_list (pe_lc (own := [("coins", 2)]) (g := gName 2) rfl nd (pi_range1 (by rfl) T.n_range (pa_cons (pe_op op_add (pe_callB call_len_seq (by rfl) T.n_len PySem.boot_len (pa_cons (pv 0) pa_nil)) pe_int) pa_nil))
        (blkOk_by (N := ["house", "goal", "coins"]) (sc := defScope s__law_number) (by decide +kernel)) (fun _ _ _ _ _ => pg_name (i := 2) nd rfl (.inl rfl))
        (fun _ _ _ _ _ => pts_one (pt_cmpR op_notN (pe_call G1 hr (by rfl) T.d__law_days.g T.d__law_days.F.kp T.d__law_days.b .nil pass0 (pa_cons (pv 0) (pa_cons (pv 2) (pa_cons (pv 1) pa_nil)))) pe_non (nomark _)))
        (fun _ _ _ _ _ => pv 2)) pe_int (fun _ _ => rfl))), ?_⟩
    obtain ⟨rs, hR, hP⟩ := id hA
    have hlv : (rs.map V.ref).length = hs.length := by rw [List.length_map]; exact Paired.length hP
    refine ⟨.ref a, rfl, a, _, rfl, .inr hR, _, 1, rfl, rfl, ?_⟩
    have en : ((((rs.map V.ref).length : Nat) : Int) + 1).toNat = hs.length + 1 := by rw [hlv]; omega
    refine ⟨_, rfl, by rw [hlv]; omega, by rw [hlv]; omega, fun D hD => ?_⟩
    show ∃ W, _
    rw [en]
    refine lc_range (lo := 0) (n := hs.length + 1) (fun i H2 => LamX.ExtN H H2 ∧ Tb L PT lamQ H2 ∧ H2 D = some (.lst (lotV (cans hs goal i))))
      ⟨Same.extN (same_upd hD), hT.ext (same_upd hD), by rw [upd_same]; rfl⟩ ?_ ?_
    · rintro i H2 hi ⟨e2, hT2, hd2⟩
      refine ⟨rfl, .ref a, rfl, .int (0 + (i : Int)), rfl, .ref g, rfl, a, g, hs, i, goal, by rw [Int.zero_add]; rfl, hA.ext e2, ok, hn5, hG.ext e2, by have := okG.len; omega, hT2, fun H5 o e5 hT5 hdy => ?_⟩
      have hd5 := e5 _ _ hd2 (fun ps z => by cases z)
      have hz := isDays_none hdy
      refine ⟨rfl, _, rfl, ?_⟩
      cases o with
      | none =>
        have hno : ¬ Can hs i goal := hz.mp rfl
        show (if (!decide (V.non = V.non)) = true then _ else _)
        rw [if_neg (by simp)]
        exact ⟨e2.trans e5, hT5, by rw [cans_succ.2 hno]; exact hd5⟩
      | some d =>
        have hcan : Can hs i goal := Classical.byContradiction fun z => by
          have := hz.mpr z
          cases this
        show (if (!decide (V.int (d : Int) = V.non)) = true then _ else _)
        rw [if_pos (by simp)]
        refine ⟨_, rfl, _, hd5, ?_, fun b o e n => ?_, ?_, ?_⟩
        · rw [List.length_map]
          have := cans_len hs goal i
          exact small1000 (by omega)
        · rw [upd_ne (ne_of_none e hD)]
          exact e5 _ _ (e2 _ _ e n) n
        · exact hT5.lst hd5
        · rw [upd_same, cans_succ.1 hcan, Int.zero_add]
          unfold lotV
          rw [List.map_append]
          rfl
    · rintro H2 ⟨e2, hT2, hd2⟩
      obtain ⟨c0, r, ec, hnum, hlt⟩ := cans_head (h := hs) (goal := goal) (n := hs.length + 1) ⟨hs.length, by omega, can_all ok okG⟩
      rw [ec] at hd2
      refine ⟨D, _, 0, .int (c0 : Int), rfl, rfl, SqL.up hd2, atI_nat (j := 0) rfl, ?_⟩
      exact q H2 c0 e2 hT2 hnum (by omega)
end
end N

set_option Elab.async false
set_option linter.all false
set_option maxRecDepth 100000
set_option maxHeartbeats 2000000
namespace N
open Cb (lotV combs combsOf combsOf_sub)
open PySem PySem.Spec PyProof.Rows L2
section
variable {P : Program} {w : World} {K : PySem.W.Frag} {mg : Str → Option Value} {base : Heap}
def sp_cover_row (K : PySem.W.Frag) : Sp := fun vs H Q _ => ∃ (a g : Addr) (h : List (List Nat)) (c : Nat) (l : List Nat), vs = [.ref a, .int c, .ref g] ∧ HouseAt K H a h ∧ HouseOk h ∧ c ≤ 7 ∧ LotAt K H g l ∧ LotOk h.length l ∧ l ≠ [] ∧
  (∀ H', Same H H' → IsDays h c l none → Q .non H') ∧ ∀ (H' : Hp) (p : Addr) (Ls : List (List Nat)) (d : Nat), Same H H' → LotsAt K H' p Ls → IsDays h c l (some d) → Ls.length = d → RowOk h c l Ls → d < 768 → Q (.ref p) H'
theorem sc_cover_row : FnScope ["house", "coins", "goal"] ["house", "coins", "goal"] (defScope s_cover_row) := ⟨rfl, rfl, rfl, by decide +kernel, rfl, by decide +kernel, by decide +kernel⟩
theorem ok_cover_row (T : Txt K mg) : FnOk P w K mg base CX0 6 T.d_cover_row.f T.d_cover_row.fd ["house", "coins", "goal"] (sp_cover_row K) := by
  have G1 := ok_check_cover (P := P) (w := w) (base := base) T
  have G2 := ok_quickest (P := P) (w := w) (base := base) T
  refine T.d_cover_row.F.ok sc_cover_row (fun vs H Q E h => ?_) (fun cdv A outer s H vs Q E hr h => ?_)
  · obtain ⟨a, g, h, c, l, rfl, _⟩ := h
    rfl
  · obtain ⟨a, g, hs, c, l, rfl, hA, ok, hc, hL, okL, hne, qn, q⟩ := h
    have hr4 : Room 4 _ := hr.mono (by decide)
    refine ⟨_, pss_cons (ps_expr (pe_call G1 hr (by rfl) T.d__check_cover.g T.d__check_cover.F.kp T.d__check_cover.b .nil pass0 (pa_cons (pv 0) (pa_cons (pv 1) (pa_cons (pv 2) pa_nil)))))
      (pss_one (ps_ret (pe_call G2 hr4 (by rfl) T.d_quickest_row.g T.d_quickest_row.F.kp T.d_quickest_row.b .nil pass0 (pa_cons (pv 0) (pa_cons (pe_tup (pa_cons (pv 1) pa_nil)) (pa_cons (pv 2) pa_nil)))))), ?_⟩
    refine ⟨.ref a, rfl, .int c, rfl, .ref g, rfl, a, g, hs, c, l, rfl, hA, ok, hc, hL, okL, hne, fun H1 sm1' => ?_⟩
    refine ⟨.ref a, rfl, .int c, rfl, (by show 1 ≤ sizeLine; decide), fun tp htp => ⟨.ref g, rfl, ?_⟩⟩
    have smt : Same H1 (upd H1 tp (.tup [.int (c : Int)])) := same_upd htp
    have sm1 := sm1'.trans smt
    exact ⟨a, tp, g, hs, [c], l, rfl, hA.same sm1, ok, SqT.up upd_same, Nat.le_refl 1, (by show 1 ≤ 6; decide), hL.same sm1, okL, fun H2 sm2 hd => qn H2 (sm1.trans sm2) (isDays_first.mpr (hd.iff fun _ => covA_one)), fun H2 p Ls d sm2 h1 h2 h3 h4 h5 => q H2 p Ls d (sm1.trans sm2) h1 (isDays_first.mpr (h2.iff fun _ => covA_one)) h3 h4.one h5⟩
def sp_days_to (K : PySem.W.Frag) : Sp := fun vs H Q _ => ∃ (a g : Addr) (h : List (List Nat)) (c : Nat) (l : List Nat), vs = [.ref a, .int c, .ref g] ∧ HouseAt K H a h ∧ HouseOk h ∧ c ≤ 7 ∧ LotAt K H g l ∧ LotOk h.length l ∧ l ≠ [] ∧
  ∀ (H' : Hp) (o : Option Nat), Same H H' → IsDays h c l o → Q (dayV o) H'
theorem sc_days_to : FnScope ["house", "coins", "goal", "row"] ["house", "coins", "goal"] (defScope s_days_to) := ⟨rfl, rfl, rfl, by decide +kernel, rfl, by decide +kernel, by decide +kernel⟩
theorem ok_days_to (T : Txt K mg) : FnOk P w K mg base CX0 7 T.d_days_to.f T.d_days_to.fd ["house", "coins", "goal"] (sp_days_to K) := by
  have G := ok_cover_row (P := P) (w := w) (base := base) T
  refine T.d_days_to.F.ok sc_days_to (fun vs H Q E h => ?_) (fun cdv A outer s H vs Q E hr h => ?_)
  · obtain ⟨a, g, h, c, l, rfl, _⟩ := h
    rfl
  · obtain ⟨a, g, hs, c, l, rfl, hA, ok, hc, hL, okL, hne, q⟩ := h
    have nd := sc_days_to.nd
    refine ⟨_, pss_cons (ps_set (i := 3) nd rfl (.inl rfl) (pe_call G hr (by rfl) T.d_cover_row.g T.d_cover_row.F.kp T.d_cover_row.b .nil pass0 (pa_cons (pv 0) (pa_cons (pv 1) (pa_cons (pv 2) pa_nil)))))
      (pss_one (ps_ret (pe_ifExp (pt_cmpR op_isN (pv 3) pe_non (nomark _)) pe_non (pe_callB call_len_seq (by rfl) T.n_len PySem.boot_len (pa_cons (pv 3) pa_nil))))), ?_⟩
    refine ⟨.ref a, rfl, .int c, rfl, .ref g, rfl, a, g, hs, c, l, rfl, hA, ok, hc, hL, okL, hne, fun H1 sm1 hd => ?_, fun H1 p Ls d sm1 hLs hd hlen _ _ => ?_⟩
    · refine ⟨.non, rfl, rfl, _, rfl, ?_⟩
      show (if decide (V.non = V.non) = true then _ else _)
      rw [decide_eq_true rfl, if_pos rfl]
      exact q H1 none sm1 hd
    · refine ⟨.ref p, rfl, rfl, _, rfl, ?_⟩
      show (if decide (V.ref p = V.non) = true then _ else _)
      rw [decide_eq_false (by intro z; cases z), if_neg Bool.false_ne_true]
      obtain ⟨ts, h1, h2⟩ := hLs
      refine ⟨.ref p, rfl, p, _, rfl, .inr h1, ?_⟩
      have e : (ts.map V.ref).length = d := by rw [List.length_map, Paired.length h2, hlen]
      rw [e]
      exact q H1 (some d) sm1 hd
end
end N

set_option Elab.async false
set_option linter.all false
set_option maxRecDepth 100000
set_option maxHeartbeats 2000000
/-! sorted lots, in their order; closed_family -/
namespace N
open Cb (lotV combs combsOf combsOf_sub)
open PySem PySem.Spec PyProof.Rows L2 PySem.W
abbrev tupLe : List Nat → List Nat → Bool := PySem.W.dataLe false So.lotD
/-- sorted(lots): in the order of tuples -/
theorem cr_sortLots2 {X : Cx} (hu : X.A.units + 100 < cLine) : CallR X (.builtin "sorted") (fun xs H Q => ∃ (a : Addr) (ts : List Addr) (ls : List (List Nat)), xs = [.ref a] ∧ SqL X.K H a (ts.map V.ref) ∧ Paired (fun t l => LotAt X.K H t l) ts ls ∧
    ∀ (ts' : List Addr) (p : Addr), Paired (fun t l => LotAt X.K H t l) ts' (ls.mergeSort tupLe) → Paired (fun t l => (t, l) ∈ ts.zip ls) ts' (ls.mergeSort tupLe) → H p = none → Q (.ref p) (upd H p (.lst (ts'.map V.ref)))) := by
  intro pins s σ H xs us Q I r h
  obtain ⟨a, ts, ls, rfl, hA, hP, q⟩ := h
  obtain rfl := Vals.ref1 r
  obtain ⟨its, rv, hl, hz⟩ := I.list hA
  have E0 := So.each_lots I rv hP
  have E := So.each_zip (Z := ts.zip ls) (fun p hp => hp) E0 rv
  have hits := St.vals_are rv
  have hlen : its.length = ts.length := by rw [hits, List.length_map]
  rw [List.length_map] at hz
  have key : EachIs (fun v l => ∃ as, Reads (sortingHeap (copyHeap s.heap its) (s.heap.objs.size + 1) its) v (So.lotD l) as) its ls :=
    St.each_mono_b (fun v l (h : So.IsT X H s.heap v l) => by
      obtain ⟨t, rfl, _, hI⟩ := h
      exact ⟨[], (hI.keeps fun b o e => sorting_copy_old e).reads⟩) E0
  refine sorted_vals (κ := dataKind (sortingHeap (copyHeap s.heap its) (s.heap.objs.size + 1) its) (ls.map So.lotD)) hl.isList (St.sortsAt_lots (s := { s with heap := sortingHeap (copyHeap s.heap its) (s.heap.objs.size + 1) its }) key (by show X.A.units + 1 + 1 + 1 < cLine; omega)) (by omega) ?_
  have hp := St.sortVals_perm (κ := dataKind (sortingHeap (copyHeap s.heap its) (s.heap.objs.size + 1) its) (ls.map So.lotD)) its
  have hs := sortVals_data (enc := So.lotD) false E key (St.all_alike ls)
  generalize sortVals _ false its its = out at hp hs
  obtain ⟨ts', rfl⟩ := St.refs_of (ts := ts) fun u hu => by rw [← hits]; exact hp.mem_iff.mp hu
  have hp' : ts'.Perm ts := St.perm_refs (by rw [← hits]; exact hp)
  obtain ⟨ts2, e2, p2⟩ := So.each_back (So.each_fst hs)
  have e3 : ts2 = ts' := by
    have := congrArg (List.map fun v => match v with
      | Value.ref a => a
      | _ => (0 : Addr)) e2
    rw [List.map_map, List.map_map] at this
    have e : ∀ l : List Addr, l.map ((fun v => match v with
      | Value.ref a => a
      | _ => (0 : Addr)) ∘ Value.ref) = l := fun l => by
        conv => rhs; rw [← List.map_id l]
        rfl
    rw [e, e] at this
    exact this.symm
  subst e3
  have pz := So.each_mem hs
  obtain ⟨ep, he'⟩ := PyProof.Rows.sortedAll_at s.heap its (ts2.map Value.ref).toArray
  have hl' : (ts2.map V.ref).length ≤ sizeLine := by rw [List.length_map, hp'.length_eq]; exact hz
  exact ⟨.ref _, upd H (s.heap.objs.size + 1) (.lst (ts2.map V.ref)), I.laid (t' := s.toks) (fun _ _ => PyProof.Rows.sortedAll_old) (Nat.le_succ _) ⟨hl', _, ep, LiI.vals_refs ts2, he'⟩, rfl, q _ _ p2 pz (I.hok.fresh (Nat.le_succ _))⟩
/-- the lots that can come to be covered, in the order of tuples -/
def famL (es : List Ent) : List (List Nat) := (es.map fun e => bitsOf e.p.1).mergeSort tupLe
theorem ways_small {h : List (List Nat)} {lot alw : List Nat} {es : List Ent} (ok : HouseOk h) (ha1 : 1 ≤ alw.length) (ha6 : alw.length ≤ 6) (W : WaysOk (h.map maskOf) (cmsOf lot alw) es) : es.length ≤ 768 := by
  have hss : (h.map maskOf).length ≤ 7 := by rw [List.length_map]; exact ok.hi
  have h2 : 2 ^ (h.map maskOf).length ≤ 2 ^ 7 := Nat.pow_le_pow_right (by decide) hss
  have hcl := cms_len lot alw
  have lt : ∀ e ∈ es, e.p.1 < 2 ^ (h.map maskOf).length ∧ e.p.2 < (cmsOf lot alw).length := fun e he => rch_lt (by omega) (W.fd e he).1
  have nd : ((es.map (·.p)).map plN).Nodup := nodup_on plN W.nd fun a ha b hb h => by
    obtain ⟨e, he, rfl⟩ := List.mem_map.mp ha
    obtain ⟨f, hf, rfl⟩ := List.mem_map.mp hb
    have h1 := lt e he
    have h3 := lt f hf
    unfold plN at h
    exact Prod.ext (by omega) (by omega)
  have z := nodup_le 768 _ nd fun x hx => by
    obtain ⟨p, hp, rfl⟩ := List.mem_map.mp hx
    obtain ⟨e, he, rfl⟩ := List.mem_map.mp hp
    have := lt e he
    unfold plN
    omega
  rwa [List.length_map, List.length_map] at z
section
variable {P : Program} {w : World} {K : PySem.W.Frag} {mg : Str → Option Value} {base : Heap}
theorem LotAt.off {H : Hp} {d a : Addr} {l : List Nat} {kvs : List (List Key × V)} {o : HO} (h : LotAt K H a l) (hd : H d = some (.dT kvs)) : LotAt K (upd H d o) a l := sqT_off h hd
/-- a tuple of lots as they were made -/
def TupsA (K : PySem.W.Frag) (H : Hp) (a : Addr) (ls : List (List Nat)) : Prop := ∃ ts : List Addr, SqT K H a (ts.map V.ref) ∧ Paired (fun t l => TupA H t l) ts ls
def sp_covered_lots (K : PySem.W.Frag) : Sp := fun vs H Q _ => ∃ (a : Addr) (h : List (List Nat)) (c : Nat), vs = [.ref a, .int c] ∧ HouseAt K H a h ∧ HouseOk h ∧
  ∀ (H' : Hp) (p : Addr) (es : List Ent), Same H H' → WaysOk (h.map maskOf) (cmsOf (List.range h.length) [c]) es → TupsA K H' p (famL es) → Q (.ref p) H'
theorem sc_covered_lots : FnScope ["house", "coins", "ways", "place"] ["house", "coins"] (defScope s_covered_lots) := ⟨rfl, rfl, rfl, by decide +kernel, rfl, by decide +kernel, by decide +kernel⟩
theorem ok_covered_lots (T : Txt K mg) : FnOk P w K mg base CX0 4 T.d_covered_lots.f T.d_covered_lots.fd ["house", "coins"] (sp_covered_lots K) := by
  have G1 := ok_ways (P := P) (w := w) (base := base) T
  have G3 := ok_lot_of (P := P) (w := w) (base := base) T
  have G4 := ok_all_slates (P := P) (w := w) (base := base) T
  refine T.d_covered_lots.F.ok sc_covered_lots (fun vs H Q E h => ?_) (fun cdv A outer s H vs Q E hr h => ?_)
  · obtain ⟨a, h, c, rfl, _⟩ := h
    rfl
  · obtain ⟨a, hs, c, rfl, hA, ok, q⟩ := h
    have nd := sc_covered_lots.nd
    have hr1 : Room 1 _ := hr.mono (by decide)
    refine ⟨_, pss_cons (ps_set (i := 2) nd rfl (.inl rfl) (pe_call G1 hr (by rfl) T.d__ways.g T.d__ways.F.kp T.d__ways.b .nil pass0 (pa_cons (pv 0) (pa_cons (pe_call G4 hr1 (by rfl) T.d_all_slates.g T.d_all_slates.F.kp T.d_all_slates.b .nil pass0 (pa_cons (pv 0) pa_nil)) (pa_cons (pe_tup (pa_cons (pv 1) pa_nil)) pa_nil)))))
      (pss_one (ps_lock (ps_ret (pe_tupleOf (by rfl) T.n_tuple (pe_callB (cr_sortLots2 (room100 hr)) (by rfl) T.n_sorted (by decide +kernel) (pa_cons
        (pe_lc (own := [("place", 3)]) (g := gName 3) (tt := tYes) rfl nd (pi_keys (pv 2)) (blkOk_by (N := ["house", "coins", "ways", "place"]) (sc := defScope s_covered_lots) (by decide +kernel)) (fun _ _ _ _ _ => pg_name (i := 3) nd rfl (.inl rfl))
          (fun _ _ _ _ _ => pts_nil) (fun _ _ _ _ _ => pe_call G3 hr1 (by rfl) T.d__lot_of.g T.d__lot_of.F.kp T.d__lot_of.b .nil pass0 (pa_cons (pe_ix (x_tup K) (pv 3) pe_int (fun _ _ => rfl)) pa_nil))) pa_nil)))))), ?_⟩
    obtain ⟨rs0, hR0, hP0⟩ := id hA
    have hlv0 : (rs0.map V.ref).length = hs.length := by rw [List.length_map]; exact Paired.length hP0
    refine ⟨.ref a, rfl, .ref a, rfl, a, _, rfl, hR0, by rw [hlv0]; exact ok.hi, fun H0 p0 sm0 hp0 => ?_⟩
    rw [hlv0] at hp0
    refine ⟨.int (c : Int), rfl, (by show 1 ≤ sizeLine; decide), fun tp htp => ?_⟩
    have smt : Same H0 (upd H0 tp (.tup [.int (c : Int)])) := same_upd htp
    have sm1 := sm0.trans smt
    refine ⟨a, p0, tp, hs, List.range hs.length, [c], rfl, hA.same sm1, ok, SqT.up (smt _ _ hp0), range_ok _, SqT.up upd_same, Nat.le_refl 1, (by show 1 ≤ 6; decide), fun H2 wp es sm2 hwp hW okW => ?_⟩
    have sm := sm1.trans sm2
    obtain ⟨kvs, hk, hP⟩ := id hW
    refine ⟨wp, _, hk, True.intro, fun od => ?_⟩
    have hel : kvs.length = es.length := Paired.length hP
    have h768 := ways_small ok (alw := [c]) (Nat.le_refl 1) (by show 1 ≤ 6; decide) okW
    refine ⟨.ref wp, rfl, wp, od, rfl, .inr ⟨kvs, upd_same, fun D hD => ?_⟩⟩
    have wpD : wp ≠ D := fun z => by rw [← z, upd_same] at hD; cases hD
    have hD2 : H2 D = none := by rw [upd_ne wpD.symm] at hD; exact hD
    refine lc_it walk_keysT (fun i H3 => (∀ b o, b ≠ wp → H2 b = some o → H3 b = some o) ∧ H3 wp = some (.frz od (.dT kvs)) ∧ ∃ us : List Addr, H3 D = some (.lst (us.map V.ref)) ∧ Paired (fun t l => TupA H3 t l) us ((es.take i).map fun e => bitsOf e.p.1))
      ⟨fun b o hb e => by rw [upd_ne (ne_of_none e hD2), upd_ne hb]; exact e, by rw [upd_ne wpD, upd_same], [], upd_same, .nil⟩ (fun i H3 _ h3 => h3.2.1) ?_ ?_
    · rintro i y H3 H4 hi ⟨sm3, hw3, us, hd3, hU⟩ ⟨rfl, k, v, kq, hkv, rfl, hq⟩
      obtain ⟨e, he, ek, _⟩ := paired_at hP hkv
      have ek' : k = keyP e.p := ek
      subst ek'
      refine ⟨rfl, tYes_if ⟨.ref kq, rfl, kq, plV e.p, 0, .int (e.p.1 : Int), rfl, rfl, SqT.up hq, atI_nat (j := 0) rfl, e.p.1, rfl, fun H5 p5 sm5 hp5 => ?_⟩⟩
      have hd5 := sm5 _ _ hd3
      have hul : us.length = _ := Paired.length hU
      rw [List.length_map, List.length_take] at hul
      refine ⟨_, hd5, by rw [List.length_map]; exact small1000 (by omega), fun b o hb e' => ?_, ?_, us ++ [p5], ?_, ?_⟩
      · rw [upd_ne (ne_of_none e' hD2)]
        exact sm5 _ _ (sm3 b o hb e')
      · rw [upd_ne wpD]
        exact sm5 _ _ hw3
      · rw [upd_same, List.map_append]
        rfl
      · have etk : es.take (i + 1) = es.take i ++ [e] := by rw [List.take_add_one, he]; rfl
        rw [etk, List.map_append]
        exact paired_app (paired_mono hU fun _ _ z => (z.same sm5).off hd5) (.cons (TupA.off (show TupA H5 p5 _ from hp5) hd5) .nil)
    · rintro H3 ⟨sm3, hw3, us, hd3, hU⟩
      rw [hel, List.take_length] at hU
      refine ⟨D, us, _, rfl, SqL.up hd3, paired_mono hU (fun _ _ z => z.lot), fun ts' sp _ hZ hsp => ?_⟩
      have hP' : Paired (fun t l => TupA H3 t l) ts' (famL es) := paired_mono hZ fun t l z => So.zip_of hU _ z
      have s4 : Same H3 (upd H3 sp (.lst (ts'.map V.ref))) := same_upd hsp
      refine .inl ⟨sp, _, rfl, SqL.up upd_same, fun tp htp => ?_⟩
      have s5 := s4.trans (same_upd (o := .tup (ts'.map V.ref)) htp)
      have hT5 : SqT K (upd (upd H3 sp (.lst (ts'.map V.ref))) tp (.tup (ts'.map V.ref))) tp (ts'.map V.ref) := SqT.up upd_same
      have hP5 : Paired (fun t l => TupA (upd (upd H3 sp (.lst (ts'.map V.ref))) tp (.tup (ts'.map V.ref))) t l) ts' (famL es) := paired_mono hP' fun _ _ z => z.same s5
      generalize upd (upd H3 sp (.lst (ts'.map V.ref))) tp (.tup (ts'.map V.ref)) = H5 at s5 hT5 hP5
      have hw5 := s5 _ _ hw3
      have tups : ∀ b xs, SqT K H5 b xs → SqT K (upd H5 wp (.dT kvs)) b xs := fun b xs z => by
        rcases z with (z | ⟨o', z⟩) | z
        · exact .inl (.inl (by rw [upd_ne (ne_of z hw5 (by intro y; cases y))]; exact z))
        · by_cases e : b = wp
          · rw [e, hw5] at z
            cases z
          · exact .inl (.inr ⟨o', by rw [upd_ne e]; exact z⟩)
        · exact .inr z
      refine ⟨hw5, q _ tp es (fun b o e => ?_) okW ⟨ts', tups _ _ hT5, paired_mono hP5 fun t l z => ?_⟩⟩
      rotate_left
      · show upd H5 wp (.dT kvs) t = _
        rw [upd_ne (ne_of z hw5 (by intro y; cases y))]
        exact z
      by_cases hb : b = wp
      · have e2 := sm _ _ e
        rw [hb, hk] at e2
        rw [hb, upd_same, ← e2]
      · rw [upd_ne hb]
        exact s5 _ _ (sm3 b o hb (sm _ _ e))
def sp_closed_family (K : PySem.W.Frag) : Sp := fun vs H Q _ => ∃ (a g : Addr) (h : List (List Nat)) (c : Nat) (l : List Nat), vs = [.ref a, .int c, .ref g] ∧ HouseAt K H a h ∧ HouseOk h ∧ c ≤ 7 ∧ LotAt K H g l ∧ LotOk h.length l ∧ l ≠ [] ∧
  (∀ H', Same H H' → Can h c l → Q .non H') ∧ ∀ (H' : Hp) (p : Addr) (es : List Ent), Same H H' → ¬ Can h c l → WaysOk (h.map maskOf) (cmsOf (List.range h.length) [c]) es → TupsA K H' p (famL es) → Q (.ref p) H'
theorem sc_closed_family : FnScope ["house", "coins", "goal"] ["house", "coins", "goal"] (defScope s_closed_family) := ⟨rfl, rfl, rfl, by decide +kernel, rfl, by decide +kernel, by decide +kernel⟩
theorem ok_closed_family (T : Txt K mg) : FnOk P w K mg base CX0 6 T.d_closed_family.f T.d_closed_family.fd ["house", "coins", "goal"] (sp_closed_family K) := by
  have G0 := ok_check_cover (P := P) (w := w) (base := base) T
  have G1 := ok_can_cover (P := P) (w := w) (base := base) T
  have G2 := ok_covered_lots (P := P) (w := w) (base := base) T
  have G4 := ok_all_slates (P := P) (w := w) (base := base) T
  refine T.d_closed_family.F.ok sc_closed_family (fun vs H Q E h => ?_) (fun cdv A outer s H vs Q E hr h => ?_)
  · obtain ⟨a, g, h, c, l, rfl, _⟩ := h
    rfl
  · obtain ⟨a, g, hs, c, l, rfl, hA, ok, hc, hL, okL, hne, qn, q⟩ := h
    have nd := sc_closed_family.nd
    have hr4 : Room 4 _ := hr.mono (by decide)
    have hr1 : Room 1 _ := hr.mono (by decide)
    refine ⟨_, pss_cons (ps_expr (pe_call G0 hr (by rfl) T.d__check_cover.g T.d__check_cover.F.kp T.d__check_cover.b .nil pass0 (pa_cons (pv 0) (pa_cons (pv 1) (pa_cons (pv 2) pa_nil)))))
      (pss_cons (ps_if (pt_val (pe_call G1 hr4 (by rfl) T.d_can_cover.g T.d_can_cover.F.kp T.d_can_cover.b .nil pass0 (pa_cons (pv 0) (pa_cons (pv 1) (pa_cons (pv 2) (pa_cons (pe_call G4 hr1 (by rfl) T.d_all_slates.g T.d_all_slates.F.kp T.d_all_slates.b .nil pass0 (pa_cons (pv 0) pa_nil)) pa_nil)))))) (pss_one (ps_ret pe_non)) pss_nil)
      (pss_one (ps_ret (pe_call G2 hr4 (by rfl) T.d_covered_lots.g T.d_covered_lots.F.kp T.d_covered_lots.b .nil pass0 (pa_cons (pv 0) (pa_cons (pv 1) pa_nil)))))), ?_⟩
    refine ⟨.ref a, rfl, .int c, rfl, .ref g, rfl, a, g, hs, c, l, rfl, hA, ok, hc, hL, okL, hne, fun H1 sm1 => ?_⟩
    obtain ⟨rs0, hR0, hP0⟩ := id (hA.same sm1)
    have hlv0 : (rs0.map V.ref).length = hs.length := by rw [List.length_map]; exact Paired.length hP0
    refine ⟨.ref a, rfl, .int c, rfl, .ref g, rfl, .ref a, rfl, a, _, rfl, hR0, by rw [hlv0]; exact ok.hi, fun H2 p2 sm2 hp2 => ?_⟩
    rw [hlv0] at hp2
    have sm12 := sm1.trans sm2
    refine ⟨a, g, p2, hs, c, l, List.range hs.length, rfl, hA.same sm12, ok, hL.same sm12, okL, SqT.up hp2, range_ok _, fun H3 b sm3 hb => ⟨_, rfl, ?_⟩⟩
    have sm := sm12.trans sm3
    cases b with
    | true =>
      refine iteT ?_
      exact qn H3 sm (canA_one.mp (hb.mp rfl))
    | false =>
      refine iteF ?_
      refine ⟨.ref a, rfl, .int c, rfl, a, hs, c, rfl, hA.same sm, ok, fun H4 p es sm4 hW hT => ?_⟩
      exact q H4 p es (sm.trans sm4) (fun z => by
        have := hb.mpr (canA_one.mpr z)
        cases this) hW hT
end
end N

set_option Elab.async false
set_option linter.all false
set_option maxRecDepth 100000
set_option maxHeartbeats 2000000
/-! is_number, below the layer: a call leaves every object as it is -/
namespace N
open Cb (lotV combs combsOf combsOf_sub)
open PySem PySem.Spec PyProof.Rows L2 PySem.W
/-- what stands where a def is called, below the layer -/
structure Low (s : Shared) (mg : Str → Option Value) : Prop where
  lim : s.heap.NoLimit
  glob : s.heap.Ns mainGlobals mg
  blt : ∃ mb, s.heap.Ns builtinsNs mb ∧ ∀ x : Str, x ≠ "__name__" → mb x = bootBuiltins x
theorem Low.keeps {s : Shared} {mg : Str → Option Value} {h' : Heap} {tk : Nat} (L : Low s mg) (k : ∀ b o, s.heap.get? b = some o → h'.get? b = some o) : Low { s with heap := h', toks := tk } mg := by
  obtain ⟨mb, h1, h2⟩ := L.blt
  exact ⟨L.lim.keeps k, L.glob.keeps k, mb, h1.keeps k, h2⟩
section
variable {prog : Program} {w : World} {A : Around} {s : Shared} {E : Value → Shared → Prop} {mg : Str → Option Value}
theorem low_blt {env : Env} {x : Str} {u : Value} {p : Pos} {Q : Value → Shared → Prop} (L : Low s mg) (hk : env.scope.kind = .function) (hx : env.kindOf x = some .globalImplicit) (hg : env.globals = mainGlobals) (hb : env.builtins = builtinsNs) (hm : mg x = none) (hv : bootBuiltins x = some u) (h : Q u s)
    (hn : x ≠ "__name__" := by decide) (hd : (x == ("__debug__" : Str)) = false := by decide) : wpAny (model prog w) A (eval (.Name x p) env) Q E s := by
  obtain ⟨mb, h1, h2⟩ := L.blt
  exact Calls.Name_function_global hk hx (Calls.loadGlobal_builtin (by rw [hg]; exact L.glob) hm (by rw [hb]; exact h1) ((h2 x hn).trans hv) h) hd
theorem low_loc {env : Env} {x : Str} {v : Value} {m : Str → Option Value} {p : Pos} {Q : Value → Shared → Prop} (hk : env.scope.kind = .function) (hx : env.kindOf x = some .local) (hn : s.heap.Ns env.locals m) (hm : m x = some v) (h : Q v s) (hd : (x == ("__debug__" : Str)) = false := by decide) :
    wpAny (model prog w) A (eval (.Name x p) env) Q E s := wpAny_Name (wpAny_loadName_local hk hx hn hm h) hd
/-- is_number's answer for a value of the type T -/
def numA (T : String) (v : Value) (lo hi : Int) : Bool := match v with
  | .int i _ => decide (T = "int") && (decide (lo ≤ i) && decide (i ≤ hi))
  | _ => false
theorem body_is_number {env : Env} {m : Str → Option Value} {v : Value} {T : String} {lo hi : Int} {t1 t2 : Tok} {p0 p1 p2 p3 p4 p5 p6 p7 p8 p9 : Pos} {Q : Value → Shared → Prop} (L : Low s mg) (hk : env.scope.kind = .function) (g1 : env.kindOf "type" = some .globalImplicit) (g2 : env.kindOf "int" = some .globalImplicit) (hg : env.globals = mainGlobals) (hb : env.builtins = builtinsNs)
    (m1 : mg "type" = none) (m2 : mg "int" = none) (k1 : env.kindOf "value" = some .local) (k2 : env.kindOf "low" = some .local) (k3 : env.kindOf "high" = some .local) (hn : s.heap.Ns env.locals m) (n1 : m "value" = some v) (n2 : m "low" = some (.int lo t1)) (n3 : m "high" = some (.int hi t2))
    (hT : s.TypeIs v T) (hnb : (Value.type T == Value.type "builtin_function_or_method") = false) (hi' : T = "int" → ∃ i t, v = .int i t) (h : Q (.bool (numA T v lo hi)) s) :
    wpAny (model prog w) A (eval (.BoolOp .And [.Compare (.Call (.Name "type" p0) [.Name "value" p1] [] p2) [.Is] [.Name "int" p3] p4, .Compare (.Name "low" p5) [.LtE, .LtE] [.Name "value" p6, .Name "high" p7] p8] p9) env) Q E s := by
  refine BoolOp_and (wpAny_Compare1 (wpAny_Call_Name_kw (low_blt L hk g1 hg hb m1 (u := .type "type") (by decide +kernel) (PyProof.Rows.callWith_type1 (Calls.spliced_cons (low_loc hk k1 hn n1 (Calls.spliced_nil ?_))) rfl rfl) (by decide) (by decide))))
  refine call_type_of hT hnb ?_
  refine low_blt L hk g2 hg hb m2 (u := .type "int") (by decide +kernel) ?_ (by decide) (by decide)
  refine wpAny_is_plain (by rfl) ?_
  rw [ty_beq]
  refine wpAny_truthy_bool ?_
  by_cases e : T = "int"
  · obtain ⟨i, t, rfl⟩ := hi' e
    rw [decide_eq_true e]
    refine iteT (BoolOp_one (Compare_chain (low_loc hk k2 hn n2 (chain_link (low_loc hk k1 hn n1 (le_int (wpAny_truthy_bool ?_)))))))
    by_cases h1 : lo ≤ i
    · rw [decide_eq_true h1]
      refine iteT (chain_last (low_loc hk k3 hn n3 (le_int ?_)))
      have z : numA T (.int i t) lo hi = decide (i ≤ hi) := by
        simp [numA, e, h1]
      rw [← z]
      exact h
    · rw [decide_eq_false h1]
      refine iteF ?_
      have z : numA T (.int i t) lo hi = false := by
        simp [numA, e, h1]
      rw [← z]
      exact h
  · rw [decide_eq_false e]
    refine iteF ?_
    have z : numA T v lo hi = false := by
      unfold numA
      cases v <;> simp [e]
    rw [← z]
    exact h
theorem call_is_number {f : Addr} {oc : Value} {od an : Option Addr} {kV doc pm cdv ct : Value} {sl : Array (Option Value)} {v : Value} {T : String} {lo hi : Int} {t1 t2 : Tok} (L : Low s mg) (hd : A.depth < recursionLimit)
    (hf : s.heap.get? f = some ⟨oc, od, .func (fnOf "is_number" "is_number" (defArgs s_is_number) (defBody s_is_number) (defScope s_is_number) .none kV doc pm an cdv ct), sl⟩) (hc : s.heap.CodeRec cdv "is_number") (m1 : mg "type" = none) (m2 : mg "int" = none)
    (hT : s.TypeIs v T) (hnb : (Value.type T == Value.type "builtin_function_or_method") = false) (hi' : T = "int" → ∃ i t, v = .int i t) :
    wpAny (model prog w) A (call (.ref f) [v, .int lo t1, .int hi t2]) (fun y s' => y = .bool (numA T v lo hi) ∧ Keeps s s') E s := by
  refine wpAny_call ?_
  refine codeAny_call_function hd hf rfl rfl rfl rfl hc ?_
  show wpAny _ _ (bindArgs _ ⟨[v, .int lo t1, .int hi t2], []⟩) _ _ _
  have eb : bindArgs (fnOf "is_number" "is_number" (defArgs s_is_number) (defBody s_is_number) (defScope s_is_number) .none kV doc pm an cdv ct) ⟨[v, .int lo t1, .int hi t2], []⟩ = pure [(("value" : Str), v), (("low" : Str), .int lo t1), (("high" : Str), .int hi t2)] := rfl
  rw [eb]
  refine wpAny_pure (wpAny_newFunctionEnv (show ∀ x ∈ (defScope s_is_number).names, x.2 ≠ NameKind.cell by decide +kernel) (fun y hy => ?_) (fun h₁ hns hsb => ⟨L.lim.fresh _ hsb, ?_⟩) rfl)
  · rcases List.mem_cons.mp hy with z | z
    · rw [z]; rfl
    · rcases List.mem_cons.mp z with z | z
      · rw [z]; rfl
      · rw [List.mem_singleton.mp z]; rfl
  have kp : ∀ b o, s.heap.get? b = some o → h₁.get? b = some o := fun b o e => hsb.extBut b o (Nat.ne_of_lt (Heap.lt_size e)) (Heap.get?_push_of_some _ e)
  refine codeAny_func ?_
  have L1 : Low { s with heap := h₁, toks := s.toks + 3 } mg := L.keeps kp
  refine wpAny_execs_cons (wpAny_Return_some (body_is_number (T := T) L1 rfl rfl rfl rfl rfl m1 m2 rfl rfl rfl hns rfl rfl rfl ?_ hnb hi' ?_))
  · cases v <;> first | exact hT | (obtain ⟨o, a, b⟩ := hT; exact ⟨o, kp _ _ a, b⟩)
  · exact ⟨rfl, _, _, rfl, kp⟩
end
end N

set_option Elab.async false
set_option linter.all false
set_option maxRecDepth 100000
set_option maxHeartbeats 2000000
/-! is_lot, below the layer -/
namespace N
open Cb (lotV combs combsOf combsOf_sub)
open PySem PySem.Spec PyProof.Rows L2 PySem.W
/-- a value that type() tells apart -/
def Typed (s : Shared) (v : Value) : Prop := ∃ T, s.TypeIs v T ∧ (Value.type T == Value.type "builtin_function_or_method") = false ∧ (T = "int" ↔ ∃ i t, v = .int i t)
theorem Typed.keeps {s : Shared} {v : Value} {h' : Heap} {tk : Nat} (x : Typed s v) (k : ∀ b o, s.heap.get? b = some o → h'.get? b = some o) : Typed { s with heap := h', toks := tk } v := by
  obtain ⟨T, h1, h2, h3⟩ := x
  refine ⟨T, ?_, h2, h3⟩
  cases v <;> first | exact h1 | (obtain ⟨o, a, b⟩ := h1; exact ⟨o, k _ _ a, b⟩)
/-- the items go up from least, below n -/
def goLot (n : Int) : Int → List Value → Bool
  | _, [] => true
  | least, u :: r => match u with
    | .int i _ => if least ≤ i ∧ i ≤ n - 1 then goLot n (i + 1) r else false
    | _ => false
theorem typed_num {s : Shared} {v : Value} (x : Typed s v) (lo hi : Int) : ∃ T, s.TypeIs v T ∧ (Value.type T == Value.type "builtin_function_or_method") = false ∧ (T = "int" → ∃ i t, v = .int i t) ∧ numA T v lo hi = (match v with
    | .int i _ => decide (lo ≤ i ∧ i ≤ hi)
    | _ => false) := by
  obtain ⟨T, h1, h2, h3⟩ := x
  refine ⟨T, h1, h2, h3.mp, ?_⟩
  cases v with
  | int i t =>
    have e : T = "int" := h3.mpr ⟨i, t, rfl⟩
    simp [numA, e, Bool.decide_and]
  | _ => simp [numA]
section
variable {prog : Program} {w : World} {A : Around} {s : Shared} {E : Value → Shared → Prop} {mg : Str → Option Value}
/-- a def's object, below the layer -/
structure DefAt (s : Shared) (f : Addr) (x : String) (st : Stmt) : Prop where
  ex : ∃ (oc : Value) (od an : Option Addr) (kV doc pm cdv ct : Value) (sl : Array (Option Value)), s.heap.get? f = some ⟨oc, od, .func (fnOf x x (defArgs st) (defBody st) (defScope st) .none kV doc pm an cdv ct), sl⟩ ∧ s.heap.CodeRec cdv x
theorem DefAt.keeps {f : Addr} {x : String} {st : Stmt} {h' : Heap} {tk : Nat} (d : DefAt s f x st) (k : ∀ b o, s.heap.get? b = some o → h'.get? b = some o) : DefAt { s with heap := h', toks := tk } f x st := by
  obtain ⟨oc, od, an, kV, doc, pm, cdv, ct, sl, h1, c, oc2, vs, t, h2, h3, h4, h5⟩ := d
  exact ⟨oc, od, an, kV, doc, pm, cdv, ct, sl, k _ _ h1, c, oc2, vs, t, h2, k _ _ h3, h4, h5⟩
theorem call_is_lot {f fn ha : Addr} {v : Value} {hits : Array Value} (L : Low s mg) (hd : A.depth + 2 < recursionLimit) (hh : A.handled = none) (D : DefAt s f "is_lot" s_is_lot) (Dn : DefAt s fn "is_number" s_is_number) (gn : mg "is_number" = some (.ref fn)) (m1 : mg "type" = none) (m2 : mg "int" = none) (m3 : mg "tuple" = none) (m4 : mg "len" = none)
    (hH : s.heap.IsTuple ha hits) (hz : hits.size ≤ 1000) {r : Bool} (hv : (∃ T, s.TypeIs v T ∧ (Value.type T == Value.type "builtin_function_or_method") = false ∧ T ≠ "tuple" ∧ r = false) ∨ ∃ t its, v = .ref t ∧ s.heap.IsTuple t its ∧ (∀ u ∈ its.toList, Typed s u) ∧ r = goLot hits.size 0 its.toList) :
    wpAny (model prog w) A (call (.ref f) [.ref ha, v]) (fun y s' => y = .bool r ∧ Keeps s s') E s := by
  obtain ⟨oc, od, an, kV, doc, pm, cdv, ct, sl, hf, hc⟩ := D.ex
  refine wpAny_call ?_
  refine codeAny_call_function (by omega) hf rfl rfl rfl rfl hc ?_
  have eb : bindArgs (fnOf "is_lot" "is_lot" (defArgs s_is_lot) (defBody s_is_lot) (defScope s_is_lot) .none kV doc pm an cdv ct) ⟨[.ref ha, v], []⟩ = pure [(("house" : Str), .ref ha), (("value" : Str), v)] := rfl
  rw [eb]
  refine wpAny_pure (wpAny_newFunctionEnv (show ∀ x ∈ (defScope s_is_lot).names, x.2 ≠ NameKind.cell by decide +kernel) (fun y hy => ?_) (fun h₁ hns hsb => ⟨L.lim.fresh _ hsb, ?_⟩) rfl)
  · rcases List.mem_cons.mp hy with z | z
    · rw [z]; rfl
    · rw [List.mem_singleton.mp z]; rfl
  have kp : ∀ b o, s.heap.get? b = some o → h₁.get? b = some o := fun b o e => hsb.extBut b o (Nat.ne_of_lt (Heap.lt_size e)) (Heap.get?_push_of_some _ e)
  refine codeAny_func ?_
  generalize hE : (newEnv _ _ _ _ _ _ _ _ _ : Env) = env
  have ek : env.scope.kind = .function := by rw [← hE]; rfl
  have es : env.scope = defScope s_is_lot := by rw [← hE]; rfl
  have el : env.locals = s.heap.objs.size := by rw [← hE]; rfl
  have eg : env.globals = mainGlobals := by rw [← hE]; rfl
  have ebl : env.builtins = builtinsNs := by rw [← hE]; rfl
  have kd : ∀ x, env.kindOf x = (defScope s_is_lot).names.lookup x := fun x => by rw [← hE]; rfl
  clear hE
  have L1 : Low { s with heap := h₁, toks := s.toks + 2 } mg := L.keeps kp
  have hns' : h₁.Ns env.locals (fun x => [(("house" : Str), Value.ref ha), (("value" : Str), v)].reverse.lookup x) := by rw [el]; exact hns
  have first : ∀ {T : String} {Q : Bool → Shared → Prop} {E' : Value → Shared → Prop} {p0 p1 p2 p3 p4 : Pos} {wh : Sem Value}, s.TypeIs v T → (Value.type T == Value.type "builtin_function_or_method") = false → Q (!decide (T = "tuple")) { s with heap := h₁, toks := s.toks + 2 } →
      wpAny (model prog w) (A.deeper env) (PySem.isTrue (.Compare (.Call (.Name "type" p0) [.Name "value" p1] [] p2) [.IsNot] [.Name "tuple" p3] p4) env wh) Q E' { s with heap := h₁, toks := s.toks + 2 } := by
    intro T Q E' p0 p1 p2 p3 p4 wh hT hnb q
    refine wpAny_isTrue_Compare1 (wpAny_Call_Name_kw (low_blt L1 ek (by rw [kd]; rfl) eg ebl m1 (u := .type "type") (by decide +kernel) (PyProof.Rows.callWith_type1 (Calls.spliced_cons (low_loc ek (by rw [kd]; rfl) hns' rfl (Calls.spliced_nil ?_))) rfl rfl) (by decide) (by decide)))
    refine call_type_of (Tx := T) ?_ hnb ?_
    · cases v <;> first | exact hT | (obtain ⟨o, a, b⟩ := hT; exact ⟨o, kp _ _ a, b⟩)
    refine low_blt L1 ek (by rw [kd]; rfl) eg ebl m3 (u := .type "tuple") (by decide +kernel) ?_ (by decide) (by decide)
    refine wpAny_isNot_plain (by rfl) ?_
    rw [ty_beq]
    exact wpAny_truthy_bool q
  rcases hv with ⟨T, hT, hnb, hne, rfl⟩ | ⟨t, its, rfl, hIt, hty, rfl⟩
  · refine wpAny_execs_cons (wpAny_If (first hT hnb ?_))
    rw [decide_eq_false hne]
    refine iteT (wpAny_execs_cons (wpAny_Return_some (Constant_bool ?_)))
    exact ⟨rfl, _, _, rfl, kp⟩
  · have hT : s.TypeIs (.ref t) "tuple" := by obtain ⟨o, a, b, _⟩ := hIt; exact ⟨o, a, b⟩
    refine wpAny_execs_cons (wpAny_If (first hT (by decide +kernel) ?_))
    rw [decide_eq_true rfl]
    refine iteF (wpAny_execs_nil ?_)
    have hA : (A.deeper env).handled = none := hh
    refine wpAny_execs_cons (wpAny_Assign_Name (wpAny_Constant_int (wpAny_storeName_local (by rw [kd]; rfl) hns' (fun h₂ hn₂ hs₂ => ?_) (by rw [ek]; rfl))))
    replace hs₂ : Heap.SameBut env.locals h₁ h₂ := hs₂
    have elt : ∀ b o, s.heap.get? b = some o → b ≠ env.locals := fun b o e => by rw [el]; exact Nat.ne_of_lt (Heap.lt_size e)
    have kp2 : ∀ b o, s.heap.get? b = some o → h₂.get? b = some o := fun b o e => hs₂.extBut b o (elt b o e) (kp b o e)
    have hIt2 : h₂.IsTuple t its := hIt.at fun o e => kp2 t o e
    refine wpAny_execs_cons (wpAny_For (low_loc ek (by rw [kd]; rfl) hn₂ rfl (wpAny_pyIter_tuple (items := its) hIt2 ?_)))
    have hL2 : env.locals < h₂.objs.size := hn₂.lt
    have hlt2 : ∀ b o, s.heap.get? b = some o → b ≠ h₂.objs.size := fun b o e => Nat.ne_of_lt (Heap.lt_size (kp2 b o e))
    obtain ⟨ot, hot, _⟩ := id hIt
    have hne : t ≠ h₂.objs.size := hlt2 t ot hot
    have kpush : ∀ b o, h₂.get? b = some o → (h₂.push { cls := .type "tuple_iterator", data := .fields #[.ref t, .int 0 0] }).get? b = some o := fun b o e => Heap.get?_push_of_some _ e
    refine for_goes (fp := [h₂.objs.size, t]) (wr := [h₂.objs.size]) (n := its.size)
      (G := fun i s₁ => ∃ h' tk m' l t₂, s₁ = { s with heap := h', toks := tk } ∧ (∀ b o, s.heap.get? b = some o → h'.get? b = some o) ∧ h'.Ns env.locals m' ∧ m' "house" = some (.ref ha) ∧ m' "least" = some (.int l t₂) ∧ goLot hits.size l (its.toList.drop i) = goLot hits.size 0 its.toList)
      (Goes.ofWalks (Walks.tuple hA h₂.objs.size t hne its) fun i v s Q E st q => PyProof.Rows.letGo_tupleiter st.1 q) ⟨⟨_, Heap.get?_push_size _ rfl, rfl, rfl⟩, hIt2.push _⟩ ?_ ?_ ?_ ?_
    · exact ⟨_, _, _, _, _, rfl, fun b o e => kpush b o (kp2 b o e), hn₂.at fun o e => kpush _ o e, rfl, rfl, rfl⟩
    · rintro i _ h' tk ⟨h₀, tk₀, m', l, t₂, rfl, k0, n0, a1, a2, a3⟩ hk htk
      exact ⟨h', tk, m', l, t₂, rfl, fun b o e => hk b o (by simpa using hlt2 b o e) (k0 b o e), n0.at fun o e => hk _ o (by simpa using Nat.ne_of_lt hL2) e, a1, a2, a3⟩
    · rintro i v _ hi hv hst ⟨h₃, tk₃, m₃, l, t₂, rfl, k₃, n₃, a1, a2, a3⟩
      replace hv : its[i]? = some v := hv
      have hdrop : its.toList.drop i = v :: its.toList.drop (i + 1) := by
        have : its.toList[i]? = some v := by rw [Array.getElem?_toList]; exact hv
        obtain ⟨hl, he⟩ := List.getElem?_eq_some_iff.mp this
        rw [List.drop_eq_getElem_cons hl, he]
      have hmem : v ∈ its.toList := by
        have : its.toList[i]? = some v := by rw [Array.getElem?_toList]; exact hv
        exact List.mem_of_getElem? this
      refine wpAny_assign_Name (wpAny_storeName_local (by rw [kd]; rfl) n₃ (fun h₄ n₄ s₄ => ?_) (by rw [ek]; rfl))
      replace s₄ : Heap.SameBut env.locals h₃ h₄ := s₄
      have k₄ : ∀ b o, s.heap.get? b = some o → h₄.get? b = some o := fun b o e => s₄.extBut b o (elt b o e) (k₃ b o e)
      have L4 : Low { s with heap := h₄, toks := tk₃ + 1 } mg := L.keeps k₄
      have st4 : h₄.IsTupleIter h₂.objs.size t (i + 1) ∧ h₄.IsTuple t its := ⟨hst.1.at fun o e => s₄.extBut _ o (Nat.ne_of_gt hL2) e, hst.2.at fun o e => s₄.extBut _ o (elt t ot hot) e⟩
      obtain ⟨ocn, odn, ann, kVn, docn, pmn, cdvn, ctn, sln, hfn, hcn⟩ := (Dn.keeps (tk := tk₃ + 1) k₄).ex
      refine wpAny_execs_cons (wpAny_If (isTrue_not (isTrue_plain (wpAny_Call_Name_kw (Calls.Name_function_global ek (by rw [kd]; rfl) (Calls.loadGlobal_global (by rw [eg]; exact L4.glob) gn ?_))))))
      obtain ⟨o_n, fd_n, hon, hdn⟩ : ∃ (o : Obj) (fd : FuncData), h₄.get? fn = some o ∧ o.data = .func fd := ⟨_, _, hfn, rfl⟩
      refine Calls.callWith_function (o := o_n) (fd := fd_n) (Calls.evalArgs_plain (Calls.spliced_cons (low_loc ek (by rw [kd]; rfl) n₄ (if_pos rfl) (Calls.spliced_cons (low_loc ek (by rw [kd]; rfl) n₄ ((if_neg (by decide)).trans a2) (Calls.spliced_cons ?_))))))
      refine wpAny_BinOp (wpAny_Call_Name_kw (low_blt L4 ek (by rw [kd]; rfl) eg ebl m4 (u := .builtin "len") (by decide +kernel) (callWith_builtin1 (low_loc ek (by rw [kd]; rfl) n₄ ((if_neg (by decide)).trans a1) (PyProof.Rows.len_tuple (items := hits) ?_ (by omega) ?_))) (by decide) (by decide)))
      · exact (hH.at fun o e => k₄ ha o e)
      refine wpAny_Constant_int (PyProof.Rows.sub_int (Calls.spliced_nil ⟨⟨hon, hdn⟩, ?_⟩))
      have ty : Typed { s with heap := h₄, toks := tk₃ + 1 + 1 + 1 + 1 + 1 } v := (hty v hmem).keeps k₄
      obtain ⟨T, hT', hnb, hTi, hnum⟩ := typed_num ty l ((hits.size : Int) - 1)
      refine wpAny_mono (call_is_number (T := T) (L.keeps k₄) (by show A.depth + 1 < _; omega) hfn hcn m1 m2 hT' hnb hTi) (fun y s₅ h₅ => ?_) fun _ _ e => e
      obtain ⟨rfl, h5, tk5, rfl, k5⟩ := h₅
      replace k5 : ∀ b o, h₄.get? b = some o → h5.get? b = some o := k5
      refine wpAny_truthy_bool ?_
      have n5 := n₄.at fun o e => k5 _ o e
      rw [hdrop] at a3
      have key : (numA T v l ((hits.size : Int) - 1) = true ∧ ∃ j u, v = .int j u ∧ goLot hits.size (j + 1) (its.toList.drop (i + 1)) = goLot hits.size 0 its.toList) ∨ (numA T v l ((hits.size : Int) - 1) = false ∧ goLot hits.size 0 its.toList = false) := by
        rw [hnum]
        cases v with
        | int j u =>
          by_cases c : l ≤ j ∧ j ≤ (hits.size : Int) - 1
          · refine .inl ⟨decide_eq_true c, j, u, rfl, ?_⟩
            rw [← a3, goLot]
            exact (if_pos c).symm
          · refine .inr ⟨decide_eq_false c, ?_⟩
            rw [← a3, goLot]
            exact if_neg c
        | _ => exact .inr ⟨rfl, by rw [← a3]; rfl⟩
      have kk : ∀ b o, s.heap.get? b = some o → h5.get? b = some o := fun b o e => k5 b o (k₄ b o e)
      rcases key with ⟨kt, j, u, rfl, kj⟩ | ⟨kf, kz⟩
      · rw [kt]
        refine iteF (wpAny_execs_nil ?_)
        refine wpAny_execs_cons (wpAny_Assign_Name (wpAny_BinOp (low_loc ek (by rw [kd]; rfl) n5 (if_pos rfl) (wpAny_Constant_int (PyProof.Rows.add_int (wpAny_storeName_local (by rw [kd]; rfl) n5 (fun h₆ n₆ s₆ => ?_) (by rw [ek]; rfl)))))))
        replace s₆ : Heap.SameBut env.locals h5 h₆ := s₆
        refine wpAny_execs_nil ?_
        refine ⟨⟨h₆, _, _, _, _, rfl, fun b o e => s₆.extBut b o (elt b o e) (kk b o e), n₆, ?_, if_pos rfl, kj⟩, ?_⟩
        · exact (if_neg (by decide)).trans ((if_neg (by decide)).trans a1)
        · exact ⟨st4.1.at fun o e => s₆.extBut _ o (Nat.ne_of_gt hL2) (k5 _ o e), st4.2.at fun o e => s₆.extBut _ o (elt t ot hot) (k5 _ o e)⟩
      · rw [kf]
        refine iteT (wpAny_execs_cons (wpAny_Return_some (Constant_bool ?_)))
        exact ⟨by rw [kz], h5, tk5, rfl, kk⟩
    · rintro _ ⟨h₃, tk₃, m₃, l, t₂, rfl, k₃, n₃, a1, a2, a3⟩
      refine wpAny_execs_nil ?_
      refine wpAny_execs_cons (wpAny_Return_some (Constant_bool ?_))
      refine ⟨?_, _, _, rfl, k₃⟩
      rw [← a3, List.drop_eq_nil_of_le (by simp)]
      rfl
end
end N

set_option Elab.async false
set_option linter.all false
set_option maxRecDepth 100000
set_option maxHeartbeats 2000000
/-! _mask_of and _holds, below the layer -/
namespace N
open Cb (lotV combs combsOf combsOf_sub)
open PySem PySem.Spec PyProof.Rows L2 PySem.W
/-- a tuple of these numbers, below the layer -/
def NumsAt (h : Heap) (t : Addr) (l : List Nat) : Prop := ∃ its, h.IsTuple t its ∧ its.size = l.length ∧ ∀ (i : Nat) (u : Value), its[i]? = some u → ∃ k tk, l[i]? = some k ∧ u = .int (k : Int) tk
theorem NumsAt.at {h h' : Heap} {t : Addr} {l : List Nat} (x : NumsAt h t l) (k : ∀ o, h.get? t = some o → h'.get? t = some o) : NumsAt h' t l := by
  obtain ⟨its, a, b⟩ := x
  exact ⟨its, a.at k, b⟩
section
variable {prog : Program} {w : World} {A : Around} {s : Shared} {E : Value → Shared → Prop} {mg : Str → Option Value}
theorem call_mask_of {f t : Addr} {l : List Nat} (L : Low s mg) (hd : A.depth + 1 < recursionLimit) (hh : A.handled = none) (D : DefAt s f "_mask_of" s__mask_of)
    (hT : NumsAt s.heap t l) (hb : ∀ i ∈ l, i ≤ 1000) :
    wpAny (model prog w) A (call (.ref f) [.ref t]) (fun y s' => (∃ tk, y = .int (maskOf l : Nat) tk) ∧ Keeps s s') E s := by
  obtain ⟨its, hIt, hsz, hits⟩ := hT
  obtain ⟨oc, od, an, kV, doc, pm, cdv, ct, sl, hf, hc⟩ := D.ex
  refine wpAny_call ?_
  refine codeAny_call_function (by omega) hf rfl rfl rfl rfl hc ?_
  have eb : bindArgs (fnOf "_mask_of" "_mask_of" (defArgs s__mask_of) (defBody s__mask_of) (defScope s__mask_of) .none kV doc pm an cdv ct) ⟨[.ref t], []⟩ = pure [(("lot" : Str), .ref t)] := rfl
  rw [eb]
  refine wpAny_pure (wpAny_newFunctionEnv (show ∀ x ∈ (defScope s__mask_of).names, x.2 ≠ NameKind.cell by decide +kernel) (fun y hy => ?_) (fun h₁ hns hsb => ⟨L.lim.fresh _ hsb, ?_⟩) rfl)
  · rw [List.mem_singleton.mp hy]; rfl
  have kp : ∀ b o, s.heap.get? b = some o → h₁.get? b = some o := fun b o e => hsb.extBut b o (Nat.ne_of_lt (Heap.lt_size e)) (Heap.get?_push_of_some _ e)
  refine codeAny_func ?_
  generalize hE : (newEnv _ _ _ _ _ _ _ _ _ : Env) = env
  have ek : env.scope.kind = .function := by rw [← hE]; rfl
  have el : env.locals = s.heap.objs.size := by rw [← hE]; rfl
  have kd : ∀ x, env.kindOf x = (defScope s__mask_of).names.lookup x := fun x => by rw [← hE]; rfl
  clear hE
  have hns' : h₁.Ns env.locals (fun x => [(("lot" : Str), Value.ref t)].reverse.lookup x) := by rw [el]; exact hns
  have hA : (A.deeper env).handled = none := hh
  refine wpAny_execs_cons (wpAny_Assign_Name (wpAny_Constant_int (wpAny_storeName_local (by rw [kd]; rfl) hns' (fun h₂ hn₂ hs₂ => ?_) (by rw [ek]; rfl))))
  replace hs₂ : Heap.SameBut env.locals h₁ h₂ := hs₂
  have elt : ∀ b o, s.heap.get? b = some o → b ≠ env.locals := fun b o e => by rw [el]; exact Nat.ne_of_lt (Heap.lt_size e)
  have kp2 : ∀ b o, s.heap.get? b = some o → h₂.get? b = some o := fun b o e => hs₂.extBut b o (elt b o e) (kp b o e)
  have hIt2 : h₂.IsTuple t its := hIt.at fun o e => kp2 t o e
  refine wpAny_execs_cons (wpAny_For (low_loc ek (by rw [kd]; rfl) hn₂ rfl (wpAny_pyIter_tuple (items := its) hIt2 ?_)))
  have hL2 : env.locals < h₂.objs.size := hn₂.lt
  have hlt2 : ∀ b o, s.heap.get? b = some o → b ≠ h₂.objs.size := fun b o e => Nat.ne_of_lt (Heap.lt_size (kp2 b o e))
  obtain ⟨ot, hot, _⟩ := id hIt
  have hne : t ≠ h₂.objs.size := hlt2 t ot hot
  have kpush : ∀ b o, h₂.get? b = some o → (h₂.push { cls := .type "tuple_iterator", data := .fields #[.ref t, .int 0 0] }).get? b = some o := fun b o e => Heap.get?_push_of_some _ e
  refine for_goes (fp := [h₂.objs.size, t]) (wr := [h₂.objs.size]) (n := its.size)
    (G := fun i s₁ => ∃ h' tk m' t₂, s₁ = { s with heap := h', toks := tk } ∧ (∀ b o, s.heap.get? b = some o → h'.get? b = some o) ∧ h'.Ns env.locals m' ∧ m' "mask" = some (.int (maskOf (l.take i) : Nat) t₂))
    (Goes.ofWalks (Walks.tuple hA h₂.objs.size t hne its) fun i v s Q E st q => PyProof.Rows.letGo_tupleiter st.1 q) ⟨⟨_, Heap.get?_push_size _ rfl, rfl, rfl⟩, hIt2.push _⟩ ?_ ?_ ?_ ?_
  · exact ⟨_, _, _, _, rfl, fun b o e => kpush b o (kp2 b o e), hn₂.at fun o e => kpush _ o e, rfl⟩
  · rintro i _ h' tk ⟨h₀, tk₀, m', t₂, rfl, k0, n0, a1⟩ hk htk
    exact ⟨h', tk, m', t₂, rfl, fun b o e => hk b o (by simpa using hlt2 b o e) (k0 b o e), n0.at fun o e => hk _ o (by simpa using Nat.ne_of_lt hL2) e, a1⟩
  · rintro i v _ hi hv hst ⟨h₃, tk₃, m₃, t₂, rfl, k₃, n₃, a1⟩
    obtain ⟨k, tk, hk, rfl⟩ := hits i v hv
    refine wpAny_assign_Name (wpAny_storeName_local (by rw [kd]; rfl) n₃ (fun h₄ n₄ s₄ => ?_) (by rw [ek]; rfl))
    replace s₄ : Heap.SameBut env.locals h₃ h₄ := s₄
    have k₄ : ∀ b o, s.heap.get? b = some o → h₄.get? b = some o := fun b o e => s₄.extBut b o (elt b o e) (k₃ b o e)
    have st4 : h₄.IsTupleIter h₂.objs.size t (i + 1) ∧ h₄.IsTuple t its := ⟨hst.1.at fun o e => s₄.extBut _ o (Nat.ne_of_gt hL2) e, hst.2.at fun o e => s₄.extBut _ o (elt t ot hot) e⟩
    refine wpAny_execs_cons (wpAny_AugAssign_Name (wpAny_loadName_local ek (by rw [kd]; rfl) n₄ ((if_neg (by decide)).trans a1) ?_))
    refine wpAny_BinOp (wpAny_Constant_int (low_loc ek (by rw [kd]; rfl) n₄ (if_pos rfl) (lshift_int_small (Int.natCast_nonneg _) (by have := hb k (List.mem_of_getElem? hk); omega) (by decide) ?_)))
    refine ior_int (wpAny_storeName_local (by rw [kd]; rfl) n₄ (fun h₆ n₆ s₆ => ?_) (by rw [ek]; rfl))
    replace s₆ : Heap.SameBut env.locals h₄ h₆ := s₆
    refine wpAny_execs_nil ?_
    have e : Builtin.bitOr ((maskOf (l.take i) : Nat) : Int) (1 * 2 ^ ((k : Int).toNat)) = ((maskOf (l.take (i + 1)) : Nat) : Int) := by
      rw [maskOf_take hk, Int.toNat_natCast, Int.one_mul, show ((2 : Int) ^ k) = ((2 ^ k : Nat) : Int) by rw [Int.natCast_pow]; rfl]
      rw [bitOr_nn (Int.natCast_nonneg _) (Int.natCast_nonneg _), Int.toNat_natCast, Int.toNat_natCast]
    rw [e] at n₆
    refine ⟨⟨h₆, _, _, _, rfl, fun b o x => s₆.extBut b o (elt b o x) (k₄ b o x), n₆, if_pos rfl⟩, ?_⟩
    · exact ⟨st4.1.at fun o e => s₆.extBut _ o (Nat.ne_of_gt hL2) e, st4.2.at fun o e => s₆.extBut _ o (elt t ot hot) e⟩
  · rintro _ ⟨h₃, tk₃, m₃, t₂, rfl, k₃, n₃, a1⟩
    refine wpAny_execs_nil ?_
    refine wpAny_execs_cons (wpAny_Return_some (low_loc ek (by rw [kd]; rfl) n₃ a1 ?_))
    refine ⟨⟨t₂, ?_⟩, _, _, rfl, k₃⟩
    rw [hsz, List.take_length]
theorem holdsB_int (m : Nat) (l : List Nat) : ((((m &&& maskOf l : Nat) : Int)) == ((maskOf l : Nat) : Int)) = holdsB m l := by
  unfold holdsB
  by_cases h : (m &&& maskOf l) = maskOf l
  · rw [h]; simp
  · rw [beq_eq_false_iff_ne.mpr h, beq_eq_false_iff_ne.mpr (fun z => h (by omega))]
theorem call_holds {f fm t : Addr} {l : List Nat} {m : Nat} {tm : Tok} (L : Low s mg) (hd : A.depth + 2 < recursionLimit) (hh : A.handled = none) (D : DefAt s f "_holds" s__holds) (Dm : DefAt s fm "_mask_of" s__mask_of) (gm : mg "_mask_of" = some (.ref fm))
    (hT : NumsAt s.heap t l) (hb : ∀ i ∈ l, i ≤ 1000) :
    wpAny (model prog w) A (call (.ref f) [.int (m : Int) tm, .ref t]) (fun y s' => y = .bool (holdsB m l) ∧ Keeps s s') E s := by
  obtain ⟨oc, od, an, kV, doc, pm, cdv, ct, sl, hf, hc⟩ := D.ex
  refine wpAny_call ?_
  refine codeAny_call_function (by omega) hf rfl rfl rfl rfl hc ?_
  have eb : bindArgs (fnOf "_holds" "_holds" (defArgs s__holds) (defBody s__holds) (defScope s__holds) .none kV doc pm an cdv ct) ⟨[.int (m : Int) tm, .ref t], []⟩ = pure [(("mask" : Str), .int (m : Int) tm), (("goal" : Str), .ref t)] := rfl
  rw [eb]
  refine wpAny_pure (wpAny_newFunctionEnv (show ∀ x ∈ (defScope s__holds).names, x.2 ≠ NameKind.cell by decide +kernel) (fun y hy => ?_) (fun h₁ hns hsb => ⟨L.lim.fresh _ hsb, ?_⟩) rfl)
  · rcases List.mem_cons.mp hy with z | z
    · rw [z]; rfl
    · rw [List.mem_singleton.mp z]; rfl
  have kp : ∀ b o, s.heap.get? b = some o → h₁.get? b = some o := fun b o e => hsb.extBut b o (Nat.ne_of_lt (Heap.lt_size e)) (Heap.get?_push_of_some _ e)
  refine codeAny_func ?_
  generalize hE : (newEnv _ _ _ _ _ _ _ _ _ : Env) = env
  have ek : env.scope.kind = .function := by rw [← hE]; rfl
  have el : env.locals = s.heap.objs.size := by rw [← hE]; rfl
  have eg : env.globals = mainGlobals := by rw [← hE]; rfl
  have kd : ∀ x, env.kindOf x = (defScope s__holds).names.lookup x := fun x => by rw [← hE]; rfl
  clear hE
  have hns' : h₁.Ns env.locals (fun x => [(("mask" : Str), Value.int (m : Int) tm), (("goal" : Str), .ref t)].reverse.lookup x) := by rw [el]; exact hns
  have hA : (A.deeper env).handled = none := hh
  have elt : ∀ b o, s.heap.get? b = some o → b ≠ env.locals := fun b o e => by rw [el]; exact Nat.ne_of_lt (Heap.lt_size e)
  obtain ⟨ocn, odn, ann, kVn, docn, pmn, cdvn, ctn, sln, hfn, hcn⟩ := (Dm.keeps (tk := s.toks + 2) kp).ex
  obtain ⟨o_n, fd_n, hon, hdn⟩ : ∃ (o : Obj) (fd : FuncData), h₁.get? fm = some o ∧ o.data = .func fd := ⟨_, _, hfn, rfl⟩
  refine wpAny_execs_cons (wpAny_Assign_Name (wpAny_Call_Name_kw (Calls.Name_function_global ek (by rw [kd]; rfl) (Calls.loadGlobal_global (by rw [eg]; exact (L.keeps (tk := s.toks + 2) kp).glob) gm ?_))))
  refine Calls.callWith_function (o := o_n) (fd := fd_n) (Calls.evalArgs_plain (Calls.spliced_cons (low_loc ek (by rw [kd]; rfl) hns' rfl (Calls.spliced_nil ⟨⟨hon, hdn⟩, ?_⟩))))
  refine wpAny_mono (call_mask_of (l := l) (L.keeps kp) (by show A.depth + 1 + 1 < _; omega) hA (Dm.keeps kp) (hT.at fun o e => kp t o e) hb) (fun y s₅ h₅ => ?_) fun _ _ e => e
  obtain ⟨⟨tk, rfl⟩, h5, tk5, rfl, k5⟩ := h₅
  replace k5 : ∀ b o, h₁.get? b = some o → h5.get? b = some o := k5
  have n5 := hns'.at fun o e => k5 _ o e
  refine wpAny_storeName_local (by rw [kd]; rfl) n5 (fun h₆ n₆ s₆ => ?_) (by rw [ek]; rfl)
  replace s₆ : Heap.SameBut env.locals h5 h₆ := s₆
  refine wpAny_execs_cons (wpAny_Return_some (wpAny_Compare1 (wpAny_BinOp (low_loc ek (by rw [kd]; rfl) n₆ ((if_neg (by decide)).trans rfl) (low_loc ek (by rw [kd]; rfl) n₆ (if_pos rfl) (and_int ?_))))))
  refine low_loc ek (by rw [kd]; rfl) n₆ (if_pos rfl) (eq_int ?_)
  refine ⟨?_, _, _, rfl, fun b o e => s₆.extBut b o (elt b o e) (k5 b o (kp b o e))⟩
  rw [show Builtin.bitAnd (m : Int) ((maskOf l : Nat) : Int) = ((m &&& maskOf l : Nat) : Int) by simp [Builtin.bitAnd], holdsB_int]
end
end N

set_option Elab.async false
set_option linter.all false
set_option maxRecDepth 100000
set_option maxHeartbeats 2000000
/-! any, all of a generator expression over a tuple -/
namespace Gx
open PySem PySem.Spec PyProof.Rows L2 GxR
/-- what an element must do: at each turn it is True or False as pb says, and leaves every object as it is -/
def EltG (X : Cx) (scope : Scope) (x : Str) (elt : Expr) (its : List Value) (pb : Nat → Bool) (P : Addr) (s1 : Shared) : Prop :=
  ∀ (cenv : Env) (A' : Around) (E' : Value → Shared → Prop) (i : Nat) (u : Value) (s₂ : Shared) (m₂ : Str → Option Value), cenv.scope = scope → cenv.cells = cloFrom X.env.cells scope.names [] → cenv.globals = X.env.globals → cenv.builtins = builtinsNs →
    A'.handled = none → A'.depth ≤ X.A.depth + 1 → A'.units ≤ X.A.units + 8 → its[i]? = some u → s₂.heap.Ns cenv.locals m₂ → m₂ x = some u → (∀ b o, b ≠ P → s1.heap.get? b = some o → s₂.heap.get? b = some o) →
    wpAny (model X.prog X.w) A' (eval elt cenv) (fun y s₃ => y = .bool (pb i) ∧ Keeps s₂ s₃) E' s₂
/-- the element does so wherever the names and objects stand so -/
def GenC (X : Cx) (scope : Scope) (x : Str) (elt : Expr) (P : Addr) (σ : L2.St) (H1 : Hp) (xs : List V) (pb : Nat → Bool) : Prop :=
  ∀ (pins : List (Addr × Obj)) (s1 : Shared) (its : List Value), Inv X pins σ H1 s1 → Vals xs its → EltG X scope x elt its pb P s1
section
variable {X : Cx} {pins : List (Addr × Obj)} {σ : L2.St} {H : Hp} {s : Shared}
/-- the generator g over n turns, ready to be walked, in the state s5; H1: what was held before -/
def Ready (X : Cx) (pins : List (Addr × Obj)) (σ : L2.St) (H1 : Hp) (P : Addr) (n : Nat) (pb : Nat → Bool) (g : Addr) (s5 : Shared) : Prop :=
  ∃ (fp wr : List Addr) (G : Array GenState → Array GenState → Prop) (F : Nat → Value → Prop) (St : Nat → Shared → Prop),
    WalksS X.prog X.w X.A.in1 g fp wr G n F St ∧ St 0 s5 ∧ TruthOf X.prog X.w X.A.in1 F pb ∧ ∀ s', Moved wr G s5 s' → ∃ H2, Tabbed P H1 H2 ∧ Inv X pins σ H2 s'
theorem gen_tup {c P : Addr} {elt iter : Expr} {x : Str} {px gpos : Pos} {scope : Scope} {te : TE} {k : Nat} {Q' : Value → Shared → Prop} {R : List V → (Nat → Bool) → Hp → Prop}
    (hr : Room k X.A) (TB : TabB X.base X.mg c P) (hcode : X.env.code = .ref c) (S : GenS X.env scope x) (hi : PE X iter te)
    (hs : ∀ v, genFold iter X.env v = pure v) (I : Inv X pins σ H s)
    (h : te σ H fun v H1 => ∃ (a : Addr) (xs : List V) (pb : Nat → Bool), v = .ref a ∧ SqT X.K H1 a xs ∧ TabG H1 P ∧ GenC X scope x elt P σ H1 xs pb ∧ R xs pb H1)
    (hQ : ∀ xs pb H1 g s5, R xs pb H1 → Ready X pins σ H1 P xs.length pb g s5 → Q' (.ref g) s5) :
    wpAny (model X.prog X.w) X.A (eval (.GeneratorExp elt [⟨.Name x px, iter, [], 0⟩] scope gpos) X.env) Q' X.xe s := by
  refine wpAny_GeneratorExp_walksQD hr.hd S.co (closure_ok S.free) S.cell S.dot S.loc S.kind (by have := hr.dp; omega) ?_ hs
  refine thn (hi.run pins s σ H _ I h) fun xv s1 ⟨v, H1, I1, r1, q1⟩ => ?_
  obtain ⟨a, xs, pb, rfl, hA, ⟨ps, hP, ht⟩, hel, q1⟩ := q1
  cases r1
  obtain ⟨its, rv, hT, hz⟩ := I1.tuple hA
  have hel := hel pins s1 its I1 rv
  have hlen : its.toArray.size = xs.length := by rw [List.size_toArray]; exact rv.length.symm
  refine wpAny_pyIter_tuple hT ?_
  have hPs : s1.heap.get? P = some { cls := .none, data := .fields ps } := I1.hok P _ hP
  have hPlt : P < s1.heap.objs.size := Heap.lt_size hPs
  generalize ho : ({ cls := .type "tuple_iterator", data := .fields #[.ref a, .int 0 0] } : Obj) = o
  have hne : a ≠ s1.heap.objs.size := by
    obtain ⟨o', q, _⟩ := hT
    exact Nat.ne_of_lt (Heap.lt_size q)
  have hst : (s1.heap.push o).IsTupleIter s1.heap.objs.size a 0 ∧ (s1.heap.push o).IsTuple a its.toArray := by
    subst ho
    obtain ⟨o', q, r⟩ := hT
    exact ⟨⟨_, Heap.get?_push_size _ rfl, rfl, rfl⟩, ⟨o', Heap.get?_push_of_some _ q, r⟩⟩
  have W : ∀ A' : Around, A'.handled = none → Walks X.prog X.w A' s1.heap.objs.size [s1.heap.objs.size, a] [s1.heap.objs.size] its.toArray.size (fun i v => its.toArray[i]? = some v) (fun i h => h.IsTupleIter s1.heap.objs.size a i ∧ h.IsTuple a its.toArray) :=
    fun A' hA' => Walks.tuple hA' s1.heap.objs.size a hne its.toArray
  have hP2 : (s1.heap.push o).get? P = some { cls := .none, data := .fields ps } := Heap.get?_push_of_some _ hPs
  have cd : PySem.W.CodeHd (s1.heap.push o) c P := TB.code.keeps fun b u e => Heap.get?_push_of_some _ (I1.bk b u e)
  have lim2 : (s1.heap.push o).NoLimit := I1.nolimit.push o
  have cont : ∀ (code : Value) (h3 : Heap) (tk : Nat) (ps' : Array Value), Heap.ExtBut P (s1.heap.push o) h3 → (s1.heap.push o).objs.size ≤ h3.objs.size → h3.get? P = some { cls := .none, data := .fields ps' } → (∃ more, ps' = ps ++ more) → TriplesOk ps'.toList →
      wpAny (model X.prog X.w) X.A (builtinsFor X.env.globals X.env.builtins) (fun bi s₄ =>
        ∃ Ia fp wr n₀ Pf St₀ pz F, Value.ref s1.heap.objs.size = .ref Ia ∧ (∀ A' : Around, A'.handled = none → Walks X.prog X.w A' Ia fp wr n₀ Pf St₀) ∧ St₀ 0 s₄.heap ∧ (∀ b ∈ fp, b < s₄.heap.objs.size) ∧ s₄.heap.NoLimit ∧ cStatics ∉ wr ∧
          (∀ href : Heap, (∀ b o, s₄.heap.get? b = some o → href.get? b = some o) →
            QuietGenD X.prog X.w (genEnv scope (cloFrom X.env.cells scope.names []) s₄.heap.objs.size code bi X.env) x [] elt (List.range s₄.heap.objs.size) wr Pf pz F href (X.A.depth + 1) (X.A.units + 8)) ∧
          (∀ a h₅ tk gs, gs.bare = true → s₄.heap.objs.size < a → h₅.objs.size = a + 1 → (∀ b o, s₄.heap.get? b = some o → h₅.get? b = some o) →
            WalksS X.prog X.w X.A.in4 a (a :: s₄.heap.objs.size :: List.range s₄.heap.objs.size) (s₄.heap.objs.size :: wr) (GenOnlyQ s₄.gens.size) (passing pz n₀ 0).length
              (fun j y => ∃ i, (passing pz n₀ 0)[j]? = some i ∧ F i y) (GenAt X.prog X.w X.A.in4 a s₄.gens.size s₄.heap.objs.size (List.range s₄.heap.objs.size) wr pz n₀ F) →
            GenAt X.prog X.w X.A.in4 a s₄.gens.size s₄.heap.objs.size (List.range s₄.heap.objs.size) wr pz n₀ F 0 { s₄ with gens := s₄.gens.push gs, toks := tk, heap := h₅ } →
            Q' (.ref a) { s₄ with gens := s₄.gens.push gs, toks := tk, heap := h₅ })) X.xe { s1 with heap := h3, toks := tk } := by
    intro code h3 tk ps' hx hsz hP3 hmore ht3
    obtain ⟨bm, ob, e1, e2, e3, e4, e5, e6, e7, e8⟩ := TB.bm
    have hcP : cStatics ≠ P := fun e => by
      obtain ⟨_, hns, _⟩ := I1.nolimit
      obtain ⟨o', es, ep, ho, hd, _⟩ := hns
      rw [e, hPs] at ho
      cases ho
      cases hd
    have hcl : cStatics < s1.heap.objs.size := let ⟨_, hns, _⟩ := I1.nolimit; hns.lt
    have sz2 : (s1.heap.push o).objs.size = s1.heap.objs.size + 1 := Heap.size_push ..
    have keep3 : ∀ b u, b ≠ P → s1.heap.get? b = some u → h3.get? b = some u := fun b u hb e => hx b u hb (Heap.get?_push_of_some _ e)
    have alt : a < s1.heap.objs.size := by obtain ⟨o', q, _⟩ := hT; exact Heap.lt_size q
    have aP : a ≠ P := fun e => by
      obtain ⟨o', q, c2, n, d2⟩ := hT
      rw [e, hPs] at q
      cases q
      cases d2
    refine wpAny_builtinsFor (m := X.mg) (by rw [I1.ok.glob]; exact ((I1.mod.glob.keeps I1.bk).push o).extBut hx TB.gP) e1 e2 (keep3 _ _ e4 (I1.bk _ _ e5)) e6 e7 e8 ?_
    refine ⟨s1.heap.objs.size, [s1.heap.objs.size, a], [s1.heap.objs.size], its.toArray.size, _, _, (fun _ => true), (fun i y => ∃ cc, its[i]? = some cc ∧ y = .bool (pb i)), rfl, W, ?_, ?_, lim2.extBut hx hcP, ?_, ?_, ?_⟩
    · refine (W X.A hr.hd).frame _ _ _ hst fun b hb u e => hx b u (fun z => ?_) e
      rcases List.mem_cons.mp hb with z2 | z2
      · exact Nat.ne_of_lt hPlt (z.symm.trans z2)
      · rw [List.mem_singleton.mp z2] at z
        exact aP z
    · intro b hb
      have h9 : s1.heap.objs.size < h3.objs.size := by omega
      rcases List.mem_cons.mp hb with z | z
      · rw [z]
        exact h9
      · rw [List.mem_singleton.mp z]
        exact Nat.lt_trans alt h9
    · intro z
      rcases List.mem_cons.mp z with z | z
      · exact Nat.ne_of_lt hcl z
      · cases z
    · intro href hhref
      refine ⟨fun A' E' i v s₂ m₂ hA _ _ hPv hn hm hk => ?_, fun A' E' i v s₂ m₂ hA hD hU hPv hp hn hm hk => ?_⟩
      · simp only [List.forIn_nil]
        exact wpAny_pure ⟨rfl, keeps_refl _⟩
      · have hPv' : its[i]? = some v := by rw [← List.getElem?_toArray]; exact hPv
        refine wpAny_mono (hel _ A' E' i v s₂ m₂ rfl rfl rfl rfl hA hD hU hPv' hn hm fun b u hb e => ?_) (fun y s3 r => ⟨⟨v, hPv', r.1⟩, r.2⟩) fun _ _ e => e
        have hl := Heap.lt_size e
        have h9 : s1.heap.objs.size < h3.objs.size := by omega
        exact hk b (List.mem_range.mpr (Nat.lt_trans hl h9)) (fun z => by rw [List.mem_singleton.mp z] at hl; exact Nat.lt_irrefl _ hl) u (hhref b u (keep3 b u hb e))
    · intro g h5 tk5 gs hgb hag hsz5 hk5 W5 hat
      simp only [GxR.passing_true, List.length_range] at W5
      rw [hlen] at W5
      refine hQ xs pb H1 g _ q1 ⟨_, _, _, _, _, W5.in4_1, ?_, ?_, fun s' hm => ?_⟩
      · rw [← hlen]
        exact hat
      · intro j y sj Qj Ej hy hQj
        obtain ⟨i, hij, cc, hcc, rfl⟩ := hy
        obtain ⟨hj, ej⟩ := List.getElem?_eq_some_iff.mp hij
        rw [List.getElem_range] at ej
        subst ej
        exact wpAny_truthy_bool hQj
      · obtain ⟨more, em⟩ := hmore
        have nwr : ∀ b u, s1.heap.get? b = some u → b ∉ h3.objs.size :: [s1.heap.objs.size] := fun b u e hb => by
          have hl := Heap.lt_size e
          rcases List.mem_cons.mp hb with z | z
          · rw [z] at hl
            have h9 : (h3.objs.size : Nat) < s1.heap.objs.size := hl
            omega
          · rcases List.mem_cons.mp z with z | z
            · rw [z] at hl
              exact Nat.lt_irrefl _ hl
            · cases z
        have J := inv_tab (more := more) (h' := s'.heap) (g' := s'.gens) (d' := s'.drawn) (t' := s'.toks) I1 hP (fun b u hb e => hm.heap b u (nwr b u e) (hk5 b u (keep3 b u hb e)))
          (by rw [← em]; exact hm.heap P _ (nwr P _ hPs) (hk5 P _ hP3)) (AllBare.movedS (I1.bare.push hgb) hm)
        rw [sh_eta s1 s' hm.os] at J
        refine ⟨upd H1 P (.tbl (ps ++ more)), ⟨⟨ps ++ more, upd_same, by rw [← em]; exact ht3⟩, fun b hb => upd_ne hb⟩, J⟩
  refine ⟨lim2, ?_⟩
  cases hf : codeAmong gpos ps.toList with
  | none =>
    refine wpAny_genexprCodeX hcode (cd.code hP2 ht) (cd.tab hP2) hf fun c' h' tk hx hge hlt hco' _ htab' _ => ?_
    obtain ⟨o1, vs, f1, tf, fl, tg, inF, tx, tt, op, _, _, _, _, _, _, _, _, _, htr, _⟩ := hco'
    exact cont _ h' tk _ hx (Nat.le_trans hge (Nat.le_of_lt hlt)) htab'.2 ⟨_, rfl⟩ htr
  | some cv =>
    refine wpAny_genexprCode_hit hcode (cd.code hP2 ht) hf ?_
    exact cont cv (s1.heap.push o) s1.toks ps (Heap.ExtBut.refl _ _) (Nat.le_refl _) hP2 ⟨#[], by simp⟩ ht
/-- all(test for x in t), any(test for x in t), t a tuple; behind it the def's table may have grown -/
def tAllT (X : Cx) (scope : Scope) (x : Str) (elt : Expr) (P : Addr) (te : TE) : TE := fun σ H Q => te σ H fun v H1 => ∃ (a : Addr) (xs : List V) (pb : Nat → Bool), v = .ref a ∧ SqT X.K H1 a xs ∧ TabG H1 P ∧ GenC X scope x elt P σ H1 xs pb ∧ ∀ H2, Tabbed P H1 H2 → Q (.bl ((List.range xs.length).all pb)) H2
def tAnyT (X : Cx) (scope : Scope) (x : Str) (elt : Expr) (P : Addr) (te : TE) : TE := fun σ H Q => te σ H fun v H1 => ∃ (a : Addr) (xs : List V) (pb : Nat → Bool), v = .ref a ∧ SqT X.K H1 a xs ∧ TabG H1 P ∧ GenC X scope x elt P σ H1 xs pb ∧ ∀ H2, Tabbed P H1 H2 → Q (.bl ((List.range xs.length).any pb)) H2
theorem pe_allT {c P : Addr} {elt iter : Expr} {x : Str} {px p pos gpos : Pos} {scope : Scope} {te : TE} {k : Nat}
    (hr : Room k X.A) (hg : Gl X "all") (hm : X.mg "all" = none) (TB : TabB X.base X.mg c P) (hcode : X.env.code = .ref c) (S : GenS X.env scope x) (hi : PE X iter te) (hs : ∀ v, genFold iter X.env v = pure v)
    (hb : bootBuiltins "all" = some (.builtin "all") := by decide +kernel)
    (he : starEach [.GeneratorExp elt [⟨.Name x px, iter, [], 0⟩] scope gpos] X.env = (false, eval (.GeneratorExp elt [⟨.Name x px, iter, [], 0⟩] scope gpos) X.env) :: starEach [] X.env := by rfl) :
    PE X (.Call (.Name "all" p) [.GeneratorExp elt [⟨.Name x px, iter, [], 0⟩] scope gpos] [] pos) (tAllT X scope x elt P te) := by
  refine ⟨fun pins s σ H Q I h => ?_⟩
  refine wpAny_Call_Name_kw (ld_blt I hg hm hb ?_)
  refine PyProof.Rows.callWith_builtin1 ?_ he (by rfl)
  rw [he]
  show wpAny _ _ (spliced ((false, eval (.GeneratorExp elt [⟨.Name x px, iter, [], 0⟩] scope gpos) X.env) :: backTo pos (starEach [] X.env))) _ _ s
  refine Calls.spliced_cons (gen_tup (R := fun xs pb H1 => ∀ H2, Tabbed P H1 H2 → Q (.bl ((List.range xs.length).all pb)) H2) hr TB hcode S hi hs I h fun xs pb H1 g s5 hR hG => ?_)
  obtain ⟨fp, wr, G, F, St, W, hst, htr, hI⟩ := hG
  refine Calls.spliced_nil ?_
  refine call_all_walkS (W.self 0 _ _ _ hst ⟨g, fp, wr, G, _, F, St, _, rfl, W, hst, htr, fun s' hmv => ?_⟩)
  obtain ⟨H2, hT, J⟩ := hI s' hmv
  exact ⟨.bl _, H2, J, rfl, hR H2 hT⟩
theorem pe_anyT {c P : Addr} {elt iter : Expr} {x : Str} {px p pos gpos : Pos} {scope : Scope} {te : TE} {k : Nat}
    (hr : Room k X.A) (hg : Gl X "any") (hm : X.mg "any" = none) (TB : TabB X.base X.mg c P) (hcode : X.env.code = .ref c) (S : GenS X.env scope x) (hi : PE X iter te) (hs : ∀ v, genFold iter X.env v = pure v)
    (he : starEach [.GeneratorExp elt [⟨.Name x px, iter, [], 0⟩] scope gpos] X.env = (false, eval (.GeneratorExp elt [⟨.Name x px, iter, [], 0⟩] scope gpos) X.env) :: starEach [] X.env := by rfl) :
    PE X (.Call (.Name "any" p) [.GeneratorExp elt [⟨.Name x px, iter, [], 0⟩] scope gpos] [] pos) (tAnyT X scope x elt P te) := by
  refine ⟨fun pins s σ H Q I h => ?_⟩
  refine wpAny_Call_Name_kw (ld_blt I hg hm boot_any ?_)
  refine PyProof.Rows.callWith_builtin1 ?_ he (by rfl)
  rw [he]
  show wpAny _ _ (spliced ((false, eval (.GeneratorExp elt [⟨.Name x px, iter, [], 0⟩] scope gpos) X.env) :: backTo pos (starEach [] X.env))) _ _ s
  refine Calls.spliced_cons (gen_tup (R := fun xs pb H1 => ∀ H2, Tabbed P H1 H2 → Q (.bl ((List.range xs.length).any pb)) H2) hr TB hcode S hi hs I h fun xs pb H1 g s5 hR hG => ?_)
  obtain ⟨fp, wr, G, F, St, W, hst, htr, hI⟩ := hG
  refine Calls.spliced_nil ?_
  refine call_any_walkS (W.self 0 _ _ _ hst ⟨g, fp, wr, G, _, F, St, _, rfl, W, hst, htr, fun s' hmv => ?_⟩)
  obtain ⟨H2, hT, J⟩ := hI s' hmv
  exact ⟨.bl _, H2, J, rfl, hR H2 hT⟩
end
end Gx

set_option Elab.async false
set_option linter.all false
set_option maxRecDepth 100000
set_option maxHeartbeats 2000000
/-! from the layer down: what stands where an element of a generator expression runs -/
namespace N
open Cb (lotV combs combsOf combsOf_sub)
open PySem PySem.Spec PyProof.Rows L2 PySem.W GxR Gx
section
variable {X : Cx} {pins : List (Addr × Obj)} {σ : L2.St} {H : Hp} {s s₂ : Shared} {P : Addr}
/-- what a table of code objects is not -/
theorem base_ne {b : Addr} {o : Obj} (I : Inv X pins σ H s) (hT : TabG H P) (e : X.base.get? b = some o) : b ≠ P := by
  obtain ⟨ps, hP, _⟩ := hT
  rintro rfl
  have := (I.bs b o e).2
  rw [hP] at this
  cases this
theorem low_of (I : Inv X pins σ H s) (hT : TabG H P) (k : ∀ b o, b ≠ P → s.heap.get? b = some o → s₂.heap.get? b = some o) : Low s₂ X.mg := by
  have kb : ∀ b o, X.base.get? b = some o → s₂.heap.get? b = some o := fun b o e => k b o (base_ne I hT e) (I.bk b o e)
  obtain ⟨mb, h1, h2⟩ := I.mod.blt
  exact ⟨I.mod.nolimit.keeps kb, I.mod.glob.keeps kb, mb, h1.keeps kb, h2⟩
theorem def_of {x : String} {st : Stmt} {ps : List Str} (D : Def X.K X.mg x st ps) (I : Inv X pins σ H s) (hT : TabG H P) (k : ∀ b o, b ≠ P → s.heap.get? b = some o → s₂.heap.get? b = some o) : DefAt s₂ D.f x st := by
  have kb : ∀ b o, X.base.get? b = some o → s₂.heap.get? b = some o := fun b o e => k b o (base_ne I hT e) (I.bk b o e)
  have KX : X.K.In s₂.heap := I.mod.kin.keeps kb
  obtain ⟨oc, od, kV, doc, pm, an, cdv, ct, osl, e, lk, hcd⟩ := D.F.ex
  rw [e] at lk
  exact ⟨oc, od, an, kV, doc, pm, cdv, ct, osl, KX _ _ lk, PySem.W.codeRec_of KX hcd⟩
/-- a name of the def, captured by the generator expression -/
theorem gen_free {scope : Scope} {x : Str} {i : Nat} {v : V} (I : Inv X pins σ H s) (hT : TabG H P) (S : scope.kind = .function) (hfree : ∀ y ∈ scope.names, y.2 = .free → ∃ c, X.env.cells.lookup y.1 = some c) (hy : (x, NameKind.free) ∈ scope.names) (hl : scope.names.lookup x = some .free)
    (hN : X.N[i]? = some x) (hσ : σ[i]? = some (some v)) (hc : X.env.kindOf x = some .cell) (hd : (x == ("__debug__" : Str)) = false := by decide) (hn : (x == ("__classdict__" : Str)) = false := by decide) :
    ∃ u, RelV v u ∧ ∀ (cenv : Env) (A' : Around) (E' : Value → Shared → Prop) (s₂ : Shared) (p : Pos) (Q : Value → Shared → Prop), cenv.scope = scope → cenv.cells = cloFrom X.env.cells scope.names [] → (∀ b o, b ≠ P → s.heap.get? b = some o → s₂.heap.get? b = some o) → Q u s₂ →
      wpAny (model X.prog X.w) A' (eval (.Name x p) cenv) Q E' s₂ := by
  obtain ⟨m, hm, hv⟩ := I.loc
  obtain ⟨u, ru, lk⟩ := hv i x v hN hσ (.inr (.inl hc))
  rcases lk with ⟨z, _⟩ | ⟨_, c, hcl, hcell⟩
  · rw [hc] at z
    cases z
  refine ⟨u, ru, fun cenv A' E' s₂ p Q e1 e2 k q => ?_⟩
  have hcP : c ≠ P := by
    obtain ⟨ps, hP, _⟩ := hT
    rintro rfl
    have := I.freeC x c hcl
    rw [hP] at this
    cases this
  refine wpAny_Name (wpAny_loadName_free (c := c) (by rw [e1]; exact S) (by show cenv.scope.names.lookup x = _; rw [e1]; exact hl) (by rw [e2]; exact NdefX.clo_has hfree hy hcl) ?_ q hn) hd
  obtain ⟨o, ho, hdt⟩ := hcell
  exact ⟨o, k c o hcP ho, hdt⟩
end
/-- in over a tuple of numbers -/
theorem in_nums {prog : Program} {w : World} {A : Around} {s : Shared} {E : Value → Shared → Prop} {t : Addr} {l : List Nat} {k : Nat} {tk : Tok} {Q : Value → Shared → Prop} (hT : NumsAt s.heap t l) (h : Q (.bool (decide (k ∈ l))) s) :
    wpAny (model prog w) A (compareOp .In (.int (k : Int) tk) (.ref t)) Q E s := by
  obtain ⟨its, hIt, hsz, hits⟩ := hT
  have hi : ∀ y, y ∈ its → ∃ j tj, y = .int (j : Nat) tj ∧ j ∈ l := fun y hy => by
    obtain ⟨i, hl, e⟩ := Array.mem_iff_getElem.mp hy
    obtain ⟨j, tj, h1, h2⟩ := hits i y (by rw [Array.getElem?_eq_getElem hl, e])
    exact ⟨j, tj, h2, List.mem_of_getElem? h1⟩
  refine SeqAt.in_tupleAt (fun y => match y with
    | .int j _ => j == (k : Int)
    | _ => false) hIt (fun y hy => ?_) ?_
  · obtain ⟨j, tj, rfl, _⟩ := hi y hy
    exact SeqAt.EqAt.int_int _ _ _ _
  · have e : (its.any fun y => match y with
      | .int j _ => j == (k : Int)
      | _ => false) = decide (k ∈ l) := by
      rw [Bool.eq_iff_iff, decide_eq_true_iff, Array.any_eq_true']
      constructor
      · rintro ⟨y, hy, z⟩
        obtain ⟨j, tj, rfl, hj⟩ := hi y hy
        have : j = k := Int.ofNat.inj (by simpa using z)
        exact this ▸ hj
      · intro hk
        obtain ⟨i, hil, hie⟩ := List.mem_iff_getElem.mp hk
        have hl : i < its.size := by rw [hsz]; exact hil
        obtain ⟨j, tj, h1, h2⟩ := hits i its[i] (Array.getElem?_eq_getElem hl)
        rw [List.getElem?_eq_getElem hil, hie] at h1
        cases h1
        exact ⟨its[i], Array.getElem_mem hl, by rw [h2]; simp⟩
    rw [e]
    exact h
end N

set_option Elab.async false
set_option linter.all false
set_option maxRecDepth 100000
set_option maxHeartbeats 2000000
namespace N
open Cb (lotV combs combsOf combsOf_sub)
open PySem PySem.Spec PyProof.Rows L2
section
variable {K : PySem.W.Frag}
theorem isi_tt : PySem.W.kitAny K (.type "tuple") [.type "tuple", .type "list"] = some true := kitAny_cons (b := true) (kit_ty (by decide +kernel)) (fun z => by cases z) (fun _ => rfl)
theorem isi_if : PySem.W.kitAny K (.type "int") [.type "tuple", .type "list"] = some false := kitAny_cons (b := false) (kit_ty (by decide +kernel)) (fun _ => kitAny_cons (b := false) (kit_ty (by decide +kernel)) (fun _ => kitAny_nil) (by decide)) (by decide)
theorem isi_bf : PySem.W.kitAny K (.type "bool") [.type "tuple", .type "list"] = some false := kitAny_cons (b := false) (kit_ty (by decide +kernel)) (fun _ => kitAny_cons (b := false) (kit_ty (by decide +kernel)) (fun _ => kitAny_nil) (by decide)) (by decide)
theorem tyx_tup {H : Hp} {a : Addr} {xs : List V} (h : SqT K H a xs) : TyX K H (.ref a) (.type "tuple") := by
  rcases h with (h | ⟨o, h⟩) | ⟨o, its, n, h1, h2, _⟩
  · exact .base (.tup h)
  · exact .fTuple h
  · exact .kTuple h1 h2
end
section
variable {P : Program} {w : World} {K : PySem.W.Frag} {mg : Str → Option Value} {base : Heap}
def sp_alike0 : Sp := fun vs H Q _ => ∃ x : V, vs = [x, x] ∧ ((∃ i, x = .int i) ∨ ∃ b, x = .bl b) ∧ ∀ H', Same H H' → Q (.bl true) H'
theorem sc_alike : FnScope ["found", "due", "k"] ["found", "due"] (defScope s__law_alike) := ⟨rfl, rfl, rfl, by decide +kernel, rfl, by decide +kernel, by decide +kernel⟩
theorem ok_alike0 (T : Txt K mg) : FnOk P w K mg base CX0 1 T.d__law_alike.f T.d__law_alike.fd ["found", "due"] sp_alike0 := by
  refine T.d__law_alike.F.ok sc_alike (fun vs H Q E h => ?_) (fun cdv A outer s H vs Q E hr h => ?_)
  · obtain ⟨x, rfl, _⟩ := h
    rfl
  · obtain ⟨x, rfl, hx, q⟩ := h
    have nd := sc_alike.nd
    refine ⟨_, pss_cons (ps_if (pt_val (pe_callB call_isiT (by rfl) T.n_isinstance boot_isinstance (pa_cons (pv 1) (pa_cons (pe_tup (pa_cons (pe_bltn (v := .ty "tuple") (u := .type "tuple") (by rfl) T.n_tuple (by decide +kernel) rfl) (pa_cons (pe_bltn (v := .ty "list") (u := .type "list") (by rfl) T.n_list (by decide +kernel) rfl) pa_nil))) pa_nil))))
        (pss_cons ps_never (pss_cons ps_never (pss_one ps_never))) pss_nil)
      (pss_cons (ps_if (PW.pt (pw_or (pt_cmpR op_isN (pv 1) pe_non (nomark _)) (pw_or1 (pt_val (pe_callB call_isi (by rfl) T.n_isinstance boot_isinstance (pa_cons (pv 1) (pa_cons (pe_bltn (v := .ty "str") (u := .type "str") (by rfl) T.n_str (by decide +kernel) rfl) pa_nil)))))))
        (pss_one ps_never) pss_nil)
      (pss_one (ps_ret (pe_and (pe_callB call_isi (by rfl) T.n_isinstance boot_isinstance (pa_cons (pv 0) (pa_cons (pe_bltn (v := .ty "int") (u := .type "int") (by rfl) T.n_int (by decide +kernel) rfl) pa_nil)))
        (pe_and (pe_cmpR op_eq (pe_callB call_isi (by rfl) T.n_isinstance boot_isinstance (pa_cons (pv 0) (pa_cons (pe_bltn (v := .ty "bool") (u := .type "bool") (by rfl) T.n_bool (by decide +kernel) rfl) pa_nil)))
            (pe_callB call_isi (by rfl) T.n_isinstance boot_isinstance (pa_cons (pv 1) (pa_cons (pe_bltn (v := .ty "bool") (u := .type "bool") (by rfl) T.n_bool (by decide +kernel) rfl) pa_nil))) (nomark _))
          (pe_one (pe_cmpR op_eq (pv 0) (pv 1) (nomark _)))))))), ?_⟩
    refine ⟨x, rfl, by decide, fun tp htp => ?_⟩
    have sm := same_upd (o := .tup [V.ty "tuple", V.ty "list"]) htp
    rcases hx with ⟨i, rfl⟩ | ⟨b, rfl⟩
    · refine ⟨.int i, tp, _, .type "int", [.type "tuple", .type "list"], false, rfl, upd_same, .cons (.ty _) (.cons (.ty _) .nil), .base (.int i), isi_if, _, rfl, iteF ?_⟩
      refine ⟨.int i, rfl, rfl, _, rfl, ?_⟩
      show (if decide (V.int i = V.non) = true then _ else _)
      rw [if_neg (by simp)]
      refine ⟨.int i, rfl, .int i, .ty "str", .type "int", .type "str", false, rfl, .ty _, .base (.int i), kit_ty (by decide +kernel), _, rfl, iteF ?_⟩
      refine ⟨.int i, rfl, .int i, .ty "int", .type "int", .type "int", true, rfl, .ty _, .base (.int i), kit_ty (by decide +kernel), true, rfl, iteT ?_⟩
      refine ⟨.int i, rfl, .int i, .ty "bool", .type "int", .type "bool", false, rfl, .ty _, .base (.int i), kit_ty (by decide +kernel), ?_⟩
      refine ⟨.int i, rfl, .int i, .ty "bool", .type "int", .type "bool", false, rfl, .ty _, .base (.int i), kit_ty (by decide +kernel), rfl, ?_⟩
      refine ⟨true, by rw [decide_eq_true rfl], iteT ?_⟩
      refine ⟨.int i, rfl, .int i, rfl, rfl, ?_⟩
      rw [decide_eq_true rfl]
      exact q _ sm
    · refine ⟨.bl b, tp, _, .type "bool", [.type "tuple", .type "list"], false, rfl, upd_same, .cons (.ty _) (.cons (.ty _) .nil), .base (.bl b), isi_bf, _, rfl, iteF ?_⟩
      refine ⟨.bl b, rfl, rfl, _, rfl, ?_⟩
      show (if decide (V.bl b = V.non) = true then _ else _)
      rw [if_neg (by simp)]
      refine ⟨.bl b, rfl, .bl b, .ty "str", .type "bool", .type "str", false, rfl, .ty _, .base (.bl b), kit_ty (by decide +kernel), _, rfl, iteF ?_⟩
      refine ⟨.bl b, rfl, .bl b, .ty "int", .type "bool", .type "int", true, rfl, .ty _, .base (.bl b), kit_ty (by decide +kernel), true, rfl, iteT ?_⟩
      refine ⟨.bl b, rfl, .bl b, .ty "bool", .type "bool", .type "bool", true, rfl, .ty _, .base (.bl b), kit_ty (by decide +kernel), ?_⟩
      refine ⟨.bl b, rfl, .bl b, .ty "bool", .type "bool", .type "bool", true, rfl, .ty _, .base (.bl b), kit_ty (by decide +kernel), rfl, ?_⟩
      refine ⟨true, by rw [decide_eq_true rfl], iteT ?_⟩
      refine ⟨.bl b, rfl, .bl b, rfl, rfl, ?_⟩
      rw [decide_eq_true rfl]
      exact q _ sm
def sp_alikeT (K : PySem.W.Frag) (sub : Sp) : Sp := fun vs H Q _ => ∃ (a b : Addr) (xs ys : List V), vs = [.ref a, .ref b] ∧ SqT K H a xs ∧ SqT K H b ys ∧ xs.length = ys.length ∧ ys.length ≤ 1000 ∧
  (∀ (i : Nat) (x y : V), xs[i]? = some x → ys[i]? = some y → ∀ (H1 : Hp) (Q' : VK) (E' : XK), Same H H1 → (∀ H', Same H1 H' → Q' (.bl true) H') → sub [x, y] H1 Q' E') ∧ ∀ H', Same H H' → Q (.bl true) H'
theorem ok_alikeT {j : Nat} {sub : Sp} (T : Txt K mg) (G : FnOk P w K mg base CX0 j T.d__law_alike.f T.d__law_alike.fd ["found", "due"] sub) : FnOk P w K mg base CX0 (j + 1) T.d__law_alike.f T.d__law_alike.fd ["found", "due"] (sp_alikeT K sub) := by
  refine T.d__law_alike.F.ok sc_alike (fun vs H Q E h => ?_) (fun cdv A outer s H vs Q E hr h => ?_)
  · obtain ⟨a, b, xs, ys, rfl, _⟩ := h
    rfl
  · obtain ⟨a, b, xs, ys, rfl, hA, hB, hl, hz, hsub, q⟩ := h
    have nd := sc_alike.nd
    refine ⟨_, pss_cons (ps_if (pt_val (pe_callB call_isiT (by rfl) T.n_isinstance boot_isinstance (pa_cons (pv 1) (pa_cons (pe_tup (pa_cons (pe_bltn (v := .ty "tuple") (u := .type "tuple") (by rfl) T.n_tuple (by decide +kernel) rfl) (pa_cons (pe_bltn (v := .ty "list") (u := .type "list") (by rfl) T.n_list (by decide +kernel) rfl) pa_nil))) pa_nil))))
        (pss_cons (ps_if (PW.pt (pw_or (pt_not (pt_val (pe_callB call_isiT (by rfl) T.n_isinstance boot_isinstance (pa_cons (pv 0) (pa_cons (pe_tup (pa_cons (pe_bltn (v := .ty "tuple") (u := .type "tuple") (by rfl) T.n_tuple (by decide +kernel) rfl) (pa_cons (pe_bltn (v := .ty "list") (u := .type "list") (by rfl) T.n_list (by decide +kernel) rfl) pa_nil))) pa_nil)))))
            (pw_or1 (pt_cmpR op_ne (pe_callB call_isi (by rfl) T.n_isinstance boot_isinstance (pa_cons (pv 0) (pa_cons (pe_bltn (v := .ty "list") (u := .type "list") (by rfl) T.n_list (by decide +kernel) rfl) pa_nil)))
              (pe_callB call_isi (by rfl) T.n_isinstance boot_isinstance (pa_cons (pv 1) (pa_cons (pe_bltn (v := .ty "list") (u := .type "list") (by rfl) T.n_list (by decide +kernel) rfl) pa_nil))) (nomark _))))) (pss_one ps_never) pss_nil)
        (pss_cons (ps_if (pt_cmpR op_ne (pe_callB call_len_seq (by rfl) T.n_len PySem.boot_len (pa_cons (pv 0) pa_nil)) (pe_callB call_len_seq (by rfl) T.n_len PySem.boot_len (pa_cons (pv 1) pa_nil)) (nomark _)) (pss_one ps_never) pss_nil)
        (pss_one (ps_ret (pe_cmpR (op_emp hr.units) (pe_lc (own := [("k", 2)]) (g := gName 2) rfl nd (pi_range1 (by rfl) T.n_range (pa_cons (pe_callB call_len_seq (by rfl) T.n_len PySem.boot_len (pa_cons (pv 1) pa_nil)) pa_nil))
          (blkOk_by (N := ["found", "due", "k"]) (sc := defScope s__law_alike) (by decide +kernel)) (fun _ _ _ _ _ => pg_name (i := 2) nd rfl (.inl rfl))
          (fun _ _ _ _ _ => pts_one (pt_not (pt_val (pe_call G hr (by rfl) T.d__law_alike.g T.d__law_alike.F.kp T.d__law_alike.b .nil pass0 (pa_cons (pe_ix (x_tup K) (pv 0) (pv 2) (fun _ _ => rfl)) (pa_cons (pe_ix (x_tup K) (pv 1) (pv 2) (fun _ _ => rfl)) pa_nil))))))
          (fun _ _ _ _ _ => pv 2)) (pe_lst pa_nil) (nomark _)))))) pss_nil)
      (pss_cons ps_never (pss_one ps_never)), ?_⟩
    refine ⟨.ref b, rfl, by decide, fun tp htp => ?_⟩
    have sm := same_upd (o := .tup [V.ty "tuple", V.ty "list"]) htp
    refine ⟨.ref b, tp, _, .type "tuple", [.type "tuple", .type "list"], true, rfl, upd_same, .cons (.ty _) (.cons (.ty _) .nil), tyx_tup (Same.tup sm hB), isi_tt, _, rfl, iteT ?_⟩
    refine ⟨.ref a, rfl, by decide, fun tp2 htp2 => ?_⟩
    have sm2 := sm.trans (same_upd (o := .tup [V.ty "tuple", V.ty "list"]) htp2)
    refine ⟨.ref a, tp2, _, .type "tuple", [.type "tuple", .type "list"], true, rfl, upd_same, .cons (.ty _) (.cons (.ty _) .nil), tyx_tup (Same.tup sm2 hA), isi_tt, _, rfl, iteF ?_⟩
    refine ⟨.ref a, rfl, .ref a, .ty "list", .type "tuple", .type "list", false, rfl, .ty _, tyx_tup (Same.tup sm2 hA), kit_ty (by decide +kernel), ?_⟩
    refine ⟨.ref b, rfl, .ref b, .ty "list", .type "tuple", .type "list", false, rfl, .ty _, tyx_tup (Same.tup sm2 hB), kit_ty (by decide +kernel), rfl, ?_⟩
    refine ⟨false, by rw [decide_eq_true rfl]; rfl, iteF ?_⟩
    refine ⟨.ref a, rfl, a, xs, rfl, .inr (Same.tup sm2 hA), .ref b, rfl, b, ys, rfl, .inr (Same.tup sm2 hB), rfl, false, ?_, iteF ?_⟩
    · rw [hl, decide_eq_true rfl]
      rfl
    generalize upd (upd H tp (.tup [V.ty "tuple", V.ty "list"])) tp2 (.tup [V.ty "tuple", V.ty "list"]) = H2 at sm2
    refine ⟨.ref b, rfl, b, ys, rfl, .inr (Same.tup sm2 hB), _, rfl, by omega, by omega, fun D hD => ?_⟩
    show ∃ W, _
    rw [Int.toNat_natCast]
    refine lc_range (lo := 0) (n := ys.length) (fun i H3 => Same H2 H3 ∧ H3 D = some (.lst [])) ⟨same_upd hD, upd_same⟩ ?_ ?_
    · rintro i H3 hi ⟨sm3, hd3⟩
      have sm4 := sm2.trans sm3
      have hx : xs[i]? = some (xs[i]'(by omega)) := List.getElem?_eq_getElem _
      have hy : ys[i]? = some ys[i] := List.getElem?_eq_getElem hi
      refine ⟨rfl, .ref a, rfl, .int (0 + (i : Int)), rfl, a, xs, 0 + (i : Int), _, rfl, rfl, Same.tup sm4 hA, by rw [Int.zero_add]; exact atI_nat hx, ?_⟩
      refine ⟨.ref b, rfl, .int (0 + (i : Int)), rfl, b, ys, 0 + (i : Int), _, rfl, rfl, Same.tup sm4 hB, by rw [Int.zero_add]; exact atI_nat hy, ?_⟩
      refine hsub i _ _ hx hy H3 _ _ sm4 fun H5 sm5 => ⟨true, rfl, ?_⟩
      exact iteF ⟨sm3.trans sm5, sm5 _ _ hd3⟩
    · rintro H3 ⟨sm3, hd3⟩
      refine ⟨Nat.zero_le _, fun e0 he0 => ⟨D, e0, [], [], rfl, rfl, SqL.up (same_upd he0 _ _ hd3), .nil, shaped_nil, SqL.up upd_same, ?_⟩⟩
      exact q _ ((sm2.trans sm3).trans (same_upd he0))
/-- two lots that are one -/
theorem ok_alike1 (T : Txt K mg) : FnOk P w K mg base CX0 2 T.d__law_alike.f T.d__law_alike.fd ["found", "due"] (sp_alikeT K sp_alike0) := ok_alikeT T (ok_alike0 T)
theorem ok_alike2 (T : Txt K mg) : FnOk P w K mg base CX0 3 T.d__law_alike.f T.d__law_alike.fd ["found", "due"] (sp_alikeT K (sp_alikeT K sp_alike0)) := ok_alikeT T (ok_alike1 T)
theorem lot_alike {H : Hp} {a b : Addr} {l : List Nat} {Q : VK} {E : XK} (hA : LotAt K H a l) (hB : LotAt K H b l) (hl : l.length ≤ 1000) (q : ∀ H', Same H H' → Q (.bl true) H') : sp_alikeT K sp_alike0 [.ref a, .ref b] H Q E := by
  refine ⟨a, b, lotV l, lotV l, rfl, hA, hB, rfl, by rw [List.length_map]; exact hl, fun i x y hx hy H1 Q' E' sm q' => ?_, q⟩
  have e : y = x := Option.some.inj (hy.symm.trans hx)
  obtain ⟨k, _, ex⟩ := get_lotV hx
  exact ⟨x, by rw [e], .inl ⟨k, ex⟩, q'⟩
theorem lots_alike {H : Hp} {a b : Addr} {ls : List (List Nat)} {Q : VK} {E : XK} (hA : LotsAt K H a ls) (hB : LotsAt K H b ls) (hl : ls.length ≤ 1000) (hll : ∀ l ∈ ls, l.length ≤ 1000) (q : ∀ H', Same H H' → Q (.bl true) H') : sp_alikeT K (sp_alikeT K sp_alike0) [.ref a, .ref b] H Q E := by
  obtain ⟨ts, h1, p1⟩ := hA
  obtain ⟨us, h2, p2⟩ := hB
  have l1 : ts.length = ls.length := Paired.length p1
  have l2 : us.length = ls.length := Paired.length p2
  refine ⟨a, b, _, _, rfl, h1, h2, by rw [List.length_map, List.length_map, l1, l2], by rw [List.length_map, l2]; exact hl, fun i x y hx hy H1 Q' E' sm q' => ?_, q⟩
  obtain ⟨t, ht, rfl⟩ := get_refs hx
  obtain ⟨u, hu, rfl⟩ := get_refs hy
  obtain ⟨l, hl1, z1⟩ := paired_at p1 ht
  obtain ⟨l', hl2, z2⟩ := paired_at p2 hu
  have e : l' = l := Option.some.inj (hl2.symm.trans hl1)
  subst e
  exact lot_alike (z1.same sm) (z2.same sm) (hll _ (List.mem_of_getElem? hl1)) q'
end
end N

set_option Elab.async false
set_option linter.all false
set_option maxRecDepth 100000
set_option maxHeartbeats 2000000
namespace N
open Cb (lotV combs combsOf combsOf_sub)
open PySem PySem.Spec PyProof.Rows L2
theorem pg_tupK (K : PySem.W.Frag) {X : Cx} {es : List Expr} {k : Nat} {t : TGs} {n : Nat} {pos : Pos} (hc : X.calm = true) (h : PGs X es t) (hK : X.K = K := by rfl)
    (hn : (assignEach es X.env).length = n := by rfl) (hst : (assignEach es X.env).findIdx? (·.1) = none := by rfl) : PG X (.Tuple es k pos) (gTup K n t) := by
  subst hK
  exact pg_tup hc h hn hst
/-- a comprehension over zip of two lists of one length, which it leaves as they are -/
theorem lc_zipL {K : PySem.W.Frag} {a b : Addr} {xs ys : List V} (hlen : xs.length = ys.length) {g : TG} {tt : TT} {te : TE} {vs : List Nat} {σ : L2.St} {H1 : Hp} {D : Addr} {Qd : Hp → Prop} (Pv : Nat → Hp → Prop) (h0 : Pv 0 (upd H1 D (.lst []))) (hl : ∀ i H, Pv i H → SqL K H a xs ∧ SqL K H b ys)
    (hs : ∀ (i : Nat) (x y : V) (T : Addr) (H : Hp), xs[i]? = some x → ys[i]? = some y → Pv i H → H T = none → g (.ref T) (wipe σ vs) (upd H T (.tup [x, y])) fun σ2 H2 => wipe σ2 vs = wipe σ vs ∧ tt σ2 H2 fun b H3 =>
      if b = true then te σ2 H3 fun y H4 => ∃ acc, H4 D = some (.lst acc) ∧ acc.length < sizeLine ∧ Pv (i + 1) (upd H4 D (.lst (acc ++ [y]))) else Pv (i + 1) H3) (hd : ∀ H, Pv xs.length H → Qd H) :
    ∃ W : Nat → Nat → Hp → Prop, (∃ m, W 0 m (upd H1 D (.lst []))) ∧ ∀ i m H, W i m H →
      ((Itz K a b).stop i H ∧ Qd H) ∨ ((Itz K a b).go i H ∧ ∃ Nx : Hp → Prop, (∀ H', Nx H' → ∃ m', m' < m ∧ W (i + 1) m' H') ∧ ∀ x H', (Itz K a b).yld i H x H' → g x (wipe σ vs) H' fun σ2 H2 => wipe σ2 vs = wipe σ vs ∧ tt σ2 H2 fun b H3 =>
        if b = true then te σ2 H3 fun y H4 => ∃ acc, H4 D = some (.lst acc) ∧ acc.length < sizeLine ∧ Nx (upd H4 D (.lst (acc ++ [y]))) else Nx H3) := by
  refine ⟨fun i m H => m = xs.length - i ∧ i ≤ xs.length ∧ Pv i H, ⟨xs.length, by simp, Nat.zero_le _, h0⟩, ?_⟩
  rintro i m H ⟨rfl, hi, p⟩
  obtain ⟨qx, qy⟩ := hl i H p
  by_cases hlt : i < xs.length
  · refine .inr ⟨⟨xs, ys, xs[i], ys[i]'(by omega), qx, qy, List.getElem?_eq_getElem _, List.getElem?_eq_getElem _⟩, Pv (i + 1), fun H' p' => ⟨xs.length - (i + 1), by omega, rfl, hlt, p'⟩, fun v H' y => ?_⟩
    obtain ⟨T, x, y, rfl, hT, rfl, hx, hy⟩ := y
    exact hs i x y T H (hx xs qx) (hy ys qy) p hT
  · have e : i = xs.length := by omega
    subst e
    exact .inl ⟨⟨xs, ys, qx, qy, .inl (Nat.le_refl _)⟩, hd H p⟩
/-! ### the lots that are not empty, in their order -/
def tailL (n : Nat) : Nat → List (List Nat)
  | 0 => []
  | k + 1 => tailL n k ++ combs n (k + 1)
theorem range_lots (n : Nat) : ∀ k : Nat, (List.range (k + 1)).flatMap (fun r => combs n r) = [] :: tailL n k
  | 0 => by
    have e : combs n 0 = [[]] := by
      unfold combs
      cases List.range n <;> rfl
    show combs n 0 ++ [] = _
    rw [e]
    rfl
  | k + 1 => by
    rw [List.range_succ, List.flatMap_append, range_lots n k]
    simp [tailL]
theorem allL_cons (n : Nat) : allL n = [] :: tailL n n := range_lots n n
theorem tail_ok {n : Nat} : ∀ {k : Nat} {l : List Nat}, l ∈ tailL n k → LotOk n l ∧ l ≠ []
  | 0, l, h => by cases h
  | k + 1, l, h => by
    rcases List.mem_append.mp h with z | z
    · exact tail_ok z
    · have q := combs_mem.mp z
      refine ⟨q.1, fun e => ?_⟩
      rw [e] at q
      have := q.2
      simp at this
theorem combs_full : ((List.range 6).all fun n => combs n n == [List.range n]) = true := by decide +kernel
theorem tail_last {n : Nat} (h1 : 1 ≤ n) (h5 : n ≤ 5) : ∃ r, tailL n n = r ++ [List.range n] := by
  obtain ⟨k, rfl⟩ : ∃ k, n = k + 1 := ⟨n - 1, by omega⟩
  have h := List.all_eq_true.mp combs_full (k + 1) (List.mem_range.mpr (by omega))
  have e : combs (k + 1) (k + 1) = [List.range (k + 1)] := by simpa using h
  refine ⟨tailL (k + 1) k, ?_⟩
  rw [← e]
  rfl
theorem tail_hard (es : List Ent) (n : Nat) : ∀ k : Nat, (tailL n k).filter (fun l => (firstOf es l).isNone) = hards es n k
  | 0 => rfl
  | k + 1 => by
    rw [tailL, List.filter_append, tail_hard es n k]
    rfl
theorem tail_len {n : Nat} (hn : n ≤ 5) : (tailL n n).length ≤ 31 := by
  have := allL_len hn
  rw [allL_cons, List.length_cons] at this
  omega
/-! ### numbers of lots -/
theorem can_goal {h : List (List Nat)} {c : Nat} {g g' : List Nat} (hs : ∀ i ∈ g', i ∈ g) (x : Can h c g) : Can h c g' := by
  obtain ⟨t, S, hS, hg⟩ := x
  exact ⟨t, S, hS, fun i hi => hg i (hs i hi)⟩
theorem rch_more {h : List (List Nat)} {c c' : Nat} (hc : c ≤ c') : ∀ {t : Nat} {S : List Nat}, RchL h c t S → RchL h c' t S
  | 0, _, x => x
  | t + 1, S, ⟨S0, L, h1, h2, h3, e⟩ => ⟨S0, L, rch_more hc h1, h2, Nat.le_trans h3 hc, e⟩
theorem can_more {h : List (List Nat)} {c c' : Nat} {g : List Nat} (hc : c ≤ c') (x : Can h c g) : Can h c' g := by
  obtain ⟨t, S, hS, hg⟩ := x
  exact ⟨t, S, rch_more hc hS, hg⟩
/-- the law's own choice of lots is the program's -/
theorem good_is {h : List (List Nat)} {c : Nat} {es : List Ent} (hn : IsNum h (List.range h.length) (c + 1)) (W : WaysOk (h.map maskOf) (cmsOf (List.range h.length) [c]) es) {l : List Nat} (ok : LotOk h.length l) {d : Nat} (hd : IsNum h l d) : decide (d = c + 1) = (firstOf es l).isNone := by
  have hd0 := isDays_none (first_days (goal := l) W)
  have hle : d ≤ c + 1 := by
    rcases Nat.lt_or_ge (c + 1) d with z | z
    · exact absurd (can_goal (fun i hi => List.mem_range.mpr (ok.lt i hi)) hn.1) (hd.2 _ z)
    · exact z
  rw [Bool.eq_iff_iff, decide_eq_true_eq, Option.isNone_iff_eq_none]
  rw [Option.map_eq_none_iff] at hd0
  rw [hd0]
  constructor
  · intro e
    exact hd.2 c (by omega)
  · intro hno
    rcases Nat.lt_or_ge d (c + 1) with z | z
    · exact absurd (can_more (by omega) hd.1) hno
    · omega
/-- the lots whose number is v -/
def goodL (v : Nat) : List (List Nat) → List Nat → List (List Nat)
  | l :: ls, c :: cs => (if c = v then [l] else []) ++ goodL v ls cs
  | _, _ => []
theorem good_filter {h : List (List Nat)} {v : Nat} {p : List Nat → Bool} : ∀ {ls : List (List Nat)} {cs : List Nat}, Paired (fun l c => IsNum h l c) ls cs → (∀ l ∈ ls, ∀ d, IsNum h l d → decide (d = v) = p l) → goodL v ls cs = ls.filter p
  | _, _, .nil, _ => rfl
  | l :: ls, c :: cs, .cons r t, hp => by
    have ih := good_filter t fun l hl => hp l (List.mem_cons_of_mem _ hl)
    have e := hp l List.mem_cons_self c r
    unfold goodL
    rw [ih, List.filter_cons]
    by_cases z : c = v
    · rw [if_pos z]
      rw [decide_eq_true z] at e
      rw [← e, if_pos rfl]
      rfl
    · rw [if_neg z]
      rw [decide_eq_false z] at e
      rw [← e, if_neg (by simp)]
      rfl
theorem good_take {v : Nat} : ∀ {ls : List (List Nat)} {cs : List Nat} {i : Nat} {l : List Nat} {c : Nat}, ls[i]? = some l → cs[i]? = some c → goodL v (ls.take (i + 1)) (cs.take (i + 1)) = goodL v (ls.take i) (cs.take i) ++ (if c = v then [l] else [])
  | [], _, i, l, c, h, _ => by cases h
  | _ :: _, [], i, l, c, _, h => by cases h
  | l0 :: ls, c0 :: cs, 0, l, c, h1, h2 => by
    have e1 := Option.some.inj h1
    have e2 := Option.some.inj h2
    subst e1; subst e2
    simp [goodL]
  | l0 :: ls, c0 :: cs, i + 1, l, c, h1, h2 => by
    have ih := good_take (v := v) (ls := ls) (cs := cs) (i := i) (l := l) (c := c) h1 h2
    rw [List.take_succ_cons, List.take_succ_cons, List.take_succ_cons, List.take_succ_cons]
    show (if c0 = v then [l0] else []) ++ goodL v (ls.take (i + 1)) (cs.take (i + 1)) = ((if c0 = v then [l0] else []) ++ goodL v (ls.take i) (cs.take i)) ++ _
    rw [ih, List.append_assoc]
theorem good_len (v : Nat) : ∀ (ls : List (List Nat)) (cs : List Nat), (goodL v ls cs).length ≤ ls.length
  | [], _ => Nat.zero_le _
  | _ :: _, [] => Nat.zero_le _
  | l :: ls, c :: cs => by
    have := good_len v ls cs
    unfold goodL
    rw [List.length_append, List.length_cons]
    split <;> simp <;> omega
theorem cut1 (ts : List Addr) (t : Addr) : cutV ((t :: ts).map V.ref) (some 1) none = ts.map V.ref := by
  unfold cutV
  have e1 : HT.sIx ((t :: ts).map V.ref).length 0 (some 1) = 1 := by
    rw [List.length_map, List.length_cons]
    simp [HT.sIx]
  have e2 : HT.sIx ((t :: ts).map V.ref).length ((t :: ts).map V.ref).length none = ts.length + 1 := by
    rw [List.length_map, List.length_cons]
    rfl
  rw [e1, e2, List.map_cons]
  show (ts.map V.ref).take (ts.length + 1 - 1) = _
  exact List.take_of_length_le (by rw [List.length_map]; omega)
end N

set_option Elab.async false
set_option linter.all false
set_option maxRecDepth 100000
set_option maxHeartbeats 2000000
/-! what is covered the next day -/
namespace N
open Cb (lotV combs combsOf combsOf_sub)
open PySem PySem.Spec PyProof.Rows L2
/-- a comprehension over enumerate(t), t a tuple -/
theorem lc_enumT {K : PySem.W.Frag} {a : Addr} {xs : List V} {g : TG} {tt : TT} {te : TE} {vs : List Nat} {σ : L2.St} {H1 : Hp} {D : Addr} {Qd : Hp → Prop} (Pv : Nat → Hp → Prop) (h0 : Pv 0 (upd H1 D (.lst []))) (hl : ∀ i H, Pv i H → SqT K H a xs)
    (hs : ∀ (i : Nat) (x : V) (T : Addr) (H : Hp), xs[i]? = some x → Pv i H → H T = none → g (.ref T) (wipe σ vs) (upd H T (.tup [.int (i : Nat), x])) fun σ2 H2 => wipe σ2 vs = wipe σ vs ∧ tt σ2 H2 fun b H3 =>
      if b = true then te σ2 H3 fun y H4 => ∃ acc, H4 D = some (.lst acc) ∧ acc.length < sizeLine ∧ Pv (i + 1) (upd H4 D (.lst (acc ++ [y]))) else Pv (i + 1) H3) (hd : ∀ H, Pv xs.length H → Qd H) :
    ∃ W : Nat → Nat → Hp → Prop, (∃ m, W 0 m (upd H1 D (.lst []))) ∧ ∀ i m H, W i m H →
      ((En.IteT K a).stop i H ∧ Qd H) ∨ ((En.IteT K a).go i H ∧ ∃ Nx : Hp → Prop, (∀ H', Nx H' → ∃ m', m' < m ∧ W (i + 1) m' H') ∧ ∀ x H', (En.IteT K a).yld i H x H' → g x (wipe σ vs) H' fun σ2 H2 => wipe σ2 vs = wipe σ vs ∧ tt σ2 H2 fun b H3 =>
        if b = true then te σ2 H3 fun y H4 => ∃ acc, H4 D = some (.lst acc) ∧ acc.length < sizeLine ∧ Nx (upd H4 D (.lst (acc ++ [y]))) else Nx H3) := by
  refine ⟨fun i m H => m = xs.length - i ∧ i ≤ xs.length ∧ Pv i H, ⟨xs.length, by simp, Nat.zero_le _, h0⟩, ?_⟩
  rintro i m H ⟨rfl, hi, p⟩
  have qx := hl i H p
  by_cases hlt : i < xs.length
  · refine .inr ⟨⟨xs, xs[i], qx, List.getElem?_eq_getElem _⟩, Pv (i + 1), fun H' p' => ⟨xs.length - (i + 1), by omega, rfl, hlt, p'⟩, fun v H' y => ?_⟩
    obtain ⟨T, x, rfl, hT, rfl, hx⟩ := y
    exact hs i x T H (hx xs qx) p hT
  · have e : i = xs.length := by omega
    subst e
    exact .inl ⟨⟨xs, qx, rfl⟩, hd H p⟩
theorem c_all (K : PySem.W.Frag) {X : Cx} (hc : X.calm = true) (hK : X.K = K := by rfl) : CallR X (.builtin "all") (rAll K) := by
  subst hK
  exact cr_all hc
theorem p_iTup (K : PySem.W.Frag) {X : Cx} {tg l : Expr} {tl : TE} (hl : PE X l tl) (hK : X.K = K := by rfl) : PI X tg l (iTup K tl) := by
  subst hK
  exact pi_tup hl
theorem o_in (K : PySem.W.Frag) {X : Cx} (hK : X.K = K := by rfl) : OpR X (compareOp .In) (rIn K false) := by
  subst hK
  exact op_in_seq
abbrev scAfter : Scope := { kind := .function, names := [((".0" : Str), .local), (("clerk" : Str), .local), (("row" : Str), .local), (("all" : Str), .globalImplicit), (("held" : Str), .cell)], isGenerator := false, isCoroutine := false }
section
variable {P : Program} {w : World} {K : PySem.W.Frag} {mg : Str → Option Value} {base : Heap}
def sp_after (K : PySem.W.Frag) : Sp := fun vs H Q _ => ∃ (a b d : Addr) (h : List (List Nat)) (S L : List Nat), vs = [.ref a, .ref b, .ref d] ∧ HouseAt K H a h ∧ HouseOk h ∧ LotAt K H b S ∧ LotOk h.length S ∧ LotAt K H d L ∧ LotOk h.length L ∧
  ∀ (H' : Hp) (p : Addr), Same H H' → H' p = some (.tup (lotV (nextL h S L))) → Q (.ref p) H'
theorem sc_after : FnScope ["house", "covered", "coins", "held", "clerk", "row", "slate"] ["house", "covered", "coins"] (defScope s_after) := ⟨rfl, rfl, rfl, by decide +kernel, rfl, by decide +kernel, by decide +kernel⟩
theorem ok_after (T : Txt K mg) : FnOk P w K mg base CX0 4 T.d_after.f T.d_after.fd ["house", "covered", "coins"] (sp_after K) := by
  have G1 := ok_check_house (P := P) (w := w) (base := base) T
  have G2 := ok_check_lot (P := P) (w := w) (base := base) T
  refine T.d_after.F.ok sc_after (fun vs H Q E h => ?_) (fun cdv A outer s H vs Q E hr h => ?_)
  · obtain ⟨a, b, d, h, S, L, rfl, _⟩ := h
    rfl
  · obtain ⟨a, b, d, hs, S, L, rfl, hA, ok, hB, okS, hL, okL, q⟩ := h
    have nd := sc_after.nd
    refine ⟨_, pss_cons (ps_expr (pe_call G1 hr (by rfl) T.d_check_house.g T.d_check_house.F.kp T.d_check_house.b .nil pass0 (pa_cons (pv 0) pa_nil)))
      (pss_cons (ps_expr (pe_call G2 hr (by rfl) T.d_check_lot.g T.d_check_lot.F.kp T.d_check_lot.b .nil pass0 (pa_cons (pv 0) (pa_cons (pv 1) pa_nil))))
      (pss_cons (ps_expr (pe_call G2 hr (by rfl) T.d_check_lot.g T.d_check_lot.F.kp T.d_check_lot.b .nil pass0 (pa_cons (pv 0) (pa_cons (pv 2) pa_nil))))
      (pss_cons (ps_set (i := 3) nd rfl (.inr rfl) (pe_op op_catA (pv 1) (pv 2)))
      (pss_one (ps_ret (pe_tupleOf (by rfl) T.n_tuple (pe_lc (own := [("clerk", 4), ("row", 5)]) (g := gTup K 2 (gCons (gName 4) (gCons (gName 5) gNil))) (wi := En.iEnumT K (tCons (tVar 0) tNil)) rfl nd (En.pi_enumT (by rfl) T.n_enumerate (pa_cons (pv 0) pa_nil))
        (blkOk_by (N := ["house", "covered", "coins", "held", "clerk", "row", "slate"]) (sc := defScope s_after) (by decide +kernel))
        (fun _ _ _ _ _ => pg_tupK K rfl (pgs_cons (pg_name (i := 4) nd rfl (.inl rfl)) (pgs_cons (pg_name (i := 5) nd rfl (.inl rfl)) pgs_nil)))
        (fun _ _ _ _ _ => pts_one (pt_val (pe_callB (c_all K rfl) (by rfl) T.n_all (by decide +kernel) (pa_cons
          (pe_lc (own := [("slate", 6)]) (g := gName 6) (tt := tYes) (te := tOp (rIn K false) (tVar 6) (tVar 3)) (wi := iTup K (tVar 5)) rfl nd (p_iTup K (pv 5))
            (blkOk_by (N := ["house", "covered", "coins", "held", "clerk", "row", "slate"]) (sc := scAfter) (by decide +kernel))
            (fun _ _ _ _ _ => pg_name (i := 6) nd rfl (.inl rfl)) (fun _ _ _ _ _ => pts_nil) (fun _ _ _ _ _ => pe_cmpR (o_in K) (pv 6) (pv 3) (by rfl))) pa_nil))))
        (fun _ _ _ _ _ => pv 4)))))))), ?_⟩
    refine ⟨.ref a, rfl, a, hs, rfl, hA, ok, fun H1 sm1 => ?_⟩
    refine ⟨.ref a, rfl, .ref b, rfl, a, b, hs, S, rfl, hA.same sm1, hB.same sm1, okS, ?_⟩
    refine ⟨.ref a, rfl, .ref d, rfl, a, d, hs, L, rfl, hA.same sm1, hL.same sm1, okL, ?_⟩
    have hn7 := ok.hi
    have hcat : ∀ Qr : VK, (∀ (H2 : Hp) (hp : Addr), Same H H2 → LotAt K H2 hp (S ++ L) → Qr (.ref hp) H2) → rCatA K (.ref b) (.ref d) H1 Qr := fun Qr f => by
      have hB1 := hB.same sm1
      have hL1 := hL.same sm1
      refine ⟨b, d, lotV S, lotV L, rfl, rfl, hB1, hL1, ?_, fun e => ?_, fun _ e => ?_, fun _ _ p hp => ?_⟩
      · rw [List.length_map, List.length_map]
        have h1 := okS.len
        have h2 := okL.len
        exact Nat.le_of_lt (small1000 (by omega))
      · have e' : S = [] := List.map_eq_nil_iff.mp e
        exact f H1 d sm1 (by rw [e']; exact hL1)
      · have e' : L = [] := List.map_eq_nil_iff.mp e
        exact f H1 b sm1 (by rw [e', List.append_nil]; exact hB1)
      · refine f _ p (sm1.trans (same_upd hp)) (SqT.up ?_)
        rw [upd_same]
        unfold lotV
        rw [List.map_append]
    refine ⟨.ref b, rfl, .ref d, rfl, hcat _ fun H2 hp sm2 hH => ?_⟩
    have hA2 := hA.same sm2
    obtain ⟨rs, hR, hP⟩ := id hA2
    have hl : rs.length = hs.length := Paired.length hP
    have hlv : (rs.map V.ref).length = hs.length := by rw [List.length_map, hl]
    refine ⟨.ref a, rfl, a, _, rfl, hR, fun D hD => ?_⟩
    refine lc_enumT (K := K) (a := a) (xs := rs.map V.ref) (fun i H3 => Same H2 H3 ∧ H3 D = some (.lst (lotV ((List.range i).filter fun i => (hs.getD i []).all fun s => decide (s ∈ S) || decide (s ∈ L)))))
      ⟨same_upd hD, upd_same⟩ (fun i H3 h3 => Same.tup h3.1 hR) ?_ ?_
    · rintro i x T3 H3 hi ⟨sm3, hd3⟩ hT3
      obtain ⟨rp, hri, rfl⟩ := get_refs hi
      obtain ⟨row, hrow, hat⟩ := paired_at hP hri
      have hlt : i < hs.length := (List.getElem?_eq_some_iff.mp hrow).1
      have okr := (ok.ok row (List.mem_of_getElem? hrow)).2
      have sT : Same H3 (upd H3 T3 (.tup [.int (i : Nat), .ref rp])) := same_upd hT3
      refine ⟨T3, [.int (i : Nat), .ref rp], rfl, .inl (.inl upd_same), rfl, .int (i : Nat), [.ref rp], rfl, .ref rp, [], rfl, rfl, rfl, ?_⟩
      have sm4 := sm3.trans sT
      have hd4 := sT _ _ hd3
      generalize upd H3 T3 (.tup [.int (i : Nat), .ref rp]) = H4 at sm4 hd4
      have hrl := okr.len
      refine ⟨.ref rp, rfl, rp, rfl, ⟨_, hat.same sm4⟩, fun D2 hD2 => ?_⟩
      refine lc_tup (K := K) (a := rp) (xs := lotV row) (fun j H5 => H5 = upd H4 D2 (.lst ((row.take j).map fun s => V.bl (decide (s ∈ S ++ L))))) rfl (fun j H5 _ e => by rw [e]; exact (hat.same sm4).same (same_upd hD2)) ?_ ?_
      · rintro j y H5 hj rfl
        obtain ⟨k, hk, rfl⟩ := get_lotV hj
        have smD : Same H4 (upd H4 D2 (.lst ((row.take j).map fun s => V.bl (decide (s ∈ S ++ L))))) := same_upd hD2
        refine ⟨rfl, tYes_if ⟨.int (k : Int), rfl, .ref hp, rfl, hp, lotV (S ++ L), rfl, .inr ((hH.same sm4).same smD), rfl, flat_lot _, ?_⟩⟩
        refine ⟨_, upd_same, ?_, ?_⟩
        · rw [List.length_map, List.length_take]
          exact Nat.lt_of_le_of_lt (Nat.min_le_right _ _) (small1000 (by omega))
        · show upd _ _ _ = _
          rw [upd_upd, take_succ hk, List.map_append]
          show upd H4 D2 (.lst (_ ++ [V.bl (inV (.int (k : Int)) (lotV (S ++ L)))])) = _
          rw [inV_lot]
          rfl
      · rintro H5 rfl
        rw [List.length_map, List.take_length]
        have smD : Same H4 (upd H4 D2 (.lst (row.map fun s => V.bl (decide (s ∈ S ++ L))))) := same_upd hD2
        refine ⟨D2, row.map fun s => decide (s ∈ S ++ L), rfl, SqL.up (by rw [upd_same, List.map_map]; rfl), _, rfl, ?_⟩
        have hd5 := smD _ _ hd4
        have eall : (row.map fun s => decide (s ∈ S ++ L)).all id = row.all fun s => decide (s ∈ S) || decide (s ∈ L) := by
          rw [List.all_map]
          congr 1
          funext s
          simp [Bool.decide_or]
        have egd : hs.getD i [] = row := by rw [List.getD_eq_getElem?_getD, hrow]; rfl
        have ef : (List.range (i + 1)).filter (fun i => (hs.getD i []).all fun s => decide (s ∈ S) || decide (s ∈ L)) = (List.range i).filter (fun i => (hs.getD i []).all fun s => decide (s ∈ S) || decide (s ∈ L)) ++ if (row.all fun s => decide (s ∈ S) || decide (s ∈ L)) = true then [i] else [] := by
          rw [List.range_succ, List.filter_append]
          congr 1
          rw [List.filter_cons, egd]
          rfl
        rw [eall]
        refine ite2 (fun hb => ?_) (fun hb => ?_)
        · rw [if_pos hb] at ef
          refine ⟨.int (i : Nat), rfl, _, hd5, ?_, fun b' o e => ?_, ?_⟩
          · rw [List.length_map]
            have h3 := List.length_filter_le (fun i => (hs.getD i []).all fun s => decide (s ∈ S) || decide (s ∈ L)) (List.range i)
            rw [List.length_range] at h3
            exact small1000 (by omega)
          · rw [upd_ne (ne_of_none e hD)]
            exact smD _ _ (sm4 _ _ e)
          · rw [upd_same, ef]
            unfold lotV
            rw [List.map_append]
            rfl
        · rw [if_neg hb, List.append_nil] at ef
          exact ⟨sm4.trans smD, by rw [ef]; exact hd5⟩
    · rintro H3 ⟨sm3, hd3⟩
      rw [hlv] at hd3
      refine .inl ⟨D, _, rfl, SqL.up hd3, fun p hp' => ?_⟩
      exact q _ p ((sm2.trans sm3).trans (same_upd hp')) upd_same
end
end N

set_option Elab.async false
set_option linter.all false
set_option maxRecDepth 100000
set_option maxHeartbeats 2000000
/-! _row_covers -/
namespace N
open Cb (lotV combs combsOf combsOf_sub)
open PySem PySem.Spec PyProof.Rows L2 PySem.W GxR Gx
section
variable {X : Cx} {pins : List (Addr × Obj)} {σ : L2.St} {H : Hp} {s s₂ : Shared} {P : Addr}
theorem nums_of {p : Addr} {l : List Nat} (I : Inv X pins σ H s) (hT : TabG H P) (k : ∀ b o, b ≠ P → s.heap.get? b = some o → s₂.heap.get? b = some o) (hL : LotAt X.K H p l) : NumsAt s₂.heap p l := by
  obtain ⟨its, rv, hI, hz⟩ := I.tuple hL
  replace hI : s.heap.IsTuple p its.toArray := hI
  have hne : p ≠ P := by
    obtain ⟨ps, hP, _⟩ := hT
    have hPs := I.hok P _ hP
    rintro rfl
    obtain ⟨o, ho, hc, n, hd⟩ := hI
    rw [hPs] at ho
    cases ho
    cases hd
  refine ⟨_, hI.at fun o e => k p o hne e, ?_, fun i u hu => ?_⟩
  · have := Vals.length rv
    rw [List.length_map] at this
    simpa using this.symm
  · have hu' : its[i]? = some u := by simpa using hu
    have hlt : i < l.length := by
      have := Vals.length rv
      rw [List.length_map] at this
      rw [this]
      exact (List.getElem?_eq_some_iff.mp hu').1
    have hx : (lotV l)[i]? = some (V.int (l[i] : Nat)) := by
      unfold lotV
      rw [List.getElem?_map, List.getElem?_eq_getElem hlt]
      rfl
    obtain ⟨u', e, r⟩ := Vals.get rv hx
    rw [hu'] at e
    cases e
    obtain ⟨t, rfl⟩ := r
    exact ⟨l[i], t, List.getElem?_eq_getElem hlt, rfl⟩
theorem tabbed_ext {H H' : Hp} (hT : TabG H P) (e : Tabbed P H H') : LamX.ExtN H H' := fun b o h n => by
  by_cases hb : b = P
  · subst hb
    obtain ⟨ps, hP, _⟩ := hT
    rw [hP] at h
    cases h
    exact (n ps rfl).elim
  · rw [e.2 b hb]
    exact h
end
def covsL (h : List (List Nat)) (rows : List (List Nat)) : List Nat := rows.foldl (nextL h) []
theorem covs_take {h rows : List (List Nat)} {i : Nat} {r : List Nat} (e : rows[i]? = some r) : covsL h (rows.take (i + 1)) = nextL h (covsL h (rows.take i)) r := by
  unfold covsL
  rw [List.take_add_one, e, List.foldl_append]
  rfl
section
variable {P : Program} {w : World} {K : PySem.W.Frag} {mg : Str → Option Value} {base : Heap}
def sp_row_covers (K : PySem.W.Frag) (PT : Addr) : Sp := fun vs H Q _ => ∃ (a b d : Addr) (h rows : List (List Nat)) (ts : List Addr) (G : List Nat), vs = [.ref a, .ref b, .ref d] ∧ HouseAt K H a h ∧ HouseOk h ∧ SqT K H b (ts.map V.ref) ∧ Paired (fun t l => LotAt K H t l) ts rows ∧ (∀ r ∈ rows, LotOk h.length r) ∧ LotAt K H d G ∧ TabG H PT ∧
  ∀ (H' : Hp), LamX.ExtN H H' → ExtP PT H H' → TabG H' PT → Q (.bl (G.all fun s => decide (s ∈ covsL h rows))) H'
abbrev scRC : Scope := { kind := .function, names := [((".0" : Str), .local), (("slate" : Str), .local), (("covered" : Str), .free)], isGenerator := true, isCoroutine := false }
theorem sc_row_covers : FnScope ["house", "row", "goal", "covered", "coins"] ["house", "row", "goal"] (defScope s__row_covers) := ⟨rfl, rfl, rfl, by decide +kernel, rfl, by decide +kernel, by decide +kernel⟩
theorem ok_row_covers {c PT : Addr} (T : Txt K mg) (hc : T.d__row_covers.fd.code = .ref c) (TB : GxR.TabB base mg c PT) : FnOk P w K mg base CX0 5 T.d__row_covers.f T.d__row_covers.fd ["house", "row", "goal"] (sp_row_covers K PT) := by
  have G1 := ok_after (P := P) (w := w) (base := base) T
  obtain ⟨oc, od, kV, doc, pm, an, cdv, ct, osl, efd, lk, hcd⟩ := T.d__row_covers.F.ex
  rw [efd] at lk hc ⊢
  have hc' : cdv = .ref c := hc
  subst hc'
  refine fn_of lk hcd sc_row_covers (fun vs H Q E h => ?_) (fun A outer s H vs Q E hr h => ?_)
  · obtain ⟨a, b, d, h, rows, ts, G, rfl, _⟩ := h
    rfl
  · obtain ⟨a, b, d, hs, rows, ts, G, rfl, hA, ok, hB, hP, okr, hD, hT, q⟩ := h
    have nd := sc_row_covers.nd
    refine ⟨_, PSs.nox (pss_cons (ps_set (i := 3) nd rfl (.inr rfl) (pe_tup pa_nil))
      (pss_cons (ps_for PassesOwn.never rfl (pi_tup (pv 1)) (pg_name (i := 4) nd rfl (.inl rfl))
        (pss_one (ps_set (i := 3) nd rfl (.inr rfl) (pe_call G1 hr (by rfl) T.d_after.g T.d_after.F.kp T.d_after.b .nil pass0 (pa_cons (pv 0) (pa_cons (pv 3) (pa_cons (pv 4) pa_nil)))))))
      (pss_one (ps_ret (pe_allT (c := c) (P := PT) hr (by rfl) T.n_all TB rfl ⟨rfl, rfl, by decide +kernel, by decide +kernel, by decide +kernel, ?_⟩ (pv 2) (fun _ => rfl)))))), ?_⟩
    · intro y hy hf
      have e1 : y = (("covered" : Str), NameKind.free) := by
        rcases List.mem_cons.mp hy with z | z
        · rw [z] at hf; cases hf
        rcases List.mem_cons.mp z with z | z
        · rw [z] at hf; cases hf
        · exact List.mem_singleton.mp z
      rw [e1]
      exact Option.isSome_iff_exists.mp (PySem.W.cellsFrom_some _ _ _ (.inl rfl))
    · refine ⟨by decide, fun e0 he0 => ?_⟩
      have sm0 : Same H (upd H e0 (.tup [])) := same_upd he0
      refine ⟨.ref b, rfl, b, rfl, ⟨_, Same.tup sm0 hB⟩, for_tup (K := K) (a := b) (xs := ts.map V.ref) (fun i σ H2 => ∃ (p : Addr) (v4 : Option V), σ = [some (.ref a), some (.ref b), some (.ref d), some (.ref p), v4] ∧ Same H H2 ∧ LotAt K H2 p (covsL hs (rows.take i)) ∧ LotOk hs.length (covsL hs (rows.take i)))
        ⟨e0, none, rfl, sm0, SqT.up upd_same, List.nil_sublist _⟩ (fun i σ H2 _ h2 => by obtain ⟨p, v4, _, sm, _⟩ := h2; exact Same.tup sm hB) ?_ ?_⟩
      · rintro i y σ H2 hi ⟨p, v4, rfl, sm, hp, okp⟩
        obtain ⟨t, ht, rfl⟩ := get_refs hi
        obtain ⟨r, hr', hat⟩ := paired_at hP ht
        refine ⟨.ref a, rfl, .ref p, rfl, .ref t, rfl, a, p, t, hs, _, r, rfl, hA.same sm, ok, hp, okp, hat.same sm, okr r (List.mem_of_getElem? hr'), fun H3 p3 sm3 h3 => ?_⟩
        refine ⟨p3, some (.ref t), rfl, sm.trans sm3, ?_, ?_⟩
        · rw [covs_take hr']
          exact SqT.up h3
        · rw [covs_take hr']
          exact nextL_ok _ _ _
      · rintro σ H2 ⟨p, v4, rfl, sm, hp, okp⟩
        have hlen : ts.length = rows.length := Paired.length hP
        have et : rows.take (ts.map V.ref).length = rows := by rw [List.length_map, hlen, List.take_length]
        rw [et] at hp okp
        obtain ⟨ps, hPT, tok⟩ := id hT
        have hT2 : TabG H2 PT := ⟨ps, sm _ _ hPT, tok⟩
        refine ⟨.ref d, rfl, d, lotV G, fun i => decide (G.getD i 0 ∈ covsL hs rows), rfl, hD.same sm, hT2, ?_, fun H3 hT3 => ?_⟩
        · intro pins s1 its I rv cenv A' E' i u s₂ m₂ e1 e2 e3 e4 hh hd hu hi hn hm hk
          have hlt : i < G.length := by
            have := Vals.length rv
            rw [List.length_map] at this
            rw [this]
            exact (List.getElem?_eq_some_iff.mp hi).1
          have hx : (lotV G)[i]? = some (V.int (G[i] : Nat)) := by
            unfold lotV
            rw [List.getElem?_map, List.getElem?_eq_getElem hlt]
            rfl
          obtain ⟨u', e, r⟩ := Vals.get rv hx
          rw [hi] at e
          cases e
          obtain ⟨t, rfl⟩ := r
          obtain ⟨uc, ruc, hfr⟩ := gen_free (x := "covered") (i := 3) I hT2 (scope := scRC) rfl (fun y hy hf => by
            have e1 : y = (("covered" : Str), NameKind.free) := by
              rcases List.mem_cons.mp hy with z | z
              · rw [z] at hf; cases hf
              rcases List.mem_cons.mp z with z | z
              · rw [z] at hf; cases hf
              · exact List.mem_singleton.mp z
            rw [e1]
            exact Option.isSome_iff_exists.mp (PySem.W.cellsFrom_some _ _ _ (.inl rfl))) (.tail _ (.tail _ (.head _))) rfl rfl rfl rfl
          cases ruc
          refine wpAny_Compare1 (low_loc (by rw [e1]) (by show cenv.scope.names.lookup _ = _; rw [e1]; rfl) hn hm (hfr cenv A' E' s₂ _ _ e1 e2 hk ?_))
          refine in_nums (nums_of I hT2 hk hp) ⟨?_, keeps_refl _⟩
          have eg : G.getD i 0 = G[i] := by rw [List.getD_eq_getElem?_getD, List.getElem?_eq_getElem hlt]; rfl
          show Value.bool (decide (G[i] ∈ covsL hs rows)) = Value.bool (decide (G.getD i 0 ∈ covsL hs rows))
          rw [eg]
        · have e : (List.range (lotV G).length).all (fun i => decide (G.getD i 0 ∈ covsL hs rows)) = G.all fun s => decide (s ∈ covsL hs rows) := by
            rw [List.length_map]
            have : G.map (fun s => decide (s ∈ covsL hs rows)) = (List.range G.length).map (fun i => decide (G.getD i 0 ∈ covsL hs rows)) := by
              refine List.ext_getElem (by simp) (fun i h1 h2 => ?_)
              simp at h1
              simp [List.getD_eq_getElem?_getD, h1]
            have e2 : (G.map (fun s => decide (s ∈ covsL hs rows))).all id = ((List.range G.length).map (fun i => decide (G.getD i 0 ∈ covsL hs rows))).all id := by rw [this]
            rw [List.all_map, List.all_map] at e2
            exact e2.symm
          rw [e]
          exact q H3 (LamX.ExtN.trans (Same.extN sm) (tabbed_ext hT2 hT3)) ((extP_same sm).trans (extP_tabbed hT3)) hT3.1
end
end N

set_option Elab.async false
set_option linter.all false
set_option maxRecDepth 100000
set_option maxHeartbeats 2000000
/-! things judged: lots, other tuples, None; is_lot as an element of a generator expression -/
namespace N
open Cb (lotV combs combsOf combsOf_sub)
open PySem PySem.Spec PyProof.Rows L2 PySem.W GxR Gx
def FlatY (y : V) : Prop := (∃ i, y = V.int i) ∨ ∃ b, y = V.bl b
/-- None, or a tuple of numbers and bools -/
def ItmAt (K : PySem.W.Frag) (H : Hp) (x : V) : Option (List V) → Prop
  | none => x = .non
  | some ys => ∃ t, x = .ref t ∧ SqT K H t ys ∧ ∀ y ∈ ys, FlatY y
def itmB (n : Nat) : Option (List V) → Bool
  | none => false
  | some ys => lotB n 0 ys
theorem ItmAt.ext {K : PySem.W.Frag} {H H' : Hp} {x : V} {m : Option (List V)} (h : ItmAt K H x m) (e : LamX.ExtN H H') : ItmAt K H' x m := by
  cases m with
  | none => exact h
  | some ys => exact let ⟨t, h1, h2, h3⟩ := h; ⟨t, h1, So.extN_seqT e h2, h3⟩
theorem flat_lots (l : List Nat) : ∀ y ∈ lotV l, FlatY y := fun y hy => by
  obtain ⟨k, _, rfl⟩ := List.mem_map.mp hy
  exact .inl ⟨_, rfl⟩
theorem lot_itm {K : PySem.W.Frag} {H : Hp} {t : Addr} {l : List Nat} (h : LotAt K H t l) : ItmAt K H (.ref t) (some (lotV l)) := ⟨t, rfl, h, flat_lots l⟩
theorem lotB_back {n : Nat} : ∀ {ys : List V} {least : Nat}, lotB n (least : Nat) ys = true → ∃ l : List Nat, ys = lotV l ∧ l.Pairwise (· < ·) ∧ ∀ i ∈ l, least ≤ i ∧ i < n
  | [], _, _ => ⟨[], rfl, .nil, fun i hi => by cases hi⟩
  | y :: ys, least, h => by
    cases y with
    | int i =>
      have h' : (isNum (.int i) (least : Int) ((n : Int) - 1) && lotB n (i + 1) ys) = true := h
      rw [Bool.and_eq_true] at h'
      obtain ⟨h1, h2⟩ := h'
      simp only [isNum, Bool.and_eq_true, decide_eq_true_eq] at h1
      obtain ⟨k, rfl⟩ : ∃ k : Nat, i = (k : Int) := ⟨i.toNat, by omega⟩
      have h3 : lotB n ((k + 1 : Nat) : Int) ys = true := h2
      obtain ⟨l, rfl, p, q⟩ := lotB_back h3
      exact ⟨k :: l, rfl, List.pairwise_cons.mpr ⟨fun j hj => by have := (q j hj).1; omega, p⟩, fun j hj => by
        rcases List.mem_cons.mp hj with z | z
        · rw [z]; omega
        · have := q j z; omega⟩
    | _ => simp [lotB, isNum] at h
theorem itmB_iff {n : Nat} {m : Option (List V)} : itmB n m = true ↔ ∃ l, m = some (lotV l) ∧ LotOk n l := by
  constructor
  · intro h
    cases m with
    | none => cases h
    | some ys =>
      obtain ⟨l, rfl, p, q⟩ := lotB_back (least := 0) h
      exact ⟨l, rfl, lotOk_of p fun i hi => (q i hi).2⟩
  · rintro ⟨l, rfl, h⟩
    exact h.b
theorem goLot_vals {n : Int} : ∀ {ys : List V} {its : List Value} {least : Int}, Vals ys its → (∀ y ∈ ys, FlatY y) → goLot n least its = lotB n least ys
  | [], _, _, .nil, _ => rfl
  | y :: ys, _, least, .cons r t, h => by
    rcases h y List.mem_cons_self with ⟨i, rfl⟩ | ⟨b, rfl⟩
    · obtain ⟨tk, rfl⟩ := r
      show (if least ≤ i ∧ i ≤ n - 1 then goLot n (i + 1) _ else false) = (isNum (.int i) least (n - 1) && lotB n (i + 1) ys)
      rw [goLot_vals t fun y hy => h y (List.mem_cons_of_mem _ hy)]
      simp only [isNum]
      by_cases h1 : least ≤ i <;> by_cases h2 : i ≤ n - 1 <;> simp [h1, h2]
    · cases r
      show false = (isNum (.bl b) least (n - 1) && _)
      simp [isNum]
theorem typed_vals {s : Shared} : ∀ {ys : List V} {its : List Value}, Vals ys its → (∀ y ∈ ys, FlatY y) → ∀ u ∈ its, Typed s u
  | [], _, .nil, _, u, hu => by cases hu
  | y :: ys, _, .cons r t, h, u, hu => by
    rcases List.mem_cons.mp hu with z | z
    · subst z
      rcases h y List.mem_cons_self with ⟨i, rfl⟩ | ⟨b, rfl⟩
      · obtain ⟨tk, rfl⟩ := r
        exact ⟨"int", rfl, by decide +kernel, ⟨fun _ => ⟨i, tk, rfl⟩, fun _ => rfl⟩⟩
      · cases r
        exact ⟨"bool", rfl, by decide +kernel, ⟨fun z => absurd z (by decide), fun ⟨i, tk, z⟩ => by cases z⟩⟩
    · exact typed_vals t (fun y hy => h y (List.mem_cons_of_mem _ hy)) u z
section
variable {X : Cx} {pins : List (Addr × Obj)} {σ : L2.St} {H : Hp} {s s₂ : Shared} {P : Addr}
/-- a tuple that stands, below the layer -/
theorem tup_of {p : Addr} {xs : List V} (I : Inv X pins σ H s) (hT : TabG H P) (k : ∀ b o, b ≠ P → s.heap.get? b = some o → s₂.heap.get? b = some o) (hL : SqT X.K H p xs) : ∃ its : List Value, Vals xs its ∧ s₂.heap.IsTuple p its.toArray := by
  obtain ⟨its, rv, hI, hz⟩ := I.tuple hL
  replace hI : s.heap.IsTuple p its.toArray := hI
  have hne : p ≠ P := by
    obtain ⟨ps, hP, _⟩ := hT
    have hPs := I.hok P _ hP
    rintro rfl
    obtain ⟨o, ho, hc, n, hd⟩ := hI
    rw [hPs] at ho
    cases ho
    cases hd
  exact ⟨its, rv, hI.at fun o e => k p o hne e⟩
end
section
variable {prog : Program} {w : World} {A : Around} {s : Shared} {E : Value → Shared → Prop} {mg : Str → Option Value}
theorem eval_is_lot {cenv : Env} {ha fl fn : Addr} {v : Value} {hits : Array Value} {r : Bool} {p0 p1 p2 p3 : Pos} {x : Str} (L : Low s mg) (hd : A.depth + 2 < recursionLimit) (hh : A.handled = none) (D : DefAt s fl "is_lot" s_is_lot) (Dn : DefAt s fn "is_number" s_is_number) (gl : mg "is_lot" = some (.ref fl)) (gn : mg "is_number" = some (.ref fn))
    (m1 : mg "type" = none) (m2 : mg "int" = none) (m3 : mg "tuple" = none) (m4 : mg "len" = none) (kf : cenv.scope.kind = .function) (kg : cenv.kindOf "is_lot" = some .globalImplicit) (eg : cenv.globals = mainGlobals)
    (eh : ∀ (Q : Value → Shared → Prop), Q (.ref ha) s → wpAny (model prog w) A (eval (.Name "house" p1) cenv) Q E s) (ex : ∀ (Q : Value → Shared → Prop), Q v s → wpAny (model prog w) A (eval (.Name x p2) cenv) Q E s)
    (hH : s.heap.IsTuple ha hits) (hz : hits.size ≤ 1000) (hv : (∃ T, s.TypeIs v T ∧ (Value.type T == Value.type "builtin_function_or_method") = false ∧ T ≠ "tuple" ∧ r = false) ∨ ∃ t its, v = .ref t ∧ s.heap.IsTuple t its ∧ (∀ u ∈ its.toList, Typed s u) ∧ r = goLot hits.size 0 its.toList) :
    wpAny (model prog w) A (eval (.Call (.Name "is_lot" p0) [.Name "house" p1, .Name x p2] [] p3) cenv) (fun y s' => y = .bool r ∧ Keeps s s') E s := by
  obtain ⟨oc, od, an, kV, doc, pm, cdv, ct, sl, hf, hc⟩ := id D.ex
  obtain ⟨o_n, fd_n, hon, hdn⟩ : ∃ (o : Obj) (fd : FuncData), s.heap.get? fl = some o ∧ o.data = .func fd := ⟨_, _, hf, rfl⟩
  refine wpAny_Call_Name_kw (Calls.Name_function_global kf kg (Calls.loadGlobal_global (by rw [eg]; exact L.glob) gl ?_))
  refine Calls.callWith_function (o := o_n) (fd := fd_n) (Calls.evalArgs_plain (Calls.spliced_cons (eh _ (Calls.spliced_cons (ex _ (Calls.spliced_nil ⟨⟨hon, hdn⟩, ?_⟩))))))
  exact call_is_lot L hd hh D Dn gn m1 m2 m3 m4 hH hz hv
end
/-- what is_lot is asked, below the layer -/
theorem itm_low {X : Cx} {pins : List (Addr × Obj)} {σ : L2.St} {H : Hp} {s s₂ : Shared} {P : Addr} {n : Nat} {x : V} {u : Value} {m : Option (List V)} (I : Inv X pins σ H s) (hT : TabG H P) (k : ∀ b o, b ≠ P → s.heap.get? b = some o → s₂.heap.get? b = some o) (h : ItmAt X.K H x m) (r : RelV x u) :
    (∃ T, s₂.TypeIs u T ∧ (Value.type T == Value.type "builtin_function_or_method") = false ∧ T ≠ "tuple" ∧ itmB n m = false) ∨ ∃ t its, u = .ref t ∧ s₂.heap.IsTuple t its ∧ (∀ u ∈ its.toList, Typed s₂ u) ∧ itmB n m = goLot n 0 its.toList := by
  cases m with
  | none =>
    have hx : x = .non := h
    subst hx
    cases r
    exact .inl ⟨"NoneType", rfl, by decide +kernel, by decide, rfl⟩
  | some ys =>
    obtain ⟨t, rfl, hS, hF⟩ := h
    cases r
    obtain ⟨its, rv, hI⟩ := tup_of I hT k hS
    refine .inr ⟨t, its.toArray, rfl, hI, ?_, ?_⟩
    · rw [List.toList_toArray]
      exact typed_vals rv hF
    · rw [List.toList_toArray]
      exact (goLot_vals rv hF).symm
end N

set_option Elab.async false
set_option linter.all false
set_option maxRecDepth 100000
set_option maxHeartbeats 2000000
/-! parts of tuples, tuples put together -/
namespace N
open PySem PySem.Spec PyProof.Rows L2
section
variable {K : PySem.W.Frag}
theorem cat_any {H : Hp} {a b : Addr} {xs ys : List V} {Q : VK} (ha : SqT K H a xs) (hb : SqT K H b ys) (hz : xs.length + ys.length ≤ 1000) (q : ∀ (H' : Hp) (r : Addr), Same H H' → SqT K H' r (xs ++ ys) → Q (.ref r) H') : rCatA K (.ref a) (.ref b) H Q := by
  refine ⟨a, b, xs, ys, rfl, rfl, ha, hb, Nat.le_of_lt (small1000 hz), fun e => ?_, fun _ e => ?_, fun _ _ p hp => ?_⟩
  · subst e
    exact q H b (Same.refl _) hb
  · subst e
    exact q H a (Same.refl _) (by rw [List.append_nil]; exact ha)
  · exact q _ p (same_upd hp) (SqT.up upd_same)
theorem slice_any {H : Hp} {a : Addr} {xs : List V} {lo hi : Option Int} {Q : VK} (ha : SqT K H a xs) (q : ∀ (H' : Hp) (r : Addr), Same H H' → SqT K H' r (cutV xs lo hi) → Q (.ref r) H') : rSlA K (.ref a) lo hi H Q := by
  refine ⟨a, xs, rfl, ha, fun e => ?_, fun _ p hp => q _ p (same_upd hp) (SqT.up upd_same)⟩
  refine q H a (Same.refl _) ?_
  have e2 : cutV xs lo hi = xs := by
    unfold cutV
    rw [e.1, e.2, List.drop_zero, Nat.sub_zero, List.take_length]
  rw [e2]
  exact ha
theorem cut_to (xs : List V) {i : Nat} (hi : i ≤ xs.length) : cutV xs none (some (i : Int)) = xs.take i := by
  unfold cutV
  rw [HT.sIx_none, HT.sIx_nat, List.drop_zero, Nat.sub_zero, Nat.min_eq_left hi]
theorem cut_from (xs : List V) {i : Nat} (hi : i ≤ xs.length) : cutV xs (some (i : Int)) none = xs.drop i := by
  unfold cutV
  rw [HT.sIx_none, HT.sIx_nat, Nat.min_eq_left hi, ← List.length_drop, List.take_length]
end
end N

set_option Elab.async false
set_option linter.all false
set_option maxRecDepth 100000
set_option maxHeartbeats 2000000
/-! _is_family -/
namespace N
open Cb (lotV combs combsOf combsOf_sub)
open PySem PySem.Spec PyProof.Rows L2 PySem.W GxR Gx
theorem o_ltT (K : PySem.W.Frag) {X : Cx} (hu : X.A.units < cLine) (hK : X.K = K := by rfl) : OpR X (compareOp .Lt) (rLtT K) := by
  subst hK
  exact op_ltT hu
/-- a comprehension over zip of two tuples, which it leaves as they are -/
theorem lc_zipT {K : PySem.W.Frag} {a b : Addr} {xs ys : List V} {n : Nat} (hn : n = min xs.length ys.length) {g : TG} {tt : TT} {te : TE} {vs : List Nat} {σ : L2.St} {H1 : Hp} {D : Addr} {Qd : Hp → Prop} (Pv : Nat → Hp → Prop) (h0 : Pv 0 (upd H1 D (.lst []))) (hl : ∀ i H, Pv i H → SqT K H a xs ∧ SqT K H b ys)
    (hs : ∀ (i : Nat) (x y : V) (T : Addr) (H : Hp), xs[i]? = some x → ys[i]? = some y → Pv i H → H T = none → g (.ref T) (wipe σ vs) (upd H T (.tup [x, y])) fun σ2 H2 => wipe σ2 vs = wipe σ vs ∧ tt σ2 H2 fun b H3 =>
      if b = true then te σ2 H3 fun y H4 => ∃ acc, H4 D = some (.lst acc) ∧ acc.length < sizeLine ∧ Pv (i + 1) (upd H4 D (.lst (acc ++ [y]))) else Pv (i + 1) H3) (hd : ∀ H, Pv n H → Qd H) :
    ∃ W : Nat → Nat → Hp → Prop, (∃ m, W 0 m (upd H1 D (.lst []))) ∧ ∀ i m H, W i m H →
      ((RZ.ItzT K a b).stop i H ∧ Qd H) ∨ ((RZ.ItzT K a b).go i H ∧ ∃ Nx : Hp → Prop, (∀ H', Nx H' → ∃ m', m' < m ∧ W (i + 1) m' H') ∧ ∀ x H', (RZ.ItzT K a b).yld i H x H' → g x (wipe σ vs) H' fun σ2 H2 => wipe σ2 vs = wipe σ vs ∧ tt σ2 H2 fun b H3 =>
        if b = true then te σ2 H3 fun y H4 => ∃ acc, H4 D = some (.lst acc) ∧ acc.length < sizeLine ∧ Nx (upd H4 D (.lst (acc ++ [y]))) else Nx H3) := by
  refine ⟨fun i m H => m = n - i ∧ i ≤ n ∧ Pv i H, ⟨n, by simp, Nat.zero_le _, h0⟩, ?_⟩
  rintro i m H ⟨rfl, hi, p⟩
  obtain ⟨qx, qy⟩ := hl i H p
  by_cases hlt : i < n
  · refine .inr ⟨⟨xs, ys, xs[i]'(by omega), ys[i]'(by omega), qx, qy, List.getElem?_eq_getElem _, List.getElem?_eq_getElem _⟩, Pv (i + 1), fun H' p' => ⟨n - (i + 1), by omega, rfl, hlt, p'⟩, fun v H' y => ?_⟩
    obtain ⟨T, x, y, rfl, hT, rfl, hx, hy⟩ := y
    exact hs i x y T H (hx xs qx) (hy ys qy) p hT
  · have e : i = n := by omega
    subst e
    exact .inl ⟨⟨xs, ys, qx, qy, by omega⟩, hd H p⟩
def asInts (l : List Nat) : List Int := l.map fun (k : Nat) => (k : Int)
theorem asInts_V (l : List Nat) : (asInts l).map V.int = lotV l := by
  unfold asInts
  rw [List.map_map]
  rfl
/-- each is ahead of the next one -/
def ascBs (Ls : List (List Nat)) : List Bool := (Ls.zip Ls.tail).map fun p => HT.lexLt (asInts p.1) (asInts p.2)
def ascB (Ls : List (List Nat)) : Bool := (ascBs Ls).all id
section
variable {P : Program} {w : World} {K : PySem.W.Frag} {mg : Str → Option Value} {base : Heap}
def sp_is_family (K : PySem.W.Frag) (PT : Addr) : Sp := fun vs H Q _ => ∃ (a : Addr) (h : List (List Nat)) (v : V), vs = [.ref a, v] ∧ HouseAt K H a h ∧ HouseOk h ∧ TabG H PT ∧
  ((∃ ty, TyB K H v ty ∧ ty ≠ "tuple" ∧ ∀ H', LamX.ExtN H H' → ExtP PT H H' → TabG H' PT → Q (.bl false) H') ∨
   ∃ (p : Addr) (xs : List V) (ms : List (Option (List V))), v = .ref p ∧ SqT K H p xs ∧ Paired (fun x m => ItmAt K H x m) xs ms ∧ xs.length ≤ 1000 ∧
    ((ms.all (itmB h.length) && !ms.isEmpty) = false → ∀ H', LamX.ExtN H H' → ExtP PT H H' → TabG H' PT → Q (.bl false) H') ∧
    ∀ (Ls : List (List Nat)), ms = Ls.map (fun l => some (lotV l)) → Ls ≠ [] → (∀ l ∈ Ls, LotOk h.length l) → ∀ H', LamX.ExtN H H' → ExtP PT H H' → TabG H' PT → Q (.bl (ascB Ls)) H')
theorem sc_is_family : FnScope ["house", "value", "one", "other"] ["house", "value"] (defScope s__is_family) := ⟨rfl, rfl, rfl, by decide +kernel, rfl, by decide +kernel, by decide +kernel⟩
abbrev scIF : Scope := { kind := .function, names := [((".0" : Str), .local), (("lot" : Str), .local), (("house" : Str), .free), (("is_lot" : Str), .globalImplicit)], isGenerator := true, isCoroutine := false }
theorem free_one {x : Str} {nm : List (Str × NameKind)} {cells : List (Str × Addr)} {l : List (Str × NameKind)} (h : ∀ y ∈ l, y.2 = .free → y = (x, NameKind.free)) (hc : ∃ c, cells.lookup x = some c) : ∀ y ∈ l, y.2 = .free → ∃ c, cells.lookup y.1 = some c := fun y hy hf => by
  rw [h y hy hf]
  exact hc
theorem all_lots {n : Nat} : ∀ {ms : List (Option (List V))}, ms.all (itmB n) = true → ∃ Ls : List (List Nat), ms = Ls.map (fun l => some (lotV l)) ∧ ∀ l ∈ Ls, LotOk n l
  | [], _ => ⟨[], rfl, fun l hl => by cases hl⟩
  | m :: ms, h => by
    rw [List.all_cons, Bool.and_eq_true] at h
    obtain ⟨l, rfl, hl⟩ := itmB_iff.mp h.1
    obtain ⟨Ls, rfl, hLs⟩ := all_lots h.2
    exact ⟨l :: Ls, rfl, fun l' hl' => by
      rcases List.mem_cons.mp hl' with z | z
      · rw [z]; exact hl
      · exact hLs l' z⟩
theorem ok_is_family {c PT : Addr} (T : Txt K mg) (hc : T.d__is_family.fd.code = .ref c) (TB : GxR.TabB base mg c PT) : FnOk P w K mg base CX0 3 T.d__is_family.f T.d__is_family.fd ["house", "value"] (sp_is_family K PT) := by
  obtain ⟨oc, od, kV, doc, pm, an, cdv, ct, osl, efd, lk, hcd⟩ := T.d__is_family.F.ex
  rw [efd] at lk hc ⊢
  have hc' : cdv = .ref c := hc
  subst hc'
  refine fn_of lk hcd sc_is_family (fun vs H Q E h => ?_) (fun A outer s H vs Q E hr h => ?_)
  · obtain ⟨a, h, v, rfl, _⟩ := h
    rfl
  · obtain ⟨a, hs, v, rfl, hA, ok, hT, h⟩ := h
    have nd := sc_is_family.nd
    have hfr : ∀ y ∈ scIF.names, y.2 = .free → y = (("house" : Str), NameKind.free) := fun y hy hf => by
      rcases List.mem_cons.mp hy with z | z
      · rw [z] at hf; cases hf
      rcases List.mem_cons.mp z with z | z
      · rw [z] at hf; cases hf
      rcases List.mem_cons.mp z with z | z
      · exact z
      · rw [List.mem_singleton.mp z] at hf; cases hf
    refine ⟨_, PSs.nox (pss_cons (ps_if (PW.pt (pw_or (pt_cmpR op_notTyB (pe_callTy call_type1 (by rfl) T.n_type (by decide +kernel) (pa_cons (pv 1) pa_nil)) (pe_bltn (v := .ty "tuple") (u := .type "tuple") (by rfl) T.n_tuple (by decide +kernel) rfl) (nomark _))
        (pw_or (pt_cmpR op_eq (pe_callB call_len_seq (by rfl) T.n_len PySem.boot_len (pa_cons (pv 1) pa_nil)) pe_int (nomark _))
        (pw_or1 (pt_not (pt_val (pe_allT (c := c) (P := PT) hr (by rfl) T.n_all TB rfl ⟨rfl, rfl, by decide +kernel, by decide +kernel, by decide +kernel, ?_⟩ (pv 1) (fun _ => rfl))))))))
        (pss_one (ps_ret pe_bl)) pss_nil)
      (pss_one (ps_ret (pe_callB (c_all K rfl) (by rfl) T.n_all (by decide +kernel) (pa_cons (pe_lc (own := [("one", 2), ("other", 3)]) (g := gTup K 2 (gCons (gName 2) (gCons (gName 3) gNil))) (tt := tYes) rfl nd (RZ.pi_zipA (by rfl) T.n_zip (pa_cons (pv 1) (pa_cons (pe_slice sl_tupA (pv 1) (po_some pe_int) po_none) pa_nil)))
          (blkOk_by (N := ["house", "value", "one", "other"]) (sc := defScope s__is_family) (by decide +kernel))
          (fun _ _ _ _ _ => pg_tupK K rfl (pgs_cons (pg_name (i := 2) nd rfl (.inl rfl)) (pgs_cons (pg_name (i := 3) nd rfl (.inl rfl)) pgs_nil))) (fun _ _ _ _ _ => pts_nil)
          (fun _ _ _ _ _ => pe_cmpR (o_ltT K (by have := hr.un; exact Nat.lt_of_le_of_lt (Nat.le_add_right _ _) (room100 hr))) (pv 2) (pv 3) (by rfl))) pa_nil))))), ?_⟩
    · intro y hy hf
      rw [hfr y hy hf]
      exact Option.isSome_iff_exists.mp (PySem.W.cellsFrom_some _ _ _ (.inl rfl))
    · rcases h with ⟨ty, hty, hne, q⟩ | ⟨p, xs, ms, rfl, hX, hP, hz, qn, qy⟩
      · refine ⟨v, rfl, v, ty, rfl, hty, ty, "tuple", rfl, rfl, _, rfl, ?_⟩
        rw [decide_eq_false hne]
        exact iteT (q H (LamX.ExtN.refl _) (ExtP.refl _ _) hT)
      · have hml : xs.length = ms.length := Paired.length hP
        refine ⟨.ref p, rfl, .ref p, "tuple", rfl, .tup hX, "tuple", "tuple", rfl, rfl, _, rfl, ?_⟩
        rw [decide_eq_true rfl]
        refine iteF ?_
        refine ⟨.ref p, rfl, p, xs, rfl, .inr hX, rfl, decide (ms = []), ?_, ?_⟩
        · have : decide (V.int (xs.length : Int) = V.int 0) = decide (ms = []) := decide_eq_decide.mpr ⟨fun z => by
            have z2 := V.int.inj z
            exact List.length_eq_zero_iff.mp (by omega), fun z => by rw [hml, z]; rfl⟩
          rw [this]
        refine ite2 (fun hb => ?_) (fun hb => ?_)
        · have e : ms = [] := of_decide_eq_true hb
          exact qn (by rw [e]; rfl) H (LamX.ExtN.refl _) (ExtP.refl _ _) hT
        have hmne : ms ≠ [] := fun z => hb (decide_eq_true z)
        have hn7 := ok.hi
        obtain ⟨rs, hR, hPr⟩ := id hA
        have hlv : (rs.map V.ref).length = hs.length := by rw [List.length_map]; exact Paired.length hPr
        refine ⟨.ref p, rfl, p, xs, fun i => itmB hs.length (ms.getD i none), rfl, hX, hT, ?_, fun H2 hT2 => ⟨_, rfl, ?_⟩⟩
        · intro pins s1 its I rv cenv A' E' i u s₂ m₂ g1 g2 g3 g4 hh hd hu hi hn hm hk
          have hlt : i < xs.length := by
            have := Vals.length rv
            rw [this]
            exact (List.getElem?_eq_some_iff.mp hi).1
          have hx : xs[i]? = some xs[i] := List.getElem?_eq_getElem hlt
          obtain ⟨u', e, r⟩ := Vals.get rv hx
          rw [hi] at e
          cases e
          obtain ⟨m, hmi, hit⟩ := paired_at hP hx
          have egm : ms.getD i none = m := by rw [List.getD_eq_getElem?_getD, hmi]; rfl
          obtain ⟨uc, ruc, hfrE⟩ := gen_free (x := "house") (i := 0) I hT (scope := scIF) rfl (fun y hy hf => by
            rw [hfr y hy hf]
            exact Option.isSome_iff_exists.mp (PySem.W.cellsFrom_some _ _ _ (.inl rfl))) (.tail _ (.tail _ (.head _))) rfl rfl rfl rfl
          cases ruc
          obtain ⟨hits, rvh, hIh⟩ := tup_of (s₂ := s₂) I hT hk hR
          have hsz : hits.toArray.size = hs.length := by rw [List.size_toArray, ← Vals.length rvh, hlv]
          have L := low_of I hT hk
          have Dl := def_of T.d_is_lot I hT hk
          have Dn := def_of T.d_is_number I hT hk
          show wpAny _ _ _ (fun y s₃ => y = Value.bool (itmB hs.length (ms.getD i none)) ∧ Keeps s₂ s₃) _ _
          rw [egm]
          have hd2 : A'.depth ≤ (A.deeper (envOfC "_is_family" (defScope s__is_family) s.heap.objs.size T.d__is_family.f (.ref c))).depth + 1 := hd
          have hdp := hr.dp
          refine eval_is_lot (hits := hits.toArray) L (by omega) hh Dl Dn T.d_is_lot.g T.d_is_number.g T.n_type T.n_int T.n_tuple T.n_len (by rw [g1]) (by show cenv.scope.names.lookup _ = _; rw [g1]; rfl) g3 (fun Q' q' => hfrE cenv A' E' s₂ _ _ g1 g2 hk q') (fun Q' q' => low_loc (by rw [g1]) (by show cenv.scope.names.lookup _ = _; rw [g1]; rfl) hn hm q') hIh (by omega) ?_
          rw [hsz]
          exact itm_low I hT hk hit r
        · have eall : (List.range xs.length).all (fun i => itmB hs.length (ms.getD i none)) = ms.all (itmB hs.length) := by
            rw [hml]
            have : ms.map (itmB hs.length) = (List.range ms.length).map (fun i => itmB hs.length (ms.getD i none)) := by
              refine List.ext_getElem (by simp) (fun i h1 h2 => ?_)
              simp at h1
              simp [List.getD_eq_getElem?_getD, h1]
            have e2 := congrArg (fun l => List.all l id) this
            simp only [List.all_map] at e2
            exact e2.symm
          rw [eall]
          have eT := tabbed_ext hT hT2
          cases hb2 : ms.all (itmB hs.length) with
          | false => exact iteT (qn (by rw [hb2]; rfl) H2 eT (extP_tabbed hT2) hT2.1)
          | true =>
            refine iteF ?_
            obtain ⟨Ls, rfl, hLs⟩ := all_lots hb2
            have hLne : Ls ≠ [] := fun z => hmne (by rw [z]; rfl)
            have hX2 := So.extN_seqT eT hX
            have hP2 : Paired (fun x l => ∃ t, x = V.ref t ∧ LotAt K H2 t l) xs Ls := by
              have : ∀ {xs : List V} {Ls : List (List Nat)}, Paired (fun x m => ItmAt K H x m) xs (Ls.map fun l => some (lotV l)) → Paired (fun x l => ∃ t, x = V.ref t ∧ LotAt K H2 t l) xs Ls := by
                intro xs Ls
                induction Ls generalizing xs with
                | nil => intro h; cases h; exact .nil
                | cons l Ls ih =>
                  intro h
                  cases h with
                  | cons r t =>
                    obtain ⟨t', e1, e2, _⟩ := r
                    exact .cons ⟨t', e1, So.extN_seqT eT e2⟩ (ih t)
              exact this hP
            have hxl : xs.length = Ls.length := Paired.length hP2
            have hx1 : 1 ≤ xs.length := by
              rw [hxl]
              exact List.length_pos_iff.mpr hLne
            refine ⟨.ref p, rfl, .ref p, rfl, 1, rfl, ?_⟩
            delta tNoPart
            refine slice_any hX2 fun H3 p3 sm3 hp3 => ?_
            rw [show (1 : Int) = ((1 : Nat) : Int) from rfl, cut_from _ hx1] at hp3
            have hX3 := Same.tup sm3 hX2
            refine ⟨p, p3, xs, xs.drop 1, rfl, .inr ⟨hX3, hp3, fun D hD => ?_⟩⟩
            refine lc_zipT (K := K) (a := p) (b := p3) (n := xs.length - 1) (by rw [List.length_drop]; omega) (fun i H4 => Same H3 H4 ∧ H4 D = some (.lst ((ascBs Ls).take i |>.map V.bl)))
              ⟨same_upd hD, by rw [upd_same]; rfl⟩ (fun i H4 h4 => ⟨Same.tup h4.1 hX3, Same.tup h4.1 hp3⟩) ?_ ?_
            · rintro i vx vy T8 H4 hix hiy ⟨sm4, hd4⟩ hT8
              obtain ⟨l, hl, t, rfl, hat⟩ := paired_at hP2 hix
              rw [List.getElem?_drop] at hiy
              obtain ⟨l', hl', t', rfl, hat'⟩ := paired_at hP2 hiy
              have sT : Same H4 (upd H4 T8 (.tup [.ref t, .ref t'])) := same_upd hT8
              refine ⟨T8, [.ref t, .ref t'], rfl, .inl (.inl upd_same), rfl, .ref t, [.ref t'], rfl, .ref t', [], rfl, rfl, rfl, ?_⟩
              have sA := (sm3.trans sm4).trans sT
              have hd5 := sT _ _ hd4
              generalize upd H4 T8 (.tup [.ref t, .ref t']) = H5 at sT sA hd5
              have e1 : (asInts l).map V.int = lotV l := asInts_V l
              have e2 : (asInts l').map V.int = lotV l' := asInts_V l'
              refine tYes_if ⟨.ref t, rfl, .ref t', rfl, t, t', asInts l, asInts l', rfl, rfl, by rw [e1]; exact (hat.same sA), by rw [e2]; exact (hat'.same sA), _, hd5, ?_, fun b o e => ?_, ?_⟩
              · rw [List.length_map, List.length_take]
                have : (ascBs Ls).length ≤ Ls.length := by
                  unfold ascBs
                  rw [List.length_map, List.length_zip]
                  omega
                exact small1000 (by omega)
              · rw [upd_ne (ne_of_none e hD)]
                exact sT _ _ (sm4 _ _ e)
              · have ez : (ascBs Ls)[i]? = some (HT.lexLt (asInts l) (asInts l')) := by
                  unfold ascBs
                  rw [List.getElem?_map, (show (Ls.zip Ls.tail)[i]? = some (l, l') from List.getElem?_zip_eq_some.mpr ⟨hl, by rw [← List.drop_one, List.getElem?_drop]; exact hl'⟩)]
                  rfl
                rw [upd_same, take_succ ez, List.map_append]
                rfl
            · rintro H4 ⟨sm4, hd4⟩
              have ett : (ascBs Ls).take (xs.length - 1) = ascBs Ls := List.take_of_length_le (by
                unfold ascBs
                rw [List.length_map, List.length_zip, List.length_tail]
                omega)
              rw [ett] at hd4
              refine ⟨D, ascBs Ls, rfl, SqL.up hd4, ?_⟩
              exact qy Ls rfl hLne hLs H4 ((eT.trans (Same.extN sm3)).trans (Same.extN sm4)) (((extP_tabbed hT2).trans (extP_same sm3)).trans (extP_same sm4)) (by
                obtain ⟨ps, h1, h2⟩ := hT2.1
                exact ⟨ps, sm4 _ _ (sm3 _ _ h1), h2⟩)
end
end N

set_option Elab.async false
set_option linter.all false
set_option maxRecDepth 100000
set_option maxHeartbeats 2000000
/-! shows_cover_row -/
namespace N
open Cb (lotV combs combsOf combsOf_sub)
open PySem PySem.Spec PyProof.Rows L2 PySem.W GxR Gx
/-- a value that is judged -/
inductive JV where
  | non
  | other
  | tup (ms : List (Option (List V)))
def JVAt (K : PySem.W.Frag) (H : Hp) (v : V) : JV → Prop
  | .non => v = .non
  | .other => v ≠ .non ∧ ∃ ty, TyB K H v ty ∧ ty ≠ "tuple"
  | .tup ms => ∃ (p : Addr) (xs : List V), v = .ref p ∧ SqT K H p xs ∧ Paired (fun x m => ItmAt K H x m) xs ms ∧ xs.length ≤ 1000
def okB (n c : Nat) : Option (List V) → Bool
  | none => false
  | some ys => lotB n 0 ys && decide (ys.length ≤ c)
def backY : V → Nat
  | .int i => i.toNat
  | _ => 0
def backL : Option (List V) → List Nat
  | none => []
  | some ys => ys.map backY
theorem back_lot (l : List Nat) : backL (some (lotV l)) = l := by
  show (lotV l).map backY = l
  unfold lotV
  rw [List.map_map]
  conv => rhs; rw [← List.map_id l]
  exact List.map_congr_left fun i _ => by show ((i : Nat) : Int).toNat = i; omega
/-- whether things are lots that bear no more coins than an allowance gives, from a day on -/
def rowFrom (n : Nat) (alw : List Nat) : Nat → List (Option (List V)) → Bool
  | _, [] => true
  | j, m :: ms => okB n (alw.getD (j % alw.length) 0) m && rowFrom n alw (j + 1) ms
theorem rowFrom_one {n c : Nat} : ∀ {ms : List (Option (List V))} {j : Nat}, rowFrom n [c] j ms = ms.all (okB n c)
  | [], _ => rfl
  | m :: ms, j => by
    show (okB n (([c] : List Nat).getD (j % ([c] : List Nat).length) 0) m && rowFrom n [c] (j + 1) ms) = _
    rw [rowFrom_one, show ([c] : List Nat).length = 1 from rfl, Nat.mod_one, List.all_cons]
    rfl
theorem okB_itm {n c : Nat} {m : Option (List V)} (h : okB n c m = true) : itmB n m = true := by
  cases m with
  | none => cases h
  | some ys =>
    have h1 : (lotB n 0 ys && decide (ys.length ≤ c)) = true := h
    rw [Bool.and_eq_true] at h1
    exact h1.1
theorem rowFrom_itm {n : Nat} {alw : List Nat} : ∀ {ms : List (Option (List V))} {j : Nat}, rowFrom n alw j ms = true → ms.all (itmB n) = true
  | [], _, _ => rfl
  | m :: ms, j, h => by
    have h1 : (okB n (alw.getD (j % alw.length) 0) m && rowFrom n alw (j + 1) ms) = true := h
    rw [Bool.and_eq_true] at h1
    rw [List.all_cons, okB_itm h1.1, rowFrom_itm h1.2]
    rfl
/-- whether a tuple is a row that covers a goal within so many days -/
def rowBA (h : List (List Nat)) (alw goal : List Nat) (d : Nat) (ms : List (Option (List V))) : Bool :=
  decide (ms.length = d) && (rowFrom h.length alw 0 ms && goal.all fun s => decide (s ∈ covsL h (ms.map backL)))
def coverBA (h : List (List Nat)) (alw goal : List Nat) (o : Option Nat) : JV → Bool
  | .non => o.isNone
  | .other => false
  | .tup ms => match o with
    | none => false
    | some d => rowBA h alw goal d ms
def rowB (h : List (List Nat)) (c : Nat) (goal : List Nat) (d : Nat) (ms : List (Option (List V))) : Bool :=
  decide (ms.length = d) && (ms.all (okB h.length c) && goal.all fun s => decide (s ∈ covsL h (ms.map backL)))
def coverB (h : List (List Nat)) (c : Nat) (goal : List Nat) (o : Option Nat) : JV → Bool
  | .non => o.isNone
  | .other => false
  | .tup ms => match o with
    | none => false
    | some d => rowB h c goal d ms
theorem coverB_one (h : List (List Nat)) (c : Nat) (goal : List Nat) (o : Option Nat) (j : JV) : coverBA h [c] goal o j = coverB h c goal o j := by
  cases j with
  | non => rfl
  | other => rfl
  | tup ms =>
    cases o with
    | none => rfl
    | some d =>
      show rowBA h [c] goal d ms = rowB h c goal d ms
      unfold rowBA rowB
      rw [rowFrom_one]
theorem ok_lots' {n c : Nat} : ∀ {ms : List (Option (List V))}, ms.all (okB n c) = true → ∃ Ls : List (List Nat), ms = Ls.map (fun l => some (lotV l)) ∧ ∀ l ∈ Ls, LotOk n l ∧ l.length ≤ c
  | [], _ => ⟨[], rfl, fun l hl => by cases hl⟩
  | m :: ms, h => by
    rw [List.all_cons, Bool.and_eq_true] at h
    obtain ⟨Ls, rfl, hLs⟩ := ok_lots' h.2
    cases m with
    | none => exact absurd h.1 Bool.false_ne_true
    | some ys =>
      have h1 : (lotB n 0 ys && decide (ys.length ≤ c)) = true := h.1
      rw [Bool.and_eq_true, decide_eq_true_eq] at h1
      obtain ⟨l, e, hl⟩ := itmB_iff.mp (show itmB n (some ys) = true from h1.1)
      cases e
      refine ⟨l :: Ls, rfl, fun l' hl' => ?_⟩
      rcases List.mem_cons.mp hl' with z | z
      · rw [z]
        refine ⟨hl, ?_⟩
        have := h1.2
        rwa [List.length_map] at this
      · exact hLs l' z
theorem itms_lots' {n : Nat} : ∀ {ms : List (Option (List V))}, ms.all (itmB n) = true → ∃ Ls : List (List Nat), ms = Ls.map (fun l => some (lotV l)) ∧ ∀ l ∈ Ls, LotOk n l
  | [], _ => ⟨[], rfl, fun l hl => by cases hl⟩
  | m :: ms, h => by
    rw [List.all_cons, Bool.and_eq_true] at h
    obtain ⟨Ls, rfl, hLs⟩ := itms_lots' h.2
    obtain ⟨l, rfl, hl⟩ := itmB_iff.mp h.1
    refine ⟨l :: Ls, rfl, fun l' hl' => ?_⟩
    rcases List.mem_cons.mp hl' with z | z
    · rw [z]
      exact hl
    · exact hLs l' z
theorem flat_tyb {K : PySem.W.Frag} {H : Hp} {y : V} (h : FlatY y) : ∃ ty, TyB K H y ty := by
  rcases h with ⟨i, rfl⟩ | ⟨b, rfl⟩
  · exact ⟨"int", .int i⟩
  · exact ⟨"bool", .bl b⟩
theorem TyB.same {K : PySem.W.Frag} {H H1 : Hp} {v : V} {ty : String} (hty : TyB K H v ty) (sm1 : Same H H1) : TyB K H1 v ty := by
  cases hty with
  | non => exact .non
  | bl b => exact .bl b
  | int i => exact .int i
  | str x => exact .str x
  | byt b => exact .byt b
  | lst h => exact .lst (Same.seq sm1 h)
  | tup h => exact .tup (Same.tup sm1 h)
  | dK h => exact .dK (sm1 _ _ h)
theorem back_lots (Ls : List (List Nat)) : (Ls.map fun l => some (lotV l)).map backL = Ls := by
  rw [List.map_map]
  conv => rhs; rw [← List.map_id Ls]
  exact List.map_congr_left fun l _ => back_lot l
section
variable {P : Program} {w : World} {K : PySem.W.Frag} {mg : Str → Option Value} {base : Heap}
def sp_is_quickest (K : PySem.W.Frag) (L : List Addr) (PL : Addr) : Sp := fun vs H Q _ => ∃ (a ap g : Addr) (h : List (List Nat)) (alw l : List Nat) (v : V) (j : JV), vs = [.ref a, .ref ap, .ref g, v] ∧ HouseAt K H a h ∧ HouseOk h ∧ LotAt K H ap alw ∧ 1 ≤ alw.length ∧ alw.length ≤ 6 ∧ LotAt K H g l ∧ LotOk h.length l ∧ JVAt K H v j ∧ Tb L PL lamQ H ∧
  ∀ (H' : Hp) (o : Option Nat), LamX.ExtN H H' → Tb L PL lamQ H' → IsFirst (CovA h (List.range h.length) alw l) o → Q (.bl (coverBA h alw l o j)) H'
theorem sc_is_quickest : FnScope ["house", "allowance", "goal", "value", "row", "day", "lot"] ["house", "allowance", "goal", "value"] (defScope s_is_quickest_row) := ⟨rfl, rfl, rfl, by decide +kernel, rfl, by decide +kernel, by decide +kernel⟩
theorem ok_is_quickest {L : List Addr} {cC PC PL : Addr} (T : Txt K mg) (hcC : T.d__row_covers.fd.code = .ref cC) (TBC : GxR.TabB base mg cC PC) (mC : PC ∈ L) :
    FnOk P w K mg base CX0 6 T.d_is_quickest_row.f T.d_is_quickest_row.fd ["house", "allowance", "goal", "value"] (sp_is_quickest K L PL) := by
  have G1 := ok_quickest (P := P) (w := w) (base := base) T
  have G2 := ok_row_covers (P := P) (w := w) (base := base) T hcC TBC
  have G3 := ok_is_lot (P := P) (w := w) (base := base) T
  refine T.d_is_quickest_row.F.ok sc_is_quickest (fun vs H Q E h => ?_) (fun cdv A outer s H vs Q E hr h => ?_)
  · obtain ⟨a, ap, g, h, alw, l, v, j, rfl, _⟩ := h
    rfl
  · obtain ⟨a, ap, g, hs, alw, l, v, j, rfl, hA, ok, hW, ha1, ha6, hL, okL, hJ, hT, q⟩ := h
    have nd := sc_is_quickest.nd
    have hr4 : Room 4 _ := hr.mono (by decide)
    have hr2 : Room 2 _ := hr.mono (by decide)
    refine ⟨_, pss_cons (ps_set (i := 4) nd rfl (.inl rfl) (pe_call G1 hr4 (by rfl) T.d_quickest_row.g T.d_quickest_row.F.kp T.d_quickest_row.b .nil pass0 (pa_cons (pv 0) (pa_cons (pv 1) (pa_cons (pv 2) pa_nil)))))
      (pss_cons (ps_if (PW.pt (pw_or (pt_cmpR op_isN (pv 4) pe_non (nomark _)) (pw_or1 (pt_cmpR op_isN (pv 3) pe_non (nomark _)))))
        (pss_one (ps_ret (pe_and (pe_cmpR op_isN (pv 4) pe_non (nomark _)) (pe_one (pe_cmpR op_isN (pv 3) pe_non (nomark _)))))) pss_nil)
      (pss_cons (ps_if (PW.pt (pw_or (pt_cmpR op_notTyB (pe_callTy call_type1 (by rfl) T.n_type (by decide +kernel) (pa_cons (pv 3) pa_nil)) (pe_bltn (v := .ty "tuple") (u := .type "tuple") (by rfl) T.n_tuple (by decide +kernel) rfl) (nomark _))
          (pw_or1 (pt_cmpR op_ne (pe_callB call_len_seq (by rfl) T.n_len PySem.boot_len (pa_cons (pv 3) pa_nil)) (pe_callB call_len_seq (by rfl) T.n_len PySem.boot_len (pa_cons (pv 4) pa_nil)) (nomark _)))))
        (pss_one (ps_ret pe_bl)) pss_nil)
      (pss_cons (ps_for PassesOwn.never rfl (En.pi_enumT (by rfl) T.n_enumerate (pa_cons (pv 3) pa_nil)) (pg_tup rfl (pgs_cons (pg_name (i := 5) nd rfl (.inl rfl)) (pgs_cons (pg_name (i := 6) nd rfl (.inl rfl)) pgs_nil)))
        (pss_one (ps_if (PW.pt (pw_or (pt_not (pt_val (pe_call G3 hr2 (by rfl) T.d_is_lot.g T.d_is_lot.F.kp T.d_is_lot.b .nil pass0 (pa_cons (pv 0) (pa_cons (pv 6) pa_nil)))))
          (pw_or1 (pt_cmpR op_gt (pe_callB call_len_seq (by rfl) T.n_len PySem.boot_len (pa_cons (pv 6) pa_nil)) (pe_ix ix_tup (pv 1) (pe_op op_mod (pv 5) (pe_callB call_len_seq (by rfl) T.n_len PySem.boot_len (pa_cons (pv 1) pa_nil))) (fun _ _ => rfl)) (nomark _)))))
          (pss_one (ps_ret pe_bl)) pss_nil)))
      (pss_one (ps_ret (pe_call G2 hr (by rfl) T.d__row_covers.g T.d__row_covers.F.kp T.d__row_covers.b .nil pass0 (pa_cons (pv 0) (pa_cons (pv 3) (pa_cons (pv 2) pa_nil))))))))), ?_⟩
    refine ⟨.ref a, rfl, .ref ap, rfl, .ref g, rfl, a, ap, g, hs, alw, l, rfl, hA, ok, hW, ha1, ha6, hL, okL, fun H1 sm1 hd => ?_, fun H1 p1 Ls d sm1 hLs hd hlen _ hd768 => ?_⟩
    · -- no row
      refine ⟨.non, rfl, rfl, _, rfl, ?_⟩
      show (if decide (V.non = V.non) = true then _ else _)
      rw [decide_eq_true rfl, if_pos rfl]
      refine iteT ⟨.non, rfl, rfl, true, by rw [decide_eq_true rfl], iteT ⟨v, rfl, rfl, ?_⟩⟩
      have e : decide (v = V.non) = coverBA hs alw l none j := by
        cases j with
        | non => rw [show v = V.non from hJ, decide_eq_true rfl]; rfl
        | other => rw [decide_eq_false hJ.1]; rfl
        | tup ms =>
          obtain ⟨p, xs, rfl, _⟩ := hJ
          rw [decide_eq_false (by intro z; cases z)]
          rfl
      rw [e]
      exact q H1 none (Same.extN sm1) (hT.ext sm1) hd
    · -- a row
      have hA1 := hA.same sm1
      have hT1 := hT.ext sm1
      have hL1 := hL.same sm1
      have hW1 := hW.same sm1
      refine ⟨.ref p1, rfl, rfl, _, rfl, ?_⟩
      show (if decide (V.ref p1 = V.non) = true then _ else _)
      rw [decide_eq_false (by intro z; cases z), if_neg Bool.false_ne_true]
      cases j with
      | non =>
        have e : v = .non := hJ
        subst e
        refine ⟨.non, rfl, rfl, _, rfl, ?_⟩
        show (if decide (V.non = V.non) = true then _ else _)
        rw [decide_eq_true rfl, if_pos rfl]
        refine ⟨.ref p1, rfl, rfl, false, by rw [decide_eq_false (by intro z; cases z)], iteF ?_⟩
        exact q H1 (some d) (Same.extN sm1) hT1 hd
      | other =>
        obtain ⟨hvn, ty, hty, htn⟩ := hJ
        refine ⟨v, rfl, rfl, _, rfl, ?_⟩
        rw [decide_eq_false hvn]
        refine iteF ?_
        have hty1 : TyB K H1 v ty := TyB.same hty sm1
        refine ⟨v, rfl, v, ty, rfl, hty1, ty, "tuple", rfl, rfl, _, rfl, ?_⟩
        rw [decide_eq_false htn]
        exact iteT (q H1 (some d) (Same.extN sm1) hT1 hd)
      | tup ms =>
        obtain ⟨p, xs, rfl, hX, hP, hz⟩ := hJ
        have hX1 := Same.tup sm1 hX
        have hP1 : Paired (fun x m => ItmAt K H1 x m) xs ms := paired_mono hP fun _ _ z => z.ext (Same.extN sm1)
        have hml : xs.length = ms.length := Paired.length hP
        refine ⟨.ref p, rfl, rfl, _, rfl, ?_⟩
        show (if decide (V.ref p = V.non) = true then _ else _)
        rw [decide_eq_false (by intro z; cases z), if_neg Bool.false_ne_true]
        refine ⟨.ref p, rfl, .ref p, "tuple", rfl, .tup hX1, "tuple", "tuple", rfl, rfl, _, rfl, ?_⟩
        rw [decide_eq_true rfl]
        refine iteF ?_
        obtain ⟨ts1, hp1, hpl⟩ := hLs
        have htl : (ts1.map V.ref).length = d := by rw [List.length_map, ← hlen]; exact Paired.length hpl
        refine ⟨.ref p, rfl, p, xs, rfl, .inr hX1, .ref p1, rfl, p1, _, rfl, .inr hp1, rfl, !decide (ms.length = d), ?_, ?_⟩
        · have : decide (V.int (xs.length : Int) = V.int ((ts1.map V.ref).length : Int)) = decide (ms.length = d) := decide_eq_decide.mpr ⟨fun z => by have := V.int.inj z; omega, fun z => by rw [htl, hml, z]⟩
          rw [this]
        by_cases hdl : ms.length = d
        · rw [decide_eq_true hdl]
          refine iteF ?_
          obtain ⟨rs, hR, hPr⟩ := id hA1
          have hlv : (rs.map V.ref).length = hs.length := by rw [List.length_map]; exact Paired.length hPr
          have hn7 := ok.hi
          have eR : coverBA hs alw l (some d) (.tup ms) = (rowFrom hs.length alw 0 ms && l.all fun s => decide (s ∈ covsL hs (ms.map backL))) := by
            show (decide (ms.length = d) && _) = _
            rw [decide_eq_true hdl, Bool.true_and]
          refine ⟨.ref p, rfl, p, xs, rfl, hX1, En.for_enumT (K := K) (a := p) (xs := xs) (fun i σ H2 => Same H1 H2 ∧ (∃ v5 v6 : Option V, σ = [some (.ref a), some (.ref ap), some (.ref g), some (.ref p), some (.ref p1), v5, v6]) ∧ rowFrom hs.length alw 0 ms = rowFrom hs.length alw i (ms.drop i))
            ⟨Same.refl _, ⟨none, none, rfl⟩, rfl⟩ (fun i σ H2 _ h2 => Same.tup h2.1 hX1) ?_ ?_⟩
          · rintro i x T2 σ H2 hi ⟨sm2, ⟨v5, v6, rfl⟩, e⟩ hT2
            have sm3 : Same H1 (upd H2 T2 (.tup [.int (i : Nat), x])) := sm2.trans (same_upd hT2)
            have hTat : (upd H2 T2 (.tup [.int (i : Nat), x])) T2 = some (.tup [.int (i : Nat), x]) := upd_same
            generalize upd H2 T2 (.tup [.int (i : Nat), x]) = H3 at sm3 hTat
            refine ⟨T2, [.int (i : Nat), x], rfl, SqT.up hTat, rfl, .int (i : Nat), [x], rfl, x, [], rfl, rfl, ?_⟩
            obtain ⟨m, hmi, hit⟩ := paired_at hP1 hi
            have hit3 : ItmAt K H3 x m := hit.ext (Same.extN sm3)
            have hlt : i < ms.length := (List.getElem?_eq_some_iff.mp hmi).1
            have ed : ms.drop i = m :: ms.drop (i + 1) := by
              rw [List.drop_eq_getElem_cons hlt]
              congr 1
              exact (List.getElem?_eq_some_iff.mp hmi).2
            rw [ed] at e
            have e' : rowFrom hs.length alw 0 ms = (okB hs.length (alw.getD (i % alw.length) 0) m && rowFrom hs.length alw (i + 1) (ms.drop (i + 1))) := e
            refine ⟨.ref a, rfl, x, rfl, a, rs.map V.ref, x, rfl, Same.tup sm3 hR, ?_⟩
            have bad : okB hs.length (alw.getD (i % alw.length) 0) m = false → Q (.bl false) H3 := fun z => by
              rw [z, Bool.false_and] at e'
              have e3 : coverBA hs alw l (some d) (.tup ms) = false := by rw [eR, e']; rfl
              rw [← e3]
              exact q H3 (some d) (Same.extN (sm1.trans sm3)) (hT1.ext sm3) hd
            cases m with
            | none =>
              have ex : x = .non := hit3
              subst ex
              refine .inl ⟨"NoneType", .non, by decide, false, rfl, iteT ?_⟩
              exact bad rfl
            | some ys =>
              obtain ⟨t, rfl, hS, hF⟩ := hit3
              refine .inr ⟨t, ys, rfl, hS, fun y hy => flat_tyb (hF y hy), ?_⟩
              rw [hlv]
              refine ⟨lotB hs.length 0 ys, rfl, ?_⟩
              cases hb : lotB hs.length 0 ys with
              | false =>
                refine iteT ?_
                refine bad ?_
                show (lotB hs.length 0 ys && _) = false
                rw [hb]
                rfl
              | true =>
                refine iteF ?_
                have hik : ∃ k, alw[i % alw.length]? = some k := ⟨_, List.getElem?_eq_getElem (Nat.mod_lt _ ha1)⟩
                obtain ⟨k, hk⟩ := hik
                have ek : alw.getD (i % alw.length) 0 = k := by rw [List.getD_eq_getElem?_getD, hk]; rfl
                have em : ((i : Nat) : Int) % ((lotV alw).length : Int) = ((i % alw.length : Nat) : Int) := by
                  rw [lotV_len, Int.natCast_emod]
                refine ⟨.ref t, rfl, t, ys, rfl, .inr hS, .ref ap, rfl, .int (i : Nat), rfl, .ref ap, rfl, ap, lotV alw, rfl, .inr (Same.tup sm3 hW1), (i : Int), ((lotV alw).length : Int), rfl, rfl, by show (0 : Int) < _; rw [lotV_len]; omega, ap, lotV alw, _, .int (k : Int), rfl, rfl, Same.tup sm3 hW1, ?_, _, _, rfl, rfl, _, rfl, ?_⟩
                · rw [em]
                  exact atI_nat (by rw [List.getElem?_map, hk]; rfl)
                refine ite2 (fun hg => ?_) (fun hg => ?_)
                · have hg' : (k : Int) < (ys.length : Int) := of_decide_eq_true hg
                  refine bad ?_
                  show (lotB hs.length 0 ys && decide (ys.length ≤ _)) = false
                  rw [ek, decide_eq_false (by omega), Bool.and_false]
                · have hg' : ¬ (k : Int) < (ys.length : Int) := fun z => hg (decide_eq_true z)
                  refine ⟨sm3, ⟨_, _, rfl⟩, ?_⟩
                  rw [e']
                  have : okB hs.length (alw.getD (i % alw.length) 0) (some ys) = true := by
                    show (lotB hs.length 0 ys && decide (ys.length ≤ _)) = true
                    rw [ek, hb, decide_eq_true (by omega)]
                    rfl
                  rw [this, Bool.true_and]
          · rintro σ H2 ⟨sm2, ⟨v5, v6, rfl⟩, e⟩
            rw [hml, List.drop_length] at e
            have e0 : rowFrom hs.length alw 0 ms = true := e
            obtain ⟨Ks, rfl, hKs⟩ := itms_lots' (rowFrom_itm e0)
            have hP2 : ∃ ts : List Addr, xs = ts.map V.ref ∧ Paired (fun t l => LotAt K H2 t l) ts Ks := by
              have : ∀ {xs : List V} {Ls : List (List Nat)}, Paired (fun x m => ItmAt K H1 x m) xs (Ls.map fun l => some (lotV l)) → ∃ ts : List Addr, xs = ts.map V.ref ∧ Paired (fun t l => LotAt K H2 t l) ts Ls := by
                intro xs Ls
                induction Ls generalizing xs with
                | nil => intro h; cases h; exact ⟨[], rfl, .nil⟩
                | cons l Ls ih =>
                  intro h
                  cases h with
                  | cons r t =>
                    obtain ⟨t', e1, e2, _⟩ := r
                    obtain ⟨ts, rfl, e4⟩ := ih t
                    exact ⟨t' :: ts, by rw [e1]; rfl, .cons (Same.tup sm2 e2) e4⟩
              exact this hP1
            obtain ⟨ts, rfl, hPk⟩ := hP2
            have hT2' := hT1.ext sm2
            refine ⟨.ref a, rfl, .ref p, rfl, .ref g, rfl, a, p, g, hs, Ks, ts, l, rfl, hA1.same sm2, ok, Same.tup sm2 hX1, hPk, hKs, hL1.same sm2, (hT2'.g PC mC).2, fun H3 e3 p3 hT3 => ?_⟩
            have e4 : coverBA hs alw l (some d) (.tup (Ks.map fun l => some (lotV l))) = l.all fun s => decide (s ∈ covsL hs Ks) := by
              rw [eR, e0, back_lots, Bool.true_and]
            rw [← e4]
            exact q H3 (some d) ((Same.extN (sm1.trans sm2)).trans e3) (hT2'.gen mC p3 hT3) hd
        · rw [decide_eq_false hdl]
          refine iteT ?_
          have e3 : coverBA hs alw l (some d) (.tup ms) = false := by
            show (decide (ms.length = d) && _) = false
            rw [decide_eq_false hdl]
            rfl
          rw [← e3]
          exact q H1 (some d) (Same.extN sm1) hT1 hd
def sp_shows_cover (K : PySem.W.Frag) (L : List Addr) (PL : Addr) : Sp := fun vs H Q _ => ∃ (a g : Addr) (h : List (List Nat)) (c : Nat) (l : List Nat) (v : V) (j : JV), vs = [.ref a, .int c, .ref g, v] ∧ HouseAt K H a h ∧ HouseOk h ∧ c ≤ 7 ∧ LotAt K H g l ∧ LotOk h.length l ∧ l ≠ [] ∧ JVAt K H v j ∧ Tb L PL lamQ H ∧
  ∀ (H' : Hp) (o : Option Nat), LamX.ExtN H H' → Tb L PL lamQ H' → IsDays h c l o → Q (.bl (coverB h c l o j)) H'
theorem sc_shows_cover : FnScope ["house", "coins", "goal", "value"] ["house", "coins", "goal", "value"] (defScope s_shows_cover_row) := ⟨rfl, rfl, rfl, by decide +kernel, rfl, by decide +kernel, by decide +kernel⟩
theorem JVAt.same {H H' : Hp} {v : V} {j : JV} (h : JVAt K H v j) (e : Same H H') : JVAt K H' v j := by
  cases j with
  | non => exact h
  | other => exact let ⟨h1, ty, h2, h3⟩ := h; ⟨h1, ty, TyB.same h2 e, h3⟩
  | tup ms => exact let ⟨p, xs, h1, h2, h3, h4⟩ := h; ⟨p, xs, h1, Same.tup e h2, paired_mono h3 fun _ _ z => z.ext (Same.extN e), h4⟩
theorem ok_shows_cover {L : List Addr} {cC PC PL : Addr} (T : Txt K mg) (hcC : T.d__row_covers.fd.code = .ref cC) (TBC : GxR.TabB base mg cC PC) (mC : PC ∈ L) :
    FnOk P w K mg base CX0 7 T.d_shows_cover_row.f T.d_shows_cover_row.fd ["house", "coins", "goal", "value"] (sp_shows_cover K L PL) := by
  have G0 := ok_check_cover (P := P) (w := w) (base := base) T
  have G1 := ok_is_quickest (P := P) (w := w) (base := base) (PL := PL) T hcC TBC mC
  refine T.d_shows_cover_row.F.ok sc_shows_cover (fun vs H Q E h => ?_) (fun cdv A outer s H vs Q E hr h => ?_)
  · obtain ⟨a, g, h, c, l, v, j, rfl, _⟩ := h
    rfl
  · obtain ⟨a, g, hs, c, l, v, j, rfl, hA, ok, hc7, hL, okL, hne, hJ, hT, q⟩ := h
    have hr5 : Room 5 _ := hr.mono (by decide)
    refine ⟨_, pss_cons (ps_expr (pe_call G0 hr5 (by rfl) T.d__check_cover.g T.d__check_cover.F.kp T.d__check_cover.b .nil pass0 (pa_cons (pv 0) (pa_cons (pv 1) (pa_cons (pv 2) pa_nil)))))
      (pss_one (ps_ret (pe_call G1 hr (by rfl) T.d_is_quickest_row.g T.d_is_quickest_row.F.kp T.d_is_quickest_row.b .nil pass0 (pa_cons (pv 0) (pa_cons (pe_tup (pa_cons (pv 1) pa_nil)) (pa_cons (pv 2) (pa_cons (pv 3) pa_nil))))))), ?_⟩
    refine ⟨.ref a, rfl, .int c, rfl, .ref g, rfl, a, g, hs, c, l, rfl, hA, ok, hc7, hL, okL, hne, fun H1 sm1' => ?_⟩
    refine ⟨.ref a, rfl, .int c, rfl, (by show 1 ≤ sizeLine; decide), fun tp htp => ⟨.ref g, rfl, v, rfl, ?_⟩⟩
    have smt : Same H1 (upd H1 tp (.tup [.int (c : Int)])) := same_upd htp
    have sm1 := sm1'.trans smt
    refine ⟨a, tp, g, hs, [c], l, v, j, rfl, hA.same sm1, ok, SqT.up upd_same, Nat.le_refl 1, (by show 1 ≤ 6; decide), hL.same sm1, okL, hJ.same sm1, hT.ext sm1, fun H2 o e2 hT2 hd => ?_⟩
    rw [coverB_one]
    exact q H2 o ((Same.extN sm1).trans e2) hT2 (isDays_first.mpr (hd.iff fun _ => covA_one))
end
end N

set_option Elab.async false
set_option linter.all false
set_option maxRecDepth 100000
set_option maxHeartbeats 2000000
/-! any, all of a generator expression over a list -/
namespace Gxl
open PySem PySem.Spec PyProof.Rows L2 GxR
open Gx (EltG GenC)
section
variable {X : Cx} {pins : List (Addr × Obj)} {σ : L2.St} {H : Hp} {s : Shared}
/-- the generator g over n turns, ready to be walked, in the state s5; H1: what was held before -/
def Ready (X : Cx) (pins : List (Addr × Obj)) (σ : L2.St) (H1 : Hp) (P : Addr) (n : Nat) (pb : Nat → Bool) (g : Addr) (s5 : Shared) : Prop :=
  ∃ (fp wr : List Addr) (G : Array GenState → Array GenState → Prop) (F : Nat → Value → Prop) (St : Nat → Shared → Prop),
    WalksS X.prog X.w X.A.in1 g fp wr G n F St ∧ St 0 s5 ∧ TruthOf X.prog X.w X.A.in1 F pb ∧ ∀ s', Moved wr G s5 s' → ∃ H2, Tabbed P H1 H2 ∧ Inv X pins σ H2 s'
theorem gen_lst {c P : Addr} {elt iter : Expr} {x : Str} {px gpos : Pos} {scope : Scope} {te : TE} {k : Nat} {Q' : Value → Shared → Prop} {R : List V → (Nat → Bool) → Hp → Prop}
    (hr : Room k X.A) (TB : TabB X.base X.mg c P) (hcode : X.env.code = .ref c) (S : GenS X.env scope x) (hi : PE X iter te)
    (hs : ∀ v, genFold iter X.env v = pure v) (I : Inv X pins σ H s)
    (h : te σ H fun v H1 => ∃ (a : Addr) (xs : List V) (pb : Nat → Bool), v = .ref a ∧ SqL X.K H1 a xs ∧ TabG H1 P ∧ GenC X scope x elt P σ H1 xs pb ∧ R xs pb H1)
    (hQ : ∀ xs pb H1 g s5, R xs pb H1 → Ready X pins σ H1 P xs.length pb g s5 → Q' (.ref g) s5) :
    wpAny (model X.prog X.w) X.A (eval (.GeneratorExp elt [⟨.Name x px, iter, [], 0⟩] scope gpos) X.env) Q' X.xe s := by
  refine wpAny_GeneratorExp_walksQD hr.hd S.co (closure_ok S.free) S.cell S.dot S.loc S.kind (by have := hr.dp; omega) ?_ hs
  refine thn (hi.run pins s σ H _ I h) fun xv s1 ⟨v, H1, I1, r1, q1⟩ => ?_
  obtain ⟨a, xs, pb, rfl, hA, ⟨ps, hP, ht⟩, hel, q1⟩ := q1
  cases r1
  obtain ⟨its, rv, hT, hz⟩ := I1.list hA
  have hel := hel pins s1 its I1 rv
  have hlen : its.toArray.size = xs.length := by rw [List.size_toArray]; exact rv.length.symm
  replace hT : s1.heap.IsList a its.toArray := hT.isList
  refine wpAny_pyIter_list hT ?_
  have hPs : s1.heap.get? P = some { cls := .none, data := .fields ps } := I1.hok P _ hP
  have hPlt : P < s1.heap.objs.size := Heap.lt_size hPs
  generalize ho : ({ cls := .type "list_iterator", data := .fields #[.ref a, .int 0 0] } : Obj) = o
  have hne : a ≠ s1.heap.objs.size := by
    obtain ⟨o', q, _⟩ := hT
    exact Nat.ne_of_lt (Heap.lt_size q)
  have hst : (s1.heap.push o).IsListIter s1.heap.objs.size a 0 ∧ (s1.heap.push o).IsList a its.toArray := by
    subst ho
    obtain ⟨o', q, r⟩ := hT
    exact ⟨⟨_, Heap.get?_push_size _ rfl, rfl, rfl⟩, ⟨o', Heap.get?_push_of_some _ q, r⟩⟩
  have W : ∀ A' : Around, A'.handled = none → Walks X.prog X.w A' s1.heap.objs.size [s1.heap.objs.size, a] [s1.heap.objs.size] its.toArray.size (fun i v => its.toArray[i]? = some v) (fun i h => h.IsListIter s1.heap.objs.size a i ∧ h.IsList a its.toArray) :=
    fun A' hA' => Walks.list hA' s1.heap.objs.size a hne its.toArray
  have hP2 : (s1.heap.push o).get? P = some { cls := .none, data := .fields ps } := Heap.get?_push_of_some _ hPs
  have cd : PySem.W.CodeHd (s1.heap.push o) c P := TB.code.keeps fun b u e => Heap.get?_push_of_some _ (I1.bk b u e)
  have lim2 : (s1.heap.push o).NoLimit := I1.nolimit.push o
  have cont : ∀ (code : Value) (h3 : Heap) (tk : Nat) (ps' : Array Value), Heap.ExtBut P (s1.heap.push o) h3 → (s1.heap.push o).objs.size ≤ h3.objs.size → h3.get? P = some { cls := .none, data := .fields ps' } → (∃ more, ps' = ps ++ more) → TriplesOk ps'.toList →
      wpAny (model X.prog X.w) X.A (builtinsFor X.env.globals X.env.builtins) (fun bi s₄ =>
        ∃ Ia fp wr n₀ Pf St₀ pz F, Value.ref s1.heap.objs.size = .ref Ia ∧ (∀ A' : Around, A'.handled = none → Walks X.prog X.w A' Ia fp wr n₀ Pf St₀) ∧ St₀ 0 s₄.heap ∧ (∀ b ∈ fp, b < s₄.heap.objs.size) ∧ s₄.heap.NoLimit ∧ cStatics ∉ wr ∧
          (∀ href : Heap, (∀ b o, s₄.heap.get? b = some o → href.get? b = some o) →
            QuietGenD X.prog X.w (genEnv scope (cloFrom X.env.cells scope.names []) s₄.heap.objs.size code bi X.env) x [] elt (List.range s₄.heap.objs.size) wr Pf pz F href (X.A.depth + 1) (X.A.units + 8)) ∧
          (∀ a h₅ tk gs, gs.bare = true → s₄.heap.objs.size < a → h₅.objs.size = a + 1 → (∀ b o, s₄.heap.get? b = some o → h₅.get? b = some o) →
            WalksS X.prog X.w X.A.in4 a (a :: s₄.heap.objs.size :: List.range s₄.heap.objs.size) (s₄.heap.objs.size :: wr) (GenOnlyQ s₄.gens.size) (passing pz n₀ 0).length
              (fun j y => ∃ i, (passing pz n₀ 0)[j]? = some i ∧ F i y) (GenAt X.prog X.w X.A.in4 a s₄.gens.size s₄.heap.objs.size (List.range s₄.heap.objs.size) wr pz n₀ F) →
            GenAt X.prog X.w X.A.in4 a s₄.gens.size s₄.heap.objs.size (List.range s₄.heap.objs.size) wr pz n₀ F 0 { s₄ with gens := s₄.gens.push gs, toks := tk, heap := h₅ } →
            Q' (.ref a) { s₄ with gens := s₄.gens.push gs, toks := tk, heap := h₅ })) X.xe { s1 with heap := h3, toks := tk } := by
    intro code h3 tk ps' hx hsz hP3 hmore ht3
    obtain ⟨bm, ob, e1, e2, e3, e4, e5, e6, e7, e8⟩ := TB.bm
    have hcP : cStatics ≠ P := fun e => by
      obtain ⟨_, hns, _⟩ := I1.nolimit
      obtain ⟨o', es, ep, ho, hd, _⟩ := hns
      rw [e, hPs] at ho
      cases ho
      cases hd
    have hcl : cStatics < s1.heap.objs.size := let ⟨_, hns, _⟩ := I1.nolimit; hns.lt
    have sz2 : (s1.heap.push o).objs.size = s1.heap.objs.size + 1 := Heap.size_push ..
    have keep3 : ∀ b u, b ≠ P → s1.heap.get? b = some u → h3.get? b = some u := fun b u hb e => hx b u hb (Heap.get?_push_of_some _ e)
    have alt : a < s1.heap.objs.size := by obtain ⟨o', q, _⟩ := hT; exact Heap.lt_size q
    have aP : a ≠ P := fun e => by
      obtain ⟨o', q, c2, n, d2⟩ := hT
      rw [e, hPs] at q
      cases q
      cases d2
    refine wpAny_builtinsFor (m := X.mg) (by rw [I1.ok.glob]; exact ((I1.mod.glob.keeps I1.bk).push o).extBut hx TB.gP) e1 e2 (keep3 _ _ e4 (I1.bk _ _ e5)) e6 e7 e8 ?_
    refine ⟨s1.heap.objs.size, [s1.heap.objs.size, a], [s1.heap.objs.size], its.toArray.size, _, _, (fun _ => true), (fun i y => ∃ cc, its[i]? = some cc ∧ y = .bool (pb i)), rfl, W, ?_, ?_, lim2.extBut hx hcP, ?_, ?_, ?_⟩
    · refine (W X.A hr.hd).frame _ _ _ hst fun b hb u e => hx b u (fun z => ?_) e
      rcases List.mem_cons.mp hb with z2 | z2
      · exact Nat.ne_of_lt hPlt (z.symm.trans z2)
      · rw [List.mem_singleton.mp z2] at z
        exact aP z
    · intro b hb
      have h9 : s1.heap.objs.size < h3.objs.size := by omega
      rcases List.mem_cons.mp hb with z | z
      · rw [z]
        exact h9
      · rw [List.mem_singleton.mp z]
        exact Nat.lt_trans alt h9
    · intro z
      rcases List.mem_cons.mp z with z | z
      · exact Nat.ne_of_lt hcl z
      · cases z
    · intro href hhref
      refine ⟨fun A' E' i v s₂ m₂ hA _ _ hPv hn hm hk => ?_, fun A' E' i v s₂ m₂ hA hD hU hPv hp hn hm hk => ?_⟩
      · simp only [List.forIn_nil]
        exact wpAny_pure ⟨rfl, keeps_refl _⟩
      · have hPv' : its[i]? = some v := by rw [← List.getElem?_toArray]; exact hPv
        refine wpAny_mono (hel _ A' E' i v s₂ m₂ rfl rfl rfl rfl hA hD hU hPv' hn hm fun b u hb e => ?_) (fun y s3 r => ⟨⟨v, hPv', r.1⟩, r.2⟩) fun _ _ e => e
        have hl := Heap.lt_size e
        have h9 : s1.heap.objs.size < h3.objs.size := by omega
        exact hk b (List.mem_range.mpr (Nat.lt_trans hl h9)) (fun z => by rw [List.mem_singleton.mp z] at hl; exact Nat.lt_irrefl _ hl) u (hhref b u (keep3 b u hb e))
    · intro g h5 tk5 gs hgb hag hsz5 hk5 W5 hat
      simp only [GxR.passing_true, List.length_range] at W5
      rw [hlen] at W5
      refine hQ xs pb H1 g _ q1 ⟨_, _, _, _, _, W5.in4_1, ?_, ?_, fun s' hm => ?_⟩
      · rw [← hlen]
        exact hat
      · intro j y sj Qj Ej hy hQj
        obtain ⟨i, hij, cc, hcc, rfl⟩ := hy
        obtain ⟨hj, ej⟩ := List.getElem?_eq_some_iff.mp hij
        rw [List.getElem_range] at ej
        subst ej
        exact wpAny_truthy_bool hQj
      · obtain ⟨more, em⟩ := hmore
        have nwr : ∀ b u, s1.heap.get? b = some u → b ∉ h3.objs.size :: [s1.heap.objs.size] := fun b u e hb => by
          have hl := Heap.lt_size e
          rcases List.mem_cons.mp hb with z | z
          · rw [z] at hl
            have h9 : (h3.objs.size : Nat) < s1.heap.objs.size := hl
            omega
          · rcases List.mem_cons.mp z with z | z
            · rw [z] at hl
              exact Nat.lt_irrefl _ hl
            · cases z
        have J := inv_tab (more := more) (h' := s'.heap) (g' := s'.gens) (d' := s'.drawn) (t' := s'.toks) I1 hP (fun b u hb e => hm.heap b u (nwr b u e) (hk5 b u (keep3 b u hb e)))
          (by rw [← em]; exact hm.heap P _ (nwr P _ hPs) (hk5 P _ hP3)) (AllBare.movedS (I1.bare.push hgb) hm)
        rw [sh_eta s1 s' hm.os] at J
        refine ⟨upd H1 P (.tbl (ps ++ more)), ⟨⟨ps ++ more, upd_same, by rw [← em]; exact ht3⟩, fun b hb => upd_ne hb⟩, J⟩
  refine ⟨lim2, ?_⟩
  cases hf : codeAmong gpos ps.toList with
  | none =>
    refine wpAny_genexprCodeX hcode (cd.code hP2 ht) (cd.tab hP2) hf fun c' h' tk hx hge hlt hco' _ htab' _ => ?_
    obtain ⟨o1, vs, f1, tf, fl, tg, inF, tx, tt, op, _, _, _, _, _, _, _, _, _, htr, _⟩ := hco'
    exact cont _ h' tk _ hx (Nat.le_trans hge (Nat.le_of_lt hlt)) htab'.2 ⟨_, rfl⟩ htr
  | some cv =>
    refine wpAny_genexprCode_hit hcode (cd.code hP2 ht) hf ?_
    exact cont cv (s1.heap.push o) s1.toks ps (Heap.ExtBut.refl _ _) (Nat.le_refl _) hP2 ⟨#[], by simp⟩ ht
/-- all(test for x in t), any(test for x in t), t a tuple; behind it the def's table may have grown -/
def tAllL (X : Cx) (scope : Scope) (x : Str) (elt : Expr) (P : Addr) (te : TE) : TE := fun σ H Q => te σ H fun v H1 => ∃ (a : Addr) (xs : List V) (pb : Nat → Bool), v = .ref a ∧ SqL X.K H1 a xs ∧ TabG H1 P ∧ GenC X scope x elt P σ H1 xs pb ∧ ∀ H2, Tabbed P H1 H2 → Q (.bl ((List.range xs.length).all pb)) H2
def tAnyL (X : Cx) (scope : Scope) (x : Str) (elt : Expr) (P : Addr) (te : TE) : TE := fun σ H Q => te σ H fun v H1 => ∃ (a : Addr) (xs : List V) (pb : Nat → Bool), v = .ref a ∧ SqL X.K H1 a xs ∧ TabG H1 P ∧ GenC X scope x elt P σ H1 xs pb ∧ ∀ H2, Tabbed P H1 H2 → Q (.bl ((List.range xs.length).any pb)) H2
theorem pe_allL {c P : Addr} {elt iter : Expr} {x : Str} {px p pos gpos : Pos} {scope : Scope} {te : TE} {k : Nat}
    (hr : Room k X.A) (hg : Gl X "all") (hm : X.mg "all" = none) (TB : TabB X.base X.mg c P) (hcode : X.env.code = .ref c) (S : GenS X.env scope x) (hi : PE X iter te) (hs : ∀ v, genFold iter X.env v = pure v)
    (hb : bootBuiltins "all" = some (.builtin "all") := by decide +kernel)
    (he : starEach [.GeneratorExp elt [⟨.Name x px, iter, [], 0⟩] scope gpos] X.env = (false, eval (.GeneratorExp elt [⟨.Name x px, iter, [], 0⟩] scope gpos) X.env) :: starEach [] X.env := by rfl) :
    PE X (.Call (.Name "all" p) [.GeneratorExp elt [⟨.Name x px, iter, [], 0⟩] scope gpos] [] pos) (tAllL X scope x elt P te) := by
  refine ⟨fun pins s σ H Q I h => ?_⟩
  refine wpAny_Call_Name_kw (ld_blt I hg hm hb ?_)
  refine PyProof.Rows.callWith_builtin1 ?_ he (by rfl)
  rw [he]
  show wpAny _ _ (spliced ((false, eval (.GeneratorExp elt [⟨.Name x px, iter, [], 0⟩] scope gpos) X.env) :: backTo pos (starEach [] X.env))) _ _ s
  refine Calls.spliced_cons (gen_lst (R := fun xs pb H1 => ∀ H2, Tabbed P H1 H2 → Q (.bl ((List.range xs.length).all pb)) H2) hr TB hcode S hi hs I h fun xs pb H1 g s5 hR hG => ?_)
  obtain ⟨fp, wr, G, F, St, W, hst, htr, hI⟩ := hG
  refine Calls.spliced_nil ?_
  refine call_all_walkS (W.self 0 _ _ _ hst ⟨g, fp, wr, G, _, F, St, _, rfl, W, hst, htr, fun s' hmv => ?_⟩)
  obtain ⟨H2, hT, J⟩ := hI s' hmv
  exact ⟨.bl _, H2, J, rfl, hR H2 hT⟩
theorem pe_anyL {c P : Addr} {elt iter : Expr} {x : Str} {px p pos gpos : Pos} {scope : Scope} {te : TE} {k : Nat}
    (hr : Room k X.A) (hg : Gl X "any") (hm : X.mg "any" = none) (TB : TabB X.base X.mg c P) (hcode : X.env.code = .ref c) (S : GenS X.env scope x) (hi : PE X iter te) (hs : ∀ v, genFold iter X.env v = pure v)
    (he : starEach [.GeneratorExp elt [⟨.Name x px, iter, [], 0⟩] scope gpos] X.env = (false, eval (.GeneratorExp elt [⟨.Name x px, iter, [], 0⟩] scope gpos) X.env) :: starEach [] X.env := by rfl) :
    PE X (.Call (.Name "any" p) [.GeneratorExp elt [⟨.Name x px, iter, [], 0⟩] scope gpos] [] pos) (tAnyL X scope x elt P te) := by
  refine ⟨fun pins s σ H Q I h => ?_⟩
  refine wpAny_Call_Name_kw (ld_blt I hg hm boot_any ?_)
  refine PyProof.Rows.callWith_builtin1 ?_ he (by rfl)
  rw [he]
  show wpAny _ _ (spliced ((false, eval (.GeneratorExp elt [⟨.Name x px, iter, [], 0⟩] scope gpos) X.env) :: backTo pos (starEach [] X.env))) _ _ s
  refine Calls.spliced_cons (gen_lst (R := fun xs pb H1 => ∀ H2, Tabbed P H1 H2 → Q (.bl ((List.range xs.length).any pb)) H2) hr TB hcode S hi hs I h fun xs pb H1 g s5 hR hG => ?_)
  obtain ⟨fp, wr, G, F, St, W, hst, htr, hI⟩ := hG
  refine Calls.spliced_nil ?_
  refine call_any_walkS (W.self 0 _ _ _ hst ⟨g, fp, wr, G, _, F, St, _, rfl, W, hst, htr, fun s' hmv => ?_⟩)
  obtain ⟨H2, hT, J⟩ := hI s' hmv
  exact ⟨.bl _, H2, J, rfl, hR H2 hT⟩
end
end Gxl

set_option Elab.async false
set_option linter.all false
set_option maxRecDepth 100000
set_option maxHeartbeats 2000000
/-! _is_closed -/
namespace N
open Cb (lotV combs combsOf combsOf_sub)
open PySem PySem.Spec PyProof.Rows L2 PySem.W GxR Gx
def stepB (h : List (List Nat)) (ms : List Nat) (m x : Nat) : Bool := ms.any fun o => (nextM (h.map maskOf) (m ||| x) &&& o) == nextM (h.map maskOf) (m ||| x)
def closedB (h : List (List Nat)) (c : Nat) (ms : List Nat) : Bool := ms.all fun m => (coinMasks (List.range h.length) c).all fun x => stepB h ms m x
section
variable {P : Program} {w : World} {K : PySem.W.Frag} {mg : Str → Option Value} {base : Heap}
theorem get_nat {l : List Nat} {i : Nat} {y : V} (h : (natsV l)[i]? = some y) : ∃ k, l[i]? = some k ∧ y = .int (k : Nat) := by
  unfold natsV at h
  rw [List.getElem?_map] at h
  cases e : l[i]? with
  | none => rw [e] at h; cases h
  | some k => rw [e] at h; cases h; exact ⟨k, rfl, rfl⟩
def sp_is_closed (K : PySem.W.Frag) (PT : Addr) : Sp := fun vs H Q _ => ∃ (a m : Addr) (h : List (List Nat)) (c : Nat) (ms : List Nat), vs = [.ref a, .int c, .ref m] ∧ HouseAt K H a h ∧ HouseOk h ∧ SqL K H m (natsV ms) ∧ TabG H PT ∧
  ∀ (H' : Hp), LamX.ExtN H H' → ExtP PT H H' → TabG H' PT → Q (.bl (closedB h c ms)) H'
theorem sc_is_closed : FnScope ["house", "coins", "masks", "sights", "mask", "coin_mask", "following", "row"] ["house", "coins", "masks"] (defScope s__is_closed) := ⟨rfl, rfl, rfl, by decide +kernel, rfl, by decide +kernel, by decide +kernel⟩
abbrev scIC : Scope := { kind := .function, names := [((".0" : Str), .local), (("other" : Str), .local), (("following" : Str), .free)], isGenerator := true, isCoroutine := false }
theorem ok_is_closed {cA PT : Addr} (T : Txt K mg) (hc : T.d__is_closed.fd.code = .ref cA) (TB : GxR.TabB base mg cA PT) : FnOk P w K mg base CX0 3 T.d__is_closed.f T.d__is_closed.fd ["house", "coins", "masks"] (sp_is_closed K PT) := by
  have G1 := ok_mask_of (P := P) (w := w) (base := base) T
  have G2 := ok_coin_masks (P := P) (w := w) (base := base) T
  have G3 := ok_next_cover (P := P) (w := w) (base := base) T
  have G4 := ok_all_slates (P := P) (w := w) (base := base) T
  obtain ⟨oc, od, kV, doc, pm, an, cdv, ct, osl, efd, lk, hcd⟩ := T.d__is_closed.F.ex
  rw [efd] at lk hc ⊢
  have hc' : cdv = .ref cA := hc
  subst hc'
  refine fn_of lk hcd sc_is_closed (fun vs H Q E h => ?_) (fun A outer s H vs Q E hr h => ?_)
  · obtain ⟨a, m, h, c, ms, rfl, _⟩ := h
    rfl
  · obtain ⟨a, m, hs, c, ms, rfl, hA, ok, hM, hT, q⟩ := h
    have nd := sc_is_closed.nd
    have hr1 : Room 1 _ := hr.mono (by decide)
    obtain ⟨rs, hR, hP⟩ := id hA
    have hl : rs.length = hs.length := Paired.length hP
    have hlv : (rs.map V.ref).length = hs.length := by rw [List.length_map, hl]
    refine ⟨_, PSs.nox (pss_cons (ps_setLc (i := 3) (own := [("row", 7)]) (g := gName 7) (tt := tYes) rfl nd rfl rfl (sw_true rfl rfl rfl (by decide +kernel)) (pi_tup (pv 0))
        (blkOk_by (N := ["house", "coins", "masks", "sights", "mask", "coin_mask", "following", "row"]) (sc := defScope s__is_closed) (by decide +kernel)) (fun _ _ _ _ _ => pg_name (i := 7) nd rfl (.inl rfl)) (fun _ _ _ _ _ => pts_nil)
        (fun _ _ _ _ _ => pe_call G1 hr1 (by rfl) T.d__mask_of.g T.d__mask_of.F.kp T.d__mask_of.b .nil pass0 (pa_cons (pv 7) pa_nil)))
      (pss_cons (ps_for PassesOwn.never rfl (pi_list (pv 2)) (pg_name (i := 4) nd rfl (.inl rfl))
        (pss_one (ps_for PassesOwn.never rfl (pi_list (pe_call G2 hr (by rfl) T.d__coin_masks.g T.d__coin_masks.F.kp T.d__coin_masks.b .nil pass0 (pa_cons (pe_call G4 hr1 (by rfl) T.d_all_slates.g T.d_all_slates.F.kp T.d_all_slates.b .nil pass0 (pa_cons (pv 0) pa_nil)) (pa_cons (pv 1) pa_nil)))) (pg_name (i := 5) nd rfl (.inl rfl))
          (pss_cons (ps_set (i := 6) nd rfl (.inr rfl) (pe_call G3 hr1 (by rfl) T.d__next_cover.g T.d__next_cover.F.kp T.d__next_cover.b .nil pass0 (pa_cons (pv 3) (pa_cons (pe_op op_orN (pv 4) (pv 5)) pa_nil))))
          (pss_one (ps_if (pt_not (pt_val (Gxl.pe_anyL (c := cA) (P := PT) hr (by rfl) T.n_any TB rfl ⟨rfl, rfl, by decide +kernel, by decide +kernel, by decide +kernel, ?_⟩ (pv 2) (fun _ => rfl))))
            (pss_one (ps_ret pe_bl)) pss_nil))))))
      (pss_one (ps_ret pe_bl)))), ?_⟩
    · intro y hy hf
      have e1 : y = (("following" : Str), NameKind.free) := by
        rcases List.mem_cons.mp hy with z | z
        · rw [z] at hf; cases hf
        rcases List.mem_cons.mp z with z | z
        · rw [z] at hf; cases hf
        · exact List.mem_singleton.mp z
      rw [e1]
      exact Option.isSome_iff_exists.mp (PySem.W.cellsFrom_some _ _ _ (.inl rfl))
    · refine ⟨.ref a, rfl, a, rfl, ⟨_, hR⟩, fun sp hsp => lc_tup (K := K) (a := a) (xs := rs.map V.ref) (fun i H2 => H2 = upd H sp (.lst (natsV ((hs.map maskOf).take i)))) rfl (fun i H2 _ e => by rw [e]; exact Same.tup (same_upd hsp) hR) ?_ ?_⟩
      · rintro i y H2 hi rfl
        obtain ⟨r, hri, rfl⟩ := get_refs hi
        obtain ⟨row, hrow, hat⟩ := paired_at hP hri
        have okr := (ok.ok row (List.mem_of_getElem? hrow)).2
        refine ⟨rfl, tYes_if ?_⟩
        refine ⟨.ref r, rfl, r, row, rfl, hat.same (same_upd hsp), fun j hj => by have h1 := okr.lt j hj; have h2 := ok.hi; omega, _, upd_same, ?_, ?_⟩
        · rw [natsV_len, List.length_take, List.length_map]
          exact Nat.lt_of_le_of_lt (Nat.min_le_right _ _) (small1000 (by have h2 := ok.hi; omega))
        · rw [upd_upd]
          have e2 : (hs.map maskOf)[i]? = some (maskOf row) := by rw [List.getElem?_map, hrow]; rfl
          rw [natsV_take e2]
      · rintro H2 rfl
        have et : (hs.map maskOf).take (rs.map V.ref).length = hs.map maskOf := List.take_of_length_le (by rw [hlv, List.length_map]; exact Nat.le_refl _)
        rw [et]
        have smS : Same H (upd H sp (.lst (natsV (hs.map maskOf)))) := same_upd hsp
        obtain ⟨ps, hPT, tok⟩ := id hT
        have hTS : TabG (upd H sp (.lst (natsV (hs.map maskOf)))) PT := ⟨ps, smS _ _ hPT, tok⟩
        have hspS : SqL K (upd H sp (.lst (natsV (hs.map maskOf)))) sp (natsV (hs.map maskOf)) := SqL.up upd_same
        have eS := Same.extN smS
        have pS : ExtP PT H (upd H sp (.lst (natsV (hs.map maskOf)))) := extP_same smS
        generalize upd H sp (.lst (natsV (hs.map maskOf))) = HS at eS pS hTS hspS
        refine ⟨.ref m, rfl, m, rfl, ⟨_, So.extN_seqL eS hM⟩, for_list (K := K) (a := m) (xs := natsV ms) (fun i σ H2 => ∃ (v4 v5 v6 v7 : Option V), σ = [some (.ref a), some (.int c), some (.ref m), some (.ref sp), v4, v5, v6, v7] ∧ (LamX.ExtN HS H2 ∧ ExtP PT HS H2) ∧ TabG H2 PT ∧ (ms.take i).all (fun m => (coinMasks (List.range hs.length) c).all fun x => stepB hs ms m x) = true)
          ⟨none, none, none, none, rfl, ⟨LamX.ExtN.refl _, ExtP.refl _ _⟩, hTS, rfl⟩ (fun i σ H2 _ h2 => by obtain ⟨v4, v5, v6, v7, _, ⟨e, _⟩, _⟩ := h2; exact So.extN_seqL (eS.trans e) hM) ?_ ?_⟩
        · rintro i y σ H2 hi ⟨v4, v5, v6, v7, rfl, ⟨e2, p2⟩, hT2, hall⟩
          obtain ⟨mk, hmk, rfl⟩ := get_nat hi
          refine ⟨.ref a, rfl, a, rs.map V.ref, rfl, So.extN_seqT (eS.trans e2) hR, by rw [hlv]; exact ok.hi, fun H2a apA smA hapA => ?_⟩
          rw [hlv] at hapA
          refine ⟨.int c, rfl, apA, List.range hs.length, c, rfl, SqT.up hapA, by rw [List.length_range]; exact ok.hi, fun i hi => by have h1 := List.mem_range.mp hi; have h2 := ok.hi; omega, fun H3 cp sm3b hcp ecp => ?_⟩
          have sm3 := smA.trans sm3b
          have e3 := e2.trans (Same.extN sm3)
          obtain ⟨ps2, hPT2, tok2⟩ := id hT2
          have hT3 : TabG H3 PT := ⟨ps2, sm3 _ _ hPT2, tok2⟩
          have hCM : SqL K H3 cp (natsV (coinMasks (List.range hs.length) c)) := SqL.up ecp
          refine ⟨cp, rfl, ⟨_, hCM⟩, for_list (K := K) (a := cp) (xs := natsV (coinMasks (List.range hs.length) c)) (fun j σ H4 => ∃ (v5 v6 v7 : Option V), σ = [some (.ref a), some (.int c), some (.ref m), some (.ref sp), some (.int (mk : Nat)), v5, v6, v7] ∧ (LamX.ExtN H3 H4 ∧ ExtP PT H3 H4) ∧ TabG H4 PT ∧ ((coinMasks (List.range hs.length) c).take j).all (fun x => stepB hs ms mk x) = true)
            ⟨v5, v6, v7, rfl, ⟨LamX.ExtN.refl _, ExtP.refl _ _⟩, hT3, rfl⟩ (fun j σ H4 _ h4 => by obtain ⟨v5, v6, v7, _, ⟨e, _⟩, _⟩ := h4; exact So.extN_seqL e hCM) ?_ ?_⟩
          · rintro j y σ H4 hj ⟨v5, v6, v7, rfl, ⟨e4, p4⟩, hT4, hal⟩
            obtain ⟨x, hx, rfl⟩ := get_nat hj
            have e5 := e3.trans e4
            refine ⟨.ref sp, rfl, .int (mk : Nat), rfl, .int (x : Nat), rfl, mk, x, rfl, rfl, sp, hs.map maskOf, mk ||| x, rfl, So.extN_seqL e5 hspS, by rw [List.length_map]; have := ok.hi; omega, fun H5 sm5 => ?_⟩
            have e6 := e5.trans (Same.extN sm5)
            obtain ⟨ps4, hPT4, tok4⟩ := id hT4
            have hT5 : TabG H5 PT := ⟨ps4, sm5 _ _ hPT4, tok4⟩
            refine ⟨.ref m, rfl, m, natsV ms, fun i => (nextM (hs.map maskOf) (mk ||| x) &&& ms.getD i 0) == nextM (hs.map maskOf) (mk ||| x), rfl, So.extN_seqL (eS.trans e6) hM, hT5, ?_, fun H6 hT6 => ⟨_, rfl, ?_⟩⟩
            · intro pins s1 its I rv cenv A' E' i u s₂ m₂ g1 g2 g3 g4 hh hd hu hi' hn hm hk
              have hlt : i < ms.length := by
                have := Vals.length rv
                rw [natsV_len] at this
                rw [this]
                exact (List.getElem?_eq_some_iff.mp hi').1
              have hx' : (natsV ms)[i]? = some (V.int (ms[i] : Nat)) := by
                unfold natsV
                rw [List.getElem?_map, List.getElem?_eq_getElem hlt]
                rfl
              obtain ⟨u', e, r⟩ := Vals.get rv hx'
              rw [hi'] at e
              cases e
              obtain ⟨t, rfl⟩ := r
              obtain ⟨uc, ruc, hfr⟩ := gen_free (x := "following") (i := 6) I hT5 (scope := scIC) rfl (fun y hy hf => by
                have e1 : y = (("following" : Str), NameKind.free) := by
                  rcases List.mem_cons.mp hy with z | z
                  · rw [z] at hf; cases hf
                  rcases List.mem_cons.mp z with z | z
                  · rw [z] at hf; cases hf
                  · exact List.mem_singleton.mp z
                rw [e1]
                exact Option.isSome_iff_exists.mp (PySem.W.cellsFrom_some _ _ _ (.inl rfl))) (.tail _ (.tail _ (.head _))) rfl rfl rfl rfl
              obtain ⟨tf, rfl⟩ := ruc
              refine wpAny_Compare1 (wpAny_BinOp (hfr cenv A' E' s₂ _ _ g1 g2 hk (low_loc (by rw [g1]) (by show cenv.scope.names.lookup _ = _; rw [g1]; rfl) hn hm (and_int ?_))))
              refine hfr cenv A' E' { s₂ with toks := s₂.toks + 1 } _ _ g1 g2 hk (eq_int ⟨?_, keeps_tok _ _⟩)
              have eg : ms.getD i 0 = ms[i] := by rw [List.getD_eq_getElem?_getD, List.getElem?_eq_getElem hlt]; rfl
              rw [show Builtin.bitAnd ((nextM (hs.map maskOf) (mk ||| x) : Nat) : Int) ((ms[i] : Nat) : Int) = ((nextM (hs.map maskOf) (mk ||| x) &&& ms[i] : Nat) : Int) by simp [Builtin.bitAnd]]
              show _ = Value.bool ((nextM (hs.map maskOf) (mk ||| x) &&& ms.getD i 0) == nextM (hs.map maskOf) (mk ||| x))
              rw [eg]
              congr 1
              rw [Bool.eq_iff_iff, beq_iff_eq, beq_iff_eq]
              exact ⟨fun z => by omega, fun z => by omega⟩
            · have eany : (List.range (natsV ms).length).any (fun i => (nextM (hs.map maskOf) (mk ||| x) &&& ms.getD i 0) == nextM (hs.map maskOf) (mk ||| x)) = stepB hs ms mk x := by
                rw [natsV_len]
                unfold stepB
                have e8 : ms.map (fun o => (nextM (hs.map maskOf) (mk ||| x) &&& o) == nextM (hs.map maskOf) (mk ||| x)) = (List.range ms.length).map (fun i => (nextM (hs.map maskOf) (mk ||| x) &&& ms.getD i 0) == nextM (hs.map maskOf) (mk ||| x)) := by
                  refine List.ext_getElem (by simp) (fun i h1 h2 => ?_)
                  simp at h1
                  simp [List.getD_eq_getElem?_getD, h1]
                have e9 := congrArg (fun l => List.any l id) e8
                simp only [List.any_map] at e9
                exact e9.symm
              rw [eany]
              have e7 := e6.trans (tabbed_ext hT5 hT6)
              cases hb : stepB hs ms mk x with
              | true =>
                refine iteF ?_
                refine ⟨_, _, _, rfl, ⟨e4.trans ((Same.extN sm5).trans (tabbed_ext hT5 hT6)), p4.trans ((extP_same sm5).trans (extP_tabbed hT6))⟩, hT6.1, ?_⟩
                rw [List.take_add_one, hx, List.all_append, hal]
                simp [hb]
              | false =>
                refine iteT ?_
                have ec : closedB hs c ms = false := by
                  unfold closedB
                  refine Bool.eq_false_iff.mpr fun z => ?_
                  have z1 := List.all_eq_true.mp z mk (List.mem_of_getElem? hmk)
                  have z2 := List.all_eq_true.mp z1 x (List.mem_of_getElem? hx)
                  rw [hb] at z2
                  cases z2
                rw [ec] at q
                exact q H6 (eS.trans e7) (pS.trans (p2.trans ((extP_same sm3).trans (p4.trans ((extP_same sm5).trans (extP_tabbed hT6)))))) hT6.1
          · rintro σ H4 ⟨v5, v6, v7, rfl, ⟨e4, p4⟩, hT4, hal⟩
            refine ⟨_, _, _, _, rfl, ⟨e3.trans e4, p2.trans ((extP_same sm3).trans p4)⟩, hT4, ?_⟩
            have et2 : (coinMasks (List.range hs.length) c).take (natsV (coinMasks (List.range hs.length) c)).length = coinMasks (List.range hs.length) c := by rw [natsV_len, List.take_length]
            rw [et2] at hal
            rw [List.take_add_one, hmk, List.all_append, hall]
            simp [hal]
        · rintro σ H2 ⟨v4, v5, v6, v7, rfl, ⟨e2, p2⟩, hT2, hall⟩
          have et2 : ms.take (natsV ms).length = ms := by rw [natsV_len, List.take_length]
          rw [et2] at hall
          have e : closedB hs c ms = true := hall
          rw [e] at q
          exact q H2 (eS.trans e2) (pS.trans p2) hT2
end
end N

set_option Elab.async false
set_option linter.all false
set_option maxRecDepth 100000
set_option maxHeartbeats 2000000
/-! shows_closed_family -/
namespace N
open Cb (lotV combs combsOf combsOf_sub)
open PySem PySem.Spec PyProof.Rows L2 PySem.W GxR Gx
def famB (h : List (List Nat)) (c : Nat) (goal : List Nat) (ms : List (Option (List V))) : Bool :=
  (ms.all (itmB h.length) && !ms.isEmpty) && (ascB (ms.map backL) && (!((ms.map backL).any fun S => holdsB (maskOf S) goal) && closedB h c ((ms.map backL).map maskOf)))
def closedFamB (h : List (List Nat)) (c : Nat) (goal : List Nat) (o : Option Nat) : JV → Bool
  | .non => o.isSome
  | .other => false
  | .tup ms => famB h c goal ms
theorem fam_lots {h : List (List Nat)} {c : Nat} {goal : List Nat} {Ls : List (List Nat)} (hne : Ls ≠ []) (hL : ∀ l ∈ Ls, LotOk h.length l) : famB h c goal (Ls.map fun l => some (lotV l)) = (ascB Ls && (!(Ls.any fun S => holdsB (maskOf S) goal) && closedB h c (Ls.map maskOf))) := by
  unfold famB
  rw [back_lots]
  have e1 : (Ls.map fun l => some (lotV l)).all (itmB h.length) = true := List.all_eq_true.mpr fun m hm => by
    obtain ⟨l, hl, rfl⟩ := List.mem_map.mp hm
    exact itmB_iff.mpr ⟨l, rfl, hL l hl⟩
  have e2 : (Ls.map fun l => some (lotV l)).isEmpty = false := by
    cases Ls with
    | nil => exact absurd rfl hne
    | cons _ _ => rfl
  rw [e1, e2]
  rfl
section
variable {P : Program} {w : World} {K : PySem.W.Frag} {mg : Str → Option Value} {base : Heap}
theorem itms_lots {H : Hp} : ∀ {xs : List V} {Ls : List (List Nat)}, Paired (fun x m => ItmAt K H x m) xs (Ls.map fun l => some (lotV l)) → ∃ ts : List Addr, xs = ts.map V.ref ∧ Paired (fun t l => LotAt K H t l) ts Ls := by
  intro xs Ls
  induction Ls generalizing xs with
  | nil => intro h; cases h; exact ⟨[], rfl, .nil⟩
  | cons l Ls ih =>
    intro h
    cases h with
    | cons r t =>
      obtain ⟨t', e1, e2, _⟩ := r
      obtain ⟨ts, rfl, e4⟩ := ih t
      exact ⟨t' :: ts, by rw [e1]; rfl, .cons e2 e4⟩
def sp_shows_closed (K : PySem.W.Frag) (L : List Addr) (PL : Addr) : Sp := fun vs H Q _ => ∃ (a g : Addr) (h : List (List Nat)) (c : Nat) (l : List Nat) (v : V) (j : JV), vs = [.ref a, .int c, .ref g, v] ∧ HouseAt K H a h ∧ HouseOk h ∧ c ≤ 7 ∧ LotAt K H g l ∧ LotOk h.length l ∧ l ≠ [] ∧ JVAt K H v j ∧ Tb L PL lamQ H ∧
  ∀ (H' : Hp) (o : Option Nat), LamX.ExtN H H' → Tb L PL lamQ H' → IsDays h c l o → Q (.bl (closedFamB h c l o j)) H'
theorem sc_shows_closed : FnScope ["house", "coins", "goal", "value", "lot", "masks"] ["house", "coins", "goal", "value"] (defScope s_shows_closed_family) := ⟨rfl, rfl, rfl, by decide +kernel, rfl, by decide +kernel, by decide +kernel⟩
abbrev scSF : Scope := { kind := .function, names := [((".0" : Str), .local), (("mask" : Str), .local), (("goal" : Str), .free), (("_holds" : Str), .globalImplicit)], isGenerator := true, isCoroutine := false }
theorem ok_shows_closed {L : List Addr} {cA PG cF PF cI PI PL : Addr} (T : Txt K mg) (hc : T.d_shows_closed_family.fd.code = .ref cA) (TB : GxR.TabB base mg cA PG) (hcF : T.d__is_family.fd.code = .ref cF) (TBF : GxR.TabB base mg cF PF) (hcI : T.d__is_closed.fd.code = .ref cI) (TBI : GxR.TabB base mg cI PI) (mG : PG ∈ L) (mF : PF ∈ L) (mI : PI ∈ L) :
    FnOk P w K mg base CX0 6 T.d_shows_closed_family.f T.d_shows_closed_family.fd ["house", "coins", "goal", "value"] (sp_shows_closed K L PL) := by
  have G1 := ok_check_cover (P := P) (w := w) (base := base) T
  have G2 := ok_can_cover (P := P) (w := w) (base := base) T
  have G6 := ok_all_slates (P := P) (w := w) (base := base) T
  have G3 := ok_is_family (P := P) (w := w) (base := base) T hcF TBF
  have G4 := ok_mask_of (P := P) (w := w) (base := base) T
  have G5 := ok_is_closed (P := P) (w := w) (base := base) T hcI TBI
  obtain ⟨oc, od, kV, doc, pm, an, cdv, ct, osl, efd, lk, hcd⟩ := T.d_shows_closed_family.F.ex
  rw [efd] at lk hc ⊢
  have hc' : cdv = .ref cA := hc
  subst hc'
  refine fn_of lk hcd sc_shows_closed (fun vs H Q E h => ?_) (fun A outer s H vs Q E hr h => ?_)
  · obtain ⟨a, g, h, c, l, v, j, rfl, _⟩ := h
    rfl
  · obtain ⟨a, g, hs, c, l, v, j, rfl, hA, ok, hc7, hL, okL, hne, hJ, hT, q⟩ := h
    have nd := sc_shows_closed.nd
    have hr4 : Room 4 _ := hr.mono (by decide)
    have hr3 : Room 3 _ := hr.mono (by decide)
    have hr1 : Room 1 _ := hr.mono (by decide)
    have hfr : ∀ y ∈ scSF.names, y.2 = .free → y = (("goal" : Str), NameKind.free) := fun y hy hf => by
      rcases List.mem_cons.mp hy with z | z
      · rw [z] at hf; cases hf
      rcases List.mem_cons.mp z with z | z
      · rw [z] at hf; cases hf
      rcases List.mem_cons.mp z with z | z
      · exact z
      · rw [List.mem_singleton.mp z] at hf; cases hf
    refine ⟨_, PSs.nox (pss_cons (ps_expr (pe_call G1 hr (by rfl) T.d__check_cover.g T.d__check_cover.F.kp T.d__check_cover.b .nil pass0 (pa_cons (pv 0) (pa_cons (pv 1) (pa_cons (pv 2) pa_nil)))))
      (pss_cons (ps_if (pt_cmpR op_isN (pv 3) pe_non (nomark _))
        (pss_one (ps_ret (pe_call G2 hr4 (by rfl) T.d_can_cover.g T.d_can_cover.F.kp T.d_can_cover.b .nil pass0 (pa_cons (pv 0) (pa_cons (pv 1) (pa_cons (pv 2) (pa_cons (pe_call G6 hr1 (by rfl) T.d_all_slates.g T.d_all_slates.F.kp T.d_all_slates.b .nil pass0 (pa_cons (pv 0) pa_nil)) pa_nil))))))) pss_nil)
      (pss_cons (ps_if (pt_not (pt_val (pe_call G3 hr3 (by rfl) T.d__is_family.g T.d__is_family.F.kp T.d__is_family.b .nil pass0 (pa_cons (pv 0) (pa_cons (pv 3) pa_nil))))) (pss_one (ps_ret pe_bl)) pss_nil)
      (pss_cons (ps_setLc (i := 5) (own := [("lot", 4)]) (g := gName 4) (tt := tYes) rfl nd rfl rfl (sw_true rfl rfl rfl (by decide +kernel)) (pi_tup (pv 3))
        (blkOk_by (N := ["house", "coins", "goal", "value", "lot", "masks"]) (sc := defScope s_shows_closed_family) (by decide +kernel)) (fun _ _ _ _ _ => pg_name (i := 4) nd rfl (.inl rfl)) (fun _ _ _ _ _ => pts_nil)
        (fun _ _ _ _ _ => pe_call G4 hr1 (by rfl) T.d__mask_of.g T.d__mask_of.F.kp T.d__mask_of.b .nil pass0 (pa_cons (pv 4) pa_nil)))
      (pss_one (ps_ret (pe_and (pe_not (Gxl.pe_anyL (c := cA) (P := PG) hr (by rfl) T.n_any TB rfl ⟨rfl, rfl, by decide +kernel, by decide +kernel, by decide +kernel, ?_⟩ (pv 5) (fun _ => rfl)))
        (pe_one (pe_call G5 hr3 (by rfl) T.d__is_closed.g T.d__is_closed.F.kp T.d__is_closed.b .nil pass0 (pa_cons (pv 0) (pa_cons (pv 1) (pa_cons (pv 5) pa_nil)))))))))))), ?_⟩
    · intro y hy hf
      rw [hfr y hy hf]
      exact Option.isSome_iff_exists.mp (PySem.W.cellsFrom_some _ _ _ (.inl rfl))
    obtain ⟨o, hd⟩ : ∃ o, IsDays hs c l o := by
      by_cases z : Can hs c l
      · obtain ⟨t, ht⟩ := z
        have : ∀ n, ∀ t, t ≤ n → Cov hs c l t → ∃ d, IsDays hs c l (some d) := by
          intro n
          induction n with
          | zero =>
            intro t h1 h2
            have : t = 0 := by omega
            subst this
            exact ⟨0, h2, fun d' hd' => by omega⟩
          | succ n ih =>
            intro t h1 h2
            by_cases y : ∃ d', d' < t ∧ Cov hs c l d'
            · obtain ⟨d', y1, y2⟩ := y
              exact ih d' (by omega) y2
            · exact ⟨t, h2, fun d' hd' hc' => y ⟨d', hd', hc'⟩⟩
        obtain ⟨d, hd⟩ := this t t (Nat.le_refl _) ht
        exact ⟨some d, hd⟩
      · exact ⟨none, fun d hd => z ⟨d, hd⟩⟩
    refine ⟨.ref a, rfl, .int c, rfl, .ref g, rfl, a, g, hs, c, l, rfl, hA, ok, hc7, hL, okL, hne, fun H1 sm1 => ?_⟩
    have hA1 := hA.same sm1
    have hT1 := hT.ext sm1
    have hL1 := hL.same sm1
    have hn7 := ok.hi
    refine ⟨v, rfl, rfl, _, rfl, ?_⟩
    cases j with
    | non =>
      have e : v = .non := hJ
      subst e
      show (if decide (V.non = V.non) = true then _ else _)
      rw [decide_eq_true rfl, if_pos rfl]
      obtain ⟨rs0, hR0, hP0⟩ := id hA1
      have hlv0 : (rs0.map V.ref).length = hs.length := by rw [List.length_map]; exact Paired.length hP0
      refine ⟨.ref a, rfl, .int c, rfl, .ref g, rfl, .ref a, rfl, a, _, rfl, hR0, by rw [hlv0]; exact ok.hi, fun H2 p2 sm2 hp2 => ?_⟩
      rw [hlv0] at hp2
      refine ⟨a, g, p2, hs, c, l, List.range hs.length, rfl, hA1.same sm2, ok, hL1.same sm2, okL, SqT.up hp2, range_ok _, fun H3 b sm3 hb => ?_⟩
      have eb : b = closedFamB hs c l o .non := by
        have hd0 := isDays_none hd
        show b = o.isSome
        cases o with
        | none =>
          have hno := hd0.mp rfl
          cases b with
          | false => rfl
          | true => exact absurd (canA_one.mp (hb.mp rfl)) hno
        | some d =>
          cases b with
          | true => rfl
          | false =>
            have : Can hs c l := ⟨d, hd.1⟩
            exact hb.mpr (canA_one.mpr this)
      rw [eb]
      exact q H3 o (Same.extN ((sm1.trans sm2).trans sm3)) ((hT1.ext sm2).ext sm3) hd
    | other =>
      obtain ⟨hvn, ty, hty, htn⟩ := hJ
      rw [decide_eq_false hvn]
      refine iteF ?_
      have hty1 : TyB K H1 v ty := by
        cases hty with
        | non => exact .non
        | bl b => exact .bl b
        | int i => exact .int i
        | str x => exact .str x
        | byt b => exact .byt b
        | lst h => exact .lst (Same.seq sm1 h)
        | tup h => exact .tup (Same.tup sm1 h)
        | dK h => exact .dK (sm1 _ _ h)
      refine ⟨.ref a, rfl, v, rfl, a, hs, v, rfl, hA1, ok, (hT1.g PF mF).2, .inl ⟨ty, hty1, htn, fun H2 e2 p2 hG2 => ⟨false, rfl, iteT ?_⟩⟩⟩
      exact q H2 o ((Same.extN sm1).trans e2) (hT1.gen mF p2 hG2) hd
    | tup ms =>
      obtain ⟨p, xs, rfl, hX, hP, hz⟩ := hJ
      rw [decide_eq_false (by intro z; cases z)]
      refine iteF ?_
      have hX1 := Same.tup sm1 hX
      have hP1 : Paired (fun x m => ItmAt K H1 x m) xs ms := paired_mono hP fun _ _ z => z.ext (Same.extN sm1)
      refine ⟨.ref a, rfl, .ref p, rfl, a, hs, .ref p, rfl, hA1, ok, (hT1.g PF mF).2, .inr ⟨p, xs, ms, rfl, hX1, hP1, hz, fun hno H2 e2 p2 hG2 => ⟨false, rfl, iteT ?_⟩, fun Ls ems hLne hLs H2 e2 p2 hG2 => ⟨_, rfl, ?_⟩⟩⟩
      · have e3 : closedFamB hs c l o (.tup ms) = false := by
          show (_ && _) = false
          rw [hno]
          rfl
        rw [← e3]
        exact q H2 o ((Same.extN sm1).trans e2) (hT1.gen mF p2 hG2) hd
      · subst ems
        have hT2 := hT1.gen mF p2 hG2
        have eR : closedFamB hs c l o (.tup (Ls.map fun l => some (lotV l))) = (ascB Ls && (!(Ls.any fun S => holdsB (maskOf S) l) && closedB hs c (Ls.map maskOf))) := fam_lots hLne hLs
        cases hb : ascB Ls with
        | false =>
          refine iteT ?_
          rw [hb] at eR
          rw [show false = closedFamB hs c l o (.tup (Ls.map fun l => some (lotV l))) by rw [eR]; rfl]
          exact q H2 o ((Same.extN sm1).trans e2) hT2 hd
        | true =>
          refine iteF ?_
          rw [hb, Bool.true_and] at eR
          obtain ⟨ts, rfl, hPt⟩ := itms_lots hP1
          have hX2 := So.extN_seqT e2 hX1
          have hPt2 : Paired (fun t l => LotAt K H2 t l) ts Ls := paired_mono hPt fun _ _ z => z.ext e2
          have htl : ts.length = Ls.length := Paired.length hPt
          rw [List.length_map] at hz
          refine ⟨.ref p, rfl, p, rfl, ⟨_, hX2⟩, fun mp hmp => lc_tup (K := K) (a := p) (xs := ts.map V.ref) (fun i H3 => H3 = upd H2 mp (.lst (natsV ((Ls.map maskOf).take i)))) rfl (fun i H3 _ e => by rw [e]; exact Same.tup (same_upd hmp) hX2) ?_ ?_⟩
          · rintro i y H3 hi rfl
            obtain ⟨t, hti, rfl⟩ := get_refs hi
            obtain ⟨S, hS, hat⟩ := paired_at hPt2 hti
            have okS := hLs S (List.mem_of_getElem? hS)
            refine ⟨rfl, tYes_if ⟨.ref t, rfl, t, S, rfl, hat.same (same_upd hmp), fun j hj => by have h1 := okS.lt j hj; omega, _, upd_same, ?_, ?_⟩⟩
            · rw [natsV_len, List.length_take, List.length_map]
              exact Nat.lt_of_le_of_lt (Nat.min_le_right _ _) (small1000 (by omega))
            · rw [upd_upd]
              have e2 : (Ls.map maskOf)[i]? = some (maskOf S) := by rw [List.getElem?_map, hS]; rfl
              rw [natsV_take e2]
          · rintro H3 rfl
            have et : (Ls.map maskOf).take (ts.map V.ref).length = Ls.map maskOf := List.take_of_length_le (by rw [List.length_map, List.length_map]; omega)
            rw [et]
            have s3 : Same H2 (upd H2 mp (.lst (natsV (Ls.map maskOf)))) := same_upd hmp
            have hM3 : SqL K (upd H2 mp (.lst (natsV (Ls.map maskOf)))) mp (natsV (Ls.map maskOf)) := SqL.up upd_same
            have hT3 := hT2.ext s3
            generalize upd H2 mp (.lst (natsV (Ls.map maskOf))) = H3 at s3 hM3 hT3
            have hTG : TabG H3 PG := (hT3.g PG mG).2
            have hL3 : LotAt K H3 g l := (hL1.ext e2).same s3
            refine ⟨.ref mp, rfl, mp, natsV (Ls.map maskOf), fun i => holdsB ((Ls.map maskOf).getD i 0) l, rfl, hM3, hTG, ?_, fun H4 hT4 => ⟨_, rfl, _, rfl, ?_⟩⟩
            · intro pins s1 its I rv cenv A' E' i u s₂ m₂ g1 g2 g3 g4 hh hdp hu hi hn hm hk
              have hlt : i < (Ls.map maskOf).length := by
                have := Vals.length rv
                rw [natsV_len] at this
                rw [this]
                exact (List.getElem?_eq_some_iff.mp hi).1
              have hx : (natsV (Ls.map maskOf))[i]? = some (V.int ((Ls.map maskOf)[i] : Nat)) := by
                unfold natsV
                rw [List.getElem?_map, List.getElem?_eq_getElem hlt]
                rfl
              obtain ⟨u', e, r⟩ := Vals.get rv hx
              rw [hi] at e
              cases e
              obtain ⟨tk, rfl⟩ := r
              obtain ⟨uc, ruc, hfrE⟩ := gen_free (x := "goal") (i := 2) I hTG (scope := scSF) rfl (fun y hy hf => by rw [hfr y hy hf]; exact Option.isSome_iff_exists.mp (PySem.W.cellsFrom_some _ _ _ (.inl rfl))) (.tail _ (.tail _ (.head _))) rfl rfl rfl rfl
              cases ruc
              have Lo := low_of I hTG hk
              have Dh := def_of T.d__holds I hTG hk
              have Dm := def_of T.d__mask_of I hTG hk
              have hNums := nums_of I hTG hk hL3
              have hd2 : A'.depth ≤ (A.deeper (envOfC "shows_closed_family" (defScope s_shows_closed_family) s.heap.objs.size T.d_shows_closed_family.f (.ref cA))).depth + 1 := hdp
              have hdq := hr.dp
              have kfn : cenv.scope.kind = .function := by rw [g1]
              have kmask : cenv.kindOf "mask" = some .local := by show cenv.scope.names.lookup _ = _; rw [g1]; rfl
              have kh : cenv.kindOf "_holds" = some .globalImplicit := by show cenv.scope.names.lookup _ = _; rw [g1]; rfl
              show wpAny _ _ _ (fun y s₃ => y = Value.bool (holdsB ((Ls.map maskOf).getD i 0) l) ∧ Keeps s₂ s₃) _ _
              rw [show (Ls.map maskOf).getD i 0 = (Ls.map maskOf)[i] by rw [List.getD_eq_getElem?_getD, List.getElem?_eq_getElem hlt]; rfl]
              obtain ⟨oc', od', an', kV', doc', pm', cdv', ct', sl', hf', _⟩ := id Dh.ex
              obtain ⟨o_n, fd_n, hon, hdn⟩ : ∃ (o : Obj) (fd : FuncData), s₂.heap.get? T.d__holds.f = some o ∧ o.data = .func fd := ⟨_, _, hf', rfl⟩
              refine wpAny_Call_Name_kw (Calls.Name_function_global kfn kh (Calls.loadGlobal_global (by rw [g3]; exact Lo.glob) T.d__holds.g ?_))
              refine Calls.callWith_function (o := o_n) (fd := fd_n) (Calls.evalArgs_plain (Calls.spliced_cons (low_loc kfn kmask hn hm (Calls.spliced_cons (hfrE cenv A' E' s₂ _ _ g1 g2 hk (Calls.spliced_nil ⟨⟨hon, hdn⟩, ?_⟩))))))
              exact call_holds Lo (by omega) hh Dh Dm T.d__mask_of.g hNums fun i hi => by have := okL.lt i hi; omega
            · have eany : (List.range (natsV (Ls.map maskOf)).length).any (fun i => holdsB ((Ls.map maskOf).getD i 0) l) = Ls.any fun S => holdsB (maskOf S) l := by
                rw [natsV_len]
                have e8 : (Ls.map maskOf).map (fun m => holdsB m l) = (List.range (Ls.map maskOf).length).map (fun i => holdsB ((Ls.map maskOf).getD i 0) l) := by
                  refine List.ext_getElem (by simp) (fun i h1 h2 => ?_)
                  simp at h1
                  simp [List.getD_eq_getElem?_getD, h1]
                have e9 := congrArg (fun l => List.any l id) e8
                simp only [List.any_map] at e9
                rw [← show (List.map maskOf Ls).any (fun m => holdsB m l) = Ls.any fun S => holdsB (maskOf S) l by rw [List.any_map]; rfl, List.any_map]
                exact e9.symm
              rw [eany]
              have hT4' := hT3.gen mG (extP_tabbed hT4) hT4.1
              have e4 := (((Same.extN sm1).trans e2).trans (Same.extN s3)).trans (tabbed_ext hTG hT4)
              cases hb2 : Ls.any fun S => holdsB (maskOf S) l with
              | true =>
                refine iteF ?_
                rw [hb2] at eR
                rw [show false = closedFamB hs c l o (.tup (Ls.map fun l => some (lotV l))) by rw [eR]; rfl]
                exact q H4 o e4 hT4' hd
              | false =>
                refine iteT ?_
                rw [hb2] at eR
                refine ⟨.ref a, rfl, .int c, rfl, .ref mp, rfl, a, mp, hs, c, Ls.map maskOf, rfl, hA.ext e4, ok, So.extN_seqL (tabbed_ext hTG hT4) hM3, (hT4'.g PI mI).2, fun H5 e5 p5 hG5 => ?_⟩
                rw [show closedB hs c (Ls.map maskOf) = closedFamB hs c l o (.tup (Ls.map fun l => some (lotV l))) by rw [eR]; rfl]
                exact q H5 o (e4.trans e5) (hT4'.gen mI p5 hG5) hd
end
end N

set_option Elab.async false
set_option linter.all false
set_option maxRecDepth 100000
set_option maxHeartbeats 4000000
/-! set(t), t a tuple of lots; sorted of such a set -/
namespace L2
open PySem PySem.Spec PyProof.Rows PySem.Calls
section
variable {P : Program} {w : World} {A : Around} {E : Value → Shared → Prop} {s : Shared}
set_option maxHeartbeats 6400000 in
theorem set_of_tup {tp : Addr} {its : Array Value} (ks : List (Addr × List Int)) {Q : Value → Shared → Prop} (calm : A.handled = none) (isT : s.heap.IsTuple tp its) (eI : its.toList = ks.map fun p => Value.ref p.1) (each : ∀ p ∈ ks, IsT P w s.heap p.2 p.1) (few : ks.length < 64) (room : A.units + 3 < cLine)
    (q : ∀ (h' : Heap) (tk : Nat) L es ep t, SetTR P w h' s.heap.objs.size L es ep t → Got ks ks.length L → (∀ b o, s.heap.get? b = some o → h'.get? b = some o) → Q (.ref s.heap.objs.size) { s with heap := h', toks := tk }) : wpAny (model P w) A (call (.type "set") [.ref tp]) Q E s := by
  have nI : its.size = ks.length := by have z := congrArg List.length eI; rw [Array.length_toList, List.length_map] at z; exact z
  obtain ⟨m1, m2, m3⟩ := F.called_set.mro; have m4 := F.called_set.made; have m5 := F.called_set.sub
  refine wpAny_call (codeAny_of_tree ?_); show wpAny _ _ (callAny (.type "set") _) _ _ _
  refine wpAny_pure ⟨Code.quiet_builtin _ (by decide +kernel), codeAny_builtin F.entry_type_call ?_⟩; rw [Around.under_plain (weight_type_call_type "set" [.ref tp] []) rfl]
  have m6 := F.called_set.notType; have m7 := F.called_set.canCreate; have m8 := F.typeCall_set_1 (.ref tp)
  repeat (any_goals (first | assumption | wp_step))
  refine codeAny_mono (code_set_led1 (.ref tp) (E := E) (Q₁ := fun v s₁ => v = .ref s.heap.objs.size ∧ s₁ = { s with heap := s.heap.push { cls := .type "set", dict := none, data := .set #[] 0 (.fresh 0 0 (!w.params.followText "set-order")) } }) ⟨rfl, rfl⟩) fun rr sA gA => ?_
  cases rr with
  | error er => exact gA
  | ok fw =>
    cases fw with
    | ret v0 =>
      obtain ⟨rfl, rfl⟩ := gA
      have atS : (s.heap.push { cls := .type "set", dict := none, data := .set #[] 0 (.fresh 0 0 (!w.params.followText "set-order")) }).get? s.heap.objs.size = some { cls := .type "set", dict := none, data := .set #[] 0 (.fresh 0 0 (!w.params.followText "set-order")) } := Heap.get?_push_size _ rfl
      have tyS : Shared.TypeIs { s with heap := s.heap.push { cls := .type "set", dict := none, data := .set #[] 0 (.fresh 0 0 (!w.params.followText "set-order")) } } (.ref s.heap.objs.size) "set" := ⟨_, atS, rfl⟩
      have i1 := F.called_set.init.lookup; have i2 := F.called_set.init.bind (.ref s.heap.objs.size)
      repeat (any_goals (first | assumption | wp_step))
      refine codeAny_mono (codeAny_call_builtin (R := wants (fun v s₂ => v = .none ∧ ∃ h' tk L es ep t, s₂ = { s with heap := h', toks := tk } ∧ SetTR P w h' s.heap.objs.size L es ep t ∧ Got ks ks.length L ∧ (∀ b o, s.heap.get? b = some o → h'.get? b = some o)) E) F.called_set.init.plain F.entry_set_init (check_set_init_1 tyS ?_)) fun r2 sB gB => ?_
      · obtain ⟨⟨kc, kd, kx, ksl⟩, at0, cT, nn, dT⟩ := isT
        simp only at cT dT; subst cT; subst dT
        have at1 : (s.heap.push { cls := .type "set", dict := none, data := .set #[] 0 (.fresh 0 0 (!w.params.followText "set-order")) }).get? tp = some { cls := .type "tuple", dict := kd, data := .seq its nn, slots := ksl } := Heap.get?_push_of_some _ at0
        have b1 := F.sub_tuple_set; have b2 := F.sub_tuple_frozenset
        have b3 : (Value.type "tuple" == Value.type "dict") = false := by decide
        have is1 : (s.heap.push { cls := .type "set", dict := none, data := .set #[] 0 (.fresh 0 0 (!w.params.followText "set-order")) }).IsTuple tp its := ⟨_, at1, rfl, nn, rfl⟩
        unfold Builtin.«set.__init__» noKeywords Builtin.Frozenset.updateFrom; generalize eP : pyIter = PI0
        wp_walk
        subst eP
        refine wpAny_pyIter_tuple is1 (wpAny_bind (wpAny_runValue ?_))
        have ltS : tp < s.heap.objs.size := Heap.lt_size at0
        have calm3 : A.in1.in1.in1.handled = none := by simp [calm]
        have neI : tp ≠ (s.heap.push { cls := .type "set", dict := none, data := .set #[] 0 (.fresh 0 0 (!w.params.followText "set-order")) }).objs.size := by rw [Heap.size_push]; exact Nat.ne_of_lt (Nat.lt_succ_of_lt ltS)
        have outS : s.heap.objs.size ∉ [(s.heap.push { cls := .type "set", dict := none, data := .set #[] 0 (.fresh 0 0 (!w.params.followText "set-order")) }).objs.size, tp] := by
          rw [Heap.size_push]; intro z
          rcases List.mem_cons.mp z with z | z
          · exact absurd z (Nat.ne_of_lt (Nat.lt_succ_self _))
          · exact absurd (List.mem_singleton.mp z) (Nat.ne_of_gt ltS)
        have vals : ∀ (i : Nat) (v : Value), its[i]? = some v → ∃ p, ks[i]? = some p ∧ v = .ref p.1 := fun i v e => by
          have z : its.toList[i]? = some v := by rw [Array.getElem?_toList]; exact e
          rw [eI, List.getElem?_map] at z
          cases y : ks[i]? with
          | none => rw [y] at z; cases z
          | some p => rw [y] at z; exact ⟨p, rfl, (Option.some.inj z).symm⟩
        have beyond : ∀ b, s.heap.objs.size ≤ b → s.heap.get? b = none := fun b hb => by
          cases z : s.heap.get? b with
          | none => rfl
          | some o => exact absurd (Nat.lt_of_lt_of_le (Heap.lt_size z) hb) (Nat.lt_irrefl _)
        refine set_update_tups ((Walks.tuple calm3 _ tp neI its).toS) s.heap.objs.size outS ks nI few vals s.heap each (beyond _ (Nat.le_refl _)) (fun b hb => beyond b (by rw [List.mem_singleton.mp hb, Heap.size_push]; exact Nat.le_succ _)) room (its.size - 0) 0 _ (by omega) (Nat.zero_le _)
          ⟨⟨_, Heap.get?_push_size _ rfl, rfl, rfl⟩, (is1.push _)⟩ (fun b o e => Heap.get?_push_of_some _ (Heap.get?_push_of_some _ e)) ⟨[], #[], 0, _, setTR_fresh (Heap.get?_push_of_some _ atS), Got.zero ks⟩ ?_
        intro sC L es ep t mv R g kp
        obtain ⟨hC, gC, dC, tC, oC⟩ := sC
        have z1 : gC = s.gens := mv.gens
        have z2 : dC = s.drawn := mv.drawn
        have z3 : oC = s.os := mv.os
        subst z1 z2 z3
        rw [nI] at g
        exact wpAny_pure (wpAny_pure ⟨rfl, hC, tC, L, es, ep, t, rfl, R, g, kp⟩)
      · cases r2 with
        | error er => exact gB
        | ok f2 =>
          cases f2 with
          | ret v1 =>
            obtain ⟨rfl, h', tk, L, es, ep, t, rfl, R, g, kp⟩ := gB
            repeat (any_goals (first | assumption | wp_step))
            exact q _ _ _ _ _ _ R g kp
          | _ => exact gB.elim
    | _ => exact gA.elim
end
end L2

set_option Elab.async false
set_option linter.all false
set_option maxRecDepth 100000
set_option maxHeartbeats 4000000
/-! sorted(set(lots)) -/
namespace N
open Cb (lotV)
open PySem PySem.Spec PyProof.Rows L2 PySem.W PySem.Calls
theorem lt_asInts (x y : List Nat) : dataLt (So.lotD x) (So.lotD y) = decide (asInts x < asInts y) := by
  have h := dataLt_ints (asInts x) (asInts y)
  have e : ∀ l : List Nat, (asInts l).map PyData.int = l.map fun (i : Nat) => PyData.int i := fun l => by
    unfold asInts
    rw [List.map_map]
    rfl
  rw [e, e] at h
  rw [So.lotD, So.lotD, dataLt_tuple]
  exact h
theorem tupLe_is (x y : List Nat) : tupLe x y = !decide (asInts y < asInts x) := by
  rw [← lt_asInts]
  rfl
def backI (k : List Int) : List Nat := k.map Int.toNat
theorem back_asInts (l : List Nat) : backI (asInts l) = l := by
  unfold backI asInts
  rw [List.map_map]
  conv => rhs; rw [← List.map_id l]
  exact List.map_congr_left fun i _ => by show ((i : Nat) : Int).toNat = i; omega
section
variable {P : Program} {w : World} {A : Around} {E : Value → Shared → Prop} {s : Shared}
theorem isT_lot {h : Heap} {k : List Int} {b : Addr} {l : List Nat} (x : IsT P w h k b) (e : k = asInts l) : ∃ as, Reads h (.ref b) (So.lotD l) as := by
  obtain ⟨o, items, n, ho, hc, hd, hi⟩ := x
  have hv : Vals (lotV l) items.toList := by
    rw [← asInts_V, ← e]
    clear e
    have z := ints_of_items (P := P) (w := w) hi
    clear hd hi
    generalize items.toList = us at z
    induction z with
    | nil => exact .nil
    | cons i t _ ih => exact .cons ⟨t, rfl⟩ (ih)
  exact ⟨[], So.IsLot.reads ⟨b, items, rfl, ⟨o, ho, hc, n, hd⟩, hv⟩⟩
theorem sorted_setL {a : Addr} {L : List (Addr × List Int)} {es : Array (Int × Value)} {ep : Nat} {t : SetTable} {Q : Value → Shared → Prop} (R : SetTR P w s.heap a L es ep t) (hh : A.handled = none) (hu : A.units + 8 < cLine)
    (hB : ∀ p ∈ L, p.2 = asInts (backI p.2))
    (hQ : ∀ s' p (out : Array Value) (c : Nat) (L' : List (Addr × List Int)), (∀ b o, s.heap.get? b = some o → s'.heap.get? b = some o) → s'.gens = s.gens → s'.os = s.os → s.heap.objs.size ≤ p →
      s'.heap.get? p = some (seqObj "list" out c) → out.toList = L'.map (fun q => Value.ref q.1) → L'.Perm L → L'.Pairwise (fun q r => ¬ r.2 < q.2) → Q (.ref p) s') :
    wpAny (model P w) A (call (.builtin "sorted") [.ref a]) Q E s := by
  obtain ⟨o, ho, hex, hd⟩ := R.ob
  have hsz := R.size
  have hfew := R.few
  refine Calls.call_function_entry kind_sorted plain_sorted entry_sorted (args_sorted1 _) ?_
  unfold Builtin.«sorted»
  refine wpAny_bind (m := checkCount "sorted" 1 1 _) (wpAny_pure ?_)
  refine wpAny_bind (collect_set (A := A.in1) hh ⟨o, ho, hex.1, hd⟩ R.fits (by unfold scanBound; omega) R.tab.ris R.led fun s1 vs k1 hz g1 o1 pm => ?_)
  have hes : es.toList.map (·.2) = L.map fun q => Value.ref q.1 := by
    rw [R.rows]
    unfold L2.rowsOf
    rw [List.map_map] <;> rfl
  rw [hes] at pm
  have ord : ∀ vs : List Value, (∀ v ∈ vs, ∃ q ∈ L, v = Value.ref q.1) → ∃ L1 : List (Addr × List Int), vs = L1.map (fun q => Value.ref q.1) ∧ ∀ q ∈ L1, q ∈ L := by
    intro us
    induction us with
    | nil => intro _; exact ⟨[], rfl, fun q hq => (by cases hq)⟩
    | cons u us ih =>
      intro hv
      obtain ⟨q, hq, e⟩ := hv u List.mem_cons_self
      obtain ⟨L1, e1, hs⟩ := ih fun y hy => hv y (List.mem_cons_of_mem _ hy)
      exact ⟨q :: L1, by rw [List.map_cons, e, e1], fun r hr => by
        rcases List.mem_cons.mp hr with z | z
        · rw [z]; exact hq
        · exact hs r z⟩
  have one : ∀ q ∈ L, ∀ r ∈ L, q.1 = r.1 → q = r := fun q hq r hr e => by
    have a1 := R.tup q hq
    have a2 := R.tup r hr
    rw [e] at a1
    exact Prod.ext e (a1.inj a2)
  have perm_of : ∀ L1 : List (Addr × List Int), (∀ q ∈ L1, q ∈ L) → (L1.map (fun q => Value.ref q.1)).Perm (L.map fun q => Value.ref q.1) → L1.Perm L := by
    intro L1 hs pm1
    have nL : L.Nodup := nodup_of_map R.nd
    have nref : (L.map fun q => Value.ref q.1).Nodup := by
      refine List.pairwise_map.mpr (List.Pairwise.imp_of_mem (fun {q r} hq hr hne e => ?_) nL)
      injection e with e
      exact hne (one q hq r hr e)
    have n1 : L1.Nodup := nodup_of_map (pm1.nodup_iff.mpr nref)
    refine (List.perm_ext_iff_of_nodup n1 nL).mpr fun q => ⟨hs q, fun hq => ?_⟩
    have hm : Value.ref q.1 ∈ L1.map (fun q => Value.ref q.1) := pm1.mem_iff.mpr (List.mem_map.mpr ⟨q, hq, rfl⟩)
    obtain ⟨r, hr, e⟩ := List.mem_map.mp hm
    injection e with e
    rw [← one r (hs r hr) q hq e]
    exact hr
  have hvl : vs.length < 64 := by rw [pm.length_eq, List.length_map]; exact hfew
  obtain ⟨L1, e1, hs1⟩ := ord vs fun v hv => by
    obtain ⟨q, hq, e⟩ := List.mem_map.mp (pm.mem_iff.mp hv)
    exact ⟨q, hq, e.symm⟩
  refine wpAny_bind (wpAny_newList ?_ (by rw [sizeLine_eq]; omega))
  have hoL : (s1.heap.push (seqObj "list" vs.toArray 0)).get? s1.heap.objs.size = some (seqObj "list" vs.toArray 0) := Heap.get?_push_size _ rfl
  have old : ∀ b u, s.heap.get? b = some u → (sortingHeap (s1.heap.push (seqObj "list" vs.toArray 0)) s1.heap.objs.size vs).get? b = some u := fun b u e => by
    have q := k1 b u e
    have hlt := Heap.lt_size q
    exact sortingHeap_old (Nat.ne_of_lt hlt) (Heap.get?_push_of_some _ q)
  have each : ∀ (h' : Heap), (∀ b u, s.heap.get? b = some u → h'.get? b = some u) → ∀ M : List (Addr × List Int), (∀ q ∈ M, q ∈ L) → EachIs (fun v l => ∃ as, Reads h' v (So.lotD l) as) (M.map fun q => Value.ref q.1) (M.map fun q => backI q.2) := by
    intro h' hk M
    induction M with
    | nil => intro _; exact .nil
    | cons q M ih => exact fun hm => .cons (isT_lot (isT_keep (R.tup q (hm q List.mem_cons_self)) hk) (hB q (hm q List.mem_cons_self))) (ih fun r hr => hm r (List.mem_cons_of_mem _ hr))
  have key := each _ old L1 hs1
  rw [← e1] at key
  have tie : ∀ M : List (Addr × List Int), (∀ q ∈ M, q ∈ L) → EachIs (fun v l => ∃ q ∈ L, v = Value.ref q.1 ∧ backI q.2 = l) (M.map fun q => Value.ref q.1) (M.map fun q => backI q.2) := by
    intro M
    induction M with
    | nil => intro _; exact .nil
    | cons q M ih => exact fun hm => .cons ⟨q, hm q List.mem_cons_self, rfl, rfl⟩ (ih fun r hr => hm r (List.mem_cons_of_mem _ hr))
  have key2 := tie L1 hs1
  rw [← e1] at key2
  have S := St.sortsAt_lots (prog := P) (w := w) (A := A.in1.in1) (s := { s1 with heap := sortingHeap (s1.heap.push (seqObj "list" vs.toArray 0)) s1.heap.objs.size vs }) key (by show A.units + 1 + 1 + 1 < cLine; omega)
  have hsd := sortVals_data (enc := So.lotD) (h' := sortingHeap (s1.heap.push (seqObj "list" vs.toArray 0)) s1.heap.objs.size vs) false key2 key (St.all_alike (L1.map fun q => backI q.2))
  have hpm := St.sortVals_perm (κ := dataKind (sortingHeap (s1.heap.push (seqObj "list" vs.toArray 0)) s1.heap.objs.size vs) ((L1.map fun q => backI q.2).map So.lotD)) vs
  refine wpAny_bind (wpAny_holding (wpAny_call_entry slot_list_sort ⟨_, hoL, rfl⟩ entry_list_sort (list_sort_vals (s := { s1 with heap := s1.heap.push (seqObj "list" vs.toArray 0) }) hoL S (by rw [sizeLine_eq]; omega) ⟨_, rfl, ?_⟩) (args_list_sort _)))
  generalize sortVals _ false vs vs = out at hsd hpm
  obtain ⟨L', e', hs'⟩ := ord out fun v hv => by
    obtain ⟨q, hq, e⟩ := List.mem_map.mp (pm.mem_iff.mp (hpm.mem_iff.mp hv))
    exact ⟨q, hq, e.symm⟩
  have pL : L'.Perm L := perm_of L' hs' (by rw [← e']; exact hpm.trans pm)
  have el : ∀ (M : List (Addr × List Int)) (ls : List (List Nat)), (∀ q ∈ M, q ∈ L) → EachIs (fun v l => ∃ q ∈ L, v = Value.ref q.1 ∧ backI q.2 = l) (M.map fun q => Value.ref q.1) ls → ls = M.map fun q => backI q.2 := by
    intro M
    induction M with
    | nil => intro ls _ h; cases h; rfl
    | cons q M ih =>
      intro ls hm h
      cases h with
      | cons r t =>
        obtain ⟨q', hq', e2, e3⟩ := r
        injection e2 with e2
        have e4 := one q (hm q List.mem_cons_self) q' hq' e2
        rw [ih _ (fun r hr => hm r (List.mem_cons_of_mem _ hr)) t, ← e3, e4]
        rfl
  rw [e'] at hsd
  have eo := el L' _ hs' hsd
  have pw0 : ((L1.map fun q => backI q.2).mergeSort tupLe).Pairwise (fun x y => tupLe x y = true) := sort_pairwise (sortLe_total _ _ _) _
  have eo2 : (L1.map fun q => backI q.2).mergeSort tupLe = L'.map fun q => backI q.2 := eo
  rw [eo2] at pw0
  have pw : L'.Pairwise (fun q r => ¬ r.2 < q.2) := List.Pairwise.imp_of_mem (fun {q r} hq hr hle => by
    rw [tupLe_is, ← hB q (hs' q hq), ← hB r (hs' r hr)] at hle
    simpa using hle) (List.pairwise_map.mp pw0)
  obtain ⟨c, hc⟩ := sortedHeap_at (vs := vs) (out := out.toArray) hoL
  refine wpAny_pure ⟨_, rfl, hQ _ s1.heap.objs.size out.toArray c L' (fun b u e => ?_) g1 o1 hz hc (by simpa using e') pL pw⟩
  have q := k1 b u e
  have hlt := Heap.lt_size q
  show (sortedHeap (s1.heap.push (seqObj "list" vs.toArray 0)) s1.heap.objs.size vs out.toArray).get? b = some u
  rw [sortedHeap_old (Nat.ne_of_lt hlt) (by rw [size_push']; exact Nat.lt_succ_of_lt hlt)]
  exact Heap.get?_push_of_some _ q
end
section
variable {X : Cx}
/-- set(t), t a tuple of tuples of ints -/
theorem cr_setTup (hc : X.calm = true) (hu : X.A.units + 64 < cLine) : CallR X (.type "set") (fun xs H Q => ∃ (t : Addr) (ks : List (Addr × List Int)), xs = [V.ref t] ∧ SqT X.K H t (ks.map fun p => V.ref p.1) ∧ (∀ p ∈ ks, SqT X.K H p.1 (p.2.map V.int)) ∧ ks.length < 64 ∧
    ∀ a L, H a = none → (∀ p ∈ L, p ∈ ks) → (∀ p ∈ ks, p.2 ∈ L.map (·.2)) → Q (.ref a) (upd H a (SetTO X.prog X.w a L))) := by
  intro pins s σ H xs us Q I r h
  obtain ⟨t, ks, rfl, hT, hk, hf, q⟩ := h
  rw [Vals.ref1 r]
  obtain ⟨its, rv, pl, _⟩ := I.tuple hT
  have hn : H s.heap.objs.size = none := I.hok.fresh (Nat.le_refl _)
  refine set_of_tup (P := X.prog) (w := X.w) ks (I.ok.hd hc) pl (by simpa using refs_of_vals rv) (fun p hp => I.isT (hk p hp)) hf (by omega) fun h' tk L es ep t R g k => ?_
  refine ⟨.ref s.heap.objs.size, upd H s.heap.objs.size (SetTO X.prog X.w s.heap.objs.size L), I.laid (t' := tk) k (Nat.le_refl _) (setTO_new R.t0), rfl, q _ L hn (fun p hp => ?_) fun p hp => ?_⟩
  · exact List.mem_of_mem_take (g.sub p hp)
  · exact g.all p (by rw [List.take_length]; exact hp)
/-- sorted(set), tuples of numbers, not negative -/
theorem cr_sortedSetL (hc : X.calm = true) (hu : X.A.units + 64 < cLine) : CallR X (.builtin "sorted") (fun vs H Q => ∃ (a : Addr) (L : List (Addr × List Int)), vs = [V.ref a] ∧ H a = some (SetTO X.prog X.w a L) ∧ (∀ p ∈ L, SqT X.K H p.1 (p.2.map V.int)) ∧ (∀ p ∈ L, p.2 = asInts (backI p.2)) ∧
    ∀ (L' : List (Addr × List Int)) (p : Addr), L'.Perm L → (L'.map (·.2)).Nodup → L'.length < 64 → L'.Pairwise (fun q r => ¬ r.2 < q.2) → H p = none → Q (.ref p) (upd H p (.lst (L'.map fun q => V.ref q.1)))) := by
  intro pins s σ H vs us Q I r h
  obtain ⟨a, L, rfl, ha, hk, hB, q⟩ := h
  have R0 : SetT0 X.prog X.w s.heap a L := (I.hok a _ ha).1
  obtain ⟨es, ep, t, R⟩ := R0.full fun p hp => I.isT (hk p hp)
  rw [Vals.ref1 r]
  refine sorted_setL R (I.ok.hd hc) (by omega) hB fun s' p out c L' k g o hp hg hout pm pw => ?_
  have hfew : L'.length < 64 := by rw [pm.length_eq]; exact R.few
  have hlen : (L'.map fun q => V.ref q.1).length ≤ sizeLine := by rw [List.length_map, sizeLine_eq]; omega
  have hn : H p = none := I.hok.fresh hp
  have hv : Vals (L'.map fun q => V.ref q.1) out.toList := by rw [hout]; exact vals_of_refs L'
  have J : Inv X pins σ (upd H p (.lst (L'.map fun q => V.ref q.1))) { s with heap := s'.heap, gens := s'.gens, drawn := s'.drawn, toks := s'.toks } :=
    I.call (ch := []) (Un.laid k hp hn) (I.hok.laid k hp ⟨hlen, out.toList, c, hv, hg⟩) (by rw [g]; exact I.bare) (fun _ z => nomatch z)
  have e : s' = { s with heap := s'.heap, gens := s'.gens, drawn := s'.drawn, toks := s'.toks } := by
    cases s'
    cases s
    cases o
    rfl
  rw [e]
  exact ⟨.ref p, _, J, rfl, q L' p pm ((pm.map (·.2)).nodup_iff.mpr R.nd) hfew pw hn⟩
end
end N

set_option Elab.async false
set_option linter.all false
set_option maxRecDepth 100000
set_option maxHeartbeats 2000000
/-! the law: a choice, a row that leads -/
namespace N
open Cb (lotV combs combsOf combsOf_sub)
open PySem PySem.Spec PyProof.Rows L2
theorem eqv_ints : ∀ l m : List Nat, PyData.eqvAll (natD l) (natD m) = decide (l = m)
  | [], [] => by simp [natD, PyData.eqvAll]
  | [], j :: m => by simp [natD, PyData.eqvAll]
  | i :: l, [] => by simp [natD, PyData.eqvAll]
  | i :: l, j :: m => by
    have ih := eqv_ints l m
    unfold natD at ih ⊢
    rw [List.map_cons, List.map_cons, PyData.eqvAll, ih]
    by_cases h1 : i = j
    · by_cases h2 : l = m
      · simp [h1, h2, PyData.eqv]
      · simp [h1, h2, PyData.eqv]
    · have : ¬ (i : Int) = (j : Int) := by omega
      simp [h1, this, PyData.eqv]
theorem any_lots (l : List Nat) (ls : List (List Nat)) : ((ls.map So.lotD).any fun z => PyData.eqv z (.tuple (natD l))) = decide (l ∈ ls) := by
  rw [List.any_map, Bool.eq_iff_iff, List.any_eq_true, decide_eq_true_eq]
  have e : ∀ m : List Nat, PyData.eqv (So.lotD m) (.tuple (natD l)) = decide (m = l) := fun m => by
    show PyData.eqv (.tuple (natD m)) (.tuple (natD l)) = _
    rw [PyData.eqv, eqv_ints]
  constructor
  · rintro ⟨m, hm, h⟩
    have h' : PyData.eqv (So.lotD m) (.tuple (natD l)) = true := h
    rw [e, decide_eq_true_eq] at h'
    rw [← h']
    exact hm
  · intro h
    exact ⟨l, h, by show PyData.eqv (So.lotD l) (.tuple (natD l)) = true; rw [e]; exact decide_eq_true rfl⟩
theorem c_isi (K : PySem.W.Frag) {X : Cx} (hK : X.K = K := by rfl) : CallR X (.builtin "isinstance") (rIsi K) := by
  subst hK
  exact call_isi
theorem sqL_but {K : PySem.W.Frag} {H H' : Hp} {rp a : Addr} {xs : List V} (h : SqL K H a xs) (hne : a ≠ rp) (k : SameBut rp H H') : SqL K H' a xs := by
  rcases h with (h | ⟨o', h⟩) | h
  · exact .inl (.inl (k _ _ hne h))
  · exact .inl (.inr ⟨o', k _ _ hne h⟩)
  · exact .inr h
theorem tyX_tup {K : PySem.W.Frag} {H : Hp} {a : Addr} {xs : List V} (h : SqT K H a xs) : TyX K H (.ref a) (.type "tuple") := by
  rcases h with (h | ⟨o', h⟩) | ⟨o, its, n, h, hc, _⟩
  · exact .base (.tup h)
  · exact .fTuple h
  · exact .kTuple h hc
section
variable {P : Program} {w : World} {K : PySem.W.Frag} {mg : Str → Option Value} {base : Heap}
def sp_pick (K : PySem.W.Frag) : Sp := fun vs H Q _ => ∃ (sa : Addr) (ns : List Int) (rp lp : Addr) (xs : List V), vs = [.ref rp, .ref lp] ∧ RowAt K sa ns H rp ∧ SqL K H lp xs ∧ lp ≠ rp ∧ 1 ≤ xs.length ∧ xs.length ≤ 1000 ∧
  ∀ (H' : Hp) (i : Nat) (x : V), RowAt K sa ns H' rp → SameBut rp H H' → xs[i]? = some x → Q x H'
theorem sc_pick : FnScope ["row", "things"] ["row", "things"] (defScope s__law_pick) := ⟨rfl, rfl, rfl, by decide +kernel, rfl, by decide +kernel, by decide +kernel⟩
theorem ok_pick (T : Txt K mg) : FnOk P w K mg base CX0 2 T.d__law_pick.f T.d__law_pick.fd ["row", "things"] (sp_pick K) := by
  have G := ok_taken (P := P) (w := w) (base := base) T
  refine T.d__law_pick.F.ok sc_pick (fun vs H Q E h => ?_) (fun cdv A outer s H vs Q E hr h => ?_)
  · obtain ⟨sa, ns, rp, lp, xs, rfl, _⟩ := h
    rfl
  · obtain ⟨sa, ns, rp, lp, xs, rfl, hR, hL, hne, h1, h2, q⟩ := h
    refine ⟨_, pss_one (ps_ret (pe_ix ix_list (pv 1) (pe_call G hr (by rfl) T.d__law_taken.g T.d__law_taken.F.kp T.d__law_taken.b .nil pass0 (pa_cons (pv 0) (pa_cons (pe_callB call_len_seq (by rfl) T.n_len PySem.boot_len (pa_cons (pv 1) pa_nil)) pa_nil))) (fun _ _ => rfl))), ?_⟩
    refine ⟨.ref lp, rfl, .ref rp, rfl, .ref lp, rfl, lp, xs, rfl, .inl hL, sa, ns, rp, xs.length, rfl, hR, h1, h2, fun H1 v row1 sb1 hv => ?_⟩
    have hx : xs[v]? = some xs[v] := List.getElem?_eq_getElem hv
    exact ⟨lp, xs, (v : Int), xs[v], rfl, rfl, sqL_but hL hne sb1, atI_nat hx, q H1 v _ row1 sb1 hx⟩
/-- what can be drawn as an item of a row -/
def Drawn (n : Nat) (m : Option (List V)) : Prop := m = none ∨ m = some [.bl true] ∨ ∃ l, m = some (lotV l) ∧ LotOk n l
def sp_leads (K : PySem.W.Frag) (L : List Addr) (PT : Addr) : Sp := fun vs H Q _ => ∃ (a g : Addr) (h : List (List Nat)) (c d : Nat) (goal : List Nat) (v : V), vs = [.ref a, .int c, .ref g, v, .int d] ∧ HouseAt K H a h ∧ HouseOk h ∧ h.length ≤ 5 ∧ LotAt K H g goal ∧ goal.length ≤ 1000 ∧ Tb L PT lamQ H ∧
  ((∃ ty, TyX K H v (.type ty) ∧ PySem.W.kitOne K (.type ty) (.type "tuple") = some false ∧ Q (.bl false) H) ∨
   ∃ (p : Addr) (xs : List V) (ms : List (Option (List V))), v = .ref p ∧ SqT K H p xs ∧ Paired (fun x m => ItmAt K H x m) xs ms ∧ xs.length ≤ 1000 ∧ (∀ m ∈ ms, Drawn h.length m) ∧
    ∀ H', LamX.ExtN H H' → Tb L PT lamQ H' → Q (.bl (rowB h c goal d ms)) H')
theorem sc_leads : FnScope ["house", "coins", "goal", "value", "days", "covered", "lot", "one"] ["house", "coins", "goal", "value", "days"] (defScope s__law_leads) := ⟨rfl, rfl, rfl, by decide +kernel, rfl, by decide +kernel, by decide +kernel⟩
/-- the items of a drawn thing that are no numbers -/
def oddV (ys : List V) : List V := ys.filter fun y => match y with
  | .int _ => false
  | _ => true
theorem ok_leads {L : List Addr} {cL PL : Addr} (T : Txt K mg) (hcL : T.d__law_lots.fd.code = .ref cL) (TBL : LamX.TabB base mg cL PL) :
    FnOk P w K mg base CX0 3 T.d__law_leads.f T.d__law_leads.fd ["house", "coins", "goal", "value", "days"] (sp_leads K L PL) := by
  have G1 := ok_lots (P := P) (w := w) (base := base) (L := L) T hcL TBL
  have G2 := ok_next (P := P) (w := w) (base := base) T
  have G3 := ok_lholds (P := P) (w := w) (base := base) T
  refine T.d__law_leads.F.ok sc_leads (fun vs H Q E h => ?_) (fun cdv A outer s H vs Q E hr h => ?_)
  · obtain ⟨a, g, h, c, d, goal, v, rfl, _⟩ := h
    rfl
  · obtain ⟨a, g, hs, c, d, goal, v, rfl, hA, ok, hn5, hG, hgl, hT, h⟩ := h
    have nd := sc_leads.nd
    have hr1 : Room 1 _ := hr.mono (by decide)
    have hr2 : Room 2 _ := hr.mono (by decide)
    refine ⟨_, pss_cons (ps_if (PW.pt (pw_or (pt_not (pt_val (pe_callB call_isi (by rfl) T.n_isinstance boot_isinstance (pa_cons (pv 3) (pa_cons (pe_bltn (v := .ty "tuple") (u := .type "tuple") (by rfl) T.n_tuple (by decide +kernel) rfl) pa_nil)))))
          (pw_or1 (pt_cmpR op_ne (pe_callB call_len_seq (by rfl) T.n_len PySem.boot_len (pa_cons (pv 3) pa_nil)) (pv 4) (nomark _)))))
        (pss_one (ps_ret pe_bl)) pss_nil)
      (pss_cons (ps_set (i := 5) nd rfl (.inl rfl) (pe_tup pa_nil))
      (pss_cons (ps_for PassesOwn.never rfl (pi_tup (pv 3)) (pg_name (i := 6) nd rfl (.inl rfl))
        (pss_cons (ps_if (PW.pt (pw_or (pt_not (pt_val (pe_callB call_isi (by rfl) T.n_isinstance boot_isinstance (pa_cons (pv 6) (pa_cons (pe_bltn (v := .ty "tuple") (u := .type "tuple") (by rfl) T.n_tuple (by decide +kernel) rfl) pa_nil)))))
            (pw_or1 (pt_cmpR (op_nemp hr.units) (pe_lc (own := [("one", 7)]) (g := gName 7) rfl nd (pi_tup (pv 6))
              (blkOk_by (N := ["house", "coins", "goal", "value", "days", "covered", "lot", "one"]) (sc := defScope s__law_leads) (by decide +kernel)) (fun _ _ _ _ _ => pg_name (i := 7) nd rfl (.inl rfl))
              (fun _ _ _ _ _ => pts_one (PW.pt (pw_or (pt_not (pt_val (pe_callB (c_isi K) (by rfl) T.n_isinstance boot_isinstance (pa_cons (pv 7) (pa_cons (pe_bltn (v := .ty "int") (u := .type "int") (by rfl) T.n_int (by decide +kernel) rfl) pa_nil)))))
                (pw_or1 (pt_val (pe_callB (c_isi K) (by rfl) T.n_isinstance boot_isinstance (pa_cons (pv 7) (pa_cons (pe_bltn (v := .ty "bool") (u := .type "bool") (by rfl) T.n_bool (by decide +kernel) rfl) pa_nil))))))))
              (fun _ _ _ _ _ => pv 7)) (pe_lst pa_nil) (nomark _)))))
          (pss_one (ps_ret pe_bl)) pss_nil)
        (pss_cons (ps_if (PW.pt (pw_or (pt_cmpR (op_notInD (Nat.lt_of_le_of_lt (Nat.add_le_add_left (by decide) _) (room100 hr))) (pv 6) (pe_call G1 hr2 (by rfl) T.d__law_lots.g T.d__law_lots.F.kp T.d__law_lots.b .nil pass0 (pa_cons (pe_callB call_len_seq (by rfl) T.n_len PySem.boot_len (pa_cons (pv 0) pa_nil)) pa_nil)) (by rfl))
            (pw_or1 (pt_cmpR op_gt (pe_callB call_len_seq (by rfl) T.n_len PySem.boot_len (pa_cons (pv 6) pa_nil)) (pv 1) (nomark _)))))
          (pss_one (ps_ret pe_bl)) pss_nil)
        (pss_one (ps_set (i := 5) nd rfl (.inl rfl) (pe_call G2 hr1 (by rfl) T.d__law_next.g T.d__law_next.F.kp T.d__law_next.b .nil pass0 (pa_cons (pv 0) (pa_cons (pv 5) (pa_cons (pv 6) pa_nil)))))))))
      (pss_one (ps_ret (pe_call G3 hr1 (by rfl) T.d__law_holds.g T.d__law_holds.F.kp T.d__law_holds.b .nil pass0 (pa_cons (pv 5) (pa_cons (pv 2) pa_nil))))))), ?_⟩
    rcases h with ⟨ty, hty, htn, q⟩ | ⟨p, xs, ms, rfl, hX, hP, hz, hms, q⟩
    · refine ⟨v, rfl, v, .ty "tuple", .type ty, .type "tuple", false, rfl, .ty _, hty, htn, _, rfl, iteT ?_⟩
      exact q
    · have hml : xs.length = ms.length := Paired.length hP
      refine ⟨.ref p, rfl, .ref p, .ty "tuple", .type "tuple", .type "tuple", true, rfl, .ty _, tyX_tup hX, kit_ty (by decide +kernel), true, rfl, iteF ?_⟩
      refine ⟨.ref p, rfl, p, xs, rfl, .inr hX, .int (d : Int), rfl, rfl, !decide (ms.length = d), ?_, ?_⟩
      · have : decide (V.int (xs.length : Int) = V.int (d : Int)) = decide (ms.length = d) := decide_eq_decide.mpr ⟨fun z => by have := V.int.inj z; omega, fun z => by rw [hml, z]⟩
        rw [this]
      by_cases hdl : ms.length = d
      · rw [decide_eq_true hdl]
        refine iteF ?_
        refine ⟨by decide, fun e0 he0 => ?_⟩
        have sm0 : Same H (upd H e0 (.tup [])) := same_upd he0
        refine ⟨.ref p, rfl, p, rfl, ⟨_, Same.tup sm0 hX⟩, for_tup (K := K) (a := p) (xs := xs) (fun i σ H2 => ∃ (cv : Addr) (v6 v7 : Option V), σ = [some (.ref a), some (.int c), some (.ref g), some (.ref p), some (.int d), some (.ref cv), v6, v7] ∧ LamX.ExtN H H2 ∧ Tb L PL lamQ H2 ∧ LotAt K H2 cv (covsL hs ((ms.take i).map backL)) ∧ (ms.take i).all (okB hs.length c) = true)
          ⟨e0, none, none, rfl, Same.extN sm0, hT.ext sm0, SqT.up upd_same, rfl⟩ (fun i σ H2 _ h2 => by obtain ⟨cv, v6, v7, _, e, _⟩ := h2; exact So.extN_seqT e hX) ?_ ?_⟩
        · rintro i y σ H2 hi ⟨cv, v6, v7, rfl, e2, hT2, hcv, hall⟩
          obtain ⟨m, hm, hit⟩ := paired_at hP hi
          have dm := hms m (List.mem_of_getElem? hm)
          have bad : okB hs.length c m = false → rowB hs c goal d ms = false := fun z => by
            have z2 : ms.all (okB hs.length c) = false := by
              rw [← Bool.not_eq_true, List.all_eq_true]
              intro y
              rw [y m (List.mem_of_getElem? hm)] at z
              cases z
            unfold rowB
            rw [z2]
            simp
          have hit2 := hit.ext e2
          rcases dm with rfl | rfl | ⟨l, rfl, okl⟩
          · have e : y = .non := hit
            subst e
            refine ⟨.non, rfl, .non, .ty "tuple", .type "NoneType", .type "tuple", false, rfl, .ty _, .base .non, kit_ty (by decide +kernel), _, rfl, iteT ?_⟩
            rw [bad rfl] at q
            exact q H2 e2 hT2
          · obtain ⟨t, rfl, hS, _⟩ := hit2
            refine ⟨.ref t, rfl, .ref t, .ty "tuple", .type "tuple", .type "tuple", true, rfl, .ty _, tyX_tup hS, kit_ty (by decide +kernel), true, rfl, iteF ?_⟩
            refine ⟨.ref t, rfl, t, rfl, ⟨_, hS⟩, fun D hD => lc_tup (K := K) (a := t) (xs := [.bl true]) (fun j H4 => H4 = upd H2 D (.lst (([V.bl true]).take j))) rfl (fun j H4 _ e => by rw [e]; exact Same.tup (same_upd hD) hS) ?_ ?_⟩
            · rintro j y H4 hj rfl
              obtain ⟨rfl, rfl⟩ : j = 0 ∧ y = .bl true := by
                cases j with
                | zero => cases hj; exact ⟨rfl, rfl⟩
                | succ j => cases hj
              refine ⟨rfl, .bl true, rfl, .bl true, .ty "int", .type "bool", .type "int", true, rfl, .ty _, .base (.bl true), kit_ty (by decide +kernel), true, rfl, iteF ?_⟩
              refine ⟨.bl true, rfl, .bl true, .ty "bool", .type "bool", .type "bool", true, rfl, .ty _, .base (.bl true), kit_ty (by decide +kernel), true, rfl, iteT ?_⟩
              refine ⟨.bl true, rfl, _, upd_same, small1000 (by decide), ?_⟩
              show upd _ _ _ = _
              rw [upd_upd]
              rfl
            · rintro H4 rfl
              refine ⟨Nat.zero_le _, fun e1 he1 => ⟨D, e1, [.bl true], [.bool true], rfl, rfl, SqL.up (same_upd he1 _ _ upd_same), .cons (.bl true) .nil, by decide +kernel, SqL.up upd_same, _, rfl, iteT ?_⟩⟩
              have sm9 : Same H2 _ := (same_upd (o := .lst [V.bl true]) hD).trans (same_upd (o := .lst []) he1)
              rw [bad rfl] at q
              exact q _ (e2.trans (Same.extN sm9)) (hT2.ext sm9)
          · obtain ⟨t, rfl, hS, _⟩ := hit2
            refine ⟨.ref t, rfl, .ref t, .ty "tuple", .type "tuple", .type "tuple", true, rfl, .ty _, tyX_tup hS, kit_ty (by decide +kernel), true, rfl, iteF ?_⟩
            refine ⟨.ref t, rfl, t, rfl, ⟨_, hS⟩, fun D hD => lc_tup (K := K) (a := t) (xs := lotV l) (fun j H4 => H4 = upd H2 D (.lst [])) rfl (fun j H4 _ e => by rw [e]; exact Same.tup (same_upd hD) hS) ?_ ?_⟩
            · rintro j y H4 hj rfl
              obtain ⟨k, hk, rfl⟩ := get_lotV hj
              refine ⟨rfl, .int (k : Int), rfl, .int (k : Int), .ty "int", .type "int", .type "int", true, rfl, .ty _, .base (.int _), kit_ty (by decide +kernel), true, rfl, iteF ?_⟩
              refine ⟨.int (k : Int), rfl, .int (k : Int), .ty "bool", .type "int", .type "bool", false, rfl, .ty _, .base (.int _), kit_ty (by decide +kernel), false, rfl, iteF ?_⟩
              rfl
            · rintro H4 rfl
              refine ⟨Nat.zero_le _, fun e1 he1 => ⟨D, e1, [], [], rfl, rfl, SqL.up (same_upd he1 _ _ upd_same), .nil, shaped_nil, SqL.up upd_same, _, rfl, iteF ?_⟩⟩
              have sm9 : Same H2 (upd (upd H2 D (.lst [])) e1 (.lst [])) := (same_upd (o := .lst []) hD).trans (same_upd (o := .lst []) he1)
              generalize upd (upd H2 D (.lst [])) e1 (.lst []) = H3 at sm9
              have hT3 := hT2.ext sm9
              have e3 := e2.trans (Same.extN sm9)
              have hA3 := hA.ext e3
              obtain ⟨rs, hR, hPr⟩ := id hA3
              have hlv : (rs.map V.ref).length = hs.length := by rw [List.length_map]; exact Paired.length hPr
              have hS3 := Same.tup sm9 hS
              refine ⟨.ref t, rfl, .ref a, rfl, a, _, rfl, .inr hR, hs.length, congrArg (fun n : Nat => [V.int (n : Int)]) hlv, hn5, hT3, fun H5 lp ts e5 hT5 _ hl5 hP5' => ?_⟩
              have hP5 : Paired (fun t l => LotAt K H5 t l) ts (allL hs.length) := paired_mono hP5' fun _ _ z => z.lot
              have hS5 : SqT K H5 t (lotV l) := So.extN_seqT e5 hS3
              refine ⟨.tuple (natD l), (allL hs.length).map So.lotD, .tup hS5 (dp_nats l), .lst (SqL.up hl5) (dp_lots hP5), shaped_lot l, shaped_lots _, ?_⟩
              rw [any_lots, decide_eq_true (mem_allL.mpr okl)]
              refine ⟨false, rfl, iteF ?_⟩
              refine ⟨.ref t, rfl, t, _, rfl, .inr hS5, .int (c : Int), rfl, _, _, rfl, rfl, decide (c < l.length), ?_, ?_⟩
              · rw [List.length_map]
                exact congrArg V.bl (decide_eq_decide.mpr (by omega))
              have e50 := e3.trans e5
              by_cases hcl : c < l.length
              · rw [decide_eq_true hcl]
                refine iteT ?_
                have eb : okB hs.length c (some (lotV l)) = false := by
                  show (_ && _) = false
                  rw [List.length_map, decide_eq_false (by omega), Bool.and_false]
                rw [bad eb] at q
                exact q H5 e50 hT5
              · rw [decide_eq_false hcl]
                refine iteF ?_
                have hcv5 : LotAt K H5 cv _ := (hcv.same sm9).ext e5
                refine ⟨.ref a, rfl, .ref cv, rfl, .ref t, rfl, a, cv, t, hs, _, l, rfl, hA.ext e50, ok, hcv5, hS5, fun H6 p6 sm6 h6 => ?_⟩
                refine ⟨p6, _, _, rfl, e50.trans (Same.extN sm6), hT5.ext sm6, ?_, ?_⟩
                · rw [take_succ hm, List.map_append]
                  show LotAt K H6 p6 (covsL hs (_ ++ [backL (some (lotV l))]))
                  rw [back_lot]
                  unfold covsL
                  rw [List.foldl_append]
                  exact SqT.up h6
                · rw [take_succ hm, List.all_append, hall]
                  show (true && ((lotB hs.length 0 (lotV l) && decide ((lotV l).length ≤ c)) && true)) = true
                  rw [okl.b, List.length_map, decide_eq_true (by omega)]
                  rfl
        · rintro σ H2 ⟨cv, v6, v7, rfl, e2, hT2, hcv, hall⟩
          rw [hml, List.take_length] at hcv hall
          refine ⟨.ref cv, rfl, .ref g, rfl, cv, g, _, goal, rfl, hcv, hG.ext e2, hgl, fun H3 sm3 => ?_⟩
          have eR : rowB hs c goal d ms = goal.all fun s => decide (s ∈ covsL hs (ms.map backL)) := by
            unfold rowB
            rw [hall, hdl, decide_eq_true rfl]
            rfl
          rw [← eR]
          exact q H3 (e2.trans (Same.extN sm3)) (hT2.ext sm3)
      · rw [decide_eq_false hdl]
        refine iteT ?_
        have e : rowB hs c goal d ms = false := by
          unfold rowB
          rw [decide_eq_false hdl]
          rfl
        rw [e] at q
        exact q H (LamX.ExtN.refl _) hT
end
end N

set_option Elab.async false
set_option linter.all false
set_option maxRecDepth 100000
set_option maxHeartbeats 2000000
/-! closed families, as the law tells them -/
namespace N
open Cb (lotV combs combsOf combsOf_sub)
open PySem PySem.Spec PyProof.Rows L2
def stepL (h : List (List Nat)) (ls : List (List Nat)) (S L : List Nat) : Bool := ls.any fun O => (nextL h S L).all fun s => decide (s ∈ O)
def lawB (h : List (List Nat)) (c : Nat) (goal : List Nat) (ls : List (List Nat)) : Bool :=
  !ls.isEmpty && (!(ls.any fun S => goal.all fun s => decide (s ∈ S)) && ls.all fun S => (allL h.length).all fun L => !decide (L.length ≤ c) || stepL h ls S L)
theorem holds_all (S l : List Nat) : holdsB (maskOf S) l = l.all fun s => decide (s ∈ S) := by
  rw [Bool.eq_iff_iff, holds_lot, List.all_eq_true]
  simp
theorem step_lot {h ls : List (List Nat)} {S L : List Nat} : stepB h (ls.map maskOf) (maskOf S) (maskOf L) = stepL h ls S L := by
  unfold stepB stepL
  rw [next_mask, List.any_map]
  congr 1
  funext O
  show ((maskOf (nextL h S L) &&& maskOf O) == maskOf (nextL h S L)) = _
  rw [← holds_all, Bool.eq_iff_iff, beq_iff_eq, sub_mask, holds_iff]
theorem closed_is {h ls : List (List Nat)} {c : Nat} : closedB h c (ls.map maskOf) = ls.all fun S => (allL h.length).all fun L => !decide (L.length ≤ c) || stepL h ls S L := by
  unfold closedB coinMasks
  rw [List.length_range]
  rw [List.all_map, Bool.eq_iff_iff, List.all_eq_true, List.all_eq_true]
  refine forall_congr' fun S => forall_congr' fun hS => ?_
  show (((combs h.length (min c h.length)).map maskOf).all fun x => stepB h (ls.map maskOf) (maskOf S) x) = true ↔ _
  rw [List.all_map, List.all_eq_true, List.all_eq_true]
  constructor
  · intro z L hL
    by_cases hc : L.length ≤ c
    · obtain ⟨L', h1, h2⟩ := lot_grow (mem_allL.mp hL) hc
      have h3 : stepB h (ls.map maskOf) (maskOf S) (maskOf L') = true := z L' h1
      rw [step_lot] at h3
      obtain ⟨O, hO, h4⟩ := List.any_eq_true.mp h3
      have h5 : stepL h ls S L = true := List.any_eq_true.mpr ⟨O, hO, List.all_eq_true.mpr fun i hi => List.all_eq_true.mp h4 i (nextL_mono (fun i hi => hi) h2 i hi)⟩
      rw [h5, Bool.or_true]
    · rw [decide_eq_false hc]
      rfl
  · intro z L hL
    have m := combs_mem.mp hL
    have h3 := z L (mem_allL.mpr m.1)
    rw [decide_eq_true (by rw [m.2]; exact Nat.min_le_left _ _)] at h3
    show stepB h (ls.map maskOf) (maskOf S) (maskOf L) = true
    rw [step_lot]
    simpa using h3
theorem lexLt_is : ∀ xs ys : List Int, HT.lexLt xs ys = decide (xs < ys)
  | [], [] => by simp [HT.lexLt]
  | [], y :: ys => by simp [HT.lexLt]
  | x :: xs, [] => by simp [HT.lexLt]
  | x :: xs, y :: ys => by
    rw [HT.lexLt_cons, lexLt_is xs ys]
    by_cases h : x = y
    · simp [h, List.cons_lt_cons_iff]
    · simp [h, List.cons_lt_cons_iff]
/-- strictly upwards -/
def Asc (ls : List (List Nat)) : Prop := ls.Pairwise fun x y => asInts x < asInts y
theorem asc_b : ∀ {ls : List (List Nat)}, Asc ls → ascB ls = true
  | [], _ => rfl
  | [x], _ => rfl
  | x :: y :: r, h => by
    obtain ⟨h1, h2⟩ := List.pairwise_cons.mp h
    have ih : ascB (y :: r) = true := asc_b h2
    have e : ascB (x :: y :: r) = (HT.lexLt (asInts x) (asInts y) && ascB (y :: r)) := rfl
    rw [e, ih, lexLt_is, decide_eq_true (h1 y List.mem_cons_self)]
    rfl
theorem asInts_inj {x y : List Nat} (h : asInts x = asInts y) : x = y := by
  rw [← back_asInts x, h, back_asInts]
theorem Asc.nodup {ls : List (List Nat)} (h : Asc ls) : ls.Nodup := List.Pairwise.imp (fun {a b} hlt e => by rw [e] at hlt; exact List.lt_irrefl _ hlt) h
theorem fam_law {h : List (List Nat)} {c : Nat} {goal : List Nat} {ls : List (List Nat)} (hA : Asc ls) (hL : ∀ l ∈ ls, LotOk h.length l) : famB h c goal (ls.map fun l => some (lotV l)) = lawB h c goal ls := by
  cases ls with
  | nil => rfl
  | cons l r =>
    rw [fam_lots (by simp) hL, asc_b hA, closed_is]
    unfold lawB
    have e : ((l :: r).any fun S => holdsB (maskOf S) goal) = (l :: r).any fun S => goal.all fun s => decide (s ∈ S) := by
      congr 1
      funext S
      exact holds_all S goal
    rw [e]
    rfl
/-- what is sorted and what is upwards are one -/
theorem asc_sorted {ls : List (List Nat)} {L' : List (Addr × List Int)} (hA : Asc ls) (nd : (L'.map (·.2)).Nodup) (pw : L'.Pairwise fun q r => ¬ r.2 < q.2) (h1 : ∀ k, k ∈ L'.map (·.2) ↔ k ∈ ls.map asInts) : L'.map (·.2) = ls.map asInts := by
  have nl : (ls.map asInts).Nodup := by
    refine List.pairwise_map.mpr (List.Pairwise.imp (fun {a b} hne e => hne (asInts_inj e)) hA.nodup)
  have pm : (L'.map (·.2)).Perm (ls.map asInts) := (List.perm_ext_iff_of_nodup nd nl).mpr h1
  refine List.Perm.eq_of_pairwise (le := fun x y : List Int => ¬ y < x) (fun a b _ _ x y => List.le_antisymm (List.not_lt.mp x) (List.not_lt.mp y)) (List.pairwise_map.mpr pw) ?_ pm
  exact List.pairwise_map.mpr (List.Pairwise.imp (fun {a b} hlt hgt => List.lt_irrefl _ (List.lt_trans hlt hgt)) hA)
theorem eqv_same : ∀ ls : List (List Nat), PyData.eqvAll (ls.map So.lotD) (ls.map So.lotD) = true
  | [] => by simp [PyData.eqvAll]
  | l :: ls => by
    have e : PyData.eqv (So.lotD l) (So.lotD l) = true := by
      show PyData.eqv (.tuple (natD l)) (.tuple (natD l)) = true
      rw [PyData.eqv, eqv_ints, decide_eq_true rfl]
    rw [List.map_cons, PyData.eqvAll, e, eqv_same ls]
    rfl
theorem shaped_lotsT (ls : List (List Nat)) : SeqAt.shaped (.tuple (ls.map So.lotD)) = true := by
  unfold SeqAt.shaped
  rw [PyData.canLay0, lay_lots, PyData.depth]
  have z := depth_lots ls
  simp only [Bool.true_and, decide_eq_true_eq]
  omega
theorem eqv_empT (ls : List (List Nat)) : PyData.eqv (.tuple (ls.map So.lotD)) (.tuple []) = ls.isEmpty := by
  cases ls with
  | nil => simp [PyData.eqv, PyData.eqvAll]
  | cons a b => simp [PyData.eqv, PyData.eqvAll]
end N

set_option Elab.async false
set_option linter.all false
set_option maxRecDepth 100000
set_option maxHeartbeats 4000000
/-! _law_closed -/
namespace N
open Cb (lotV combs combsOf combsOf_sub)
open PySem PySem.Spec PyProof.Rows L2
theorem paired_pairs {K : PySem.W.Frag} {H : Hp} : ∀ {ts : List Addr} {ls : List (List Nat)}, Paired (fun t l => LotAt K H t l) ts ls → ∃ ks : List (Addr × List Int), ts = ks.map (·.1) ∧ ks.map (·.2) = ls.map asInts ∧ (∀ p ∈ ks, SqT K H p.1 (p.2.map V.int)) ∧ ks.length = ls.length
  | _, _, .nil => ⟨[], rfl, rfl, (fun p hp => by cases hp), rfl⟩
  | t :: ts, l :: ls, .cons r u => by
    obtain ⟨ks, e1, e2, e3, e4⟩ := paired_pairs u
    refine ⟨(t, asInts l) :: ks, by rw [e1]; rfl, by rw [List.map_cons, e2]; rfl, (fun p hp => ?_), by rw [List.length_cons, e4]; rfl⟩
    rcases List.mem_cons.mp hp with z | z
    · rw [z]
      show SqT K H t ((asInts l).map V.int)
      rw [asInts_V]
      exact r
    · exact e3 p z
theorem pairs_paired {K : PySem.W.Frag} {H : Hp} : ∀ {ks : List (Addr × List Int)} {ls : List (List Nat)}, ks.map (·.2) = ls.map asInts → (∀ p ∈ ks, SqT K H p.1 (p.2.map V.int)) → Paired (fun t l => LotAt K H t l) (ks.map (·.1)) ls
  | [], [], _, _ => .nil
  | [], l :: ls, e, _ => by cases e
  | p :: ks, [], e, _ => by cases e
  | p :: ks, l :: ls, e, h => by
    rw [List.map_cons, List.map_cons] at e
    obtain ⟨e1, e2⟩ := List.cons.inj e
    refine .cons ?_ (pairs_paired e2 fun q hq => h q (List.mem_cons_of_mem _ hq))
    have z := h p List.mem_cons_self
    rw [e1, asInts_V] at z
    exact z
theorem c_setTup (K : PySem.W.Frag) (P : Program) (w : World) {X : Cx} (hc : X.calm = true) (hu : X.A.units + 64 < cLine) (hK : X.K = K := by rfl) (hP : X.prog = P := by rfl) (hw : X.w = w := by rfl) : CallR X (.type "set") (fun xs H Q => ∃ (t : Addr) (ks : List (Addr × List Int)), xs = [V.ref t] ∧ SqT K H t (ks.map fun p => V.ref p.1) ∧ (∀ p ∈ ks, SqT K H p.1 (p.2.map V.int)) ∧ ks.length < 64 ∧
    ∀ a L, H a = none → (∀ p ∈ L, p ∈ ks) → (∀ p ∈ ks, p.2 ∈ L.map (·.2)) → Q (.ref a) (upd H a (SetTO P w a L))) := by
  subst hK hP hw
  exact cr_setTup hc hu
theorem c_sortedSet (K : PySem.W.Frag) (P : Program) (w : World) {X : Cx} (hc : X.calm = true) (hu : X.A.units + 64 < cLine) (hK : X.K = K := by rfl) (hP : X.prog = P := by rfl) (hw : X.w = w := by rfl) : CallR X (.builtin "sorted") (fun vs H Q => ∃ (a : Addr) (L : List (Addr × List Int)), vs = [V.ref a] ∧ H a = some (SetTO P w a L) ∧ (∀ p ∈ L, SqT K H p.1 (p.2.map V.int)) ∧ (∀ p ∈ L, p.2 = asInts (backI p.2)) ∧
    ∀ (L' : List (Addr × List Int)) (p : Addr), L'.Perm L → (L'.map (·.2)).Nodup → L'.length < 64 → L'.Pairwise (fun q r => ¬ r.2 < q.2) → H p = none → Q (.ref p) (upd H p (.lst (L'.map fun q => V.ref q.1)))) := by
  subst hK hP hw
  exact cr_sortedSetL hc hu
theorem filt_emp {α : Type} (p : α → Bool) : ∀ ls : List α, (ls.filter p).isEmpty = !ls.any p
  | [] => rfl
  | x :: ls => by
    rw [List.filter_cons, List.any_cons]
    cases h : p x with
    | true => rfl
    | false => exact filt_emp p ls
theorem map_emp {α β : Type} (f : α → β) (ls : List α) : (ls.map f).isEmpty = ls.isEmpty := by cases ls <;> rfl
theorem paired_emp {α β : Type} {F : α → β → Prop} {as : List α} {bs : List β} (h : Paired F as bs) : as.isEmpty = bs.isEmpty := by cases h <;> rfl
theorem filt_take {α : Type} (p : α → Bool) {ls : List α} {i : Nat} {x : α} (h : ls[i]? = some x) : (ls.take (i + 1)).filter p = (ls.take i).filter p ++ if p x = true then [x] else [] := by
  rw [take_succ h, List.filter_append, List.filter_cons]
  rfl
section
variable {P : Program} {w : World} {K : PySem.W.Frag} {mg : Str → Option Value} {base : Heap}
def sp_lclosed (K : PySem.W.Frag) (L : List Addr) (PT : Addr) : Sp := fun vs H Q _ => ∃ (a g p : Addr) (h : List (List Nat)) (c : Nat) (goal : List Nat) (ts : List Addr) (ls : List (List Nat)), vs = [.ref a, .int c, .ref g, .ref p] ∧ HouseAt K H a h ∧ HouseOk h ∧ h.length ≤ 5 ∧ LotAt K H g goal ∧ goal.length ≤ 1000 ∧ Tb L PT lamQ H ∧
  SqT K H p (ts.map V.ref) ∧ Paired (fun t l => LotAt K H t l) ts ls ∧ (∀ l ∈ ls, LotOk h.length l) ∧ Asc ls ∧ ls.length < 64 ∧ ∀ H', LamX.ExtN H H' → Tb L PT lamQ H' → Q (.bl (lawB h c goal ls)) H'
theorem sc_lclosed : FnScope ["house", "coins", "goal", "value", "lot", "covered", "behind", "other"] ["house", "coins", "goal", "value"] (defScope s__law_closed) := ⟨rfl, rfl, rfl, by decide +kernel, rfl, by decide +kernel, by decide +kernel⟩
theorem ok_lclosed {L : List Addr} {cL PL : Addr} (T : Txt K mg) (hcL : T.d__law_lots.fd.code = .ref cL) (TBL : LamX.TabB base mg cL PL) :
    FnOk P w K mg base CX0 3 T.d__law_closed.f T.d__law_closed.fd ["house", "coins", "goal", "value"] (sp_lclosed K L PL) := by
  have G1 := ok_lots (P := P) (w := w) (base := base) (L := L) T hcL TBL
  have G2 := ok_next (P := P) (w := w) (base := base) T
  have G3 := ok_lholds (P := P) (w := w) (base := base) T
  refine T.d__law_closed.F.ok sc_lclosed (fun vs H Q E h => ?_) (fun cdv A outer s H vs Q E hr h => ?_)
  · obtain ⟨a, g, p, h, c, goal, ts, ls, rfl, _⟩ := h
    rfl
  · obtain ⟨a, g, p, hs, c, goal, ts, ls, rfl, hA, ok, hn5, hG, hgl, hT, hX, hP, hls, hasc, hl64, q⟩ := h
    have nd := sc_lclosed.nd
    have hr1 : Room 1 _ := hr.mono (by decide)
    have hr2 : Room 2 _ := hr.mono (by decide)
    refine ⟨_, pss_cons (ps_if (PW.pt (pw_or (pt_cmpR (op_eqD hr.units) (pv 3) (pe_tup pa_nil) (nomark _))
        (pw_or (pt_cmpR (op_neD hr.units) (pe_callTy call_list_of (by rfl) T.n_list (by decide +kernel) (pa_cons (pv 3) pa_nil)) (pe_callB (c_sortedSet K P w rfl hr.units) (by rfl) T.n_sorted (by decide +kernel) (pa_cons (pe_callTy (c_setTup K P w rfl hr.units) (by rfl) T.n_set (by decide +kernel) (pa_cons (pv 3) pa_nil)) pa_nil)) (nomark _))
        (pw_or1 (pt_cmpR (op_nemp hr.units) (pe_lc (own := [("lot", 4)]) (g := gName 4) rfl nd (pi_tup (pv 3))
          (blkOk_by (N := ["house", "coins", "goal", "value", "lot", "covered", "behind", "other"]) (sc := defScope s__law_closed) (by decide +kernel)) (fun _ _ _ _ _ => pg_name (i := 4) nd rfl (.inl rfl))
          (fun _ _ _ _ _ => pts_one (pt_val (pe_call G3 hr1 (by rfl) T.d__law_holds.g T.d__law_holds.F.kp T.d__law_holds.b .nil pass0 (pa_cons (pv 4) (pa_cons (pv 2) pa_nil)))))
          (fun _ _ _ _ _ => pv 4)) (pe_lst pa_nil) (nomark _))))))
        (pss_one (ps_ret pe_bl)) pss_nil)
      (pss_cons (ps_for PassesOwn.never rfl (pi_tup (pv 3)) (pg_name (i := 5) nd rfl (.inl rfl))
        (pss_one (ps_for PassesOwn.never rfl (pi_list (pe_call G1 hr2 (by rfl) T.d__law_lots.g T.d__law_lots.F.kp T.d__law_lots.b .nil pass0 (pa_cons (pe_callB call_len_seq (by rfl) T.n_len PySem.boot_len (pa_cons (pv 0) pa_nil)) pa_nil))) (pg_name (i := 4) nd rfl (.inl rfl))
          (pss_one (ps_if (pt_cmpR op_le (pe_callB call_len_seq (by rfl) T.n_len PySem.boot_len (pa_cons (pv 4) pa_nil)) (pv 1) (nomark _))
            (pss_cons (ps_set (i := 6) nd rfl (.inr rfl) (pe_call G2 hr1 (by rfl) T.d__law_next.g T.d__law_next.F.kp T.d__law_next.b .nil pass0 (pa_cons (pv 0) (pa_cons (pv 5) (pa_cons (pv 4) pa_nil)))))
            (pss_one (ps_if (pt_cmpR (op_emp hr.units) (pe_lc (own := [("other", 7)]) (g := gName 7) rfl nd (pi_tup (pv 3))
                (blkOk_by (N := ["house", "coins", "goal", "value", "lot", "covered", "behind", "other"]) (sc := defScope s__law_closed) (by decide +kernel)) (fun _ _ _ _ _ => pg_name (i := 7) nd rfl (.inl rfl))
                (fun _ _ _ _ _ => pts_one (pt_val (pe_call G3 hr1 (by rfl) T.d__law_holds.g T.d__law_holds.F.kp T.d__law_holds.b .nil pass0 (pa_cons (pv 7) (pa_cons (pv 6) pa_nil)))))
                (fun _ _ _ _ _ => pv 7)) (pe_lst pa_nil) (nomark _))
              (pss_one (ps_ret pe_bl)) pss_nil))) pss_nil)))))
      (pss_one (ps_ret pe_bl))), ?_⟩
    obtain ⟨ks, rfl, ek, hk, hkl⟩ := paired_pairs hP
    have em : ∀ l : List (Addr × List Int), (l.map (·.1)).map V.ref = l.map fun p => V.ref p.1 := fun l => by rw [List.map_map]; rfl
    have htl : (ks.map (·.1)).length = ls.length := Paired.length hP
    have hmk : ∀ k, k ∈ ks.map (·.2) ↔ k ∈ ls.map asInts := fun k => by rw [ek]
    -- value == ()
    refine ⟨.ref p, rfl, by decide, fun e0 he0 => ?_⟩
    have sm0 : Same H (upd H e0 (.tup [])) := same_upd he0
    have hE0 : (upd H e0 (.tup [])) e0 = some (.tup []) := upd_same
    generalize upd H e0 (.tup []) = H0 at sm0 hE0
    have hX0 := Same.tup sm0 hX
    have hP0 : Paired (fun t l => LotAt K H0 t l) (ks.map (·.1)) ls := paired_mono hP fun _ _ z => z.same sm0
    refine ⟨.tuple (ls.map So.lotD), .tuple [], .tup hX0 (dp_lots hP0), .tup (SqT.up hE0) .nil, shaped_lotsT ls, by decide +kernel, ?_⟩
    rw [eqv_empT]
    refine ⟨ls.isEmpty, rfl, ?_⟩
    cases hemp : ls.isEmpty with
    | true =>
      refine iteT ?_
      have e : lawB hs c goal ls = false := by
        unfold lawB
        rw [hemp]
        rfl
      rw [e] at q
      exact q H0 (Same.extN sm0) (hT.ext sm0)
    | false =>
      refine iteF ?_
      -- list(value)
      refine ⟨.ref p, rfl, p, _, rfl, .inr hX0, fun l1 hl1 => ?_⟩
      have sm1 : Same H0 (upd H0 l1 (.lst ((ks.map (·.1)).map V.ref))) := same_upd hl1
      have hE1 : (upd H0 l1 (.lst ((ks.map (·.1)).map V.ref))) l1 = some (.lst ((ks.map (·.1)).map V.ref)) := upd_same
      generalize upd H0 l1 (.lst ((ks.map (·.1)).map V.ref)) = H1 at sm1 hE1
      have hX1 := Same.tup sm1 hX0
      have s01 := sm0.trans sm1
      -- set(value)
      refine ⟨.ref p, rfl, p, ks, rfl, by rw [← em]; exact hX1, fun r hr => Same.tup s01 (hk r hr), by rw [hkl]; exact hl64, fun sa Ms hsa hL1 hL2 => ?_⟩
      have sm2 : Same H1 (upd H1 sa (SetTO P w sa Ms)) := same_upd hsa
      have hS2 : (upd H1 sa (SetTO P w sa Ms)) sa = some (SetTO P w sa Ms) := upd_same
      have g2 : ∃ H2, H2 = upd H1 sa (SetTO P w sa Ms) := ⟨_, rfl⟩
      obtain ⟨H2, eH2⟩ := g2
      have hk2 : ∀ r ∈ ks, SqT K (upd H1 sa (SetTO P w sa Ms)) r.1 (r.2.map V.int) := fun r hr => Same.tup (s01.trans sm2) (hk r hr)
      have hform : ∀ r ∈ ks, r.2 = asInts (backI r.2) := fun r hr => by
        have z : r.2 ∈ ls.map asInts := by rw [← ek]; exact List.mem_map.mpr ⟨r, hr, rfl⟩
        obtain ⟨l, _, el⟩ := List.mem_map.mp z
        rw [← el, back_asInts]
      -- sorted(..)
      refine ⟨sa, Ms, rfl, hS2, fun r hr => hk2 r (hL1 r hr), fun r hr => hform r (hL1 r hr), fun L' sp pm nd' hl' pw hsp => ?_⟩
      have hmem : ∀ k, k ∈ L'.map (·.2) ↔ k ∈ ls.map asInts := fun k => by
        rw [(pm.map (·.2)).mem_iff, ← hmk]
        constructor
        · intro z
          obtain ⟨r, hr, rfl⟩ := List.mem_map.mp z
          exact List.mem_map.mpr ⟨r, hL1 r hr, rfl⟩
        · intro z
          obtain ⟨r, hr, rfl⟩ := List.mem_map.mp z
          exact hL2 r hr
      have eL := asc_sorted hasc nd' pw hmem
      have sm3 : Same H1 (upd (upd H1 sa (SetTO P w sa Ms)) sp (.lst (L'.map fun q => V.ref q.1))) := sm2.trans (same_upd hsp)
      have hE3 : (upd (upd H1 sa (SetTO P w sa Ms)) sp (.lst (L'.map fun q => V.ref q.1))) sp = some (.lst (L'.map fun q => V.ref q.1)) := upd_same
      generalize upd (upd H1 sa (SetTO P w sa Ms)) sp (.lst (L'.map fun q => V.ref q.1)) = H3 at sm3 hE3
      have s03 := s01.trans sm3
      have hP3 : Paired (fun t l => LotAt K H3 t l) (ks.map (·.1)) ls := paired_mono hP fun _ _ z => z.same s03
      have hP3' : Paired (fun t l => LotAt K H3 t l) (L'.map (·.1)) ls := pairs_paired eL fun r hr => Same.tup s03 (hk r (hL1 r (pm.mem_iff.mp hr)))
      rw [← em L'] at hE3
      refine ⟨.list (ls.map So.lotD), .list (ls.map So.lotD), .lst (SqL.up (sm3 _ _ hE1)) (dp_lots hP3), .lst (SqL.up hE3) (dp_lots hP3'), shaped_lots ls, shaped_lots ls, ?_⟩
      rw [PyData.eqv, eqv_same]
      refine ⟨false, rfl, iteF ?_⟩
      -- [lot for lot in value if _law_holds(lot, goal)]
      have hX3 := Same.tup s03 hX
      have hG3 := hG.same s03
      have hT3 := hT.ext s03
      refine ⟨.ref p, rfl, p, rfl, ⟨_, hX3⟩, fun D hD => lc_tup (K := K) (a := p) (xs := (ks.map (·.1)).map V.ref) (fun j H4 => ∃ us : List Addr, Same H3 H4 ∧ H4 D = some (.lst (us.map V.ref)) ∧ Paired (fun t l => LotAt K H3 t l) us ((ls.take j).filter fun S => goal.all fun s => decide (s ∈ S)))
        ⟨[], same_upd hD, upd_same, .nil⟩ (fun j H4 _ ⟨_, z, _⟩ => Same.tup z hX3) ?_ ?_⟩
      · rintro j y H4 hj ⟨us, sm4, hd4, hPu⟩
        obtain ⟨t, ht, rfl⟩ := get_refs hj
        obtain ⟨S, hS, hat⟩ := paired_at hP3 ht
        refine ⟨rfl, .ref t, rfl, .ref g, rfl, t, g, S, goal, rfl, hat.same sm4, hG3.same sm4, hgl, fun H5 sm5 => ⟨_, rfl, ?_⟩⟩
        have hd5 := sm5 _ _ hd4
        have ef := filt_take (fun S : List Nat => goal.all fun s => decide (s ∈ S)) hS
        refine ite2 (fun hb => ?_) (fun hb => ?_)
        · rw [if_pos hb] at ef
          refine ⟨.ref t, rfl, _, hd5, ?_, us ++ [t], fun b o e => ?_, ?_, ?_⟩
          · have h1 : us.length = _ := Paired.length hPu
            have h2 := List.length_filter_le (fun S : List Nat => goal.all fun s => decide (s ∈ S)) (ls.take j)
            rw [List.length_take] at h2
            rw [List.length_map]
            exact small1000 (by omega)
          · rw [upd_ne (ne_of_none e hD)]
            exact sm5 _ _ (sm4 _ _ e)
          · rw [upd_same, List.map_append]
            rfl
          · rw [ef]
            exact Cb.paired_snoc (F := fun t l => LotAt K H3 t l) hat hPu
        · rw [if_neg hb, List.append_nil] at ef
          exact ⟨us, sm4.trans sm5, hd5, by rw [ef]; exact hPu⟩
      · rintro H4 ⟨us, sm4, hd4, hPu⟩
        rw [List.length_map, htl, List.take_length] at hPu
        refine ⟨Nat.zero_le _, fun e1 he1 => ?_⟩
        have sm5 : Same H4 (upd H4 e1 (.lst [])) := same_upd he1
        have s45 := sm4.trans sm5
        refine ⟨D, e1, us.map V.ref, _, rfl, rfl, SqL.up (sm5 _ _ hd4), dp_lots (paired_mono hPu fun _ _ z => z.same s45), shaped_lots _, SqL.up upd_same, _, rfl, ?_⟩
        show (if (!(us.map V.ref).isEmpty) = true then _ else _)
        rw [map_emp, paired_emp hPu, filt_emp, Bool.not_not]
        have sm6 := s03.trans s45
        generalize upd H4 e1 (.lst []) = H5 at sm5 s45 sm6
        have hT5 := hT.ext sm6
        cases hany : ls.any fun S => goal.all fun s => decide (s ∈ S) with
        | true =>
          refine iteT ?_
          have e : lawB hs c goal ls = false := by
            unfold lawB
            rw [hemp, hany]
            rfl
          rw [e] at q
          exact q H5 (Same.extN sm6) hT5
        | false =>
          refine iteF ?_
          have eR : lawB hs c goal ls = ls.all fun S => (allL hs.length).all fun L => !decide (L.length ≤ c) || stepL hs ls S L := by
            unfold lawB
            rw [hemp, hany]
            rfl
          have hX5 := Same.tup sm6 hX
          have hP5 : Paired (fun t l => LotAt K H5 t l) (ks.map (·.1)) ls := paired_mono hP fun _ _ z => z.same sm6
          refine ⟨.ref p, rfl, p, rfl, ⟨_, hX5⟩, for_tup (K := K) (a := p) (xs := (ks.map (·.1)).map V.ref) (fun i σ H6 => (∃ v4 v5 v6 v7 : Option V, σ = [some (.ref a), some (.int c), some (.ref g), some (.ref p), v4, v5, v6, v7]) ∧ LamX.ExtN H5 H6 ∧ Tb L PL lamQ H6 ∧ ∀ S ∈ ls.take i, ∀ L ∈ allL hs.length, L.length ≤ c → stepL hs ls S L = true)
            ⟨⟨_, _, _, _, rfl⟩, LamX.ExtN.refl _, hT5, fun S hS => by cases hS⟩ (fun i σ H6 _ h6 => So.extN_seqT h6.2.1 hX5) ?_ ?_⟩
          · rintro i y σ H6 hi ⟨⟨v4, v5, v6, v7, rfl⟩, e6, hT6, hall⟩
            obtain ⟨t, ht, rfl⟩ := get_refs hi
            obtain ⟨S, hS, hat⟩ := paired_at hP5 ht
            have hSls := List.mem_of_getElem? hS
            have hA6 : HouseAt K H6 a hs := (hA.same sm6).ext e6
            obtain ⟨rs, hR, hPr⟩ := id hA6
            have hlv : (rs.map V.ref).length = hs.length := by rw [List.length_map]; exact Paired.length hPr
            refine ⟨.ref a, rfl, a, _, rfl, .inr hR, hs.length, congrArg (fun n : Nat => [V.int (n : Int)]) hlv, hn5, hT6, fun H7 lp lts e7 hT7 _ hl7 hP7' => ?_⟩
            have hP7 : Paired (fun t l => LotAt K H7 t l) lts (allL hs.length) := paired_mono hP7' fun _ _ z => z.lot
            have hltl : lts.length = (allL hs.length).length := Paired.length hP7
            refine ⟨lp, rfl, ⟨_, SqL.up hl7⟩, for_list (K := K) (a := lp) (xs := lts.map V.ref) (fun j σ H8 => (∃ v4 v6 v7 : Option V, σ = [some (.ref a), some (.int c), some (.ref g), some (.ref p), v4, some (.ref t), v6, v7]) ∧ LamX.ExtN H7 H8 ∧ Tb L PL lamQ H8 ∧ ∀ M ∈ (allL hs.length).take j, M.length ≤ c → stepL hs ls S M = true)
              ⟨⟨_, _, _, rfl⟩, LamX.ExtN.refl _, hT7, fun M hM => by cases hM⟩ (fun j σ H8 _ h8 => So.extN_seqL h8.2.1 (SqL.up hl7)) ?_ ?_⟩
            · rintro j y σ H8 hj ⟨⟨v4, v6, v7, rfl⟩, e8, hT8, hin⟩
              obtain ⟨u, hu, rfl⟩ := get_refs hj
              obtain ⟨M, hM, hatu⟩ := paired_at hP7 hu
              have hMall := List.mem_of_getElem? hM
              have okM := mem_allL.mp hMall
              have e58 := (e6.trans e7).trans e8
              have hu8 : LotAt K H8 u M := hatu.ext e8
              refine ⟨.ref u, rfl, u, _, rfl, .inr hu8, .int (c : Int), rfl, _, _, rfl, rfl, decide (M.length ≤ c), ?_, ?_⟩
              · rw [List.length_map]
                exact congrArg V.bl (decide_eq_decide.mpr (by omega))
              by_cases hMc : M.length ≤ c
              · rw [decide_eq_true hMc]
                refine iteT ?_
                refine ⟨.ref a, rfl, .ref t, rfl, .ref u, rfl, a, t, u, hs, S, M, rfl, (hA.same sm6).ext e58, ok, hat.ext e58, hu8, fun H9 bp sm9 hb9 => ?_⟩
                have e59 := e58.trans (Same.extN sm9)
                have hX9 := So.extN_seqT e59 hX5
                have hP9 : Paired (fun t l => LotAt K H9 t l) (ks.map (·.1)) ls := paired_mono hP5 fun _ _ z => z.ext e59
                have hB9 : LotAt K H9 bp (nextL hs S M) := SqT.up hb9
                have hnl : (nextL hs S M).length ≤ 1000 := by
                  have z1 := (nextL_ok hs S M).len
                  omega
                refine ⟨.ref p, rfl, p, rfl, ⟨_, hX9⟩, fun D9 hD9 => lc_tup (K := K) (a := p) (xs := (ks.map (·.1)).map V.ref) (fun j H4 => ∃ us : List Addr, Same H9 H4 ∧ H4 D9 = some (.lst (us.map V.ref)) ∧ Paired (fun t l => LotAt K H9 t l) us ((ls.take j).filter fun O => (nextL hs S M).all fun s => decide (s ∈ O)))
                  ⟨[], same_upd hD9, upd_same, .nil⟩ (fun j H4 _ ⟨_, z, _⟩ => Same.tup z hX9) ?_ ?_⟩
                · rintro j2 y H4 hj2 ⟨us2, sm10, hd10, hPv⟩
                  obtain ⟨r, hr', rfl⟩ := get_refs hj2
                  obtain ⟨O, hO, hatO⟩ := paired_at hP9 hr'
                  refine ⟨rfl, .ref r, rfl, .ref bp, rfl, r, bp, O, nextL hs S M, rfl, hatO.same sm10, hB9.same sm10, hnl, fun H11 sm11 => ⟨_, rfl, ?_⟩⟩
                  have hd11 := sm11 _ _ hd10
                  have ef := filt_take (fun O : List Nat => (nextL hs S M).all fun s => decide (s ∈ O)) hO
                  refine ite2 (fun hb => ?_) (fun hb => ?_)
                  · rw [if_pos hb] at ef
                    refine ⟨.ref r, rfl, _, hd11, ?_, us2 ++ [r], fun b o e => ?_, ?_, ?_⟩
                    · have h1 : us2.length = _ := Paired.length hPv
                      have h2 := List.length_filter_le (fun O : List Nat => (nextL hs S M).all fun s => decide (s ∈ O)) (ls.take j2)
                      rw [List.length_take] at h2
                      rw [List.length_map]
                      exact small1000 (by omega)
                    · rw [upd_ne (ne_of_none e hD9)]
                      exact sm11 _ _ (sm10 _ _ e)
                    · rw [upd_same, List.map_append]
                      rfl
                    · rw [ef]
                      exact Cb.paired_snoc (F := fun t l => LotAt K H9 t l) hatO hPv
                  · rw [if_neg hb, List.append_nil] at ef
                    exact ⟨us2, sm10.trans sm11, hd11, by rw [ef]; exact hPv⟩
                · rintro H4 ⟨us2, sm10, hd10, hPv⟩
                  rw [List.length_map, htl, List.take_length] at hPv
                  refine ⟨Nat.zero_le _, fun e2 he2 => ?_⟩
                  have sm12 : Same H4 (upd H4 e2 (.lst [])) := same_upd he2
                  have sm13 := sm10.trans sm12
                  refine ⟨D9, e2, us2.map V.ref, _, rfl, rfl, SqL.up (sm12 _ _ hd10), dp_lots (paired_mono hPv fun _ _ z => z.same sm13), shaped_lots _, SqL.up upd_same, _, rfl, ?_⟩
                  show (if (us2.map V.ref).isEmpty = true then _ else _)
                  rw [map_emp, paired_emp hPv, filt_emp]
                  have e512 := e59.trans (Same.extN sm13)
                  have hT12 := (hT8.ext sm9).ext sm13
                  generalize upd H4 e2 (.lst []) = H12 at sm12 sm13 e512 hT12
                  cases hst : stepL hs ls S M with
                  | false =>
                    rw [show (ls.any fun O => (nextL hs S M).all fun s => decide (s ∈ O)) = false from hst]
                    refine iteT ?_
                    have e : lawB hs c goal ls = false := by
                      rw [eR, ← Bool.not_eq_true, List.all_eq_true]
                      intro z
                      have z2 := List.all_eq_true.mp (z S hSls) M hMall
                      rw [hst, decide_eq_true hMc] at z2
                      cases z2
                    rw [e] at q
                    exact q H12 ((Same.extN sm6).trans e512) hT12
                  | true =>
                    rw [show (ls.any fun O => (nextL hs S M).all fun s => decide (s ∈ O)) = true from hst]
                    refine iteF ?_
                    refine ⟨⟨_, _, _, rfl⟩, e8.trans ((Same.extN sm9).trans (Same.extN sm13)), hT12, fun N hN hNc => ?_⟩
                    rw [take_succ hM] at hN
                    rcases List.mem_append.mp hN with z | z
                    · exact hin N z hNc
                    · rw [List.mem_singleton.mp z]
                      exact hst
              · rw [decide_eq_false hMc]
                refine iteF ?_
                refine ⟨⟨_, _, _, rfl⟩, e8, hT8, fun N hN hNc => ?_⟩
                rw [take_succ hM] at hN
                rcases List.mem_append.mp hN with z | z
                · exact hin N z hNc
                · rw [List.mem_singleton.mp z] at hNc
                  exact absurd hNc hMc
            · rintro σ H8 ⟨⟨v4, v6, v7, rfl⟩, e8, hT8, hin⟩
              rw [List.length_map, hltl, List.take_length] at hin
              refine ⟨⟨_, _, _, _, rfl⟩, (e6.trans e7).trans e8, hT8, fun N hN M hM hMc => ?_⟩
              rw [take_succ hS] at hN
              rcases List.mem_append.mp hN with z | z
              · exact hall N z M hM hMc
              · rw [List.mem_singleton.mp z]
                exact hin M hM hMc
          · rintro σ H6 ⟨⟨v4, v5, v6, v7, rfl⟩, e6, hT6, hall⟩
            rw [List.length_map, htl, List.take_length] at hall
            have e : lawB hs c goal ls = true := by
              rw [eR, List.all_eq_true]
              intro S hS
              rw [List.all_eq_true]
              intro M hM
              by_cases hMc : M.length ≤ c
              · rw [hall S hS M hM hMc, Bool.or_true]
              · rw [decide_eq_false hMc]
                rfl
            rw [e] at q
            exact q H6 ((Same.extN sm6).trans e6) hT6
end
end N

set_option Elab.async false
set_option linter.all false
set_option maxRecDepth 100000
set_option maxHeartbeats 2000000
/-! facts for the law: rows, families -/
namespace N
open Cb (lotV combs combsOf combsOf_sub)
open PySem PySem.Spec PyProof.Rows L2 PySem.W
def somes (Ls : List (List Nat)) : List (Option (List V)) := Ls.map fun l => some (lotV l)
theorem row_b {h : List (List Nat)} {c d : Nat} {goal : List Nat} {Ls : List (List Nat)} (R : RowOk h c goal Ls) (hd : Ls.length = d) : rowB h c goal d (somes Ls) = true := by
  unfold rowB somes
  rw [back_lots, List.length_map, hd, decide_eq_true rfl]
  have e1 : (Ls.map fun l => some (lotV l)).all (okB h.length c) = true := List.all_eq_true.mpr fun m hm => by
    obtain ⟨l, hl, rfl⟩ := List.mem_map.mp hm
    have z := R.ok l hl
    show (lotB h.length 0 (lotV l) && decide ((lotV l).length ≤ c)) = true
    rw [z.1.b, List.length_map, decide_eq_true z.2]
    rfl
  rw [e1, Bool.true_and, Bool.true_and, List.all_eq_true]
  exact fun i hi => decide_eq_true (R.leads i hi)
theorem days_pos {h : List (List Nat)} {c d : Nat} {goal : List Nat} (hd : IsDays h c goal (some d)) (hne : goal ≠ []) : 1 ≤ d := by
  cases d with
  | succ d => omega
  | zero =>
    obtain ⟨S, hS, hg⟩ := hd.1
    have e : S = [] := hS
    subst e
    cases goal with
    | nil => exact absurd rfl hne
    | cons i g => exact absurd (hg i List.mem_cons_self) (by simp)
theorem asc_sort {ls : List (List Nat)} (nd : ls.Nodup) : Asc (ls.mergeSort tupLe) := by
  have pw : (ls.mergeSort tupLe).Pairwise (fun x y => tupLe x y = true) := sort_pairwise (sortLe_total _ _ _) _
  have nd2 : (ls.mergeSort tupLe).Nodup := (List.mergeSort_perm ls tupLe).nodup_iff.mpr nd
  refine List.Pairwise.imp₂ (fun x y h1 h2 => ?_) pw nd2
  rw [tupLe_is] at h1
  have h3 : ¬ asInts y < asInts x := by simpa using h1
  by_cases z : asInts x < asInts y
  · exact z
  · exact absurd (asInts_inj (List.le_antisymm (List.not_lt.mp h3) (List.not_lt.mp z))) h2
theorem mem_sort {ls : List (List Nat)} {l : List Nat} : l ∈ ls.mergeSort tupLe ↔ l ∈ ls := (List.mergeSort_perm ls tupLe).mem_iff
section
variable {h : List (List Nat)} {c : Nat} {es : List Ent}
theorem ent_lot (ok : HouseOk h) (W : WaysOk (h.map maskOf) (cmsOf (List.range h.length) [c]) es) {e : Ent} (he : e ∈ es) : ∃ t S, RchL h c t S ∧ e.p = (maskOf S, 0) ∧ bitsOf e.p.1 = S := by
  obtain ⟨S, hS, em⟩ := rch_lot (W.fd e he).1
  exact ⟨_, S, hS, em, by rw [em]; exact bits_mask (rchL_ok hS) ok.hi⟩
theorem fam_mem (ok : HouseOk h) (W : WaysOk (h.map maskOf) (cmsOf (List.range h.length) [c]) es) {l : List Nat} (hl : l ∈ famL es) : ∃ t, RchL h c t l := by
  obtain ⟨e, he, rfl⟩ := List.mem_map.mp (mem_sort.mp hl)
  obtain ⟨t, S, h1, _, h3⟩ := ent_lot ok W he
  exact ⟨t, by rw [h3]; exact h1⟩
theorem fam_ok (ok : HouseOk h) (W : WaysOk (h.map maskOf) (cmsOf (List.range h.length) [c]) es) {l : List Nat} (hl : l ∈ famL es) : LotOk h.length l := by
  obtain ⟨t, ht⟩ := fam_mem ok W hl
  exact rchL_ok ht
theorem fam_asc (ok : HouseOk h) (W : WaysOk (h.map maskOf) (cmsOf (List.range h.length) [c]) es) : Asc (famL es) := by
  refine asc_sort ?_
  have nd : es.Pairwise fun e f => e.p ≠ f.p := List.pairwise_map.mp W.nd
  refine List.pairwise_map.mpr (List.Pairwise.imp_of_mem (fun {e f} he hf hne z => hne ?_) nd)
  obtain ⟨_, S, _, e2, e3⟩ := ent_lot ok W he
  obtain ⟨_, S', _, f2, f3⟩ := ent_lot ok W hf
  rw [e2, f2, ← e3, ← f3, z]
theorem fam_len (ok : HouseOk h) (hn : h.length ≤ 5) (W : WaysOk (h.map maskOf) (cmsOf (List.range h.length) [c]) es) : (famL es).length ≤ 32 := lots_len hn (fam_asc ok W).nodup fun l hl => fam_ok ok W hl
theorem fam_law_true {goal : List Nat} (ok : HouseOk h) (W : WaysOk (h.map maskOf) (cmsOf (List.range h.length) [c]) es) (hno : ¬ Can h c goal) : lawB h c goal (famL es) = true := by
  have h1 : (famL es).isEmpty = false := by
    obtain ⟨e, he, _⟩ := W.all (0, 0) 0 rfl
    have : bitsOf e.p.1 ∈ famL es := mem_sort.mpr (List.mem_map.mpr ⟨e, he, rfl⟩)
    cases z : famL es with
    | nil => rw [z] at this; cases this
    | cons _ _ => rfl
  have h2 : ((famL es).any fun S => goal.all fun s => decide (s ∈ S)) = false := by
    rw [← Bool.not_eq_true, List.any_eq_true]
    rintro ⟨S, hS, hg⟩
    obtain ⟨t, ht⟩ := fam_mem ok W hS
    exact hno ⟨t, S, ht, fun i hi => of_decide_eq_true (List.all_eq_true.mp hg i hi)⟩
  unfold lawB
  rw [h1, h2]
  show ((famL es).all fun S => (allL h.length).all fun L => !decide (L.length ≤ c) || stepL h (famL es) S L) = true
  rw [List.all_eq_true]
  intro S hS
  rw [List.all_eq_true]
  intro L hL
  by_cases hc : L.length ≤ c
  · obtain ⟨t, ht⟩ := fam_mem ok W hS
    obtain ⟨S', r1, r2⟩ := lot_rch (show RchL h c (t + 1) (nextL h S L) from ⟨S, L, ht, mem_allL.mp hL, hc, rfl⟩)
    obtain ⟨e, he, em⟩ := W.all _ _ r1
    obtain ⟨_, S2, _, f2, f3⟩ := ent_lot ok W he
    have hsub : ∀ i ∈ S', i ∈ S2 := fun i hi => by
      have z1 : holdsB (maskOf S') [i] = true := holds_lot.mpr fun j hj => by rw [List.mem_singleton.mp hj]; exact hi
      rw [show maskOf S' = maskOf S2 from congrArg Prod.fst (em.symm.trans f2)] at z1
      exact holds_lot.mp z1 i List.mem_cons_self
    have z : stepL h (famL es) S L = true := List.any_eq_true.mpr ⟨S2, mem_sort.mpr (List.mem_map.mpr ⟨e, he, f3⟩), List.all_eq_true.mpr fun i hi => decide_eq_true (hsub i (r2 i hi))⟩
    rw [z, Bool.or_true]
  · rw [decide_eq_false hc]
    rfl
end
/-! what is no family -/
section
variable (h : List (List Nat)) (c : Nat) (goal : List Nat)
theorem bad_nil : famB h c goal [] = false := rfl
theorem bad_two : famB h c goal [some [], some []] = false := rfl
theorem bad_down : famB h c goal [some [.int 1, .int 0]] = false := by
  have e : lotB h.length 0 [.int 1, .int 0] = false := by
    simp [lotB, isNum]
  unfold famB
  have e2 : ([some [V.int 1, V.int 0]].all (itmB h.length)) = false := by
    show (lotB h.length 0 [.int 1, .int 0] && true) = false
    rw [e]
    rfl
  rw [e2]
  rfl
theorem bad_none : famB h c goal [none] = false := rfl
theorem bad_true : famB h c goal [some [.bl true]] = false := rfl
theorem bad_goal (okg : LotOk h.length goal) : famB h c goal [some (lotV goal)] = false := by
  have z := fam_law (h := h) (c := c) (goal := goal) (ls := [goal]) (List.pairwise_singleton _ _) fun l hl => by rw [List.mem_singleton.mp hl]; exact okg
  show famB h c goal ([goal].map fun l => some (lotV l)) = false
  rw [z]
  unfold lawB
  have e : ([goal].any fun S => goal.all fun s => decide (s ∈ S)) = true := by
    show ((goal.all fun s => decide (s ∈ goal)) || false) = true
    rw [Bool.or_false, List.all_eq_true]
    exact fun i hi => decide_eq_true hi
  rw [e]
  rfl
end
end N

set_option Elab.async false
set_option linter.all false
set_option maxRecDepth 100000
set_option maxHeartbeats 8000000
/-! what stands while the law judges -/
namespace N
open Cb (lotV combs combsOf combsOf_sub)
open PySem PySem.Spec PyProof.Rows L2
theorem FnOk_or {P : Program} {w : World} {K : PySem.W.Frag} {mg : Str → Option Value} {base : Heap} {CX : CXT} {k : Nat} {f : Addr} {fd : FuncData} {ps : List Str} {sp sp' : Sp} (F : FnOk P w K mg base CX k f fd ps sp) (G : FnOk P w K mg base CX k f fd ps sp') :
    FnOk P w K mg base CX k f fd ps (fun vs H Q E => sp vs H Q E ∨ sp' vs H Q E) :=
  ⟨fun vs H Q E h => h.elim (F.len vs H Q E) (G.len vs H Q E), fun A outer s H args us vs Q E hr he hb hv h => h.elim (F.run A outer s H args us vs Q E hr he hb hv) (G.run A outer s H args us vs Q E hr he hb hv)⟩
section
variable {K : PySem.W.Frag}
theorem isi_nf : PySem.W.kitAny K (.type "NoneType") [.type "tuple", .type "list"] = some false := kitAny_cons (b := false) (kit_ty (by decide +kernel)) (fun _ => kitAny_cons (b := false) (kit_ty (by decide +kernel)) (fun _ => kitAny_nil) (by decide)) (by decide)
end
section
variable {P : Program} {w : World} {K : PySem.W.Frag} {mg : Str → Option Value} {base : Heap}
def sp_alikeN : Sp := fun vs H Q _ => vs = [.non, .non] ∧ ∀ H', Same H H' → Q (.bl true) H'
theorem ok_alikeN (T : Txt K mg) : FnOk P w K mg base CX0 1 T.d__law_alike.f T.d__law_alike.fd ["found", "due"] sp_alikeN := by
  refine T.d__law_alike.F.ok sc_alike (fun vs H Q E h => ?_) (fun cdv A outer s H vs Q E hr h => ?_)
  · obtain ⟨rfl, _⟩ := h
    rfl
  · obtain ⟨rfl, q⟩ := h
    have nd := sc_alike.nd
    refine ⟨_, pss_cons (ps_if (pt_val (pe_callB call_isiT (by rfl) T.n_isinstance boot_isinstance (pa_cons (pv 1) (pa_cons (pe_tup (pa_cons (pe_bltn (v := .ty "tuple") (u := .type "tuple") (by rfl) T.n_tuple (by decide +kernel) rfl) (pa_cons (pe_bltn (v := .ty "list") (u := .type "list") (by rfl) T.n_list (by decide +kernel) rfl) pa_nil))) pa_nil))))
        (pss_cons ps_never (pss_cons ps_never (pss_one ps_never))) pss_nil)
      (pss_cons (ps_if (PW.pt (pw_or (pt_cmpR op_isN (pv 1) pe_non (nomark _)) (pw_or1 (pt_val (pe_callB call_isi (by rfl) T.n_isinstance boot_isinstance (pa_cons (pv 1) (pa_cons (pe_bltn (v := .ty "str") (u := .type "str") (by rfl) T.n_str (by decide +kernel) rfl) pa_nil)))))))
        (pss_one (ps_ret (pe_and (pe_cmpR op_eq (pv 0) (pv 1) (nomark _)) (pe_one (pe_cmpR op_eq (pe_callB call_isi (by rfl) T.n_isinstance boot_isinstance (pa_cons (pv 0) (pa_cons (pe_bltn (v := .ty "str") (u := .type "str") (by rfl) T.n_str (by decide +kernel) rfl) pa_nil)))
          (pe_callB call_isi (by rfl) T.n_isinstance boot_isinstance (pa_cons (pv 1) (pa_cons (pe_bltn (v := .ty "str") (u := .type "str") (by rfl) T.n_str (by decide +kernel) rfl) pa_nil))) (nomark _)))))) pss_nil)
      (pss_one ps_never)), ?_⟩
    refine ⟨.non, rfl, by decide, fun tp htp => ?_⟩
    have sm := same_upd (o := .tup [V.ty "tuple", V.ty "list"]) htp
    refine ⟨.non, tp, _, .type "NoneType", [.type "tuple", .type "list"], false, rfl, upd_same, .cons (.ty _) (.cons (.ty _) .nil), .base .non, isi_nf, _, rfl, iteF ?_⟩
    refine ⟨.non, rfl, rfl, _, rfl, ?_⟩
    show (if decide (V.non = V.non) = true then _ else _)
    rw [decide_eq_true rfl, if_pos rfl]
    refine iteT ⟨.non, rfl, .non, rfl, rfl, true, by rw [decide_eq_true rfl], iteT ?_⟩
    refine ⟨.non, rfl, .non, .ty "str", .type "NoneType", .type "str", false, rfl, .ty _, .base .non, kit_ty (by decide +kernel), ?_⟩
    refine ⟨.non, rfl, .non, .ty "str", .type "NoneType", .type "str", false, rfl, .ty _, .base .non, kit_ty (by decide +kernel), rfl, ?_⟩
    rw [decide_eq_true rfl]
    exact q _ sm
theorem RowAt.ext {sa : Addr} {ns : List Int} {H H' : Hp} {rp : Addr} (h : RowAt K sa ns H rp) (e : LamX.ExtN H H') : RowAt K sa ns H' rp := by
  obtain ⟨k1, m, r, e1, hS, hk, hne⟩ := h
  exact ⟨k1, m, r, e _ _ e1 (fun ps z => by cases z), So.extN_seqL e hS, hk, hne⟩
/-- what stands in the heap while the law judges -/
structure LK (K : PySem.W.Frag) (sa : Addr) (ns : List Int) (L : List Addr) (PL rp hp lp gp : Addr) (hs : List (List Nat)) (lts : List Addr) (goal : List Nat) (H : Hp) : Prop where
  row : RowAt K sa ns H rp
  house : HouseAt K H hp hs
  lots : H lp = some (.lst (lts.map V.ref))
  pl : Paired (fun t l => TupA H t l) lts (allL hs.length)
  goal : LotAt K H gp goal
  n1 : lp ≠ rp
  tb : Tb L PL lamQ H
section
variable {sa : Addr} {ns : List Int} {L : List Addr} {PL rp hp lp gp : Addr} {hs : List (List Nat)} {lts : List Addr} {goal : List Nat} {H H' : Hp}
theorem LK.ext (x : LK K sa ns L PL rp hp lp gp hs lts goal H) (e : LamX.ExtN H H') (t : Tb L PL lamQ H') : LK K sa ns L PL rp hp lp gp hs lts goal H' :=
  ⟨x.row.ext e, x.house.ext e, e _ _ x.lots (fun ps z => by cases z), paired_mono x.pl fun _ _ z => z.ext e, x.goal.ext e, x.n1, t⟩
theorem LK.same (x : LK K sa ns L PL rp hp lp gp hs lts goal H) (e : Same H H') : LK K sa ns L PL rp hp lp gp hs lts goal H' := x.ext (Same.extN e) (x.tb.ext e)
theorem TupA.but {t : Addr} {l : List Nat} {xs : List V} (z : TupA H t l) (hr : H rp = some (.lst xs)) (k : SameBut rp H H') : TupA H' t l := k _ _ (ne_of z hr (by intro y; cases y)) z
theorem LK.but (x : LK K sa ns L PL rp hp lp gp hs lts goal H) (r : RowAt K sa ns H' rp) (k : SameBut rp H H') : LK K sa ns L PL rp hp lp gp hs lts goal H' := by
  obtain ⟨xs, hr⟩ := x.row.lst
  exact ⟨r, x.house.but hr k, k _ _ x.n1 x.lots, paired_mono x.pl fun _ _ z => z.but hr k, x.goal.but hr k, x.n1, x.tb.but hr k⟩
end
/-- what cover_row gave -/
def FoundAt (K : PySem.W.Frag) (H : Hp) (h : List (List Nat)) (c : Nat) (goal : List Nat) (o : Option Nat) (v : V) : Prop :=
  (o = none ∧ v = .non) ∨ ∃ (d : Nat) (p : Addr) (Ls : List (List Nat)), o = some d ∧ v = .ref p ∧ LotsAt K H p Ls ∧ Ls.length = d ∧ RowOk h c goal Ls ∧ 1 ≤ d ∧ d < 768
/-- what closed_family gave -/
def FamAt (K : PySem.W.Frag) (H : Hp) (h : List (List Nat)) (c : Nat) (goal : List Nat) (o : Option Nat) (v : V) : Prop :=
  ((∃ d, o = some d) ∧ v = .non) ∨ ∃ (p : Addr) (es : List Ent), o = none ∧ v = .ref p ∧ TupsA K H p (famL es) ∧ WaysOk (h.map maskOf) (cmsOf (List.range h.length) [c]) es
section
variable {h : List (List Nat)} {c : Nat} {goal : List Nat} {o : Option Nat} {v : V} {H H' : Hp} {rp : Addr} {xs : List V}
theorem FoundAt.ext (x : FoundAt K H h c goal o v) (e : LamX.ExtN H H') : FoundAt K H' h c goal o v := by
  rcases x with x | ⟨d, p, Ls, h1, h2, ⟨ts, h3, h4⟩, h5⟩
  · exact .inl x
  · exact .inr ⟨d, p, Ls, h1, h2, ⟨ts, So.extN_seqT e h3, paired_mono h4 fun _ _ z => z.ext e⟩, h5⟩
theorem FoundAt.but (x : FoundAt K H h c goal o v) (hr : H rp = some (.lst xs)) (k : SameBut rp H H') : FoundAt K H' h c goal o v := by
  rcases x with x | ⟨d, p, Ls, h1, h2, ⟨ts, h3, h4⟩, h5⟩
  · exact .inl x
  · exact .inr ⟨d, p, Ls, h1, h2, ⟨ts, tup_but h3 hr k, paired_mono h4 fun _ _ z => z.but hr k⟩, h5⟩
theorem FamAt.ext (x : FamAt K H h c goal o v) (e : LamX.ExtN H H') : FamAt K H' h c goal o v := by
  rcases x with x | ⟨p, es, h1, h2, ⟨ts, h3, h4⟩, h5⟩
  · exact .inl x
  · exact .inr ⟨p, es, h1, h2, ⟨ts, So.extN_seqT e h3, paired_mono h4 fun _ _ z => z.ext e⟩, h5⟩
theorem FamAt.but (x : FamAt K H h c goal o v) (hr : H rp = some (.lst xs)) (k : SameBut rp H H') : FamAt K H' h c goal o v := by
  rcases x with x | ⟨p, es, h1, h2, ⟨ts, h3, h4⟩, h5⟩
  · exact .inl x
  · exact .inr ⟨p, es, h1, h2, ⟨ts, tup_but h3 hr k, paired_mono h4 fun _ _ z => z.but hr k⟩, h5⟩
theorem paired_somes : ∀ {ts : List Addr} {Ls : List (List Nat)}, Paired (fun t l => LotAt K H t l) ts Ls → Paired (fun x m => ItmAt K H x m) (ts.map V.ref) (somes Ls)
  | _, _, .nil => .nil
  | _, _, .cons r t => .cons (lot_itm r) (paired_somes t)
theorem lots_jv {p : Addr} {Ls : List (List Nat)} (x : LotsAt K H p Ls) (hl : Ls.length ≤ 1000) : JVAt K H (.ref p) (.tup (somes Ls)) := by
  obtain ⟨ts, h1, h2⟩ := x
  have hlen : ts.length = Ls.length := Paired.length h2
  exact ⟨p, ts.map V.ref, rfl, h1, paired_somes h2, by rw [List.length_map]; omega⟩
theorem FoundAt.jv (x : FoundAt K H h c goal o v) : ∃ j, JVAt K H v j ∧ coverB h c goal o j = true := by
  rcases x with ⟨rfl, rfl⟩ | ⟨d, p, Ls, rfl, rfl, h3, h5, h6, _, h8⟩
  · exact ⟨.non, rfl, rfl⟩
  · exact ⟨.tup (somes Ls), lots_jv h3 (by omega), row_b h6 h5⟩
theorem TupsA.lots {p : Addr} {Ls : List (List Nat)} (x : TupsA K H p Ls) : LotsAt K H p Ls := let ⟨ts, h1, h2⟩ := x; ⟨ts, h1, paired_mono h2 fun _ _ z => z.lot⟩
theorem FamAt.jv (x : FamAt K H h c goal o v) (ok : HouseOk h) (hn : h.length ≤ 5) (hd : IsDays h c goal o) : ∃ j, JVAt K H v j ∧ closedFamB h c goal o j = true := by
  rcases x with ⟨⟨d, rfl⟩, rfl⟩ | ⟨p, es, rfl, rfl, h3, h4⟩
  · exact ⟨.non, rfl, rfl⟩
  · refine ⟨.tup (somes (famL es)), lots_jv h3.lots (by have := fam_len ok hn h4; omega), ?_⟩
    show famB h c goal ((famL es).map fun l => some (lotV l)) = true
    rw [fam_law (fam_asc ok h4) fun l hl => fam_ok ok h4 hl]
    exact fam_law_true ok h4 ((isDays_none hd).mp rfl)
end
/-! ### a promise met whatever follows -/
theorem at_if {C : TT} {t u w : TS} {D : Ends} {rt : VK} {bk ct : L2.St → Hp → Prop} {σ : L2.St} {H : Hp} (h : C σ H fun b H1 => if b = true then t { D with nx := w D } σ H1 else u { D with nx := w D } σ H1) : tNext { nx := tSeq (tIfS C t u) w D, rt := rt, bk := bk, ct := ct } σ H := h
theorem at_gasg {te : TE} {g : TG} {w : TS} {D : Ends} {rt : VK} {bk ct : L2.St → Hp → Prop} {i : Nat} {x : V} {σ : L2.St} {H : Hp} (h : te (σ.set i (some x)) H fun v H1 => g v (σ.set i (some x)) H1 (w D)) :
    gName i x σ H ({ nx := tSeq (tAsg te g) w D, rt := rt, bk := bk, ct := ct } : Ends).nx := h
theorem at_gfor {Kf : PySem.W.Frag} {t : TT} {u v te : TE} {r : R2} {g : TG} {tb w : TS} {D : Ends} {rt : VK} {bk ct : L2.St → Hp → Prop} {i : Nat} {x : V} {σ : L2.St} {H : Hp}
    (h : tIf t u v (σ.set i (some x)) H fun x1 H1 => te (σ.set i (some x)) H1 fun y H2 => r x1 y H2 fun z H3 => tFor (iList Kf (fun _ H Q => Q z H)) g tb { D with nx := w D } (σ.set i (some x)) H3) :
    gName i x σ H ({ nx := tSeq (tFor (iList Kf (tOp r (tIf t u v) te)) g tb) w D, rt := rt, bk := bk, ct := ct } : Ends).nx := h
theorem via {t : TT} {σ : L2.St} {H : Hp} {Q : Bool → Hp → Prop} (Pz : Bool → Hp → Prop) (h1 : ∀ K0 : Bool → Hp → Prop, (∀ b H', Pz b H' → K0 b H') → t σ H K0) (h2 : ∀ b H', Pz b H' → Q b H') : t σ H Q := h1 Q h2
theorem viaE {t : TE} {σ : L2.St} {H : Hp} {Q : VK} (Pz : V → Hp → Prop) (h1 : ∀ K0 : VK, (∀ v H', Pz v H' → K0 v H') → t σ H K0) (h2 : ∀ v H', Pz v H' → Q v H') : t σ H Q := h1 Q h2
theorem alike_day {H : Hp} {Q : VK} {E : XK} (o : Option Nat) (q : ∀ H', Same H H' → Q (.bl true) H') : sp_alike0 [dayV o, dayV o] H Q E ∨ sp_alikeN [dayV o, dayV o] H Q E := by
  cases o with
  | none => exact .inr ⟨rfl, q⟩
  | some d => exact .inl ⟨.int d, rfl, .inl ⟨_, rfl⟩, q⟩
theorem cover_any {H : Hp} {Q : VK} {E : XK} {a g : Addr} {h : List (List Nat)} {c : Nat} {l : List Nat} {o : Option Nat} (hA : HouseAt K H a h) (ok : HouseOk h) (hc : c ≤ 7) (hg : LotAt K H g l) (okl : LotOk h.length l) (hne : l ≠ []) (hd : IsDays h c l o)
    (q : ∀ H' v, Same H H' → FoundAt K H' h c l o v → Q v H') : sp_cover_row K [.ref a, .int c, .ref g] H Q E :=
  ⟨a, g, h, c, l, rfl, hA, ok, hc, hg, okl, hne, fun H' sm hd' => q H' _ sm (.inl ⟨hd.inj hd', rfl⟩), fun H' p Ls d sm hLs hd' hlen hrow h128 => q H' _ sm (.inr ⟨d, p, Ls, hd.inj hd', rfl, hLs, hlen, hrow, days_pos hd' hne, h128⟩)⟩
theorem fam_any {H : Hp} {Q : VK} {E : XK} {a g : Addr} {h : List (List Nat)} {c : Nat} {l : List Nat} {o : Option Nat} (hA : HouseAt K H a h) (ok : HouseOk h) (hc : c ≤ 7) (hg : LotAt K H g l) (okl : LotOk h.length l) (hne : l ≠ []) (hd : IsDays h c l o)
    (q : ∀ H' v, Same H H' → FamAt K H' h c l o v → Q v H') : sp_closed_family K [.ref a, .int c, .ref g] H Q E := by
  refine ⟨a, g, h, c, l, rfl, hA, ok, hc, hg, okl, hne, fun H' sm hcan => q H' _ sm (.inl ⟨?_, rfl⟩), fun H' p es sm hno W hts => q H' _ sm (.inr ⟨p, es, (isDays_none hd).mpr hno, rfl, hts, W⟩)⟩
  cases o with
  | none => exact absurd hcan ((isDays_none hd).mp rfl)
  | some d => exact ⟨d, rfl⟩
theorem last_pair {α β : Type} {F : α → β → Prop} : ∀ {as : List α} {bs r : List β} {b : β}, Paired F as bs → bs = r ++ [b] → ∃ as' a, as = as' ++ [a] ∧ F a b
  | _, _, r, b, .nil, e => by cases r <;> cases e
  | a :: as, b0 :: bs, r, b, .cons x t, e => by
    cases r with
    | nil =>
      cases e
      cases t
      exact ⟨[], a, rfl, x⟩
    | cons r0 r =>
      obtain ⟨e1, e2⟩ := List.cons.inj e
      obtain ⟨as', a', rfl, h⟩ := last_pair t e2
      exact ⟨a :: as', a', rfl, h⟩
/-! what changes and is no tuple -/
def Soft (ob : HO) : Prop := (∃ xs, ob = .lst xs) ∨ ∃ kvs, ob = .dT kvs
theorem soft_key {H H' : Hp} {b b0 : Addr} {ob u : HO} (hb : H b = some ob) (k : SameBut b H H') (hu : u ≠ ob) (e : H b0 = some u) : H' b0 = some u := k _ _ (fun z => hu (by rw [z, hb] at e; exact (Option.some.inj e).symm)) e
theorem tup_soft {H H' : Hp} {b a : Addr} {xs : List V} {ob : HO} (h : SqT K H a xs) (hb : H b = some ob) (s : Soft ob) (k : SameBut b H H') : SqT K H' a xs := by
  rcases h with (z | ⟨x, z⟩) | z
  · exact .inl (.inl (soft_key hb k (by rcases s with ⟨_, rfl⟩ | ⟨_, rfl⟩ <;> intro y <;> cases y) z))
  · exact .inl (.inr ⟨x, soft_key hb k (by rcases s with ⟨_, rfl⟩ | ⟨_, rfl⟩ <;> intro y <;> cases y) z⟩)
  · exact .inr z
theorem Tb.soft {L : List Addr} {PT b : Addr} {q : Str} {H H' : Hp} {ob : HO} (t : Tb L PT q H) (hb : H b = some ob) (s : Soft ob) (k : SameBut b H H') : Tb L PT q H' := by
  have kt : ∀ b0 ps, H b0 = some (.tbl ps) → H' b0 = some (.tbl ps) := fun b0 ps e => soft_key hb k (by rcases s with ⟨_, rfl⟩ | ⟨_, rfl⟩ <;> intro y <;> cases y) e
  refine ⟨?_, fun P hP => ⟨(t.g P hP).1, let ⟨ps, h1, h2⟩ := (t.g P hP).2; ⟨ps, kt _ _ h1, h2⟩⟩⟩
  obtain ⟨ps, b1, b2, b3⟩ := t.s
  refine ⟨ps, kt _ _ b1, b2, fun pos cv hcv => ?_⟩
  obtain ⟨c0, c1, c2⟩ := b3 pos cv hcv
  exact ⟨c0, c1, soft_key hb k (by rcases s with ⟨_, rfl⟩ | ⟨_, rfl⟩ <;> intro y <;> unfold LamX.CodeO at y <;> cases y) c2⟩
theorem LotAt.soft {H H' : Hp} {b a : Addr} {l : List Nat} {ob : HO} (h : LotAt K H a l) (hb : H b = some ob) (s : Soft ob) (k : SameBut b H H') : LotAt K H' a l := tup_soft h hb s k
theorem TupA.soft {H H' : Hp} {b a : Addr} {l : List Nat} {ob : HO} (h : TupA H a l) (hb : H b = some ob) (s : Soft ob) (k : SameBut b H H') : TupA H' a l :=
  soft_key hb k (by rcases s with ⟨_, rfl⟩ | ⟨_, rfl⟩ <;> intro y <;> cases y) h
theorem LK.put {sa : Addr} {ns : List Int} {L : List Addr} {PL rp hp lp gp b : Addr} {hs : List (List Nat)} {lts : List Addr} {goal : List Nat} {H0 H : Hp} {ob o : HO} (x0 : LK K sa ns L PL rp hp lp gp hs lts goal H0) (hf : H0 b = none) (x : LK K sa ns L PL rp hp lp gp hs lts goal H) (hb : H b = some ob) (s : Soft ob) :
    LK K sa ns L PL rp hp lp gp hs lts goal (upd H b o) := by
  obtain ⟨rs, h1, h2⟩ := x.house
  exact ⟨x0.row.new hf x.row, ⟨rs, tup_soft h1 hb s but_upd, paired_mono h2 fun _ _ z => z.soft hb s but_upd⟩, by rw [upd_ne (ne_of_none x0.lots hf)]; exact x.lots, paired_mono x.pl fun _ _ z => z.soft hb s but_upd, x.goal.soft hb s but_upd, x.n1, x.tb.soft hb s but_upd⟩
/-- all that stands while the law judges -/
structure LZ (K : PySem.W.Frag) (sa : Addr) (ns : List Int) (L : List Addr) (PL rp hp lp gp : Addr) (hs : List (List Nat)) (lts : List Addr) (goal : List Nat) (c : Nat) (o : Option Nat) (vf vm : V) (H : Hp) : Prop where
  lk : LK K sa ns L PL rp hp lp gp hs lts goal H
  fo : FoundAt K H hs c goal o vf
  fa : FamAt K H hs c goal o vm
section
variable {sa : Addr} {ns : List Int} {L : List Addr} {PL rp hp lp gp : Addr} {hs : List (List Nat)} {lts : List Addr} {goal : List Nat} {c : Nat} {o : Option Nat} {vf vm : V} {H H' H0 : Hp}
theorem LZ.ext (x : LZ K sa ns L PL rp hp lp gp hs lts goal c o vf vm H) (e : LamX.ExtN H H') (t : Tb L PL lamQ H') : LZ K sa ns L PL rp hp lp gp hs lts goal c o vf vm H' := ⟨x.lk.ext e t, x.fo.ext e, x.fa.ext e⟩
theorem LZ.same (x : LZ K sa ns L PL rp hp lp gp hs lts goal c o vf vm H) (e : Same H H') : LZ K sa ns L PL rp hp lp gp hs lts goal c o vf vm H' := x.ext (Same.extN e) (x.lk.tb.ext e)
theorem LZ.but (x : LZ K sa ns L PL rp hp lp gp hs lts goal c o vf vm H) (r : RowAt K sa ns H' rp) (k : SameBut rp H H') : LZ K sa ns L PL rp hp lp gp hs lts goal c o vf vm H' :=
  let ⟨_, hr⟩ := x.lk.row.lst
  ⟨x.lk.but r k, x.fo.but hr k, x.fa.but hr k⟩
theorem LZ.put {b : Addr} {ob w : HO} (x0 : LZ K sa ns L PL rp hp lp gp hs lts goal c o vf vm H0) (hf : H0 b = none) (x : LZ K sa ns L PL rp hp lp gp hs lts goal c o vf vm H) (hb : H b = some ob) (s : Soft ob) : LZ K sa ns L PL rp hp lp gp hs lts goal c o vf vm (upd H b w) := by
  refine ⟨x0.lk.put hf x.lk hb s, ?_, ?_⟩
  · rcases x.fo with z | ⟨d, p, Ls, h1, h2, ⟨ts, h3, h4⟩, h5⟩
    · exact .inl z
    · exact .inr ⟨d, p, Ls, h1, h2, ⟨ts, tup_soft h3 hb s but_upd, paired_mono h4 fun _ _ z => z.soft hb s but_upd⟩, h5⟩
  · rcases x.fa with z | ⟨p, es, h1, h2, ⟨ts, h3, h4⟩, h5⟩
    · exact .inl z
    · exact .inr ⟨p, es, h1, h2, ⟨ts, tup_soft h3 hb s but_upd, paired_mono h4 fun _ _ z => z.soft hb s but_upd⟩, h5⟩
end
theorem JVAt.ext {H H' : Hp} {v : V} {j : JV} (h : JVAt K H v j) (e : LamX.ExtN H H') : JVAt K H' v j := by
  cases j with
  | non => exact h
  | other =>
    obtain ⟨h1, ty, h2, h3⟩ := h
    refine ⟨h1, ty, ?_, h3⟩
    cases h2 with
    | non => exact .non
    | bl b => exact .bl b
    | int i => exact .int i
    | str x => exact .str x
    | byt b => exact .byt b
    | lst h => exact .lst (So.extN_seqL e h)
    | tup h => exact .tup (So.extN_seqT e h)
    | dK h => exact .dK (e _ _ h (fun ps z => by cases z))
  | tup ms =>
    obtain ⟨p, xs, h1, h2, h3, h4⟩ := h
    exact ⟨p, xs, h1, So.extN_seqT e h2, paired_mono h3 fun _ _ z => z.ext e, h4⟩
/-- what the law's own judge needs of a value that is drawn -/
def LeadAt (K : PySem.W.Frag) (n : Nat) (H : Hp) (v : V) : JV → Prop
  | .non => True
  | .other => ∃ ty, TyX K H v (.type ty) ∧ PySem.W.kitOne K (.type ty) (.type "tuple") = some false
  | .tup ms => ∀ m ∈ ms, Drawn n m
theorem paired_set {α β : Type} {F : α → β → Prop} : ∀ {as : List α} {bs : List β} {i : Nat} {a : α} {b : β}, Paired F as bs → F a b → Paired F (as.set i a) (bs.set i b)
  | _, _, _, _, _, .nil, _ => .nil
  | _ :: _, _ :: _, 0, _, _, .cons _ t, h => .cons h t
  | _ :: _, _ :: _, i + 1, _, _, .cons r t, h => .cons r (paired_set t h)
theorem somes_drawn {n : Nat} {Ls : List (List Nat)} (h : ∀ l ∈ Ls, LotOk n l) : ∀ m ∈ somes Ls, Drawn n m := fun m hm => by
  obtain ⟨l, hl, rfl⟩ := List.mem_map.mp hm
  exact .inr (.inr ⟨l, rfl, h l hl⟩)
end
end N

set_option Elab.async false
set_option linter.all false
set_option maxRecDepth 100000
set_option maxHeartbeats 8000000
/-! the law's turns and its last rows -/
namespace N
open Cb (lotV combs combsOf combsOf_sub)
open PySem PySem.Spec PyProof.Rows L2
section
variable {P : Program} {w : World} {K : PySem.W.Frag} {mg : Str → Option Value} {base : Heap}
def spLaw (K : PySem.W.Frag) (L : List Addr) (PL : Addr) : Sp := fun vs H Q _ => ∃ (a : Addr) (ns : List Int), vs = [.ref a] ∧ SqL K H a (ns.map V.int) ∧ Tb L PL lamQ H ∧ ∀ H', Q (.bl true) H'
theorem sc_law : FnScope ["script", "row", "many", "house", "coins", "lots", "goal", "covered", "lot", "due", "found", "family", "turn", "base", "value", "fine", "some", "drawn", "one", "bad", "more"] ["script"] (defScope s_law) := ⟨rfl, rfl, rfl, by decide +kernel, rfl, by decide +kernel, by decide +kernel⟩
theorem ok_tail {f : Addr} {L : List Addr} {cL PL cC PC cS PS cF PF cI PI : Addr} (T : Txt K mg) (hcL : T.d__law_lots.fd.code = .ref cL) (TBL : LamX.TabB base mg cL PL)
    (hcC : T.d__row_covers.fd.code = .ref cC) (TBC : GxR.TabB base mg cC PC) (hcS : T.d_shows_closed_family.fd.code = .ref cS) (TBS : GxR.TabB base mg cS PS)
    (hcF : T.d__is_family.fd.code = .ref cF) (TBF : GxR.TabB base mg cF PF) (hcI : T.d__is_closed.fd.code = .ref cI) (TBI : GxR.TabB base mg cI PI) (mC : PC ∈ L) (mS : PS ∈ L) (mF : PF ∈ L) (mI : PI ∈ L) 
    {cdv : Value} {A : Around} {outer : List Env} {s : Shared} {H : Hp} {E : XK} (hr : Room 7 (A.deeper (envOfC "law" (defScope s_law) s.heap.objs.size f cdv))) :
    ∃ t : TS, PSs (cxOf CX0 P w K mg base ["script", "row", "many", "house", "coins", "lots", "goal", "covered", "lot", "due", "found", "family", "turn", "base", "value", "fine", "some", "drawn", "one", "bad", "more"] "law" (defScope s_law) f cdv A outer s H E).nox ((defBody s_law).drop 17) t ∧
      ∀ (a rp hp lp gp cv lt : Addr) (ns : List Int) (m : Int) (hs : List (List Nat)) (lts : List Addr) (goal : List Nat) (c : Nat) (o : Option Nat) (vf vm : V) (H7 : Hp) (v12 v13 v14 v15 v16 v17 v18 v19 v20 : Option V) (Q : VK) (D : Ends),
        D.rt = Q → LZ K a ns L PL rp hp lp gp hs lts goal c o vf vm H7 → HouseOk hs → hs.length ≤ 5 → c ≤ 7 → LotOk hs.length goal → goal ≠ [] → IsDays hs c goal o → (∀ H', Q (.bl true) H') →
        t D [some (.ref a), some (.ref rp), some (.int m), some (.ref hp), some (.int (c : Int)), some (.ref lp), some (.ref gp), some (.ref cv), some (.ref lt), some (dayV o), some vf, some vm, v12, v13, v14, v15, v16, v17, v18, v19, v20] H7 := by
  have Gt := ok_taken (P := P) (w := w) (base := base) T
  have Gp := ok_pick (P := P) (w := w) (base := base) T
  have Gsc := ok_shows_cover (P := P) (w := w) (base := base) (L := L) (PL := PL) T hcC TBC mC
  have Gsf := ok_shows_closed (P := P) (w := w) (base := base) (L := L) (PL := PL) T hcS TBS hcF TBF hcI TBI mS mF mI
  have Gld := ok_leads (P := P) (w := w) (base := base) (L := L) T hcL TBL
  have Glc := ok_lclosed (P := P) (w := w) (base := base) (L := L) T hcL TBL
  have Ga := ok_alike0 (P := P) (w := w) (base := base) T
  have nd := sc_law.nd
  have hu := hu_of hr
  have hr1 : Room 1 _ := hr.mono (by decide)
  have hr2 : Room 2 _ := hr.mono (by decide)
  have hr3 : Room 3 _ := hr.mono (by decide)
  have hr6 : Room 6 _ := hr.mono (by decide)
  refine ⟨_, (pss_cons (ps_for PassesOwn.never rfl (pi_range1 (by rfl) T.n_range (pa_cons pe_int pa_nil)) (pg_name (i := 12) nd rfl (.inl rfl))
      (pss_cons (ps_set (i := 13) nd rfl (.inl rfl) (pe_ifExp (pt_cmpR op_notN (pv 10) pe_non (nomark _)) (pe_callTy call_list_of (by rfl) T.n_list (by decide +kernel) (pa_cons (pv 10) pa_nil)) (pe_lst (pa_cons (pe_tup (pa_cons pe_int pa_nil)) pa_nil))))
      (pss_cons (ps_asg (pe_call Gp hr2 (by rfl) T.d__law_pick.g T.d__law_pick.F.kp T.d__law_pick.b .nil pass0 (pa_cons (pv 1) (pa_cons (pv 5) pa_nil))) (pg_sub (pv 13) (pe_call Gt hr1 (by rfl) T.d__law_taken.g T.d__law_taken.F.kp T.d__law_taken.b .nil pass0 (pa_cons (pv 1) (pa_cons (pe_callB call_len_seq (by rfl) T.n_len PySem.boot_len (pa_cons (pv 13) pa_nil)) pa_nil))) set_list))
      (pss_cons (ps_set (i := 14) nd rfl (.inl rfl) (pe_call Gp hr2 (by rfl) T.d__law_pick.g T.d__law_pick.F.kp T.d__law_pick.b .nil pass0 (pa_cons (pv 1) (pa_cons (pe_op op_cat (pe_op op_rep (pe_lst (pa_cons (pe_callTy call_tuple_of (by rfl) T.n_tuple (by decide +kernel) (pa_cons (pv 13) pa_nil)) pa_nil)) pe_int) (pe_lst (pa_cons (pv 13) (pa_cons pe_non (pa_cons (pe_tup (pa_cons pe_non pa_nil)) (pa_cons (pe_tup (pa_cons (pe_tup (pa_cons pe_bl pa_nil)) pa_nil)) (pa_cons (pe_op (o_catA K) (pe_callTy call_tuple_of (by rfl) T.n_tuple (by decide +kernel) (pa_cons (pv 13) pa_nil)) (pe_tup (pa_cons (pe_tup pa_nil) pa_nil))) (pa_cons pe_dnewK pa_nil)))))))) pa_nil))))
      (pss_cons (ps_set (i := 15) nd rfl (.inl rfl) (pe_ifExp (pt_cmpR op_isN (pv 14) pe_non (nomark _)) (pe_cmpR op_isN (pv 9) pe_non (nomark _)) (pe_and (pe_cmpR op_notN (pv 9) pe_non (nomark _)) (pe_one (pe_call Gld hr3 (by rfl) T.d__law_leads.g T.d__law_leads.F.kp T.d__law_leads.b .nil pass0 (pa_cons (pv 3) (pa_cons (pv 4) (pa_cons (pv 6) (pa_cons (pv 14) (pa_cons (pv 9) pa_nil))))))))))
      (pss_cons (ps_if (pt_not (pt_val (pe_call Ga hr1 (by rfl) T.d__law_alike.g T.d__law_alike.F.kp T.d__law_alike.b .nil pass0 (pa_cons (pe_call Gsc hr (by rfl) T.d_shows_cover_row.g T.d_shows_cover_row.F.kp T.d_shows_cover_row.b .nil pass0 (pa_cons (pv 3) (pa_cons (pv 4) (pa_cons (pv 6) (pa_cons (pv 14) pa_nil))))) (pa_cons (pv 15) pa_nil))))) (pss_one ps_never) pss_nil)
      (pss_cons (ps_set (i := 16) nd rfl (.inl rfl) pe_dnewT)
      (pss_cons (ps_setLc (i := 17) (own := [("more", 20)]) (g := gName 20) (tt := tYes) rfl nd rfl rfl (sw_true rfl rfl rfl (by decide +kernel)) (pi_range1 (by rfl) T.n_range (pa_cons (pe_call Gt hr1 (by rfl) T.d__law_taken.g T.d__law_taken.F.kp T.d__law_taken.b .nil pass0 (pa_cons (pv 1) (pa_cons pe_int pa_nil))) pa_nil)) (blkOk_by (N := ["script", "row", "many", "house", "coins", "lots", "goal", "covered", "lot", "due", "found", "family", "turn", "base", "value", "fine", "some", "drawn", "one", "bad", "more"]) (sc := defScope s_law) (by decide +kernel)) (fun _ _ _ _ _ => pg_name (i := 20) nd rfl (.inl rfl)) (fun _ _ _ _ _ => pts_nil) (fun _ _ _ _ _ => (pe_call Gp hr2 (by rfl) T.d__law_pick.g T.d__law_pick.F.kp T.d__law_pick.b .nil pass0 (pa_cons (pv 1) (pa_cons (pv 5) pa_nil)))))
      (pss_cons (ps_for PassesOwn.never rfl (pi_list (pe_op op_cat (pe_ifExp (pt_cmpR op_notN (pv 11) pe_non (nomark _)) (pe_callTy call_list_of (by rfl) T.n_list (by decide +kernel) (pa_cons (pv 11) pa_nil)) (pe_lst (pa_cons (pe_tup pa_nil) pa_nil))) (pv 17))) (pg_name (i := 18) nd rfl (.inl rfl)) (pss_one (ps_if (pt_cmpR op_gt (pe_call Gt hr1 (by rfl) T.d__law_taken.g T.d__law_taken.F.kp T.d__law_taken.b .nil pass0 (pa_cons (pv 1) (pa_cons pe_int pa_nil))) pe_int (nomark _)) (pss_one (ps_dput hu (pv 16) (pv 18) pe_bl rfl)) pss_nil)))
      (pss_cons (ps_set (i := 14) nd rfl (.inl rfl) (pe_callTy call_tuple_of (by rfl) T.n_tuple (by decide +kernel) (pa_cons (pe_callB (cr_sortLots2 (room100 hr)) (by rfl) T.n_sorted (by decide +kernel) (pa_cons (pe_callTy (call_list_dT rfl) (by rfl) T.n_list (by decide +kernel) (pa_cons (pv 16) pa_nil)) pa_nil)) pa_nil)))
      (pss_one (ps_if (pt_not (pt_val (pe_call Ga hr1 (by rfl) T.d__law_alike.g T.d__law_alike.F.kp T.d__law_alike.b .nil pass0 (pa_cons (pe_call Gsf hr6 (by rfl) T.d_shows_closed_family.g T.d_shows_closed_family.F.kp T.d_shows_closed_family.b .nil pass0 (pa_cons (pv 3) (pa_cons (pv 4) (pa_cons (pv 6) (pa_cons (pv 14) pa_nil))))) (pa_cons (pe_call Glc hr3 (by rfl) T.d__law_closed.g T.d__law_closed.F.kp T.d__law_closed.b .nil pass0 (pa_cons (pv 3) (pa_cons (pv 4) (pa_cons (pv 6) (pa_cons (pv 14) pa_nil))))) pa_nil))))) (pss_one ps_never) pss_nil))))))))))))
      (pss_cons (ps_for PassesOwn.never rfl (pi_list (pe_lst (pa_cons (pe_tup pa_nil) (pa_cons (pe_lst (pa_cons (pe_tup pa_nil) pa_nil)) (pa_cons (pe_tup (pa_cons (pe_tup pa_nil) (pa_cons (pe_tup pa_nil) pa_nil))) (pa_cons (pe_tup (pa_cons (pe_tup (pa_cons pe_int (pa_cons pe_int pa_nil))) pa_nil)) (pa_cons (pe_tup (pa_cons pe_non pa_nil)) (pa_cons pe_dnewK (pa_cons pe_str (pa_cons (pe_tup (pa_cons (pe_tup (pa_cons pe_bl pa_nil)) pa_nil)) (pa_cons (pe_tup (pa_cons (pv 6) pa_nil)) pa_nil))))))))))) (pg_name (i := 19) nd rfl (.inl rfl)) (pss_one (ps_if (pt_cmpR op_notBl (pe_call Gsf hr6 (by rfl) T.d_shows_closed_family.g T.d_shows_closed_family.F.kp T.d_shows_closed_family.b .nil pass0 (pa_cons (pv 3) (pa_cons (pv 4) (pa_cons (pv 6) (pa_cons (pv 19) pa_nil))))) pe_bl (nomark _)) (pss_one ps_never) pss_nil)))
      (pss_one (ps_ret (pe_call Ga hr1 (by rfl) T.d__law_alike.g T.d__law_alike.F.kp T.d__law_alike.b .nil pass0 (pa_cons (pe_call Gsf hr6 (by rfl) T.d_shows_closed_family.g T.d_shows_closed_family.F.kp T.d_shows_closed_family.b .nil pass0 (pa_cons (pv 3) (pa_cons (pv 4) (pa_cons (pv 6) (pa_cons pe_non pa_nil))))) (pa_cons (pe_cmpR op_notN (pv 9) pe_non (nomark _)) pa_nil))))))), ?_⟩
  intro a rp hp lp gp cv lt ns m hs lts goal c o vf vm H7 v12 v13 v14 v15 v16 v17 v18 v19 v20 Q D hD Z7 ok hn5 hc7 okg hgne hdy q
  have hn1 := ok.lo
  have hgl0 : goal.length ≤ 1000 := by have := okg.len; omega
  -- five turns
  refine ⟨5, rfl, by omega, by omega, ?_⟩
  show ∃ W, _
  rw [show ((5 : Int)).toNat = 5 from rfl]
  refine for_range (lo := 0) (n := 5) (fun i σ H7 => (∃ v12 v13 v14 v15 v16 v17 v18 v19 v20 : Option V, σ = [some (.ref a), some (.ref rp), some (.int m), some (.ref hp), some (.int (c : Int)), some (.ref lp), some (.ref gp), some (.ref cv), some (.ref lt), some (dayV o), some vf, some vm, v12, v13, v14, v15, v16, v17, v18, v19, v20]) ∧ LZ K a ns L PL rp hp lp gp hs lts goal c o vf vm H7)
    ⟨⟨_, _, _, _, _, _, _, _, _, rfl⟩, Z7⟩ ?_ ?_
  · rintro i σ H8 hi ⟨⟨v12, v13, v14, v15, v16, v17, v18, v19, v20, rfl⟩, Z8⟩
    -- base
    refine viaE (t := tIf _ _ _) (fun v H' => ∃ (b : Addr) (bts : List Addr) (bls : List (List Nat)), v = .ref b ∧ Same H8 H' ∧ H8 b = none ∧ H' b = some (.lst (bts.map V.ref)) ∧ Paired (fun t l => LotAt K H' t l) bts bls ∧ (∀ l ∈ bls, LotOk hs.length l) ∧ 1 ≤ bls.length ∧ bls.length < 768) (fun K0 k0 => ?_) (fun v H9 hv => ?_)
    · rcases Z8.fo with ⟨ho, hv⟩ | ⟨d, p, Ls, ho, hv, ⟨ts, h3, h4⟩, h5, h6, hd1, h8⟩
      · refine ⟨vf, rfl, rfl, false, by rw [hv]; rfl, iteF ?_⟩
        refine ⟨by decide, fun t0 ht0 => ⟨by (show 1 ≤ sizeLine; decide), fun b hb => ?_⟩⟩
        have s1 : Same H8 (upd H8 t0 (.tup [.int 0])) := same_upd ht0
        have s2 : Same (upd H8 t0 (.tup [.int 0])) (upd (upd H8 t0 (.tup [.int 0])) b (.lst [.ref t0])) := same_upd hb
        have hb8 : H8 b = none := by
          have z : b ≠ t0 := fun e => by rw [e, upd_same] at hb; cases hb
          rwa [upd_ne z] at hb
        refine k0 _ _ ⟨b, [t0], [[0]], rfl, s1.trans s2, hb8, upd_same, .cons (SqT.up (s2 _ _ upd_same)) .nil, fun l hl => ?_, Nat.le_refl _, by decide⟩
        rw [List.mem_singleton.mp hl]
        exact lotOk_of (List.pairwise_singleton _ _) fun i hi => by rw [List.mem_singleton.mp hi]; exact hn1
      · have hlen : ts.length = Ls.length := Paired.length h4
        refine ⟨vf, rfl, rfl, true, by rw [hv]; rfl, iteT ?_⟩
        refine ⟨vf, rfl, p, ts.map V.ref, by rw [hv], .inr h3, fun b hb => ?_⟩
        have s1 : Same H8 (upd H8 b (.lst (ts.map V.ref))) := same_upd hb
        exact k0 _ _ ⟨b, ts, Ls, rfl, s1, hb, upd_same, paired_mono h4 fun _ _ z => z.same s1, fun l hl => (h6.ok l hl).1, by omega, by omega⟩
    obtain ⟨b, bts, bls, rfl, sm9, hb8, hb9, hPb, hbl, hbl1, hbl2⟩ := hv
    have Z9 := Z8.same sm9
    have hbrp : b ≠ rp := (let ⟨_, hr⟩ := Z8.lk.row.lst; ne_of_none hr hb8 : rp ≠ b).symm
    have hblen : bts.length = bls.length := Paired.length hPb
    have hla := allL_len hn5
    have hlt : lts.length = (allL hs.length).length := Paired.length Z8.lk.pl
    have hlt1 : 1 ≤ lts.length := by
      rw [hlt, allL_cons, List.length_cons]
      omega
    -- base[..] = ..
    refine ⟨.ref rp, rfl, .ref lp, rfl, a, ns, rp, lp, _, rfl, Z9.lk.row, SqL.up Z9.lk.lots, Z9.lk.n1, by rw [List.length_map]; omega, by rw [List.length_map]; omega, fun H10 i10 x10 row10 sb10 hx10 => ?_⟩
    have Z10 := Z9.but row10 sb10
    obtain ⟨t1, ht1, rfl⟩ := get_refs hx10
    obtain ⟨l1, hl1, hat1⟩ := paired_at Z10.lk.pl ht1
    have okl1 := mem_allL.mp (List.mem_of_getElem? hl1)
    have hb10 := sb10 _ _ hbrp hb9
    obtain ⟨xs9, hr9⟩ := Z9.lk.row.lst
    have hPb10 : Paired (fun t l => LotAt K H10 t l) bts bls := paired_mono hPb fun _ _ z => z.but hr9 sb10
    refine ⟨.ref b, rfl, .ref rp, rfl, .ref b, rfl, b, _, rfl, .inl (SqL.up hb10), a, ns, rp, (bts.map V.ref).length, rfl, row10, by rw [List.length_map]; omega, by rw [List.length_map]; omega, fun H11 u row11 sb11 hu11 => ?_⟩
    rw [List.length_map] at hu11
    have Z11 := Z10.but row11 sb11
    obtain ⟨xs10, hr10⟩ := Z10.lk.row.lst
    have hb11 := sb11 _ _ hbrp hb10
    have hPb11 : Paired (fun t l => LotAt K H11 t l) (bts.set u t1) (bls.set u l1) := paired_set (paired_mono hPb10 fun _ _ z => z.but hr10 sb11) ((hat1.but hr10 sb11).lot)
    refine ⟨b, bts.map V.ref, (u : Int), u, rfl, rfl, hb11, by (unfold ixN; rw [if_pos (by omega), if_pos (by rw [List.length_map]; omega)]; simp), ?_⟩
    rw [show (bts.map V.ref).set u (V.ref t1) = (bts.set u t1).map V.ref by rw [List.map_set]]
    have Z12 : LZ K a ns L PL rp hp lp gp hs lts goal c o vf vm (upd H11 b (.lst ((bts.set u t1).map V.ref))) := Z8.put hb8 Z11 hb11 (.inl ⟨_, rfl⟩)
    have hb12 : (upd H11 b (.lst ((bts.set u t1).map V.ref))) b = some (.lst ((bts.set u t1).map V.ref)) := upd_same
    have hPb12 : Paired (fun t l => LotAt K (upd H11 b (.lst ((bts.set u t1).map V.ref))) t l) (bts.set u t1) (bls.set u l1) := paired_mono hPb11 fun _ _ z => z.soft hb11 (.inl ⟨_, rfl⟩) but_upd
    generalize upd H11 b (.lst ((bts.set u t1).map V.ref)) = H12 at Z12 hb12 hPb12
    have hbl' : ∀ l ∈ bls.set u l1, LotOk hs.length l := fun l hl => by
      rcases List.mem_or_eq_of_mem_set hl with z | z
      · exact hbl l z
      · rw [z]; exact okl1
    have hlen12 : (bts.set u t1).length = (bls.set u l1).length := Paired.length hPb12
    have hbn : (bls.set u l1).length = bls.length := List.length_set
    generalize bts.set u t1 = cts at hb12 hPb12 hlen12
    generalize bls.set u l1 = cls at hPb12 hbl' hlen12 hbn
    clear Z9 Z10 Z11 hPb hPb10 hPb11 hb9 hb10 hb11 hat1 row10 row11 sb10 sb11 hr9 hr10
    -- value
    have hcl : cts.length ≤ 1000 := by omega
    refine ⟨.ref rp, rfl, .ref b, rfl, b, _, rfl, .inl ⟨SqL.up hb12, fun q1 hq1 => ⟨by (show 1 ≤ sizeLine; decide), fun q2 hq2 => ?_⟩⟩⟩
    have e1 : Same H12 (upd H12 q1 (.tup (cts.map V.ref))) := same_upd hq1
    have f1 : (upd H12 q1 (.tup (cts.map V.ref))) q1 = some (.tup (cts.map V.ref)) := upd_same
    generalize upd H12 q1 (.tup (cts.map V.ref)) = G1 at e1 f1 hq2
    have e2 : Same G1 (upd G1 q2 (.lst [.ref q1])) := same_upd hq2
    have f2 : (upd G1 q2 (.lst [.ref q1])) q2 = some (.lst [.ref q1]) := upd_same
    generalize upd G1 q2 (.lst [.ref q1]) = G2 at e2 f2
    refine ⟨q2, 4, [.ref q1], rfl, rfl, f2, by decide, by decide, by (show 4 ≤ sizeLine; decide), fun q3 hq3 => ?_⟩
    have e3 : Same G2 (upd G2 q3 (.lst (List.replicate (4 : Int).toNat [V.ref q1]).flatten)) := same_upd hq3
    have f3 : (upd G2 q3 (.lst (List.replicate (4 : Int).toNat [V.ref q1]).flatten)) q3 = some (.lst [.ref q1, .ref q1, .ref q1, .ref q1]) := upd_same
    generalize upd G2 q3 (.lst (List.replicate (4 : Int).toNat [V.ref q1]).flatten) = G3 at e3 f3
    refine ⟨.ref b, rfl, by decide, fun q4 hq4 => ?_⟩
    have e4 : Same G3 (upd G3 q4 (.tup [.non])) := same_upd hq4
    have f4 : (upd G3 q4 (.tup [.non])) q4 = some (.tup [.non]) := upd_same
    generalize upd G3 q4 (.tup [.non]) = G4 at e4 f4
    refine ⟨by (show 1 ≤ sizeLine; decide), fun q5 hq5 => ⟨by (show 1 ≤ sizeLine; decide), fun q6 hq6 => ?_⟩⟩
    have e5 : Same G4 (upd G4 q5 (.tup [.bl true])) := same_upd hq5
    have f5 : (upd G4 q5 (.tup [.bl true])) q5 = some (.tup [.bl true]) := upd_same
    generalize upd G4 q5 (.tup [.bl true]) = G5 at e5 f5 hq6
    have e6 : Same G5 (upd G5 q6 (.tup [.ref q5])) := same_upd hq6
    have f6 : (upd G5 q6 (.tup [.ref q5])) q6 = some (.tup [.ref q5]) := upd_same
    generalize upd G5 q6 (.tup [.ref q5]) = G6 at e6 f6
    have e16 := e1.trans (e2.trans (e3.trans (e4.trans (e5.trans e6))))
    refine ⟨.ref b, rfl, b, _, rfl, .inl ⟨SqL.up (e16 _ _ hb12), fun q7 hq7 => ?_⟩⟩
    have e7 : Same G6 (upd G6 q7 (.tup (cts.map V.ref))) := same_upd hq7
    have f7 : (upd G6 q7 (.tup (cts.map V.ref))) q7 = some (.tup (cts.map V.ref)) := upd_same
    generalize upd G6 q7 (.tup (cts.map V.ref)) = G7 at e7 f7
    refine ⟨by decide, fun q8 hq8 => ⟨by (show 1 ≤ sizeLine; decide), fun q9 hq9 => ?_⟩⟩
    have e8 : Same G7 (upd G7 q8 (.tup [])) := same_upd hq8
    have f8 : (upd G7 q8 (.tup [])) q8 = some (.tup []) := upd_same
    generalize upd G7 q8 (.tup []) = G8 at e8 f8 hq9
    have e9 : Same G8 (upd G8 q9 (.tup [.ref q8])) := same_upd hq9
    have f9 : (upd G8 q9 (.tup [.ref q8])) q9 = some (.tup [.ref q8]) := upd_same
    generalize upd G8 q9 (.tup [.ref q8]) = G9 at e9 f9
    refine cat_any (SqT.up (e9 _ _ (e8 _ _ f7))) (SqT.up f9) (by rw [List.length_map]; show cts.length + 1 ≤ 1000; omega) fun G10 qa e10 fa => ?_
    intro qd hqd
    have e11 : Same G10 (upd G10 qd (.dK [])) := same_upd hqd
    have f11 : (upd G10 qd (.dK [])) qd = some (.dK []) := upd_same
    generalize upd G10 qd (.dK []) = G11 at e11 f11
    refine ⟨by (show 6 ≤ sizeLine; decide), fun qb hqb => ?_⟩
    have e12 : Same G11 (upd G11 qb (.lst [.ref b, .non, .ref q4, .ref q6, .ref qa, .ref qd])) := same_upd hqb
    have f12 : (upd G11 qb (.lst [.ref b, .non, .ref q4, .ref q6, .ref qa, .ref qd])) qb = some (.lst [.ref b, .non, .ref q4, .ref q6, .ref qa, .ref qd]) := upd_same
    generalize upd G11 qb (.lst [.ref b, .non, .ref q4, .ref q6, .ref qa, .ref qd]) = G12 at e12 f12
    have eA : Same G3 G12 := e4.trans (e5.trans (e6.trans (e7.trans (e8.trans (e9.trans (e10.trans (e11.trans e12)))))))
    refine ⟨q3, qb, _, _, rfl, rfl, eA _ _ f3, f12, by (show 10 ≤ sizeLine; decide), fun qc hqc => ?_⟩
    have e13 : Same G12 (upd G12 qc (.lst ([V.ref q1, V.ref q1, V.ref q1, V.ref q1] ++ [V.ref b, V.non, V.ref q4, V.ref q6, V.ref qa, V.ref qd]))) := same_upd hqc
    have f13 : (upd G12 qc (.lst ([V.ref q1, V.ref q1, V.ref q1, V.ref q1] ++ [V.ref b, V.non, V.ref q4, V.ref q6, V.ref qa, V.ref qd]))) qc = some (.lst [V.ref q1, V.ref q1, V.ref q1, V.ref q1, V.ref b, V.non, V.ref q4, V.ref q6, V.ref qa, V.ref qd]) := upd_same
    generalize upd G12 qc (.lst ([V.ref q1, V.ref q1, V.ref q1, V.ref q1] ++ [V.ref b, V.non, V.ref q4, V.ref q6, V.ref qa, V.ref qd])) = G13 at e13 f13
    have eB : Same H12 G13 := e16.trans (e7.trans (e8.trans (e9.trans (e10.trans (e11.trans (e12.trans e13))))))
    have ZG := Z12.same eB
    have hqcrp : qc ≠ rp := (let ⟨_, hr⟩ := Z12.lk.row.lst; ne_of_none (e12 _ _ (e11 _ _ (e10 _ _ (e9 _ _ (e8 _ _ (e7 _ _ (e16 _ _ hr))))))) hqc : rp ≠ qc).symm
    refine ⟨a, ns, rp, qc, _, rfl, ZG.lk.row, SqL.up f13, hqcrp, by (show 1 ≤ 10; decide), by (show 10 ≤ 1000; decide), fun H13 i13 x row13 sb13 hx => ?_⟩
    have Z13 := ZG.but row13 sb13
    obtain ⟨xsG, hrG⟩ := ZG.lk.row.lst
    have tk : ∀ {q : Addr} {xs : List V}, SqT K G13 q xs → SqT K H13 q xs := fun z => tup_but z hrG sb13
    have hPb13 : Paired (fun t l => LotAt K H13 t l) cts cls := paired_mono hPb12 fun _ _ z => tk (z.same eB)
    have g6 : Same G6 G13 := e7.trans (e8.trans (e9.trans (e10.trans (e11.trans (e12.trans e13)))))
    have g4 : Same G4 G13 := e5.trans (e6.trans g6)
    have g1 : Same G1 G13 := e2.trans (e3.trans (e4.trans g4))
    have g10 : Same G10 G13 := e11.trans (e12.trans e13)
    obtain ⟨j, hJ, hLe⟩ : ∃ j, JVAt K H13 x j ∧ LeadAt K hs.length H13 x j := by
      have tupc : ∀ q, SqT K H13 q (cts.map V.ref) → ∃ j, JVAt K H13 (.ref q) j ∧ LeadAt K hs.length H13 (.ref q) j := fun q hq => ⟨.tup (somes cls), ⟨q, cts.map V.ref, rfl, hq, paired_somes hPb13, by rw [List.length_map]; omega⟩, somes_drawn hbl'⟩
      have t1 := tupc q1 (tk (SqT.up (g1 _ _ f1)))
      match i13, hx with
      | 0, hx => cases hx; exact t1
      | 1, hx => cases hx; exact t1
      | 2, hx => cases hx; exact t1
      | 3, hx => cases hx; exact t1
      | 4, hx =>
        cases hx
        have hbG : H13 b = some (.lst (cts.map V.ref)) := sb13 _ _ hbrp (eB _ _ hb12)
        exact ⟨.other, ⟨(by intro z; cases z), "list", .lst (SqL.up hbG), by decide⟩, "list", .base (.lst hbG), kit_ty (by decide +kernel)⟩
      | 5, hx => cases hx; exact ⟨.non, rfl, trivial⟩
      | 6, hx =>
        cases hx
        exact ⟨.tup [none], ⟨q4, [.non], rfl, tk (SqT.up (g4 _ _ f4)), .cons rfl .nil, by decide⟩, fun m hm => .inl (List.mem_singleton.mp hm)⟩
      | 7, hx =>
        cases hx
        refine ⟨.tup [some [.bl true]], ⟨q6, [.ref q5], rfl, tk (SqT.up (g6 _ _ f6)), .cons ⟨q5, rfl, tk (SqT.up (g6 _ _ (e6 _ _ f5))), fun y hy => .inr ⟨true, List.mem_singleton.mp hy⟩⟩ .nil, by (show 1 ≤ 1000; decide)⟩, fun m hm => .inr (.inl (List.mem_singleton.mp hm))⟩
      | 8, hx =>
        cases hx
        have h8' : LotAt K H13 q8 [] := tk (SqT.up (g10 _ _ (e10 _ _ (e9 _ _ f8))))
        have hz : SqT K H13 qa ((cts ++ [q8]).map V.ref) := by
          rw [List.map_append]
          exact tk (Same.tup g10 fa)
        refine ⟨.tup (somes (cls ++ [[]])), ⟨qa, _, rfl, hz, paired_somes (paired_app hPb13 (.cons h8' .nil)), by rw [List.length_map, List.length_append]; show cts.length + 1 ≤ 1000; omega⟩, somes_drawn fun l hl => ?_⟩
        rcases List.mem_append.mp hl with z | z
        · exact hbl' l z
        · rw [List.mem_singleton.mp z]
          exact List.nil_sublist _
      | 9, hx =>
        cases hx
        have hdG : H13 qd = some (.dK []) := sb13 _ _ (ne_of (e13 _ _ (e12 _ _ f11)) hrG (by intro y; cases y)) (e13 _ _ (e12 _ _ f11))
        exact ⟨.other, ⟨(by intro z; cases z), "dict", .dK hdG, by decide⟩, "dict", .base (.dK hdG), kit_ty (by decide +kernel)⟩
      | i + 10, hx => cases hx
    clear hPb13 tk
    -- fine
    refine at_gasg ?_
    refine viaE (t := tIf _ _ _) (fun v H' => v = .bl (coverB hs c goal o j) ∧ LamX.ExtN H13 H' ∧ Tb L PL lamQ H') (fun K0 k0 => ?_) (fun v H14 hv => ?_)
    · have eo : decide (dayV o = V.non) = o.isNone := by
        cases o with
        | none => rfl
        | some d => rw [decide_eq_false (by intro z; cases z)]; rfl
      cases j with
      | non =>
        have e : x = .non := hJ
        refine ⟨x, rfl, rfl, true, by rw [e]; rfl, iteT ⟨dayV o, rfl, rfl, ?_⟩⟩
        rw [eo]
        exact k0 _ _ ⟨rfl, LamX.ExtN.refl _, Z13.lk.tb⟩
      | other =>
        refine ⟨x, rfl, rfl, false, by rw [decide_eq_false hJ.1], iteF ⟨dayV o, rfl, rfl, !o.isNone, by rw [eo], ?_⟩⟩
        cases o with
        | none => exact iteF (k0 _ _ ⟨rfl, LamX.ExtN.refl _, Z13.lk.tb⟩)
        | some d =>
          obtain ⟨ty, h1, h2⟩ := hLe
          exact iteT ⟨.ref hp, rfl, .int (c : Int), rfl, .ref gp, rfl, x, rfl, .int (d : Int), rfl, hp, gp, hs, c, d, goal, x, rfl, Z13.lk.house, ok, hn5, Z13.lk.goal, hgl0, Z13.lk.tb, .inl ⟨ty, h1, h2, k0 _ _ ⟨rfl, LamX.ExtN.refl _, Z13.lk.tb⟩⟩⟩
      | tup ms =>
        obtain ⟨p, xs, ex, h1, h2, h3⟩ := hJ
        refine ⟨x, rfl, rfl, false, by rw [ex]; rfl, iteF ⟨dayV o, rfl, rfl, !o.isNone, by rw [eo], ?_⟩⟩
        cases o with
        | none => exact iteF (k0 _ _ ⟨rfl, LamX.ExtN.refl _, Z13.lk.tb⟩)
        | some d =>
          exact iteT ⟨.ref hp, rfl, .int (c : Int), rfl, .ref gp, rfl, x, rfl, .int (d : Int), rfl, hp, gp, hs, c, d, goal, x, rfl, Z13.lk.house, ok, hn5, Z13.lk.goal, hgl0, Z13.lk.tb, .inr ⟨p, xs, ms, ex, h1, h2, h3, hLe, fun H' e T => k0 _ _ ⟨rfl, e, T⟩⟩⟩
    obtain ⟨rfl, e14, T14⟩ := hv
    have Z14 := Z13.ext e14 T14
    have hJ14 := hJ.ext e14
    -- shows_cover_row
    refine ⟨.ref hp, rfl, .int (c : Int), rfl, .ref gp, rfl, x, rfl, hp, gp, hs, c, goal, x, j, rfl, Z14.lk.house, ok, by omega, Z14.lk.goal, okg, hgne, hJ14, Z14.lk.tb, fun H15 o15 e15 T15 hd15 => ?_⟩
    refine ⟨.bl (coverB hs c goal o j), rfl, .bl (coverB hs c goal o j), by rw [show o15 = o from hd15.inj hdy]; rfl, .inr ⟨_, rfl⟩, fun H16 sm16 => ⟨true, rfl, iteF ?_⟩⟩
    have Z16 := (Z14.ext e15 T15).same sm16
    clear Z13 Z14 hJ hJ14 hLe
    -- some
    intro sp hsp
    have sms : Same H16 (upd H16 sp (.dT [])) := same_upd hsp
    have hsp17 : (upd H16 sp (.dT [])) sp = some (.dT []) := upd_same
    generalize upd H16 sp (.dT []) = H17 at sms hsp17
    have Z17 := Z16.same sms
    have hsprp : sp ≠ rp := (let ⟨_, hr⟩ := Z16.lk.row.lst; ne_of_none hr hsp : rp ≠ sp).symm
    -- drawn
    refine ⟨.ref rp, rfl, a, ns, rp, 3, rfl, Z17.lk.row, by omega, by omega, fun H18 nd18 row18 sb18 hnd => ?_⟩
    have Z18 := Z17.but row18 sb18
    have hsp18 := sb18 _ _ hsprp hsp17
    refine ⟨_, rfl, by omega, by omega, fun D2 hD2 => ?_⟩
    show ∃ W, _
    rw [Int.toNat_natCast]
    have hD2rp : D2 ≠ rp := (let ⟨_, hr⟩ := Z18.lk.row.lst; ne_of_none hr hD2 : rp ≠ D2).symm
    have hD2sp : sp ≠ D2 := ne_of_none hsp18 hD2
    refine lc_range (lo := 0) (n := nd18) (fun i H19 => LZ K a ns L PL rp hp lp gp hs lts goal c o vf vm H19 ∧ H19 sp = some (.dT []) ∧ ∃ (us : List Addr) (uls : List (List Nat)), H19 D2 = some (.lst (us.map V.ref)) ∧ Paired (fun t l => TupA H19 t l) us uls ∧ (∀ l ∈ uls, LotOk hs.length l) ∧ uls.length = i)
      ⟨Z18.same (same_upd hD2), same_upd hD2 _ _ hsp18, [], [], upd_same, .nil, (fun l hl => by cases hl), rfl⟩ ?_ ?_
    · rintro i H19 hi ⟨Z19, hsp19, us, uls, hD19, hPu, hul, hulen⟩
      refine ⟨rfl, tYes_if ⟨.ref rp, rfl, .ref lp, rfl, a, ns, rp, lp, _, rfl, Z19.lk.row, SqL.up Z19.lk.lots, Z19.lk.n1, by rw [List.length_map]; omega, by rw [List.length_map]; omega, fun H20 i20 x20 row20 sb20 hx20 => ?_⟩⟩
      have Z20 := Z19.but row20 sb20
      obtain ⟨t2, ht2, rfl⟩ := get_refs hx20
      obtain ⟨l2, hl2, hat2⟩ := paired_at Z20.lk.pl ht2
      have okl2 := mem_allL.mp (List.mem_of_getElem? hl2)
      have hD20 := sb20 _ _ hD2rp hD19
      obtain ⟨xs19, hr19⟩ := Z19.lk.row.lst
      have hPu20 : Paired (fun t l => TupA H20 t l) us uls := paired_mono hPu fun _ _ z => z.but hr19 sb20
      have hul2 : us.length = uls.length := Paired.length hPu
      refine ⟨_, hD20, by rw [List.length_map]; exact small1000 (by omega), Z18.put hD2 Z20 hD20 (.inl ⟨_, rfl⟩), by rw [upd_ne hD2sp]; exact sb20 _ _ hsprp hsp19, us ++ [t2], uls ++ [l2], by rw [upd_same, List.map_append]; rfl, ?_, fun l hl => ?_, by rw [List.length_append, hulen]; rfl⟩
      · exact Cb.paired_snoc (F := fun t l => TupA (upd H20 D2 (.lst (us.map V.ref ++ [V.ref t2]))) t l) (hat2.off hD20) (paired_mono hPu20 fun _ _ z => z.off hD20)
      · rcases List.mem_append.mp hl with z | z
        · exact hul l z
        · rw [List.mem_singleton.mp z]; exact okl2
    rintro H19 ⟨Z19, hsp19, us, uls, hD19, hPu, hul, hulen⟩
    have hul2 : us.length = uls.length := Paired.length hPu
    -- for one in ..
    refine at_gfor ?_
    refine viaE (t := tIf _ _ _) (fun v H' => ∃ (q : Addr) (qts : List Addr) (qls : List (List Nat)), v = .ref q ∧ Same H19 H' ∧ H' q = some (.lst (qts.map V.ref)) ∧ Paired (fun t l => TupA H' t l) qts qls ∧ (∀ l ∈ qls, LotOk hs.length l) ∧ qls.length ≤ 32) (fun K0 k0 => ?_) (fun v H21 hv => ?_)
    · rcases Z19.fa with ⟨⟨d, ho⟩, hv⟩ | ⟨p, es, ho, hv, ⟨ts, h3, h4⟩, h5⟩
      · refine ⟨vm, rfl, rfl, false, by rw [hv]; rfl, iteF ?_⟩
        refine ⟨by decide, fun t0 ht0 => ⟨by (show 1 ≤ sizeLine; decide), fun b2 hb2 => ?_⟩⟩
        have s1 : Same H19 (upd H19 t0 (.tup [])) := same_upd ht0
        have s2 : Same (upd H19 t0 (.tup [])) (upd (upd H19 t0 (.tup [])) b2 (.lst [.ref t0])) := same_upd hb2
        refine k0 _ _ ⟨b2, [t0], [[]], rfl, s1.trans s2, upd_same, .cons (s2 _ _ upd_same) .nil, fun l hl => ?_, by decide⟩
        rw [List.mem_singleton.mp hl]
        exact List.nil_sublist _
      · refine ⟨vm, rfl, rfl, true, by rw [hv]; rfl, iteT ?_⟩
        refine ⟨vm, rfl, p, ts.map V.ref, by rw [hv], .inr h3, fun b2 hb2 => ?_⟩
        have s1 : Same H19 (upd H19 b2 (.lst (ts.map V.ref))) := same_upd hb2
        exact k0 _ _ ⟨b2, ts, famL es, rfl, s1, upd_same, paired_mono h4 fun _ _ z => z.same s1, fun l hl => fam_ok ok h5 hl, fam_len ok hn5 h5⟩
    obtain ⟨q5, qts, qls, rfl, sm21, hq21, hPq, hql, hql32⟩ := hv
    have hqlen : qts.length = qls.length := Paired.length hPq
    refine ⟨.ref D2, rfl, q5, D2, _, _, rfl, rfl, hq21, sm21 _ _ hD19, by rw [List.length_map, List.length_map]; exact Nat.le_of_lt (small1000 (by omega)), fun q6 hq6 => ?_⟩
    rw [← List.map_append]
    have sm22 : Same H21 (upd H21 q6 (.lst ((qts ++ us).map V.ref))) := same_upd hq6
    have hq22 : (upd H21 q6 (.lst ((qts ++ us).map V.ref))) q6 = some (.lst ((qts ++ us).map V.ref)) := upd_same
    generalize upd H21 q6 (.lst ((qts ++ us).map V.ref)) = H22 at sm22 hq22
    have s1922 := sm21.trans sm22
    have hPa : Paired (fun t l => TupA H22 t l) (qts ++ us) (qls ++ uls) := paired_app (paired_mono hPq fun _ _ z => z.same sm22) (paired_mono hPu fun _ _ z => z.same s1922)
    have hal : ∀ l ∈ qls ++ uls, LotOk hs.length l := fun l hl => (List.mem_append.mp hl).elim (hql l) (hul l)
    have Z22 := Z19.same s1922
    have hq6rp : q6 ≠ rp := (let ⟨_, hr⟩ := Z19.lk.row.lst; ne_of_none (sm21 _ _ hr) hq6 : rp ≠ q6).symm
    generalize qts ++ us = ats at hq22 hPa
    generalize qls ++ uls = als at hPa hal
    refine ⟨q6, rfl, ⟨_, SqL.up hq22⟩, for_list (K := K) (a := q6) (xs := ats.map V.ref) (fun i2 σ H23 => (∃ v18 v19 v20 : Option V, σ = [some (.ref a), some (.ref rp), some (.int m), some (.ref hp), some (.int (c : Int)), some (.ref lp), some (.ref gp), some (.ref cv), some (.ref lt), some (dayV o), some vf, some vm, some (.int (0 + (i : Int))), some (.ref b), some x, some (.bl (coverB hs c goal o j)), some (.ref sp), some (.ref D2), v18, v19, v20]) ∧
        LZ K a ns L PL rp hp lp gp hs lts goal c o vf vm H23 ∧ H23 q6 = some (.lst (ats.map V.ref)) ∧ Paired (fun t l => TupA H23 t l) ats als ∧ ∃ (kvs : List (List Key × V)) (kk : List (List Nat)), H23 sp = some (.dT kvs) ∧ kvs.map (·.1) = kk.map keyL ∧ kk.Nodup ∧ ∀ S ∈ kk, LotOk hs.length S)
      ⟨⟨_, _, _, rfl⟩, Z22, hq22, hPa, [], [], s1922 _ _ hsp19, rfl, List.nodup_nil, fun S hS => by cases hS⟩ (fun i2 σ H23 _ h23 => SqL.up h23.2.2.1) ?_ ?_⟩
    · rintro i2 y σ H23 hi2 ⟨⟨v18, v19, v20, rfl⟩, Z23, hq23, hP23, kvs, kk, hd23, hk23, nd23, hkk⟩
      obtain ⟨t3, ht3, rfl⟩ := get_refs hi2
      obtain ⟨S, hS, hat3⟩ := paired_at hP23 ht3
      have okS := hal S (List.mem_of_getElem? hS)
      refine ⟨.ref rp, rfl, a, ns, rp, 6, rfl, Z23.lk.row, by omega, by omega, fun H24 u24 row24 sb24 hu24 => ?_⟩
      have Z24 := Z23.but row24 sb24
      obtain ⟨xs23, hr23⟩ := Z23.lk.row.lst
      have hq24 := sb24 _ _ hq6rp hq23
      have hd24 := sb24 _ _ hsprp hd23
      have hP24 : Paired (fun t l => TupA H24 t l) ats als := paired_mono hP23 fun _ _ z => z.but hr23 sb24
      have hat24 := hat3.but hr23 sb24
      refine ⟨_, _, rfl, rfl, decide (0 < u24), congrArg V.bl (decide_eq_decide.mpr (by omega)), ?_⟩
      have hkl : kvs.length ≤ 32 := by
        have z := congrArg List.length hk23
        rw [List.length_map, List.length_map] at z
        rw [z]
        exact lots_len hn5 nd23 hkk
      by_cases hb24 : 0 < u24
      · rw [decide_eq_true hb24]
        refine iteT ⟨.ref sp, rfl, .ref t3, rfl, sp, _, rfl, DPut.t (k := keyL S) hd24 (by rw [keyL_V]; exact hat24) (small1000 (by omega)), ?_⟩
        obtain ⟨kk', a1, a2, a3⟩ := putG_keys (f := keyL) keyL_inj (v := S) (x := .bl true) hk23
        have hsq : q6 ≠ sp := ne_of hq24 hd24 (by intro z; cases z)
        refine ⟨⟨_, _, _, rfl⟩, Z16.put hsp Z24 hd24 (.inr ⟨_, rfl⟩), by rw [upd_ne hsq]; exact hq24, paired_mono hP24 (fun _ _ z => z.soft hd24 (.inr ⟨_, rfl⟩) but_upd), _, kk', upd_same, a1, a3 nd23, fun S' hS' => ?_⟩
        rcases (a2 S').mp hS' with z | z
        · exact hkk S' z
        · rw [z]; exact okS
      · rw [decide_eq_false hb24]
        exact iteF ⟨⟨_, _, _, rfl⟩, Z24, hq24, hP24, kvs, kk, hd24, hk23, nd23, hkk⟩
    · rintro σ H23 ⟨⟨v18, v19, v20, rfl⟩, Z23, hq23, hP23, kvs, kk, hd23, hk23, nd23, hkk⟩
      have hk32 := lots_len hn5 nd23 hkk
      refine ⟨.ref sp, rfl, sp, kvs, rfl, .inl hd23, fun pk bs hpk hK => ?_⟩
      have hPk := isKeys_lots hK hk23
      have s24 : Same H23 (upd H23 pk (.lst (bs.map V.ref))) := same_upd hpk
      have h24 : (upd H23 pk (.lst (bs.map V.ref))) pk = some (.lst (bs.map V.ref)) := upd_same
      generalize upd H23 pk (.lst (bs.map V.ref)) = H24 at s24 h24
      refine ⟨pk, bs, kk, rfl, SqL.up h24, paired_mono hPk (fun t l z => TupA.lot (s24 _ _ z)), fun ts' pso hPs _ hpso => ?_⟩
      have s25 : Same H24 (upd H24 pso (.lst (ts'.map V.ref))) := same_upd hpso
      have h25 : (upd H24 pso (.lst (ts'.map V.ref))) pso = some (.lst (ts'.map V.ref)) := upd_same
      generalize upd H24 pso (.lst (ts'.map V.ref)) = H25 at s25 h25
      refine ⟨pso, _, rfl, .inl ⟨SqL.up h25, fun tv htv => ?_⟩⟩
      have s26 : Same H25 (upd H25 tv (.tup (ts'.map V.ref))) := same_upd htv
      have h26 : (upd H25 tv (.tup (ts'.map V.ref))) tv = some (.tup (ts'.map V.ref)) := upd_same
      generalize upd H25 tv (.tup (ts'.map V.ref)) = H26 at s26 h26
      have Z26 := Z23.same (s24.trans (s25.trans s26))
      have hP26 : Paired (fun t l => LotAt K H26 t l) ts' (kk.mergeSort tupLe) := paired_mono hPs fun _ _ z => z.same (s25.trans s26)
      have hsl : (kk.mergeSort tupLe).length = kk.length := List.length_mergeSort kk
      have hso : ∀ l ∈ kk.mergeSort tupLe, LotOk hs.length l := fun l hl => hkk l (mem_sort.mp hl)
      have hsa : Asc (kk.mergeSort tupLe) := asc_sort nd23
      generalize kk.mergeSort tupLe = sl at hP26 hsl hso hsa
      refine ⟨.ref hp, rfl, .int (c : Int), rfl, .ref gp, rfl, .ref tv, rfl, hp, gp, hs, c, goal, .ref tv, .tup (somes sl), rfl, Z26.lk.house, ok, by omega, Z26.lk.goal, okg, hgne, lots_jv ⟨ts', SqT.up h26, hP26⟩ (by omega), Z26.lk.tb, fun H27 o27 e27 T27 _ => ?_⟩
      have Z27 := Z26.ext e27 T27
      refine ⟨.ref hp, rfl, .int (c : Int), rfl, .ref gp, rfl, .ref tv, rfl, hp, gp, tv, hs, c, goal, ts', sl, rfl, Z27.lk.house, ok, hn5, Z27.lk.goal, hgl0, Z27.lk.tb, SqT.up (e27 _ _ h26 (fun ps z => by cases z)), paired_mono hP26 (fun _ _ z => z.ext e27), hso, hsa, by omega, fun H28 e28 T28 => ?_⟩
      have Z28 := Z27.ext e28 T28
      refine ⟨.bl (lawB hs c goal sl), by rw [show closedFamB hs c goal o27 (.tup (somes sl)) = lawB hs c goal sl from fam_law hsa hso]; rfl, .inr ⟨_, rfl⟩, fun H29 sm29 => ⟨true, rfl, iteF ?_⟩⟩
      exact ⟨⟨_, _, _, _, _, _, _, _, _, rfl⟩, Z28.same sm29⟩
  · rintro σ H8 ⟨⟨v12, v13, v14, v15, v16, v17, v18, v19, v20, rfl⟩, Z8⟩
    -- what is no family
    have eo : decide (dayV o = V.non) = o.isNone := by
      cases o with
      | none => rfl
      | some d => rw [decide_eq_false (by intro z; cases z)]; rfl
    refine ⟨by decide, fun p1 hp1 => ?_⟩
    have e1 : Same H8 (upd H8 p1 (.tup [])) := same_upd hp1
    have f1 : (upd H8 p1 (.tup [])) p1 = some (.tup []) := upd_same
    generalize upd H8 p1 (.tup []) = G1 at e1 f1
    refine ⟨by decide, fun p2 hp2 => ⟨by (show 1 ≤ sizeLine; decide), fun p3 hp3 => ?_⟩⟩
    have e2 : Same G1 (upd G1 p2 (.tup [])) := same_upd hp2
    generalize upd G1 p2 (.tup []) = G2 at e2 hp3
    have e3 : Same G2 (upd G2 p3 (.lst [.ref p2])) := same_upd hp3
    have f3 : (upd G2 p3 (.lst [.ref p2])) p3 = some (.lst [.ref p2]) := upd_same
    generalize upd G2 p3 (.lst [.ref p2]) = G3 at e3 f3
    refine ⟨by decide, fun p4 hp4 => ⟨by decide, fun p5 hp5 => ⟨by (show 2 ≤ sizeLine; decide), fun p6 hp6 => ?_⟩⟩⟩
    have e4 : Same G3 (upd G3 p4 (.tup [])) := same_upd hp4
    have f4 : (upd G3 p4 (.tup [])) p4 = some (.tup []) := upd_same
    generalize upd G3 p4 (.tup []) = G4 at e4 f4 hp5 hp6
    have e5 : Same G4 (upd G4 p5 (.tup [])) := same_upd hp5
    have f5 : (upd G4 p5 (.tup [])) p5 = some (.tup []) := upd_same
    generalize upd G4 p5 (.tup []) = G5 at e5 f5 hp6
    have e6 : Same G5 (upd G5 p6 (.tup [.ref p4, .ref p5])) := same_upd hp6
    have f6 : (upd G5 p6 (.tup [.ref p4, .ref p5])) p6 = some (.tup [.ref p4, .ref p5]) := upd_same
    generalize upd G5 p6 (.tup [.ref p4, .ref p5]) = G6 at e6 f6
    refine ⟨by decide, fun p7 hp7 => ⟨by (show 1 ≤ sizeLine; decide), fun p8 hp8 => ?_⟩⟩
    have e7 : Same G6 (upd G6 p7 (.tup [.int 1, .int 0])) := same_upd hp7
    have f7 : (upd G6 p7 (.tup [.int 1, .int 0])) p7 = some (.tup [.int 1, .int 0]) := upd_same
    generalize upd G6 p7 (.tup [.int 1, .int 0]) = G7 at e7 f7 hp8
    have e8 : Same G7 (upd G7 p8 (.tup [.ref p7])) := same_upd hp8
    have f8 : (upd G7 p8 (.tup [.ref p7])) p8 = some (.tup [.ref p7]) := upd_same
    generalize upd G7 p8 (.tup [.ref p7]) = G8 at e8 f8
    refine ⟨by decide, fun p9 hp9 => ?_⟩
    have e9 : Same G8 (upd G8 p9 (.tup [.non])) := same_upd hp9
    have f9 : (upd G8 p9 (.tup [.non])) p9 = some (.tup [.non]) := upd_same
    generalize upd G8 p9 (.tup [.non]) = G9 at e9 f9
    intro pa hpa
    have e10 : Same G9 (upd G9 pa (.dK [])) := same_upd hpa
    have f10 : (upd G9 pa (.dK [])) pa = some (.dK []) := upd_same
    generalize upd G9 pa (.dK []) = G10 at e10 f10
    refine ⟨by decide, fun pb hpb => ⟨by (show 1 ≤ sizeLine; decide), fun pc hpc => ?_⟩⟩
    have e11 : Same G10 (upd G10 pb (.tup [.bl true])) := same_upd hpb
    have f11 : (upd G10 pb (.tup [.bl true])) pb = some (.tup [.bl true]) := upd_same
    generalize upd G10 pb (.tup [.bl true]) = G11 at e11 f11 hpc
    have e12 : Same G11 (upd G11 pc (.tup [.ref pb])) := same_upd hpc
    have f12 : (upd G11 pc (.tup [.ref pb])) pc = some (.tup [.ref pb]) := upd_same
    generalize upd G11 pc (.tup [.ref pb]) = G12 at e12 f12
    refine ⟨.ref gp, rfl, by (show 1 ≤ sizeLine; decide), fun pd hpd => ?_⟩
    have e13 : Same G12 (upd G12 pd (.tup [.ref gp])) := same_upd hpd
    have f13 : (upd G12 pd (.tup [.ref gp])) pd = some (.tup [.ref gp]) := upd_same
    generalize upd G12 pd (.tup [.ref gp]) = G13 at e13 f13
    refine ⟨by (show 9 ≤ sizeLine; decide), fun pl hpl => ?_⟩
    have e14 : Same G13 (upd G13 pl (.lst [.ref p1, .ref p3, .ref p6, .ref p8, .ref p9, .ref pa, .str "0", .ref pc, .ref pd])) := same_upd hpl
    have f14 : (upd G13 pl (.lst [.ref p1, .ref p3, .ref p6, .ref p8, .ref p9, .ref pa, .str "0", .ref pc, .ref pd])) pl = some (.lst [.ref p1, .ref p3, .ref p6, .ref p8, .ref p9, .ref pa, .str "0", .ref pc, .ref pd]) := upd_same
    generalize upd G13 pl (.lst [.ref p1, .ref p3, .ref p6, .ref p8, .ref p9, .ref pa, .str "0", .ref pc, .ref pd]) = G14 at e14 f14
    have u13 := e14
    have u12 := e13.trans u13
    have u11 := e12.trans u12
    have u10 := e11.trans u11
    have u9 := e10.trans u10
    have u8 := e9.trans u9
    have u7 := e8.trans u8
    have u6 := e7.trans u7
    have u5 := e6.trans u6
    have u4 := e5.trans u5
    have u3 := e4.trans u4
    have u2 := e3.trans u3
    have u1 := e2.trans u2
    have u0 := e1.trans u1
    have ZG := Z8.same u0
    have all : ∀ (i : Nat) (y : V), ([.ref p1, .ref p3, .ref p6, .ref p8, .ref p9, .ref pa, .str "0", .ref pc, .ref pd] : List V)[i]? = some y → ∃ j, JVAt K G14 y j ∧ ∀ o', closedFamB hs c goal o' j = false := by
      intro i y hy
      match i, hy with
      | 0, hy => cases hy; exact ⟨.tup [], ⟨p1, [], rfl, SqT.up (u1 _ _ f1), .nil, by decide⟩, fun _ => bad_nil hs c goal⟩
      | 1, hy => cases hy; exact ⟨.other, ⟨(by intro z; cases z), "list", .lst (SqL.up (u3 _ _ f3)), by decide⟩, fun _ => rfl⟩
      | 2, hy =>
        cases hy
        exact ⟨.tup [some [], some []], ⟨p6, _, rfl, SqT.up (u6 _ _ f6), .cons ⟨p4, rfl, SqT.up (u4 _ _ f4), fun y hy => by cases hy⟩ (.cons ⟨p5, rfl, SqT.up (u5 _ _ f5), fun y hy => by cases hy⟩ .nil), by (show 2 ≤ 1000; decide)⟩, fun _ => bad_two hs c goal⟩
      | 3, hy =>
        cases hy
        refine ⟨.tup [some [.int 1, .int 0]], ⟨p8, _, rfl, SqT.up (u8 _ _ f8), .cons ⟨p7, rfl, SqT.up (u7 _ _ f7), fun y hy => ?_⟩ .nil, by (show 1 ≤ 1000; decide)⟩, fun _ => bad_down hs c goal⟩
        rcases List.mem_cons.mp hy with z | z
        · exact .inl ⟨_, z⟩
        · exact .inl ⟨_, List.mem_singleton.mp z⟩
      | 4, hy => cases hy; exact ⟨.tup [none], ⟨p9, _, rfl, SqT.up (u9 _ _ f9), .cons rfl .nil, by decide⟩, fun _ => bad_none hs c goal⟩
      | 5, hy => cases hy; exact ⟨.other, ⟨(by intro z; cases z), "dict", .dK (u10 _ _ f10), by decide⟩, fun _ => rfl⟩
      | 6, hy => cases hy; exact ⟨.other, ⟨(by intro z; cases z), "str", .str _, by decide⟩, fun _ => rfl⟩
      | 7, hy =>
        cases hy
        exact ⟨.tup [some [.bl true]], ⟨pc, _, rfl, SqT.up (u12 _ _ f12), .cons ⟨pb, rfl, SqT.up (u11 _ _ f11), fun y hy => .inr ⟨true, List.mem_singleton.mp hy⟩⟩ .nil, by (show 1 ≤ 1000; decide)⟩, fun _ => bad_true hs c goal⟩
      | 8, hy =>
        cases hy
        exact ⟨.tup [some (lotV goal)], ⟨pd, _, rfl, SqT.up (u13 _ _ f13), .cons (lot_itm ZG.lk.goal) .nil, by (show 1 ≤ 1000; decide)⟩, fun _ => bad_goal hs c goal okg⟩
      | i + 9, hy => cases hy
    refine ⟨pl, rfl, ⟨_, SqL.up f14⟩, for_list (K := K) (a := pl) (xs := [.ref p1, .ref p3, .ref p6, .ref p8, .ref p9, .ref pa, .str "0", .ref pc, .ref pd]) (fun i2 σ H23 => (∃ v12 v13 v14 v15 v16 v17 v18 v19 v20 : Option V, σ = [some (.ref a), some (.ref rp), some (.int m), some (.ref hp), some (.int (c : Int)), some (.ref lp), some (.ref gp), some (.ref cv), some (.ref lt), some (dayV o), some vf, some vm, v12, v13, v14, v15, v16, v17, v18, v19, v20]) ∧
        LamX.ExtN G14 H23 ∧ Tb L PL lamQ H23)
      ⟨⟨_, _, _, _, _, _, _, _, _, rfl⟩, LamX.ExtN.refl _, ZG.lk.tb⟩ (fun i2 σ H23 _ h23 => So.extN_seqL h23.2.1 (SqL.up f14)) ?_ ?_⟩
    · rintro i2 y σ H23 hi2 ⟨⟨v12, v13, v14, v15, v16, v17, v18, v19, v20, rfl⟩, e23, T23⟩
      obtain ⟨j, hJ, hno⟩ := all i2 y hi2
      have Z23 := ZG.ext e23 T23
      refine ⟨.ref hp, rfl, .int (c : Int), rfl, .ref gp, rfl, y, rfl, hp, gp, hs, c, goal, y, j, rfl, Z23.lk.house, ok, by omega, Z23.lk.goal, okg, hgne, hJ.ext e23, Z23.lk.tb, fun H24 o24 e24 T24 _ => ?_⟩
      refine ⟨false, false, by rw [hno o24], rfl, false, by rw [decide_eq_true rfl]; rfl, iteF ?_⟩
      exact ⟨⟨_, _, _, _, _, _, _, _, _, rfl⟩, e23.trans e24, T24⟩
    · rintro σ H23 ⟨⟨v12, v13, v14, v15, v16, v17, v18, v19, v20, rfl⟩, e23, T23⟩
      have Z23 := ZG.ext e23 T23
      refine ⟨.ref hp, rfl, .int (c : Int), rfl, .ref gp, rfl, hp, gp, hs, c, goal, .non, .non, rfl, Z23.lk.house, ok, by omega, Z23.lk.goal, okg, hgne, rfl, Z23.lk.tb, fun H24 o24 e24 T24 hd24 => ?_⟩
      refine ⟨dayV o, rfl, rfl, .bl o.isSome, by rw [show o24 = o from hd24.inj hdy, eo]; cases o <;> rfl, .inr ⟨_, rfl⟩, fun H25 sm25 => ?_⟩
      rw [hD]
      exact q _
end
end N

set_option Elab.async false
set_option linter.all false
set_option maxRecDepth 100000
set_option maxHeartbeats 8000000
/-! law -/
namespace N
open Cb (lotV combs combsOf combsOf_sub)
open PySem PySem.Spec PyProof.Rows L2
section
variable {P : Program} {w : World} {K : PySem.W.Frag} {mg : Str → Option Value} {base : Heap}
theorem ok_law {f : Addr} {fd : FuncData} {L : List Addr} {cL PL cC PC cS PS cF PF cI PI : Addr} (F : Fun K "law" "law" s_law f fd) (T : Txt K mg) (hcL : T.d__law_lots.fd.code = .ref cL) (TBL : LamX.TabB base mg cL PL)
    (hcC : T.d__row_covers.fd.code = .ref cC) (TBC : GxR.TabB base mg cC PC) (hcS : T.d_shows_closed_family.fd.code = .ref cS) (TBS : GxR.TabB base mg cS PS)
    (hcF : T.d__is_family.fd.code = .ref cF) (TBF : GxR.TabB base mg cF PF) (hcI : T.d__is_closed.fd.code = .ref cI) (TBI : GxR.TabB base mg cI PI) (mC : PC ∈ L) (mS : PS ∈ L) (mF : PF ∈ L) (mI : PI ∈ L) :
    FnOk P w K mg base CX0 8 f fd ["script"] (spLaw K L PL) := by
  have Gt := ok_taken (P := P) (w := w) (base := base) T
  have Gp := ok_pick (P := P) (w := w) (base := base) T
  have Gh := ok_house (P := P) (w := w) (base := base) T
  have Gl := ok_lots (P := P) (w := w) (base := base) (L := L) T hcL TBL
  have Gn := ok_number (P := P) (w := w) (base := base) (L := L) T hcL TBL
  have Gd := ok_days (P := P) (w := w) (base := base) (L := L) T hcL TBL
  have Gnx := ok_next (P := P) (w := w) (base := base) T
  have Gaf := ok_after (P := P) (w := w) (base := base) T
  have Gsn := ok_slate_number (P := P) (w := w) (base := base) T
  have Gno := ok_number_of (P := P) (w := w) (base := base) T
  have Gdt := ok_days_to (P := P) (w := w) (base := base) T
  have Gcr := ok_cover_row (P := P) (w := w) (base := base) T
  have Gcf := ok_closed_family (P := P) (w := w) (base := base) T
  have Gsc := ok_shows_cover (P := P) (w := w) (base := base) (L := L) (PL := PL) T hcC TBC mC
  have Gsf := ok_shows_closed (P := P) (w := w) (base := base) (L := L) (PL := PL) T hcS TBS hcF TBF hcI TBI mS mF mI
  have Gld := ok_leads (P := P) (w := w) (base := base) (L := L) T hcL TBL
  have Glc := ok_lclosed (P := P) (w := w) (base := base) (L := L) T hcL TBL
  have Ga := ok_alike0 (P := P) (w := w) (base := base) T
  have Gz := ok_alike1 (P := P) (w := w) (base := base) T
  have Gao := FnOk_or (ok_alike0 (P := P) (w := w) (base := base) T) (ok_alikeN (P := P) (w := w) (base := base) T)
  refine F.ok sc_law (fun vs H Q E h => ?_) (fun cdv A outer s H vs Q E hr h => ?_)
  · obtain ⟨a, ns, rfl, _⟩ := h
    rfl
  · obtain ⟨a, ns, rfl, hS, hT, q⟩ := h
    have nd := sc_law.nd
    have hu := hu_of hr
    have hr1 : Room 1 _ := hr.mono (by decide)
    have hr2 : Room 2 _ := hr.mono (by decide)
    have hr3 : Room 3 _ := hr.mono (by decide)
    have hr4 : Room 4 _ := hr.mono (by decide)
    have hr5 : Room 5 _ := hr.mono (by decide)
    have hr6 : Room 6 _ := hr.mono (by decide)
    obtain ⟨tTail, hTail, kTail⟩ := ok_tail (P := P) (w := w) (base := base) (L := L) (PL := PL) T hcL TBL hcC TBC hcS TBS hcF TBF hcI TBI mC mS mF mI (f := f) (cdv := cdv) (outer := outer) (s := s) (H := H) (E := E) hr
    refine ⟨_, (pss_cons (ps_set (i := 1) nd rfl (.inr rfl) (pe_lst (pa_cons (pv 0) (pa_cons pe_int (pa_cons pe_int (pa_cons pe_int pa_nil))))))
      (pss_cons (ps_set (i := 2) nd rfl (.inl rfl) (pe_op op_add pe_int (pe_call Gt hr1 (by rfl) T.d__law_taken.g T.d__law_taken.F.kp T.d__law_taken.b .nil pass0 (pa_cons (pv 1) (pa_cons pe_int pa_nil)))))
      (pss_cons (ps_par (i := 3) (j := 4) rfl nd rfl rfl (by decide) rfl rfl (pa_cons (pe_call Gh hr2 (by rfl) T.d__law_house.g T.d__law_house.F.kp T.d__law_house.b .nil pass0 (pa_cons (pv 1) (pa_cons (pv 2) (pa_cons pe_int pa_nil)))) (pa_cons (pe_call Gt hr1 (by rfl) T.d__law_taken.g T.d__law_taken.F.kp T.d__law_taken.b .nil pass0 (pa_cons (pv 1) (pa_cons pe_int pa_nil))) pa_nil)) (by rfl))
      (pss_cons (ps_set (i := 5) nd rfl (.inr rfl) (pe_call Gl hr2 (by rfl) T.d__law_lots.g T.d__law_lots.F.kp T.d__law_lots.b .nil pass0 (pa_cons (pv 2) pa_nil)))
      (pss_cons (ps_set (i := 6) nd rfl (.inl rfl) (pe_ix ix_list (pv 5) (pe_op op_add pe_int (pe_call Gt hr1 (by rfl) T.d__law_taken.g T.d__law_taken.F.kp T.d__law_taken.b .nil pass0 (pa_cons (pv 1) (pa_cons (pe_op op_sub (pe_callB call_len_seq (by rfl) T.n_len PySem.boot_len (pa_cons (pv 5) pa_nil)) pe_int) pa_nil)))) (fun _ _ => rfl)))
      (pss_cons (ps_par (i := 7) (j := 8) rfl nd rfl rfl (by decide) rfl rfl (pa_cons (pe_call Gp hr2 (by rfl) T.d__law_pick.g T.d__law_pick.F.kp T.d__law_pick.b .nil pass0 (pa_cons (pv 1) (pa_cons (pv 5) pa_nil))) (pa_cons (pe_call Gp hr2 (by rfl) T.d__law_pick.g T.d__law_pick.F.kp T.d__law_pick.b .nil pass0 (pa_cons (pv 1) (pa_cons (pv 5) pa_nil))) pa_nil)) (by rfl))
      (pss_cons (ps_if (pt_not (pt_val (pe_call Gz hr2 (by rfl) T.d__law_alike.g T.d__law_alike.F.kp T.d__law_alike.b .nil pass0 (pa_cons (pe_call Gaf hr4 (by rfl) T.d_after.g T.d_after.F.kp T.d_after.b .nil pass0 (pa_cons (pv 3) (pa_cons (pv 7) (pa_cons (pv 8) pa_nil)))) (pa_cons (pe_call Gnx hr1 (by rfl) T.d__law_next.g T.d__law_next.F.kp T.d__law_next.b .nil pass0 (pa_cons (pv 3) (pa_cons (pv 7) (pa_cons (pv 8) pa_nil)))) pa_nil))))) (pss_one ps_never) pss_nil)
      (pss_cons (ps_if (pt_not (pt_val (pe_call Ga hr1 (by rfl) T.d__law_alike.g T.d__law_alike.F.kp T.d__law_alike.b .nil pass0 (pa_cons (pe_call Gsn (hr.mono (by decide)) (by rfl) T.d_slate_number.g T.d_slate_number.F.kp T.d_slate_number.b .nil pass0 (pa_cons (pv 3) pa_nil)) (pa_cons (pe_call Gn hr5 (by rfl) T.d__law_number.g T.d__law_number.F.kp T.d__law_number.b .nil pass0 (pa_cons (pv 3) (pa_cons (pe_ix ix_list (pv 5) (pe_un un_neg pe_int) (fun _ _ => rfl)) pa_nil))) pa_nil))))) (pss_one ps_never) pss_nil)
      (pss_cons (ps_if (pt_not (pt_val (pe_call Ga hr1 (by rfl) T.d__law_alike.g T.d__law_alike.F.kp T.d__law_alike.b .nil pass0 (pa_cons (pe_call Gno (hr.mono (by decide)) (by rfl) T.d_number_of.g T.d_number_of.F.kp T.d_number_of.b .nil pass0 (pa_cons (pv 3) (pa_cons (pv 6) pa_nil))) (pa_cons (pe_call Gn hr5 (by rfl) T.d__law_number.g T.d__law_number.F.kp T.d__law_number.b .nil pass0 (pa_cons (pv 3) (pa_cons (pv 6) pa_nil))) pa_nil))))) (pss_one ps_never) pss_nil)
      (pss_cons (ps_set (i := 9) nd rfl (.inl rfl) (pe_call Gd hr4 (by rfl) T.d__law_days.g T.d__law_days.F.kp T.d__law_days.b .nil pass0 (pa_cons (pv 3) (pa_cons (pv 4) (pa_cons (pv 6) pa_nil)))))
      (pss_cons (ps_if (pt_not (pt_val (pe_call Gao hr1 (by rfl) T.d__law_alike.g T.d__law_alike.F.kp T.d__law_alike.b .nil pass0 (pa_cons (pe_call Gdt hr (by rfl) T.d_days_to.g T.d_days_to.F.kp T.d_days_to.b .nil pass0 (pa_cons (pv 3) (pa_cons (pv 4) (pa_cons (pv 6) pa_nil)))) (pa_cons (pv 9) pa_nil))))) (pss_one ps_never) pss_nil)
      (pss_cons (ps_par (i := 10) (j := 11) rfl nd rfl rfl (by decide) rfl rfl (pa_cons (pe_call Gcr hr6 (by rfl) T.d_cover_row.g T.d_cover_row.F.kp T.d_cover_row.b .nil pass0 (pa_cons (pv 3) (pa_cons (pv 4) (pa_cons (pv 6) pa_nil)))) (pa_cons (pe_call Gcf hr6 (by rfl) T.d_closed_family.g T.d_closed_family.F.kp T.d_closed_family.b .nil pass0 (pa_cons (pv 3) (pa_cons (pv 4) (pa_cons (pv 6) pa_nil)))) pa_nil)) (by rfl))
      (pss_cons (ps_if (PW.pt (pw_or (pt_cmpR op_ne (pe_cmpR op_isN (pv 10) pe_non (nomark _)) (pe_cmpR op_isN (pv 9) pe_non (nomark _)) (nomark _)) (pw_or1 (pt_cmpR op_ne (pe_cmpR op_isN (pv 11) pe_non (nomark _)) (pe_cmpR op_notN (pv 9) pe_non (nomark _)) (nomark _))))) (pss_one ps_never) pss_nil)
      (pss_cons (ps_if (pt_cmpR op_notBl (pe_call Gsc hr (by rfl) T.d_shows_cover_row.g T.d_shows_cover_row.F.kp T.d_shows_cover_row.b .nil pass0 (pa_cons (pv 3) (pa_cons (pv 4) (pa_cons (pv 6) (pa_cons (pv 10) pa_nil))))) pe_bl (nomark _)) (pss_one ps_never) pss_nil)
      (pss_cons (ps_if (pt_cmpR op_notBl (pe_call Gsf hr6 (by rfl) T.d_shows_closed_family.g T.d_shows_closed_family.F.kp T.d_shows_closed_family.b .nil pass0 (pa_cons (pv 3) (pa_cons (pv 4) (pa_cons (pv 6) (pa_cons (pv 11) pa_nil))))) pe_bl (nomark _)) (pss_one ps_never) pss_nil)
      (pss_cons (ps_if (PW.pt (pw_and (pt_cmpR op_notN (pv 10) pe_non (nomark _)) (pw_and1 (pt_not (pt_val (pe_call Gld hr3 (by rfl) T.d__law_leads.g T.d__law_leads.F.kp T.d__law_leads.b .nil pass0 (pa_cons (pv 3) (pa_cons (pv 4) (pa_cons (pv 6) (pa_cons (pv 10) (pa_cons (pv 9) pa_nil))))))))))) (pss_one ps_never) pss_nil)
      (pss_cons (ps_if (PW.pt (pw_and (pt_cmpR op_notN (pv 11) pe_non (nomark _)) (pw_and1 (pt_not (pt_val (pe_call Glc hr3 (by rfl) T.d__law_closed.g T.d__law_closed.F.kp T.d__law_closed.b .nil pass0 (pa_cons (pv 3) (pa_cons (pv 4) (pa_cons (pv 6) (pa_cons (pv 11) pa_nil)))))))))) (pss_one ps_never) pss_nil)
      hTail))))))))))))))))), ?_⟩
    -- row
    refine ⟨.ref a, rfl, by (show 4 ≤ sizeLine; decide), fun rp hrp => ?_⟩
    have s1 : Same H (upd H rp (.lst [.ref a, .int 0, .int 1601, .int 0])) := same_upd hrp
    have hT1 := hT.ext s1
    have row1 : RowAt K a ns (upd H rp (.lst [.ref a, .int 0, .int 1601, .int 0])) rp := by
      refine ⟨0, 1601, 0, upd_same, Same.seq s1 hS, Int.le_refl _, ?_⟩
      rcases hS with (z | ⟨o', z⟩) | z
      · exact .inl (ne_of_none z hrp).symm
      · exact .inl (ne_of_none z hrp).symm
      · exact .inr fun H' => .inr z
    generalize upd H rp (.lst [.ref a, .int 0, .int 1601, .int 0]) = H1 at row1 hT1
    -- many
    refine ⟨.ref rp, rfl, a, ns, rp, 5, rfl, row1, by omega, by omega, fun H2 m row2 sb2 hm => ?_⟩
    obtain ⟨xs1, hr1'⟩ := row1.lst
    have hT2 := hT1.but hr1' sb2
    refine ⟨1, m, rfl, rfl, ?_⟩
    have em : (1 : Int) + (m : Int) = ((m + 1 : Nat) : Int) := by omega
    -- house, coins
    refine ⟨.ref rp, rfl, _, rfl, a, ns, rp, m + 1, 3, by show [V.ref rp, V.int ((1 : Int) + (m : Int)), V.int 3] = _; rw [em]; rfl, row2, by omega, by omega, by omega, by omega, fun H3 hp hs row3 sb3 hh ok hlen => ?_⟩
    obtain ⟨xs2, hr2'⟩ := row2.lst
    have hT3 := hT2.but hr2' sb3
    have hn5 : hs.length ≤ 5 := by omega
    have hn1 : 1 ≤ hs.length := by omega
    refine ⟨.ref rp, rfl, a, ns, rp, 4, rfl, row3, by omega, by omega, fun H4 c row4 sb4 hc => ?_⟩
    obtain ⟨xs3, hr3'⟩ := row3.lst
    have hT4 := hT3.but hr3' sb4
    have hh4 := hh.but hr3' sb4
    refine ⟨_, _, rfl, ?_⟩
    -- lots
    refine ⟨_, rfl, m + 1, by show [V.int ((1 : Int) + (m : Int))] = _; rw [em], by omega, hT4, fun H5 lp lts e5 hT5 hlp hl5 hP5 => ?_⟩
    rw [← hlen] at hP5
    have row5 := row4.ext e5
    have hh5 := hh4.ext e5
    obtain ⟨xs4, hr4'⟩ := row4.lst
    have lprp : lp ≠ rp := (hlp _ _ hr4' (fun ps z => by cases z)).symm
    have hla := allL_len hn5
    have hlt : lts.length = (allL hs.length).length := Paired.length hP5
    have hall1 : 2 ≤ (allL hs.length).length := by
      obtain ⟨r, er⟩ := tail_last hn1 hn5
      rw [allL_cons, er, List.length_cons, List.length_append, List.length_singleton]
      omega
    -- goal
    refine ⟨.ref lp, rfl, .ref rp, rfl, .ref lp, rfl, lp, _, rfl, .inl (SqL.up hl5), _, 1, rfl, rfl, ?_⟩
    refine ⟨a, ns, rp, (allL hs.length).length - 1, congrArg (fun z : Int => [V.ref rp, V.int z]) (by rw [List.length_map, hlt]; omega), row5, by omega, by omega, fun H6 u row6 sb6 hul => ?_⟩
    refine ⟨1, u, rfl, rfl, ?_⟩
    have hgt : lts[u + 1]? = some (lts[u + 1]'(by omega)) := List.getElem?_eq_getElem (by omega)
    obtain ⟨goal, hgl, hgat⟩ := paired_at hP5 hgt
    generalize lts[u + 1]'(by omega) = gp at hgt hgat
    have okg : LotOk hs.length goal ∧ goal ≠ [] := by
      rw [allL_cons, List.getElem?_cons_succ] at hgl
      exact tail_ok (List.mem_of_getElem? hgl)
    have hgV : (lts.map V.ref)[u + 1]? = some (.ref gp) := by rw [List.getElem?_map, hgt]; rfl
    obtain ⟨xs5, hr5'⟩ := row5.lst
    refine ⟨lp, _, (1 : Int) + (u : Int), .ref gp, rfl, rfl, SqL.up (sb6 _ _ lprp hl5), by rw [show (1 : Int) + (u : Int) = ((u + 1 : Nat) : Int) by omega]; exact atI_nat hgV, ?_⟩
    have L6 : LK K a ns L PL rp hp lp gp hs lts goal H6 := ⟨row6, hh5.but hr5' sb6, sb6 _ _ lprp hl5, paired_mono hP5 fun _ _ z => z.but hr5' sb6, hgat.lot.but hr5' sb6, lprp, hT5.but hr5' sb6⟩
    clear hP5 hh5 row5 hT5 hl5 hgat hr5' sb6 row6 hT4 hh4 row4 hr4' hT3 hh row3 hr3' hT2 row2 hr2' hT1 row1 hr1' sb2 sb3 sb4 e5 hlp
    have hgl0 : goal.length ≤ 1000 := by have := okg.1.len; omega
    -- covered, lot
    refine ⟨.ref rp, rfl, .ref lp, rfl, a, ns, rp, lp, _, rfl, L6.row, SqL.up L6.lots, lprp, by rw [List.length_map]; omega, by rw [List.length_map]; omega, fun H7 i7 x7 row7 sb7 hx7 => ?_⟩
    have L7 := L6.but row7 sb7
    obtain ⟨cv, hcv, rfl⟩ := get_refs hx7
    obtain ⟨S0, hS0, hat0⟩ := paired_at L7.pl hcv
    have okS0 := mem_allL.mp (List.mem_of_getElem? hS0)
    refine ⟨.ref rp, rfl, .ref lp, rfl, a, ns, rp, lp, _, rfl, L7.row, SqL.up L7.lots, lprp, by rw [List.length_map]; omega, by rw [List.length_map]; omega, fun H8 i8 x8 row8 sb8 hx8 => ?_⟩
    have L8 := L7.but row8 sb8
    obtain ⟨lt, hlt8, rfl⟩ := get_refs hx8
    obtain ⟨M0, hM0, hatM⟩ := paired_at L8.pl hlt8
    have okM0 := mem_allL.mp (List.mem_of_getElem? hM0)
    obtain ⟨S0', hS0', hat0'⟩ := paired_at L8.pl hcv
    have eS0 : S0' = S0 := Option.some.inj (hS0'.symm.trans hS0)
    subst eS0
    refine ⟨_, _, rfl, ?_⟩
    -- after
    refine ⟨.ref hp, rfl, .ref cv, rfl, .ref lt, rfl, hp, cv, lt, hs, S0', M0, rfl, L8.house, ok, hat0'.lot, okS0, hatM.lot, okM0, fun H9 p9 sm9 h9 => ?_⟩
    refine ⟨.ref hp, rfl, .ref cv, rfl, .ref lt, rfl, hp, cv, lt, hs, S0', M0, rfl, L8.house.same sm9, ok, hat0'.lot.same sm9, hatM.lot.same sm9, fun H10 p10 sm10 h10 => ?_⟩
    try delta tNil
    refine lot_alike (SqT.up (sm10 _ _ h9)) (SqT.up h10) (by have := (nextL_ok hs S0' M0).len; omega) fun H11 sm11 => ⟨true, rfl, iteF ?_⟩
    have L11 := L8.same ((sm9.trans sm10).trans sm11)
    clear hatM hat0 hat0' L6 L7 L8 sm9 sm10 sm11 h9 h10 row7 row8 sb7 sb8
    -- slate_number
    obtain ⟨r0, er0⟩ := tail_last hn1 hn5
    have eall : allL hs.length = ([] :: r0) ++ [List.range hs.length] := by rw [allL_cons, er0]; rfl
    obtain ⟨lts0, zl, elts, hzl⟩ := last_pair L11.pl eall
    refine ⟨.ref hp, rfl, hp, hs, rfl, L11.house, ok, fun H12 c12 sm12 hnum12 _ => ?_⟩
    have L12 := L11.same sm12
    refine ⟨.ref hp, rfl, .ref lp, rfl, 1, rfl, lp, _, -1, .ref zl, rfl, rfl, SqL.up L12.lots, by rw [elts, List.map_append]; exact atI_last _ _, ?_⟩
    refine ⟨hp, zl, hs, List.range hs.length, rfl, L12.house, ok, hn5, (hzl.same sm12).lot, List.Sublist.refl _, L12.tb, fun H13 c13 e13 T13 hnum13 _ => ?_⟩
    have L13 := L12.ext e13 T13
    refine ⟨.int (c12 : Int), by rw [hnum13.inj hnum12]; rfl, .inl ⟨_, rfl⟩, fun H14 sm14 => ⟨true, rfl, iteF ?_⟩⟩
    have L14 := L13.same sm14
    -- number_of
    refine ⟨.ref hp, rfl, .ref gp, rfl, hp, gp, hs, goal, rfl, L14.house, ok, L14.goal, okg.1, okg.2, fun H15 c15 sm15 hnum15 _ => ?_⟩
    have L15 := L14.same sm15
    refine ⟨.ref hp, rfl, .ref gp, rfl, hp, gp, hs, goal, rfl, L15.house, ok, hn5, L15.goal, okg.1, L15.tb, fun H16 c16 e16 T16 hnum16 _ => ?_⟩
    have L16 := L15.ext e16 T16
    refine ⟨.int (c15 : Int), by rw [hnum16.inj hnum15]; rfl, .inl ⟨_, rfl⟩, fun H17 sm17 => ⟨true, rfl, iteF ?_⟩⟩
    have L17 := L16.same sm17
    clear L11 L12 L13 L14 L15 L16 hzl
    -- due
    refine ⟨.ref hp, rfl, .int (c : Int), rfl, .ref gp, rfl, hp, gp, hs, c, goal, rfl, L17.house, ok, hn5, L17.goal, hgl0, L17.tb, fun H18 o e18 T18 hdy => ?_⟩
    have L18 := L17.ext e18 T18
    refine ⟨.ref hp, rfl, .int (c : Int), rfl, .ref gp, rfl, hp, gp, hs, c, goal, rfl, L18.house, ok, by omega, L18.goal, okg.1, okg.2, fun H19 o19 sm19 hdy19 => ?_⟩
    refine ⟨dayV o, rfl, ?_⟩
    rw [show o19 = o from hdy19.inj hdy]
    try delta tNil
    refine alike_day o fun H20 sm20 => ⟨true, rfl, iteF ?_⟩
    have L20 := (L18.same sm19).same sm20
    -- found, family
    refine ⟨.ref hp, rfl, .int (c : Int), rfl, .ref gp, rfl, ?_⟩
    try delta tNil
    refine cover_any L20.house ok (by omega) L20.goal okg.1 okg.2 hdy fun H21 vf sm21 hf21 => ?_
    have L21 := L20.same sm21
    refine ⟨.ref hp, rfl, .int (c : Int), rfl, .ref gp, rfl, ?_⟩
    try delta tNil
    refine fam_any L21.house ok (by omega) L21.goal okg.1 okg.2 hdy fun H22 vm sm22 hm22 => ?_
    have L22 := L21.same sm22
    have hf22 := hf21.ext (Same.extN sm22)
    refine ⟨_, _, rfl, ?_⟩
    have Z22 : LZ K a ns L PL rp hp lp gp hs lts goal c o vf vm H22 := ⟨L22, hf22, hm22⟩
    clear L22 hf22 hm22 L17 L18 L20 L21 hf21
    have ef : decide (vf = V.non) = decide (dayV o = V.non) := by
      rcases Z22.fo with ⟨rfl, rfl⟩ | ⟨d, p, Ls, rfl, rfl, _⟩
      · rfl
      · rw [decide_eq_false (by intro z; cases z), decide_eq_false (by intro z; cases z)]
    have eo : decide (dayV o = V.non) = o.isNone := by
      cases o with
      | none => rfl
      | some d => rw [decide_eq_false (by intro z; cases z)]; rfl
    have emm : decide (vm = V.non) = !decide (dayV o = V.non) := by
      rw [eo]
      rcases Z22.fa with ⟨⟨d, rfl⟩, rfl⟩ | ⟨p, es, rfl, rfl, _⟩
      · rfl
      · rw [decide_eq_false (by intro z; cases z)]
        rfl
    refine ⟨vf, rfl, rfl, dayV o, rfl, rfl, rfl, false, by rw [ef, decide_eq_true rfl]; rfl, iteF ?_⟩
    refine ⟨vm, rfl, rfl, dayV o, rfl, rfl, rfl, false, by rw [emm, decide_eq_true rfl]; rfl, iteF ?_⟩
    -- shows_cover_row, shows_closed_family
    obtain ⟨jf, hJf, hcf⟩ := Z22.fo.jv
    refine ⟨.ref hp, rfl, .int (c : Int), rfl, .ref gp, rfl, vf, rfl, hp, gp, hs, c, goal, vf, jf, rfl, Z22.lk.house, ok, by omega, Z22.lk.goal, okg.1, okg.2, hJf, Z22.lk.tb, fun H23 o23 e23 T23 hd23 => ?_⟩
    refine ⟨true, true, by rw [show o23 = o from hd23.inj hdy, hcf], rfl, false, by rw [decide_eq_true rfl]; rfl, iteF ?_⟩
    have Z23 := Z22.ext e23 T23
    obtain ⟨jm, hJm, hcm⟩ := Z23.fa.jv ok hn5 hdy
    refine ⟨.ref hp, rfl, .int (c : Int), rfl, .ref gp, rfl, vm, rfl, hp, gp, hs, c, goal, vm, jm, rfl, Z23.lk.house, ok, by omega, Z23.lk.goal, okg.1, okg.2, hJm, Z23.lk.tb, fun H24 o24 e24 T24 hd24 => ?_⟩
    refine ⟨true, true, by rw [show o24 = o from hd24.inj hdy, hcm], rfl, false, by rw [decide_eq_true rfl]; rfl, iteF ?_⟩
    have Z24 := Z23.ext e24 T24
    clear Z22 Z23 hJf hJm hcf hcm
    -- found leads
    refine at_if ?_
    refine via (t := tAnd _ _) (fun b H' => b = false ∧ LamX.ExtN H24 H' ∧ Tb L PL lamQ H') (fun K0 k0 => ?_) (fun b H25 hb => ?_)
    · rcases Z24.fo with ⟨ho, hv⟩ | ⟨d, p, Ls, ho, hv, ⟨ts, h3, h4⟩, h5, h6, _, h8⟩
      · refine ⟨vf, rfl, rfl, false, by rw [hv]; rfl, iteF (k0 false _ ⟨rfl, LamX.ExtN.refl _, Z24.lk.tb⟩)⟩
      · have hlen : ts.length = Ls.length := Paired.length h4
        refine ⟨vf, rfl, rfl, true, by rw [hv]; rfl, iteT ?_⟩
        refine ⟨.ref hp, rfl, .int (c : Int), rfl, .ref gp, rfl, vf, rfl, dayV o, rfl, hp, gp, hs, c, d, goal, vf, by rw [ho]; rfl, Z24.lk.house, ok, hn5, Z24.lk.goal, hgl0, Z24.lk.tb, .inr ⟨p, ts.map V.ref, somes Ls, hv, h3, paired_somes h4, by rw [List.length_map]; omega, somes_drawn fun l hl => (h6.ok l hl).1, fun H' e T => ?_⟩⟩
        rw [row_b h6 h5]
        exact ⟨true, rfl, k0 _ _ ⟨rfl, e, T⟩⟩
    obtain ⟨rfl, e25, T25⟩ := hb
    refine iteF ?_
    have Z25 := Z24.ext e25 T25
    -- the family is closed
    refine at_if ?_
    refine via (t := tAnd _ _) (fun b H' => b = false ∧ LamX.ExtN H25 H' ∧ Tb L PL lamQ H') (fun K0 k0 => ?_) (fun b H26 hb => ?_)
    · rcases Z25.fa with ⟨⟨d, ho⟩, hv⟩ | ⟨p, es, ho, hv, ⟨ts, h3, h4⟩, h5⟩
      · refine ⟨vm, rfl, rfl, false, by rw [hv]; rfl, iteF (k0 false _ ⟨rfl, LamX.ExtN.refl _, Z25.lk.tb⟩)⟩
      · refine ⟨vm, rfl, rfl, true, by rw [hv]; rfl, iteT ?_⟩
        have hno : ¬ Can hs c goal := (isDays_none hdy).mp ho
        refine ⟨.ref hp, rfl, .int (c : Int), rfl, .ref gp, rfl, vm, rfl, hp, gp, p, hs, c, goal, ts, famL es, by rw [hv]; rfl, Z25.lk.house, ok, hn5, Z25.lk.goal, hgl0, Z25.lk.tb, h3, paired_mono h4 fun _ _ z => z.lot, fun l hl => fam_ok ok h5 hl, fam_asc ok h5, by have := fam_len ok hn5 h5; omega, fun H' e T => ?_⟩
        rw [fam_law_true ok h5 hno]
        exact ⟨true, rfl, k0 _ _ ⟨rfl, e, T⟩⟩
    obtain ⟨rfl, e26, T26⟩ := hb
    refine iteF ?_
    have Z26 := Z25.ext e26 T26
    clear Z24 Z25
    exact kTail a rp hp lp gp cv lt ns _ hs lts goal c o vf vm H26 _ _ _ _ _ _ _ _ _ Q _ rfl Z26 ok hn5 (by omega) okg.1 okg.2 hdy q
end
end N

set_option Elab.async false
set_option linter.all false
set_option maxRecDepth 100000
set_option maxHeartbeats 4000000
/-! the end where several defs hold generator expressions: every def's table of code objects is empty at the start -/
namespace N
open PySem PySem.Spec PyProof.Rows L2 LamX
def AllTab (q : Program) (K : PySem.W.Frag) (mg : Str → Option Value) (h : Heap) : Prop := ∀ (x : Str), ((recsOf q).any fun e => e.name == x) = true → ∀ (f c P : Addr) (o : Obj) (fd : FuncData) (e : Value) (dd : Option Addr) (vs : Array Value) (sl : Array (Option Value)),
  mg x = some (.ref f) → K.lookup f = some o → o.data = .func fd → fd.code = .ref c → K.lookup c = some ⟨e, dd, .fields vs, sl⟩ → vs[11]? = some (.ref P) → h.get? P = some { cls := .none, data := .fields #[] }
theorem walk_ofAll {l : PySem.W.OpenLaw} {n k : Nat} {q : Program} {loose : List Str} {XP : (Str → Option Value) → Heap → Prop} {YP : World → Heap → Prop} {d : DefRec} {K : Params → PySem.W.Frag} {CX : World → CXT} {x : Str}
    (hn : l.most = some n) (hn2 : n ≤ sizeLine) (hdf : d.params.defaults = []) (hr : Room k callerA) (hY : ∀ (w : World) (h : Heap), YP w h → (K w.params).In h)
    (F : ∀ (w : World) (mg : Str → Option Value) (fa : Addr) (h : Heap), YP w h → (K w.params).In h → h.Ns mainGlobals mg → mg d.name = some (.ref fa) → AllTab q (K w.params) mg h → LawAtS l w (K w.params) (CX w) k n x mg fa h)
    (hCX : ∀ (w : World) (H : Hp) (s : Shared) (e : Value) (s' : Shared), CX w [] H s (fun _ _ _ => False) e s' → False) :
    PySem.W.WalkO q loose XP YP l.row.toRowW d [] (fun f vs => PySem.call f vs) := by
  refine Att.attach_callB hn hdf fun w s₀ s₁ mg mb fa o pm cd doc a vs ns G Y ho hd hcd hmg hobj hints hlen hbits hg => ?_
  have KX := hY w _ Y
  have allT : AllTab q (K w.params) mg s₁.heap := fun y hy f c P o1 fd1 e dd ws sl k0 k1 k2 k3 k4 k5 => by
    obtain ⟨dL, hm, hn1⟩ := List.any_eq_true.mp hy
    have hny : dL.name = y := beq_iff_eq.mp hn1
    obtain ⟨a', o', fd', c', P', t1, t2, t3, t4, t5, t6⟩ := G.T.tab dL hm
    rw [hny, k0] at t1
    cases t1
    have u1 := KX _ _ k1
    rw [u1] at t2
    cases t2
    rw [k2] at t3
    cases t3
    rw [k3] at t4
    cases t4
    obtain ⟨⟨oc, vc, i1, _, i3, i4⟩, hP⟩ := t6
    have u2 := KX _ _ k4
    rw [u2] at i1
    cases i1
    cases i3
    rw [k5] at i4
    cases i4
    exact hP
  obtain ⟨fd, cs, sp, hT, nT, C, hb, hsp, hF⟩ := F w mg fa _ Y KX G.T.g hmg allT
  exact law_callTs KX G.T.g G.T.b G.T.builtins G.T.nolimit hg hT nT C G.T.bmain hobj hints (Nat.le_trans hlen hn2) hr hF hb (fun H hH hS => hsp H a ns hlen hbits hH hS) fun H e s' => hCX w H s₁ e s'
/-- the table of a code object -/
def tabIn (K : PySem.W.Frag) (c : Addr) : Addr := match K.lookup c with
  | some ⟨_, _, .fields vs, _⟩ => (match (vs[11]? : Option Value) with | some (.ref P) => P | _ => 0)
  | _ => 0
def tabIs (K : PySem.W.Frag) (c P : Addr) : Bool := match K.lookup c with
  | some ⟨_, _, .fields vs, _⟩ => (match (vs[11]? : Option Value) with | some (.ref P') => P' == P | _ => false)
  | _ => false
theorem tab_of {q : Program} {K : PySem.W.Frag} {mg : Str → Option Value} {h : Heap} {x : Str} {f c P : Addr} {oc : Value} {od : Option Addr} {fd : FuncData} {sl : Array (Option Value)} (t : AllTab q K mg h) (hx : ((recsOf q).any fun e => e.name == x) = true) (hf : mg x = some (.ref f)) (l : K.lookup f = some ⟨oc, od, .func fd, sl⟩) (hc : fd.code = .ref c) (e : tabIs K c P = true) : h.get? P = some (PySem.W.tabObj #[]) := by
  unfold tabIs at e
  split at e
  · rename_i e1 dd vs sl1 hk
    split at e
    · rename_i P' h11
      have hP : P' = P := beq_iff_eq.mp e
      subst hP
      exact t x hx f c _ _ _ _ _ _ _ hf l rfl hc hk h11
    · cases e
  · cases e
end N

set_option Elab.async false
set_option linter.all false
set_option maxRecDepth 100000
set_option maxHeartbeats 8000000
namespace N
open PySem PySem.Spec PyProof.Rows L2
def def_mk {K : PySem.W.Frag} {h : Heap} {mg : Str → Option Value} {x : String} {st : Stmt} {ps : List Str} {f : Addr} {od an : Option Addr} {sl : Array (Option Value)} {oc kV dc pm cd ct : Value} (X : K.In h) (G : h.Ns mainGlobals mg)
    (a : PySem.W.nsIn K mainGlobals x = some (some (.ref f))) (l : K.lookup f = some ⟨oc, od, .func (PySem.W.fnOf x x (defArgs st) (defBody st) (defScope st) .none kV dc pm an cd ct), sl⟩) (c : PySem.W.codeIn K cd x = true) (k : PySem.W.keepIn K (.ref f) = true)
    (hb : ∀ (kV doc pm : Value) (an : Option Addr) (cdv ct : Value) (us : List Value), us.length = ps.length → bindArgs (PySem.W.fnOf x x (defArgs st) (defBody st) (defScope st) .none kV doc pm an cdv ct) ⟨us, []⟩ = pure (ps.zip us)) : Def K mg x st ps :=
  ⟨f, PySem.W.fnOf x x (defArgs st) (defBody st) (defScope st) .none kV dc pm an cd ct, fun_mk l c k, PySem.W.mg_of X G a, (fun_mk l c k).binds hb⟩
theorem all_mk {l : PySem.W.OpenLaw} {w : World} {K : PySem.W.Frag} {h : Heap} {mg : Str → Option Value} {fa c_0 c_1 c_2 c_3 c_4 : Addr} {q : Program} (X : K.In h) (G : h.Ns mainGlobals mg) (hfa : mg "law" = some (.ref fa)) (tabs : AllTab q K mg h)
    {f0 : Addr} {od0 an0 : Option Addr} {sl0 : Array (Option Value)} {oc0 kV0 dc0 pm0 ct0 cd0 : Value}
    {f1 : Addr} {od1 an1 : Option Addr} {sl1 : Array (Option Value)} {oc1 kV1 dc1 pm1 ct1 cd1 : Value}
    {f2 : Addr} {od2 an2 : Option Addr} {sl2 : Array (Option Value)} {oc2 kV2 dc2 pm2 ct2 cd2 : Value}
    {f3 : Addr} {od3 an3 : Option Addr} {sl3 : Array (Option Value)} {oc3 kV3 dc3 pm3 ct3 cd3 : Value}
    {f4 : Addr} {od4 an4 : Option Addr} {sl4 : Array (Option Value)} {oc4 kV4 dc4 pm4 ct4 cd4 : Value}
    {f5 : Addr} {od5 an5 : Option Addr} {sl5 : Array (Option Value)} {oc5 kV5 dc5 pm5 ct5 cd5 : Value}
    {f6 : Addr} {od6 an6 : Option Addr} {sl6 : Array (Option Value)} {oc6 kV6 dc6 pm6 ct6 cd6 : Value}
    {f7 : Addr} {od7 an7 : Option Addr} {sl7 : Array (Option Value)} {oc7 kV7 dc7 pm7 ct7 cd7 : Value}
    {f8 : Addr} {od8 an8 : Option Addr} {sl8 : Array (Option Value)} {oc8 kV8 dc8 pm8 ct8 cd8 : Value}
    {f9 : Addr} {od9 an9 : Option Addr} {sl9 : Array (Option Value)} {oc9 kV9 dc9 pm9 ct9 cd9 : Value}
    {f10 : Addr} {od10 an10 : Option Addr} {sl10 : Array (Option Value)} {oc10 kV10 dc10 pm10 ct10 cd10 : Value}
    {f11 : Addr} {od11 an11 : Option Addr} {sl11 : Array (Option Value)} {oc11 kV11 dc11 pm11 ct11 cd11 : Value}
    {f12 : Addr} {od12 an12 : Option Addr} {sl12 : Array (Option Value)} {oc12 kV12 dc12 pm12 ct12 cd12 : Value}
    {f13 : Addr} {od13 an13 : Option Addr} {sl13 : Array (Option Value)} {oc13 kV13 dc13 pm13 ct13 : Value}
    {f14 : Addr} {od14 an14 : Option Addr} {sl14 : Array (Option Value)} {oc14 kV14 dc14 pm14 ct14 cd14 : Value}
    {f15 : Addr} {od15 an15 : Option Addr} {sl15 : Array (Option Value)} {oc15 kV15 dc15 pm15 ct15 cd15 : Value}
    {f16 : Addr} {od16 an16 : Option Addr} {sl16 : Array (Option Value)} {oc16 kV16 dc16 pm16 ct16 cd16 : Value}
    {f17 : Addr} {od17 an17 : Option Addr} {sl17 : Array (Option Value)} {oc17 kV17 dc17 pm17 ct17 cd17 : Value}
    {f18 : Addr} {od18 an18 : Option Addr} {sl18 : Array (Option Value)} {oc18 kV18 dc18 pm18 ct18 cd18 : Value}
    {f19 : Addr} {od19 an19 : Option Addr} {sl19 : Array (Option Value)} {oc19 kV19 dc19 pm19 ct19 cd19 : Value}
    {f20 : Addr} {od20 an20 : Option Addr} {sl20 : Array (Option Value)} {oc20 kV20 dc20 pm20 ct20 cd20 : Value}
    {f21 : Addr} {od21 an21 : Option Addr} {sl21 : Array (Option Value)} {oc21 kV21 dc21 pm21 ct21 cd21 : Value}
    {f22 : Addr} {od22 an22 : Option Addr} {sl22 : Array (Option Value)} {oc22 kV22 dc22 pm22 ct22 cd22 : Value}
    {f23 : Addr} {od23 an23 : Option Addr} {sl23 : Array (Option Value)} {oc23 kV23 dc23 pm23 ct23 cd23 : Value}
    {f24 : Addr} {od24 an24 : Option Addr} {sl24 : Array (Option Value)} {oc24 kV24 dc24 pm24 ct24 cd24 : Value}
    {f25 : Addr} {od25 an25 : Option Addr} {sl25 : Array (Option Value)} {oc25 kV25 dc25 pm25 ct25 cd25 : Value}
    {f26 : Addr} {od26 an26 : Option Addr} {sl26 : Array (Option Value)} {oc26 kV26 dc26 pm26 ct26 cd26 : Value}
    {f27 : Addr} {od27 an27 : Option Addr} {sl27 : Array (Option Value)} {oc27 kV27 dc27 pm27 ct27 cd27 : Value}
    {f28 : Addr} {od28 an28 : Option Addr} {sl28 : Array (Option Value)} {oc28 kV28 dc28 pm28 ct28 cd28 : Value}
    {f29 : Addr} {od29 an29 : Option Addr} {sl29 : Array (Option Value)} {oc29 kV29 dc29 pm29 ct29 : Value}
    {f30 : Addr} {od30 an30 : Option Addr} {sl30 : Array (Option Value)} {oc30 kV30 dc30 pm30 ct30 : Value}
    {f31 : Addr} {od31 an31 : Option Addr} {sl31 : Array (Option Value)} {oc31 kV31 dc31 pm31 ct31 : Value}
    {f32 : Addr} {od32 an32 : Option Addr} {sl32 : Array (Option Value)} {oc32 kV32 dc32 pm32 ct32 cd32 : Value}
    {f33 : Addr} {od33 an33 : Option Addr} {sl33 : Array (Option Value)} {oc33 kV33 dc33 pm33 ct33 cd33 : Value}
    {f34 : Addr} {od34 an34 : Option Addr} {sl34 : Array (Option Value)} {oc34 kV34 dc34 pm34 ct34 : Value}
    {f35 : Addr} {od35 an35 : Option Addr} {sl35 : Array (Option Value)} {oc35 kV35 dc35 pm35 ct35 cd35 : Value}
    {f36 : Addr} {od36 an36 : Option Addr} {sl36 : Array (Option Value)} {oc36 kV36 dc36 pm36 ct36 cd36 : Value}
    {f37 : Addr} {od37 an37 : Option Addr} {sl37 : Array (Option Value)} {oc37 kV37 dc37 pm37 ct37 cd37 : Value}
    {f38 : Addr} {od38 an38 : Option Addr} {sl38 : Array (Option Value)} {oc38 kV38 dc38 pm38 ct38 cd38 : Value}
    {f39 : Addr} {od39 an39 : Option Addr} {sl39 : Array (Option Value)} {oc39 kV39 dc39 pm39 ct39 cd39 : Value}
    {f40 : Addr} {od40 an40 : Option Addr} {sl40 : Array (Option Value)} {oc40 kV40 dc40 pm40 ct40 cd40 : Value}
    {f41 : Addr} {od41 an41 : Option Addr} {sl41 : Array (Option Value)} {oc41 kV41 dc41 pm41 ct41 cd41 : Value}
    {f42 : Addr} {od42 an42 : Option Addr} {sl42 : Array (Option Value)} {oc42 kV42 dc42 pm42 ct42 cd42 : Value}
    {f43 : Addr} {od43 an43 : Option Addr} {sl43 : Array (Option Value)} {oc43 kV43 dc43 pm43 ct43 cd43 : Value}
    {f44 : Addr} {od44 an44 : Option Addr} {sl44 : Array (Option Value)} {oc44 kV44 dc44 pm44 ct44 cd44 : Value}
    {tk0 : Tok}
    (a0 : PySem.W.nsIn K mainGlobals "is_number" = some (some (.ref f0))) (l0 : K.lookup f0 = some ⟨oc0, od0, .func (PySem.W.fnOf "is_number" "is_number" (defArgs s_is_number) (defBody s_is_number) (defScope s_is_number) .none kV0 dc0 pm0 an0 cd0 ct0), sl0⟩) (c0 : PySem.W.codeIn K cd0 "is_number" = true) (k0 : PySem.W.keepIn K (.ref f0) = true)
    (a1 : PySem.W.nsIn K mainGlobals "is_lot" = some (some (.ref f1))) (l1 : K.lookup f1 = some ⟨oc1, od1, .func (PySem.W.fnOf "is_lot" "is_lot" (defArgs s_is_lot) (defBody s_is_lot) (defScope s_is_lot) .none kV1 dc1 pm1 an1 cd1 ct1), sl1⟩) (c1 : PySem.W.codeIn K cd1 "is_lot" = true) (k1 : PySem.W.keepIn K (.ref f1) = true)
    (a2 : PySem.W.nsIn K mainGlobals "check_number" = some (some (.ref f2))) (l2 : K.lookup f2 = some ⟨oc2, od2, .func (PySem.W.fnOf "check_number" "check_number" (defArgs s_check_number) (defBody s_check_number) (defScope s_check_number) .none kV2 dc2 pm2 an2 cd2 ct2), sl2⟩) (c2 : PySem.W.codeIn K cd2 "check_number" = true) (k2 : PySem.W.keepIn K (.ref f2) = true)
    (a3 : PySem.W.nsIn K mainGlobals "check_house" = some (some (.ref f3))) (l3 : K.lookup f3 = some ⟨oc3, od3, .func (PySem.W.fnOf "check_house" "check_house" (defArgs s_check_house) (defBody s_check_house) (defScope s_check_house) .none kV3 dc3 pm3 an3 cd3 ct3), sl3⟩) (c3 : PySem.W.codeIn K cd3 "check_house" = true) (k3 : PySem.W.keepIn K (.ref f3) = true)
    (a4 : PySem.W.nsIn K mainGlobals "check_lot" = some (some (.ref f4))) (l4 : K.lookup f4 = some ⟨oc4, od4, .func (PySem.W.fnOf "check_lot" "check_lot" (defArgs s_check_lot) (defBody s_check_lot) (defScope s_check_lot) .none kV4 dc4 pm4 an4 cd4 ct4), sl4⟩) (c4 : PySem.W.codeIn K cd4 "check_lot" = true) (k4 : PySem.W.keepIn K (.ref f4) = true)
    (a5 : PySem.W.nsIn K mainGlobals "check_goal" = some (some (.ref f5))) (l5 : K.lookup f5 = some ⟨oc5, od5, .func (PySem.W.fnOf "check_goal" "check_goal" (defArgs s_check_goal) (defBody s_check_goal) (defScope s_check_goal) .none kV5 dc5 pm5 an5 cd5 ct5), sl5⟩) (c5 : PySem.W.codeIn K cd5 "check_goal" = true) (k5 : PySem.W.keepIn K (.ref f5) = true)
    (a6 : PySem.W.nsIn K mainGlobals "after" = some (some (.ref f6))) (l6 : K.lookup f6 = some ⟨oc6, od6, .func (PySem.W.fnOf "after" "after" (defArgs s_after) (defBody s_after) (defScope s_after) .none kV6 dc6 pm6 an6 cd6 ct6), sl6⟩) (c6 : PySem.W.codeIn K cd6 "after" = true) (k6 : PySem.W.keepIn K (.ref f6) = true)
    (a7 : PySem.W.nsIn K mainGlobals "slate_number" = some (some (.ref f7))) (l7 : K.lookup f7 = some ⟨oc7, od7, .func (PySem.W.fnOf "slate_number" "slate_number" (defArgs s_slate_number) (defBody s_slate_number) (defScope s_slate_number) .none kV7 dc7 pm7 an7 cd7 ct7), sl7⟩) (c7 : PySem.W.codeIn K cd7 "slate_number" = true) (k7 : PySem.W.keepIn K (.ref f7) = true)
    (a8 : PySem.W.nsIn K mainGlobals "number_of" = some (some (.ref f8))) (l8 : K.lookup f8 = some ⟨oc8, od8, .func (PySem.W.fnOf "number_of" "number_of" (defArgs s_number_of) (defBody s_number_of) (defScope s_number_of) .none kV8 dc8 pm8 an8 cd8 ct8), sl8⟩) (c8 : PySem.W.codeIn K cd8 "number_of" = true) (k8 : PySem.W.keepIn K (.ref f8) = true)
    (a9 : PySem.W.nsIn K mainGlobals "days_to" = some (some (.ref f9))) (l9 : K.lookup f9 = some ⟨oc9, od9, .func (PySem.W.fnOf "days_to" "days_to" (defArgs s_days_to) (defBody s_days_to) (defScope s_days_to) .none kV9 dc9 pm9 an9 cd9 ct9), sl9⟩) (c9 : PySem.W.codeIn K cd9 "days_to" = true) (k9 : PySem.W.keepIn K (.ref f9) = true)
    (a10 : PySem.W.nsIn K mainGlobals "cover_row" = some (some (.ref f10))) (l10 : K.lookup f10 = some ⟨oc10, od10, .func (PySem.W.fnOf "cover_row" "cover_row" (defArgs s_cover_row) (defBody s_cover_row) (defScope s_cover_row) .none kV10 dc10 pm10 an10 cd10 ct10), sl10⟩) (c10 : PySem.W.codeIn K cd10 "cover_row" = true) (k10 : PySem.W.keepIn K (.ref f10) = true)
    (a11 : PySem.W.nsIn K mainGlobals "shows_cover_row" = some (some (.ref f11))) (l11 : K.lookup f11 = some ⟨oc11, od11, .func (PySem.W.fnOf "shows_cover_row" "shows_cover_row" (defArgs s_shows_cover_row) (defBody s_shows_cover_row) (defScope s_shows_cover_row) .none kV11 dc11 pm11 an11 cd11 ct11), sl11⟩) (c11 : PySem.W.codeIn K cd11 "shows_cover_row" = true) (k11 : PySem.W.keepIn K (.ref f11) = true)
    (a12 : PySem.W.nsIn K mainGlobals "closed_family" = some (some (.ref f12))) (l12 : K.lookup f12 = some ⟨oc12, od12, .func (PySem.W.fnOf "closed_family" "closed_family" (defArgs s_closed_family) (defBody s_closed_family) (defScope s_closed_family) .none kV12 dc12 pm12 an12 cd12 ct12), sl12⟩) (c12 : PySem.W.codeIn K cd12 "closed_family" = true) (k12 : PySem.W.keepIn K (.ref f12) = true)
    (a13 : PySem.W.nsIn K mainGlobals "shows_closed_family" = some (some (.ref f13))) (l13 : K.lookup f13 = some ⟨oc13, od13, .func (PySem.W.fnOf "shows_closed_family" "shows_closed_family" (defArgs s_shows_closed_family) (defBody s_shows_closed_family) (defScope s_shows_closed_family) .none kV13 dc13 pm13 an13 (.ref c_2) ct13), sl13⟩) (c13 : PySem.W.codeIn K (.ref c_2) "shows_closed_family" = true) (k13 : PySem.W.keepIn K (.ref f13) = true)
    (a14 : PySem.W.nsIn K mainGlobals "all_slates" = some (some (.ref f14))) (l14 : K.lookup f14 = some ⟨oc14, od14, .func (PySem.W.fnOf "all_slates" "all_slates" (defArgs s_all_slates) (defBody s_all_slates) (defScope s_all_slates) .none kV14 dc14 pm14 an14 cd14 ct14), sl14⟩) (c14 : PySem.W.codeIn K cd14 "all_slates" = true) (k14 : PySem.W.keepIn K (.ref f14) = true)
    (a15 : PySem.W.nsIn K mainGlobals "lots_within" = some (some (.ref f15))) (l15 : K.lookup f15 = some ⟨oc15, od15, .func (PySem.W.fnOf "lots_within" "lots_within" (defArgs s_lots_within) (defBody s_lots_within) (defScope s_lots_within) .none kV15 dc15 pm15 an15 cd15 ct15), sl15⟩) (c15 : PySem.W.codeIn K cd15 "lots_within" = true) (k15 : PySem.W.keepIn K (.ref f15) = true)
    (a16 : PySem.W.nsIn K mainGlobals "can_cover" = some (some (.ref f16))) (l16 : K.lookup f16 = some ⟨oc16, od16, .func (PySem.W.fnOf "can_cover" "can_cover" (defArgs s_can_cover) (defBody s_can_cover) (defScope s_can_cover) .none kV16 dc16 pm16 an16 cd16 ct16), sl16⟩) (c16 : PySem.W.codeIn K cd16 "can_cover" = true) (k16 : PySem.W.keepIn K (.ref f16) = true)
    (a17 : PySem.W.nsIn K mainGlobals "least_coins" = some (some (.ref f17))) (l17 : K.lookup f17 = some ⟨oc17, od17, .func (PySem.W.fnOf "least_coins" "least_coins" (defArgs s_least_coins) (defBody s_least_coins) (defScope s_least_coins) .none kV17 dc17 pm17 an17 cd17 ct17), sl17⟩) (c17 : PySem.W.codeIn K cd17 "least_coins" = true) (k17 : PySem.W.keepIn K (.ref f17) = true)
    (a18 : PySem.W.nsIn K mainGlobals "covered_lots" = some (some (.ref f18))) (l18 : K.lookup f18 = some ⟨oc18, od18, .func (PySem.W.fnOf "covered_lots" "covered_lots" (defArgs s_covered_lots) (defBody s_covered_lots) (defScope s_covered_lots) .none kV18 dc18 pm18 an18 cd18 ct18), sl18⟩) (c18 : PySem.W.codeIn K cd18 "covered_lots" = true) (k18 : PySem.W.keepIn K (.ref f18) = true)
    (a19 : PySem.W.nsIn K mainGlobals "quickest_row" = some (some (.ref f19))) (l19 : K.lookup f19 = some ⟨oc19, od19, .func (PySem.W.fnOf "quickest_row" "quickest_row" (defArgs s_quickest_row) (defBody s_quickest_row) (defScope s_quickest_row) .none kV19 dc19 pm19 an19 cd19 ct19), sl19⟩) (c19 : PySem.W.codeIn K cd19 "quickest_row" = true) (k19 : PySem.W.keepIn K (.ref f19) = true)
    (a20 : PySem.W.nsIn K mainGlobals "is_quickest_row" = some (some (.ref f20))) (l20 : K.lookup f20 = some ⟨oc20, od20, .func (PySem.W.fnOf "is_quickest_row" "is_quickest_row" (defArgs s_is_quickest_row) (defBody s_is_quickest_row) (defScope s_is_quickest_row) .none kV20 dc20 pm20 an20 cd20 ct20), sl20⟩) (c20 : PySem.W.codeIn K cd20 "is_quickest_row" = true) (k20 : PySem.W.keepIn K (.ref f20) = true)
    (a21 : PySem.W.nsIn K mainGlobals "_check_cover" = some (some (.ref f21))) (l21 : K.lookup f21 = some ⟨oc21, od21, .func (PySem.W.fnOf "_check_cover" "_check_cover" (defArgs s__check_cover) (defBody s__check_cover) (defScope s__check_cover) .none kV21 dc21 pm21 an21 cd21 ct21), sl21⟩) (c21 : PySem.W.codeIn K cd21 "_check_cover" = true) (k21 : PySem.W.keepIn K (.ref f21) = true)
    (a22 : PySem.W.nsIn K mainGlobals "_mask_of" = some (some (.ref f22))) (l22 : K.lookup f22 = some ⟨oc22, od22, .func (PySem.W.fnOf "_mask_of" "_mask_of" (defArgs s__mask_of) (defBody s__mask_of) (defScope s__mask_of) .none kV22 dc22 pm22 an22 cd22 ct22), sl22⟩) (c22 : PySem.W.codeIn K cd22 "_mask_of" = true) (k22 : PySem.W.keepIn K (.ref f22) = true)
    (a23 : PySem.W.nsIn K mainGlobals "_lot_of" = some (some (.ref f23))) (l23 : K.lookup f23 = some ⟨oc23, od23, .func (PySem.W.fnOf "_lot_of" "_lot_of" (defArgs s__lot_of) (defBody s__lot_of) (defScope s__lot_of) .none kV23 dc23 pm23 an23 cd23 ct23), sl23⟩) (c23 : PySem.W.codeIn K cd23 "_lot_of" = true) (k23 : PySem.W.keepIn K (.ref f23) = true)
    (a24 : PySem.W.nsIn K mainGlobals "_holds" = some (some (.ref f24))) (l24 : K.lookup f24 = some ⟨oc24, od24, .func (PySem.W.fnOf "_holds" "_holds" (defArgs s__holds) (defBody s__holds) (defScope s__holds) .none kV24 dc24 pm24 an24 cd24 ct24), sl24⟩) (c24 : PySem.W.codeIn K cd24 "_holds" = true) (k24 : PySem.W.keepIn K (.ref f24) = true)
    (a25 : PySem.W.nsIn K mainGlobals "_coin_masks" = some (some (.ref f25))) (l25 : K.lookup f25 = some ⟨oc25, od25, .func (PySem.W.fnOf "_coin_masks" "_coin_masks" (defArgs s__coin_masks) (defBody s__coin_masks) (defScope s__coin_masks) .none kV25 dc25 pm25 an25 cd25 ct25), sl25⟩) (c25 : PySem.W.codeIn K cd25 "_coin_masks" = true) (k25 : PySem.W.keepIn K (.ref f25) = true)
    (a26 : PySem.W.nsIn K mainGlobals "_next_cover" = some (some (.ref f26))) (l26 : K.lookup f26 = some ⟨oc26, od26, .func (PySem.W.fnOf "_next_cover" "_next_cover" (defArgs s__next_cover) (defBody s__next_cover) (defScope s__next_cover) .none kV26 dc26 pm26 an26 cd26 ct26), sl26⟩) (c26 : PySem.W.codeIn K cd26 "_next_cover" = true) (k26 : PySem.W.keepIn K (.ref f26) = true)
    (a27 : PySem.W.nsIn K mainGlobals "_ways" = some (some (.ref f27))) (l27 : K.lookup f27 = some ⟨oc27, od27, .func (PySem.W.fnOf "_ways" "_ways" (defArgs s__ways) (defBody s__ways) (defScope s__ways) .none kV27 dc27 pm27 an27 cd27 ct27), sl27⟩) (c27 : PySem.W.codeIn K cd27 "_ways" = true) (k27 : PySem.W.keepIn K (.ref f27) = true)
    (a28 : PySem.W.nsIn K mainGlobals "_first_cover" = some (some (.ref f28))) (l28 : K.lookup f28 = some ⟨oc28, od28, .func (PySem.W.fnOf "_first_cover" "_first_cover" (defArgs s__first_cover) (defBody s__first_cover) (defScope s__first_cover) .none kV28 dc28 pm28 an28 cd28 ct28), sl28⟩) (c28 : PySem.W.codeIn K cd28 "_first_cover" = true) (k28 : PySem.W.keepIn K (.ref f28) = true)
    (a29 : PySem.W.nsIn K mainGlobals "_row_covers" = some (some (.ref f29))) (l29 : K.lookup f29 = some ⟨oc29, od29, .func (PySem.W.fnOf "_row_covers" "_row_covers" (defArgs s__row_covers) (defBody s__row_covers) (defScope s__row_covers) .none kV29 dc29 pm29 an29 (.ref c_1) ct29), sl29⟩) (c29 : PySem.W.codeIn K (.ref c_1) "_row_covers" = true) (k29 : PySem.W.keepIn K (.ref f29) = true)
    (a30 : PySem.W.nsIn K mainGlobals "_is_family" = some (some (.ref f30))) (l30 : K.lookup f30 = some ⟨oc30, od30, .func (PySem.W.fnOf "_is_family" "_is_family" (defArgs s__is_family) (defBody s__is_family) (defScope s__is_family) .none kV30 dc30 pm30 an30 (.ref c_3) ct30), sl30⟩) (c30 : PySem.W.codeIn K (.ref c_3) "_is_family" = true) (k30 : PySem.W.keepIn K (.ref f30) = true)
    (a31 : PySem.W.nsIn K mainGlobals "_is_closed" = some (some (.ref f31))) (l31 : K.lookup f31 = some ⟨oc31, od31, .func (PySem.W.fnOf "_is_closed" "_is_closed" (defArgs s__is_closed) (defBody s__is_closed) (defScope s__is_closed) .none kV31 dc31 pm31 an31 (.ref c_4) ct31), sl31⟩) (c31 : PySem.W.codeIn K (.ref c_4) "_is_closed" = true) (k31 : PySem.W.keepIn K (.ref f31) = true)
    (a32 : PySem.W.nsIn K mainGlobals "_law_taken" = some (some (.ref f32))) (l32 : K.lookup f32 = some ⟨oc32, od32, .func (PySem.W.fnOf "_law_taken" "_law_taken" (defArgs s__law_taken) (defBody s__law_taken) (defScope s__law_taken) .none kV32 dc32 pm32 an32 cd32 ct32), sl32⟩) (c32 : PySem.W.codeIn K cd32 "_law_taken" = true) (k32 : PySem.W.keepIn K (.ref f32) = true)
    (a33 : PySem.W.nsIn K mainGlobals "_law_house" = some (some (.ref f33))) (l33 : K.lookup f33 = some ⟨oc33, od33, .func (PySem.W.fnOf "_law_house" "_law_house" (defArgs s__law_house) (defBody s__law_house) (defScope s__law_house) .none kV33 dc33 pm33 an33 cd33 ct33), sl33⟩) (c33 : PySem.W.codeIn K cd33 "_law_house" = true) (k33 : PySem.W.keepIn K (.ref f33) = true)
    (a34 : PySem.W.nsIn K mainGlobals "_law_lots" = some (some (.ref f34))) (l34 : K.lookup f34 = some ⟨oc34, od34, .func (PySem.W.fnOf "_law_lots" "_law_lots" (defArgs s__law_lots) (defBody s__law_lots) (defScope s__law_lots) .none kV34 dc34 pm34 an34 (.ref c_0) ct34), sl34⟩) (c34 : PySem.W.codeIn K (.ref c_0) "_law_lots" = true) (k34 : PySem.W.keepIn K (.ref f34) = true)
    (a35 : PySem.W.nsIn K mainGlobals "_law_pick" = some (some (.ref f35))) (l35 : K.lookup f35 = some ⟨oc35, od35, .func (PySem.W.fnOf "_law_pick" "_law_pick" (defArgs s__law_pick) (defBody s__law_pick) (defScope s__law_pick) .none kV35 dc35 pm35 an35 cd35 ct35), sl35⟩) (c35 : PySem.W.codeIn K cd35 "_law_pick" = true) (k35 : PySem.W.keepIn K (.ref f35) = true)
    (a36 : PySem.W.nsIn K mainGlobals "_law_alike" = some (some (.ref f36))) (l36 : K.lookup f36 = some ⟨oc36, od36, .func (PySem.W.fnOf "_law_alike" "_law_alike" (defArgs s__law_alike) (defBody s__law_alike) (defScope s__law_alike) .none kV36 dc36 pm36 an36 cd36 ct36), sl36⟩) (c36 : PySem.W.codeIn K cd36 "_law_alike" = true) (k36 : PySem.W.keepIn K (.ref f36) = true)
    (a37 : PySem.W.nsIn K mainGlobals "_law_next" = some (some (.ref f37))) (l37 : K.lookup f37 = some ⟨oc37, od37, .func (PySem.W.fnOf "_law_next" "_law_next" (defArgs s__law_next) (defBody s__law_next) (defScope s__law_next) .none kV37 dc37 pm37 an37 cd37 ct37), sl37⟩) (c37 : PySem.W.codeIn K cd37 "_law_next" = true) (k37 : PySem.W.keepIn K (.ref f37) = true)
    (a38 : PySem.W.nsIn K mainGlobals "_law_covered" = some (some (.ref f38))) (l38 : K.lookup f38 = some ⟨oc38, od38, .func (PySem.W.fnOf "_law_covered" "_law_covered" (defArgs s__law_covered) (defBody s__law_covered) (defScope s__law_covered) .none kV38 dc38 pm38 an38 cd38 ct38), sl38⟩) (c38 : PySem.W.codeIn K cd38 "_law_covered" = true) (k38 : PySem.W.keepIn K (.ref f38) = true)
    (a39 : PySem.W.nsIn K mainGlobals "_law_holds" = some (some (.ref f39))) (l39 : K.lookup f39 = some ⟨oc39, od39, .func (PySem.W.fnOf "_law_holds" "_law_holds" (defArgs s__law_holds) (defBody s__law_holds) (defScope s__law_holds) .none kV39 dc39 pm39 an39 cd39 ct39), sl39⟩) (c39 : PySem.W.codeIn K cd39 "_law_holds" = true) (k39 : PySem.W.keepIn K (.ref f39) = true)
    (a40 : PySem.W.nsIn K mainGlobals "_law_days" = some (some (.ref f40))) (l40 : K.lookup f40 = some ⟨oc40, od40, .func (PySem.W.fnOf "_law_days" "_law_days" (defArgs s__law_days) (defBody s__law_days) (defScope s__law_days) .none kV40 dc40 pm40 an40 cd40 ct40), sl40⟩) (c40 : PySem.W.codeIn K cd40 "_law_days" = true) (k40 : PySem.W.keepIn K (.ref f40) = true)
    (a41 : PySem.W.nsIn K mainGlobals "_law_number" = some (some (.ref f41))) (l41 : K.lookup f41 = some ⟨oc41, od41, .func (PySem.W.fnOf "_law_number" "_law_number" (defArgs s__law_number) (defBody s__law_number) (defScope s__law_number) .none kV41 dc41 pm41 an41 cd41 ct41), sl41⟩) (c41 : PySem.W.codeIn K cd41 "_law_number" = true) (k41 : PySem.W.keepIn K (.ref f41) = true)
    (a42 : PySem.W.nsIn K mainGlobals "_law_leads" = some (some (.ref f42))) (l42 : K.lookup f42 = some ⟨oc42, od42, .func (PySem.W.fnOf "_law_leads" "_law_leads" (defArgs s__law_leads) (defBody s__law_leads) (defScope s__law_leads) .none kV42 dc42 pm42 an42 cd42 ct42), sl42⟩) (c42 : PySem.W.codeIn K cd42 "_law_leads" = true) (k42 : PySem.W.keepIn K (.ref f42) = true)
    (a43 : PySem.W.nsIn K mainGlobals "_law_closed" = some (some (.ref f43))) (l43 : K.lookup f43 = some ⟨oc43, od43, .func (PySem.W.fnOf "_law_closed" "_law_closed" (defArgs s__law_closed) (defBody s__law_closed) (defScope s__law_closed) .none kV43 dc43 pm43 an43 cd43 ct43), sl43⟩) (c43 : PySem.W.codeIn K cd43 "_law_closed" = true) (k43 : PySem.W.keepIn K (.ref f43) = true)
    (a44 : PySem.W.nsIn K mainGlobals "law" = some (some (.ref f44))) (l44 : K.lookup f44 = some ⟨oc44, od44, .func (PySem.W.fnOf "law" "law" (defArgs s_law) (defBody s_law) (defScope s_law) .none kV44 dc44 pm44 an44 cd44 ct44), sl44⟩) (c44 : PySem.W.codeIn K cd44 "law" = true) (k44 : PySem.W.keepIn K (.ref f44) = true)
    (z0 : PySem.W.nsIn K mainGlobals "len" = some none)
    (z1 : PySem.W.nsIn K mainGlobals "range" = some none)
    (z2 : PySem.W.nsIn K mainGlobals "tuple" = some none)
    (z3 : PySem.W.nsIn K mainGlobals "list" = some none)
    (z4 : PySem.W.nsIn K mainGlobals "sorted" = some none)
    (z5 : PySem.W.nsIn K mainGlobals "enumerate" = some none)
    (z6 : PySem.W.nsIn K mainGlobals "min" = some none)
    (z7 : PySem.W.nsIn K mainGlobals "type" = some none)
    (z8 : PySem.W.nsIn K mainGlobals "int" = some none)
    (z9 : PySem.W.nsIn K mainGlobals "isinstance" = some none)
    (z10 : PySem.W.nsIn K mainGlobals "zip" = some none)
    (z11 : PySem.W.nsIn K mainGlobals "any" = some none)
    (z12 : PySem.W.nsIn K mainGlobals "all" = some none)
    (z13 : PySem.W.nsIn K mainGlobals "bool" = some none)
    (z14 : PySem.W.nsIn K mainGlobals "str" = some none)
    (z15 : PySem.W.nsIn K mainGlobals "set" = some none)
    (m0 : PySem.W.nsIn K mainGlobals "MOST_CLERKS" = some (some (.int 7 tk0)))
    (gc : PySem.W.nsIn K mainGlobals "combinations" = some (some (.type Cb.TC)))
    (x0 : ((recsOf q).any fun e => e.name == "_law_lots") = true) (pT0 : tabIs K c_0 (tabIn K c_0) = true) (nT0 : K.lookup (tabIn K c_0) = none) (hC0 : PySem.W.codeHdIn K c_0 (tabIn K c_0) = true)
    (x1 : ((recsOf q).any fun e => e.name == "_row_covers") = true) (pT1 : tabIs K c_1 (tabIn K c_1) = true) (nT1 : K.lookup (tabIn K c_1) = none) (hC1 : PySem.W.codeHdIn K c_1 (tabIn K c_1) = true)
    (x2 : ((recsOf q).any fun e => e.name == "shows_closed_family") = true) (pT2 : tabIs K c_2 (tabIn K c_2) = true) (nT2 : K.lookup (tabIn K c_2) = none) (hC2 : PySem.W.codeHdIn K c_2 (tabIn K c_2) = true)
    (x3 : ((recsOf q).any fun e => e.name == "_is_family") = true) (pT3 : tabIs K c_3 (tabIn K c_3) = true) (nT3 : K.lookup (tabIn K c_3) = none) (hC3 : PySem.W.codeHdIn K c_3 (tabIn K c_3) = true)
    (x4 : ((recsOf q).any fun e => e.name == "_is_closed") = true) (pT4 : tabIs K c_4 (tabIn K c_4) = true) (nT4 : K.lookup (tabIn K c_4) = none) (hC4 : PySem.W.codeHdIn K c_4 (tabIn K c_4) = true)
    (dT1 : (tabIn K c_1 == tabIn K c_0) = false)
    (dT2 : (tabIn K c_2 == tabIn K c_0) = false)
    (dT3 : (tabIn K c_3 == tabIn K c_0) = false)
    (dT4 : (tabIn K c_4 == tabIn K c_0) = false) :
    LamX.LawAtS l w K CX0 8 63 "script" mg fa h := by
  have e := hfa.symm.trans (PySem.W.mg_of X G a44)
  cases e
  have F := fun_mk (st := s_law) l44 c44 k44
  have key : ∀ T : Txt K mg, T.d__law_lots.fd.code = .ref c_0 → T.d__row_covers.fd.code = .ref c_1 → T.d_shows_closed_family.fd.code = .ref c_2 → T.d__is_family.fd.code = .ref c_3 → T.d__is_closed.fd.code = .ref c_4 → LamX.LawAtS l w K CX0 8 63 "script" mg fa h := fun T h0 h1 h2 h3 h4 => by
    have gen : ∀ {base : Heap} {c P : Addr}, LamX.TabB base mg c P → GxR.TabB base mg c P := fun z => ⟨z.code, z.bm, z.gP⟩
    have tG : ∀ {H : Hp} {P : Addr}, H P = some (.tbl #[]) → GxR.TabG H P := fun z => ⟨#[], z, by first | exact trivial | exact .nil | decide⟩
    refine ⟨PySem.W.fnOf "law" "law" (defArgs s_law) (defBody s_law) (defScope s_law) .none kV44 dc44 pm44 an44 cd44 ct44, [(c_0, tabIn K c_0), (c_1, tabIn K c_1), (c_2, tabIn K c_2), (c_3, tabIn K c_3), (c_4, tabIn K c_4)], spLaw K [tabIn K c_1, tabIn K c_2, tabIn K c_3, tabIn K c_4] (tabIn K c_0), fun p hp => ?_, fun p hp => ?_, fun p hp => ?_, fun s u => .of_eq rfl, fun H a ns _ _ hH hS => ⟨a, ns, rfl, hS, ⟨LamX.TabS.nil (hH _ List.mem_cons_self), fun P hP => ?_⟩, fun _ => rfl⟩, fun base _ _ TBs => ok_law F T h0 (TBs _ List.mem_cons_self) h1 (gen (TBs _ (List.mem_cons_of_mem _ List.mem_cons_self))) h2 (gen (TBs _ (List.mem_cons_of_mem _ (List.mem_cons_of_mem _ List.mem_cons_self)))) h3 (gen (TBs _ (List.mem_cons_of_mem _ (List.mem_cons_of_mem _ (List.mem_cons_of_mem _ List.mem_cons_self))))) h4 (gen (TBs _ (List.mem_cons_of_mem _ (List.mem_cons_of_mem _ (List.mem_cons_of_mem _ (List.mem_cons_of_mem _ List.mem_cons_self)))))) List.mem_cons_self (List.mem_cons_of_mem _ List.mem_cons_self) (List.mem_cons_of_mem _ (List.mem_cons_of_mem _ List.mem_cons_self)) (List.mem_cons_of_mem _ (List.mem_cons_of_mem _ (List.mem_cons_of_mem _ List.mem_cons_self)))⟩
    ·
      rcases List.mem_cons.mp hp with z | hp
      · rw [z]; exact tab_of tabs x0 (PySem.W.mg_of X G a34) l34 rfl pT0
      rcases List.mem_cons.mp hp with z | hp
      · rw [z]; exact tab_of tabs x1 (PySem.W.mg_of X G a29) l29 rfl pT1
      rcases List.mem_cons.mp hp with z | hp
      · rw [z]; exact tab_of tabs x2 (PySem.W.mg_of X G a13) l13 rfl pT2
      rcases List.mem_cons.mp hp with z | hp
      · rw [z]; exact tab_of tabs x3 (PySem.W.mg_of X G a30) l30 rfl pT3
      rcases List.mem_cons.mp hp with z | hp
      · rw [z]; exact tab_of tabs x4 (PySem.W.mg_of X G a31) l31 rfl pT4
      cases hp
    ·
      rcases List.mem_cons.mp hp with z | hp
      · rw [z]; exact nT0
      rcases List.mem_cons.mp hp with z | hp
      · rw [z]; exact nT1
      rcases List.mem_cons.mp hp with z | hp
      · rw [z]; exact nT2
      rcases List.mem_cons.mp hp with z | hp
      · rw [z]; exact nT3
      rcases List.mem_cons.mp hp with z | hp
      · rw [z]; exact nT4
      cases hp
    ·
      rcases List.mem_cons.mp hp with z | hp
      · rw [z]; exact PySem.W.codeHd_of_K X hC0
      rcases List.mem_cons.mp hp with z | hp
      · rw [z]; exact PySem.W.codeHd_of_K X hC1
      rcases List.mem_cons.mp hp with z | hp
      · rw [z]; exact PySem.W.codeHd_of_K X hC2
      rcases List.mem_cons.mp hp with z | hp
      · rw [z]; exact PySem.W.codeHd_of_K X hC3
      rcases List.mem_cons.mp hp with z | hp
      · rw [z]; exact PySem.W.codeHd_of_K X hC4
      cases hp
    ·
      rcases List.mem_cons.mp hP with z | hP
      · rw [z]; exact ⟨fun y => by rw [y] at dT1; simp at dT1, tG (hH _ (List.mem_cons_of_mem _ List.mem_cons_self))⟩
      rcases List.mem_cons.mp hP with z | hP
      · rw [z]; exact ⟨fun y => by rw [y] at dT2; simp at dT2, tG (hH _ (List.mem_cons_of_mem _ (List.mem_cons_of_mem _ List.mem_cons_self)))⟩
      rcases List.mem_cons.mp hP with z | hP
      · rw [z]; exact ⟨fun y => by rw [y] at dT3; simp at dT3, tG (hH _ (List.mem_cons_of_mem _ (List.mem_cons_of_mem _ (List.mem_cons_of_mem _ List.mem_cons_self))))⟩
      rcases List.mem_cons.mp hP with z | hP
      · rw [z]; exact ⟨fun y => by rw [y] at dT4; simp at dT4, tG (hH _ (List.mem_cons_of_mem _ (List.mem_cons_of_mem _ (List.mem_cons_of_mem _ (List.mem_cons_of_mem _ List.mem_cons_self)))))⟩
      cases hP
  exact key ⟨def_mk X G a0 l0 c0 k0 fun _ _ _ _ _ _ us hl => match us, hl with | [_, _, _], _ => rfl,
    def_mk X G a1 l1 c1 k1 fun _ _ _ _ _ _ us hl => match us, hl with | [_, _], _ => rfl,
    def_mk X G a2 l2 c2 k2 fun _ _ _ _ _ _ us hl => match us, hl with | [_, _, _], _ => rfl,
    def_mk X G a3 l3 c3 k3 fun _ _ _ _ _ _ us hl => match us, hl with | [_], _ => rfl,
    def_mk X G a4 l4 c4 k4 fun _ _ _ _ _ _ us hl => match us, hl with | [_, _], _ => rfl,
    def_mk X G a5 l5 c5 k5 fun _ _ _ _ _ _ us hl => match us, hl with | [_, _], _ => rfl,
    def_mk X G a6 l6 c6 k6 fun _ _ _ _ _ _ us hl => match us, hl with | [_, _, _], _ => rfl,
    def_mk X G a7 l7 c7 k7 fun _ _ _ _ _ _ us hl => match us, hl with | [_], _ => rfl,
    def_mk X G a8 l8 c8 k8 fun _ _ _ _ _ _ us hl => match us, hl with | [_, _], _ => rfl,
    def_mk X G a9 l9 c9 k9 fun _ _ _ _ _ _ us hl => match us, hl with | [_, _, _], _ => rfl,
    def_mk X G a10 l10 c10 k10 fun _ _ _ _ _ _ us hl => match us, hl with | [_, _, _], _ => rfl,
    def_mk X G a11 l11 c11 k11 fun _ _ _ _ _ _ us hl => match us, hl with | [_, _, _, _], _ => rfl,
    def_mk X G a12 l12 c12 k12 fun _ _ _ _ _ _ us hl => match us, hl with | [_, _, _], _ => rfl,
    def_mk X G a13 l13 c13 k13 fun _ _ _ _ _ _ us hl => match us, hl with | [_, _, _, _], _ => rfl,
    def_mk X G a14 l14 c14 k14 fun _ _ _ _ _ _ us hl => match us, hl with | [_], _ => rfl,
    def_mk X G a15 l15 c15 k15 fun _ _ _ _ _ _ us hl => match us, hl with | [_, _], _ => rfl,
    def_mk X G a16 l16 c16 k16 fun _ _ _ _ _ _ us hl => match us, hl with | [_, _, _, _], _ => rfl,
    def_mk X G a17 l17 c17 k17 fun _ _ _ _ _ _ us hl => match us, hl with | [_, _, _], _ => rfl,
    def_mk X G a18 l18 c18 k18 fun _ _ _ _ _ _ us hl => match us, hl with | [_, _], _ => rfl,
    def_mk X G a19 l19 c19 k19 fun _ _ _ _ _ _ us hl => match us, hl with | [_, _, _], _ => rfl,
    def_mk X G a20 l20 c20 k20 fun _ _ _ _ _ _ us hl => match us, hl with | [_, _, _, _], _ => rfl,
    def_mk X G a21 l21 c21 k21 fun _ _ _ _ _ _ us hl => match us, hl with | [_, _, _], _ => rfl,
    def_mk X G a22 l22 c22 k22 fun _ _ _ _ _ _ us hl => match us, hl with | [_], _ => rfl,
    def_mk X G a23 l23 c23 k23 fun _ _ _ _ _ _ us hl => match us, hl with | [_], _ => rfl,
    def_mk X G a24 l24 c24 k24 fun _ _ _ _ _ _ us hl => match us, hl with | [_, _], _ => rfl,
    def_mk X G a25 l25 c25 k25 fun _ _ _ _ _ _ us hl => match us, hl with | [_, _], _ => rfl,
    def_mk X G a26 l26 c26 k26 fun _ _ _ _ _ _ us hl => match us, hl with | [_, _], _ => rfl,
    def_mk X G a27 l27 c27 k27 fun _ _ _ _ _ _ us hl => match us, hl with | [_, _, _], _ => rfl,
    def_mk X G a28 l28 c28 k28 fun _ _ _ _ _ _ us hl => match us, hl with | [_, _], _ => rfl,
    def_mk X G a29 l29 c29 k29 fun _ _ _ _ _ _ us hl => match us, hl with | [_, _, _], _ => rfl,
    def_mk X G a30 l30 c30 k30 fun _ _ _ _ _ _ us hl => match us, hl with | [_, _], _ => rfl,
    def_mk X G a31 l31 c31 k31 fun _ _ _ _ _ _ us hl => match us, hl with | [_, _, _], _ => rfl,
    def_mk X G a32 l32 c32 k32 fun _ _ _ _ _ _ us hl => match us, hl with | [_, _], _ => rfl,
    def_mk X G a33 l33 c33 k33 fun _ _ _ _ _ _ us hl => match us, hl with | [_, _, _], _ => rfl,
    def_mk X G a34 l34 c34 k34 fun _ _ _ _ _ _ us hl => match us, hl with | [_], _ => rfl,
    def_mk X G a35 l35 c35 k35 fun _ _ _ _ _ _ us hl => match us, hl with | [_, _], _ => rfl,
    def_mk X G a36 l36 c36 k36 fun _ _ _ _ _ _ us hl => match us, hl with | [_, _], _ => rfl,
    def_mk X G a37 l37 c37 k37 fun _ _ _ _ _ _ us hl => match us, hl with | [_, _, _], _ => rfl,
    def_mk X G a38 l38 c38 k38 fun _ _ _ _ _ _ us hl => match us, hl with | [_, _], _ => rfl,
    def_mk X G a39 l39 c39 k39 fun _ _ _ _ _ _ us hl => match us, hl with | [_, _], _ => rfl,
    def_mk X G a40 l40 c40 k40 fun _ _ _ _ _ _ us hl => match us, hl with | [_, _, _], _ => rfl,
    def_mk X G a41 l41 c41 k41 fun _ _ _ _ _ _ us hl => match us, hl with | [_, _], _ => rfl,
    def_mk X G a42 l42 c42 k42 fun _ _ _ _ _ _ us hl => match us, hl with | [_, _, _, _, _], _ => rfl,
    def_mk X G a43 l43 c43 k43 fun _ _ _ _ _ _ us hl => match us, hl with | [_, _, _, _], _ => rfl,
    PySem.W.mg_none_of X G z0,
    PySem.W.mg_none_of X G z1,
    PySem.W.mg_none_of X G z2,
    PySem.W.mg_none_of X G z3,
    PySem.W.mg_none_of X G z4,
    PySem.W.mg_none_of X G z5,
    PySem.W.mg_none_of X G z6,
    PySem.W.mg_none_of X G z7,
    PySem.W.mg_none_of X G z8,
    PySem.W.mg_none_of X G z9,
    PySem.W.mg_none_of X G z10,
    PySem.W.mg_none_of X G z11,
    PySem.W.mg_none_of X G z12,
    PySem.W.mg_none_of X G z13,
    PySem.W.mg_none_of X G z14,
    PySem.W.mg_none_of X G z15,
    ⟨_, PySem.W.mg_of X G m0⟩,
    PySem.W.mg_of X G gc⟩ rfl rfl rfl rfl rfl
end N
open PySem PySem.W PyProof.Rows
set_option maxHeartbeats 0 in
theorem PySem.Challenge.cw_nightslates_k01_whole_coins_holds : PySem.Challenge.rw_nightslates_k01_whole_coins.Holds := by
  w_on; o_law; k_head; (case hw => w_witness2)
  k_fill
  refine N.walk_ofAll (l := PySem.Challenge.rw_nightslates_k01_whole_coins) (n := 63) (k := 8) (x := "script") (CX := fun _ => L2.CX0) rfl (by decide) rfl ⟨rfl, by decide, by decide⟩ (fun w h Y => PySem.W.km_in_of Y) ?F (fun _ _ _ _ _ h => h)
  case F =>
    intro w mg fa h Y KX G hmg tabs
    refine' N.all_mk KX G hmg tabs ?a0 ?l0 ?c0 ?k0 ?a1 ?l1 ?c1 ?k1 ?a2 ?l2 ?c2 ?k2 ?a3 ?l3 ?c3 ?k3 ?a4 ?l4 ?c4 ?k4 ?a5 ?l5 ?c5 ?k5 ?a6 ?l6 ?c6 ?k6 ?a7 ?l7 ?c7 ?k7 ?a8 ?l8 ?c8 ?k8 ?a9 ?l9 ?c9 ?k9 ?a10 ?l10 ?c10 ?k10 ?a11 ?l11 ?c11 ?k11 ?a12 ?l12 ?c12 ?k12 ?a13 ?l13 ?c13 ?k13 ?a14 ?l14 ?c14 ?k14 ?a15 ?l15 ?c15 ?k15 ?a16 ?l16 ?c16 ?k16 ?a17 ?l17 ?c17 ?k17 ?a18 ?l18 ?c18 ?k18 ?a19 ?l19 ?c19 ?k19 ?a20 ?l20 ?c20 ?k20 ?a21 ?l21 ?c21 ?k21 ?a22 ?l22 ?c22 ?k22 ?a23 ?l23 ?c23 ?k23 ?a24 ?l24 ?c24 ?k24 ?a25 ?l25 ?c25 ?k25 ?a26 ?l26 ?c26 ?k26 ?a27 ?l27 ?c27 ?k27 ?a28 ?l28 ?c28 ?k28 ?a29 ?l29 ?c29 ?k29 ?a30 ?l30 ?c30 ?k30 ?a31 ?l31 ?c31 ?k31 ?a32 ?l32 ?c32 ?k32 ?a33 ?l33 ?c33 ?k33 ?a34 ?l34 ?c34 ?k34 ?a35 ?l35 ?c35 ?k35 ?a36 ?l36 ?c36 ?k36 ?a37 ?l37 ?c37 ?k37 ?a38 ?l38 ?c38 ?k38 ?a39 ?l39 ?c39 ?k39 ?a40 ?l40 ?c40 ?k40 ?a41 ?l41 ?c41 ?k41 ?a42 ?l42 ?c42 ?k42 ?a43 ?l43 ?c43 ?k43 ?a44 ?l44 ?c44 ?k44 ?z0 ?z1 ?z2 ?z3 ?z4 ?z5 ?z6 ?z7 ?z8 ?z9 ?z10 ?z11 ?z12 ?z13 ?z14 ?z15 ?m0 ?gc ?x0 ?pT0 ?nT0 ?hC0 ?x1 ?pT1 ?nT1 ?hC1 ?x2 ?pT2 ?nT2 ?hC2 ?x3 ?pT3 ?nT3 ?hC3 ?x4 ?pT4 ?nT4 ?hC4 ?dT1 ?dT2 ?dT3 ?dT4
    (case a0 => k_is)
    (case l0 => k_is)
    (case c0 => k_is)
    (case k0 => k_is)
    (case a1 => k_is)
    (case l1 => k_is)
    (case c1 => k_is)
    (case k1 => k_is)
    (case a2 => k_is)
    (case l2 => k_is)
    (case c2 => k_is)
    (case k2 => k_is)
    (case a3 => k_is)
    (case l3 => k_is)
    (case c3 => k_is)
    (case k3 => k_is)
    (case a4 => k_is)
    (case l4 => k_is)
    (case c4 => k_is)
    (case k4 => k_is)
    (case a5 => k_is)
    (case l5 => k_is)
    (case c5 => k_is)
    (case k5 => k_is)
    (case a6 => k_is)
    (case l6 => k_is)
    (case c6 => k_is)
    (case k6 => k_is)
    (case a7 => k_is)
    (case l7 => k_is)
    (case c7 => k_is)
    (case k7 => k_is)
    (case a8 => k_is)
    (case l8 => k_is)
    (case c8 => k_is)
    (case k8 => k_is)
    (case a9 => k_is)
    (case l9 => k_is)
    (case c9 => k_is)
    (case k9 => k_is)
    (case a10 => k_is)
    (case l10 => k_is)
    (case c10 => k_is)
    (case k10 => k_is)
    (case a11 => k_is)
    (case l11 => k_is)
    (case c11 => k_is)
    (case k11 => k_is)
    (case a12 => k_is)
    (case l12 => k_is)
    (case c12 => k_is)
    (case k12 => k_is)
    (case a13 => k_is)
    (case l13 => k_is)
    (case c13 => k_is)
    (case k13 => k_is)
    (case a14 => k_is)
    (case l14 => k_is)
    (case c14 => k_is)
    (case k14 => k_is)
    (case a15 => k_is)
    (case l15 => k_is)
    (case c15 => k_is)
    (case k15 => k_is)
    (case a16 => k_is)
    (case l16 => k_is)
    (case c16 => k_is)
    (case k16 => k_is)
    (case a17 => k_is)
    (case l17 => k_is)
    (case c17 => k_is)
    (case k17 => k_is)
    (case a18 => k_is)
    (case l18 => k_is)
    (case c18 => k_is)
    (case k18 => k_is)
    (case a19 => k_is)
    (case l19 => k_is)
    (case c19 => k_is)
    (case k19 => k_is)
    (case a20 => k_is)
    (case l20 => k_is)
    (case c20 => k_is)
    (case k20 => k_is)
    (case a21 => k_is)
    (case l21 => k_is)
    (case c21 => k_is)
    (case k21 => k_is)
    (case a22 => k_is)
    (case l22 => k_is)
    (case c22 => k_is)
    (case k22 => k_is)
    (case a23 => k_is)
    (case l23 => k_is)
    (case c23 => k_is)
    (case k23 => k_is)
    (case a24 => k_is)
    (case l24 => k_is)
    (case c24 => k_is)
    (case k24 => k_is)
    (case a25 => k_is)
    (case l25 => k_is)
    (case c25 => k_is)
    (case k25 => k_is)
    (case a26 => k_is)
    (case l26 => k_is)
    (case c26 => k_is)
    (case k26 => k_is)
    (case a27 => k_is)
    (case l27 => k_is)
    (case c27 => k_is)
    (case k27 => k_is)
    (case a28 => k_is)
    (case l28 => k_is)
    (case c28 => k_is)
    (case k28 => k_is)
    (case a29 => k_is)
    (case l29 => k_is)
    (case c29 => k_is)
    (case k29 => k_is)
    (case a30 => k_is)
    (case l30 => k_is)
    (case c30 => k_is)
    (case k30 => k_is)
    (case a31 => k_is)
    (case l31 => k_is)
    (case c31 => k_is)
    (case k31 => k_is)
    (case a32 => k_is)
    (case l32 => k_is)
    (case c32 => k_is)
    (case k32 => k_is)
    (case a33 => k_is)
    (case l33 => k_is)
    (case c33 => k_is)
    (case k33 => k_is)
    (case a34 => k_is)
    (case l34 => k_is)
    (case c34 => k_is)
    (case k34 => k_is)
    (case a35 => k_is)
    (case l35 => k_is)
    (case c35 => k_is)
    (case k35 => k_is)
    (case a36 => k_is)
    (case l36 => k_is)
    (case c36 => k_is)
    (case k36 => k_is)
    (case a37 => k_is)
    (case l37 => k_is)
    (case c37 => k_is)
    (case k37 => k_is)
    (case a38 => k_is)
    (case l38 => k_is)
    (case c38 => k_is)
    (case k38 => k_is)
    (case a39 => k_is)
    (case l39 => k_is)
    (case c39 => k_is)
    (case k39 => k_is)
    (case a40 => k_is)
    (case l40 => k_is)
    (case c40 => k_is)
    (case k40 => k_is)
    (case a41 => k_is)
    (case l41 => k_is)
    (case c41 => k_is)
    (case k41 => k_is)
    (case a42 => k_is)
    (case l42 => k_is)
    (case c42 => k_is)
    (case k42 => k_is)
    (case a43 => k_is)
    (case l43 => k_is)
    (case c43 => k_is)
    (case k43 => k_is)
    (case a44 => k_is)
    (case l44 => k_is)
    (case c44 => k_is)
    (case k44 => k_is)
    (case z0 => k_is)
    (case z1 => k_is)
    (case z2 => k_is)
    (case z3 => k_is)
    (case z4 => k_is)
    (case z5 => k_is)
    (case z6 => k_is)
    (case z7 => k_is)
    (case z8 => k_is)
    (case z9 => k_is)
    (case z10 => k_is)
    (case z11 => k_is)
    (case z12 => k_is)
    (case z13 => k_is)
    (case z14 => k_is)
    (case z15 => k_is)
    (case m0 => k_is)
    (case gc => k_is)
    (case x0 => kernel_rfl)
    (case pT0 => kernel_rfl)
    (case nT0 => kernel_rfl)
    (case hC0 => kernel_rfl)
    (case x1 => kernel_rfl)
    (case pT1 => kernel_rfl)
    (case nT1 => kernel_rfl)
    (case hC1 => kernel_rfl)
    (case x2 => kernel_rfl)
    (case pT2 => kernel_rfl)
    (case nT2 => kernel_rfl)
    (case hC2 => kernel_rfl)
    (case x3 => kernel_rfl)
    (case pT3 => kernel_rfl)
    (case nT3 => kernel_rfl)
    (case hC3 => kernel_rfl)
    (case x4 => kernel_rfl)
    (case pT4 => kernel_rfl)
    (case nT4 => kernel_rfl)
    (case hC4 => kernel_rfl)
    (case dT1 => kernel_rfl)
    (case dT2 => kernel_rfl)
    (case dT3 => kernel_rfl)
    (case dT4 => kernel_rfl)

