import PyProof.Rows.All
import Wide.All
import OpenK.AllK
import Wide.FinOn
import HandS.ForMost
import HandS.Star
import PyProof.Draws
import PyProof.ZipIter
import HandS.IsInst
import HandS.Defaults
import PySem.Challenge.RW_allknown_k02_whole_fewest
import HandS.JoinGen
import PyProof.GenCompD
import PyProof.SumAny
import PyProof.WalksMore
import HandS.Wide
import HandS.Conv
import KE.KDictWalk
import HandS.StrMore
import HandS.EndTab
import KE.KNest
set_option Elab.async false
set_option linter.all false
set_option maxRecDepth 100000
set_option maxHeartbeats 2000000
namespace AK
open PySem PySem.Spec PyProof.Rows L2

theorem zn_typeCall (us : List Value) : checkTypeCall "zip" ⟨us, []⟩ = pure () := by kernel_rfl
theorem zn_newCall (us : List Value) : checkBuiltinCall "zip.__new__" ⟨.type "zip" :: us, []⟩ = pure () := by
  cases us with
  | nil => kernel_rfl
  | cons u r => kernel_rfl
theorem zn_initArgs (obj : Value) (us : List Value) : argsOk "object.__init__" ⟨obj :: us, []⟩ := by
  unfold argsOk; rw [signature?_of (id := "object.__init__") (n := ['_', '_', 't', 'i', 'n', 'i', '_', '_']) (o := ['t', 'c', 'e', 'j', 'b', 'o']) (by kernel_rfl) F.owner_object]; kernel_rfl

section
variable {M : Model} {A : Around} {E : Value → Shared → Prop}
/-- a loop over a list, by what holds ahead of each turn -/
theorem forIn_turns {α β : Type} {f : α → β → Sem (ForInStep β)} {Q : β → Shared → Prop} (J : Nat → β → Shared → Prop) :
    ∀ (l : List α) (i : Nat) (b : β) (s : Shared), J i b s →
      (∀ k a b s, l[k]? = some a → J (i + k) b s → wpAny M A (f a b) (fun r s' => ∃ b', r = .yield b' ∧ J (i + k + 1) b' s') E s) →
      (∀ b s, J (i + l.length) b s → Q b s) → wpAny M A (forIn l b f) Q E s
  | [], i, b, s, h, _, hQ => by
    rw [List.forIn_nil]
    exact wpAny_pure (hQ b s h)
  | a :: l, i, b, s, h, hs, hQ => by
    rw [List.forIn_cons]
    refine wpAny_bind (wpAny_mono (hs 0 a b s rfl h) (fun r s' ⟨b', e, j⟩ => ?_) fun _ _ x => x)
    subst e
    refine forIn_turns J l (i + 1) b' s' j (fun k a b s hk hj => ?_) fun b s hj => hQ b s ?_
    · have e : i + 1 + k = i + (k + 1) := by omega
      rw [e] at hj ⊢
      exact hs (k + 1) a b s hk hj
    · have e : i + 1 + l.length = i + (l.length + 1) := by omega
      rw [e] at hj
      exact hj
/-- the same where every turn goes on, the state alone is told -/
theorem wpAny_loadIfAlive {a : Addr} {s : Shared} {Q : Option Obj → Shared → Prop} (h : Q (s.heap.get? a) s) : wpAny M A (loadIfAlive a) Q E s := fun _ _ _ => h
end

theorem ne_adr {a b : Nat} (h : a < b ∨ b < a) : a ≠ b := by omega
/-! ### zip over texts of small signs, any number of them -/
def refs (b k : Nat) : List Value := (List.range k).map fun j => Value.ref (b + j)
theorem refs_len (b k : Nat) : (refs b k).length = k := by simp [refs]
theorem refs_get {b k j : Nat} (h : j < k) : (refs b k)[j]? = some (.ref (b + j)) := by simp [refs, h]
theorem refs_succ (b k : Nat) : refs b (k + 1) = refs b k ++ [.ref (b + k)] := by simp [refs, List.range_succ]
def txts (us : List (Str × Tok)) : List Value := us.map fun u => .str u.1 u.2
/-- the zip object at b + n + 2 over the iterators at b .. b + n - 1, the j-th at place c j -/
structure ZAt (h : Heap) (b : Nat) (us : List (Str × Tok)) (c : Nat → Nat) (ok : Value → Prop := fun f0 => f0 = .none ∨ ∃ a t, f0 = .int a t) : Prop where
  z : ∃ f0 f1 : Value, ok f0 ∧ h.get? (b + us.length + 2) = some { cls := .type "zip", dict := none, data := .fields #[f0, f1, .bool false, .ref (b + us.length), .ref (b + us.length + 1)], slots := #[] }
  TI : h.get? (b + us.length) = some { cls := .type "tuple", data := .seq (refs b us.length).toArray }
  TO : ∃ xs : Array Value, xs.size = us.length ∧ h.get? (b + us.length + 1) = some { cls := .type "tuple", data := .seq xs }
  its : ∀ (j : Nat) (u : Str × Tok), us[j]? = some u → h.IsStrIter (b + j) "str_ascii_iterator" u.1 u.2 (c j)
/-- what the j-th text holds at i -/
def SignsAt (us : List (Str × Tok)) (i : Nat) (xs : List Value) : Prop := xs.length = us.length ∧ ∀ (j : Nat) (u : Str × Tok), us[j]? = some u → ∃ c t, u.1.cps[i]? = some c ∧ xs[j]? = some (.str ⟨#[c]⟩ t)
abbrev Out (b n : Nat) (h h' : Heap) : Prop := ∀ c o, ¬(b ≤ c ∧ c < b + n + 3) → h.get? c = some o → h'.get? c = some o
section
variable {prog : Program} {w : World} {A : Around} {E : Value → Shared → Prop} {s : Shared}
theorem iterAll_txts (us : List (Str × Tok)) (ha : ∀ u ∈ us, u.1.cps.all (· < 128) = true) {Q : List Value → Shared → Prop}
    (hQ : ∀ h', h'.objs.size = s.heap.objs.size + us.length → (∀ c o, s.heap.get? c = some o → h'.get? c = some o) →
      (∀ (j : Nat) (u : Str × Tok), us[j]? = some u → h'.IsStrIter (s.heap.objs.size + j) "str_ascii_iterator" u.1 u.2 0) → Q (refs s.heap.objs.size us.length) { s with heap := h' }) :
    wpAny (model prog w) A (Builtin.SmallTypes.iterAll (txts us)) Q E s := by
  unfold Builtin.SmallTypes.iterAll
  refine wpAny_bind ?_
  refine forIn_turns (fun i b s' => b.toList = refs s.heap.objs.size i ∧ ∃ h', s' = { s with heap := h' } ∧ h'.objs.size = s.heap.objs.size + i ∧ (∀ c o, s.heap.get? c = some o → h'.get? c = some o) ∧
      (∀ (j : Nat) (u : Str × Tok), j < i → us[j]? = some u → h'.IsStrIter (s.heap.objs.size + j) "str_ascii_iterator" u.1 u.2 0)) (txts us) 0 _ _
    ⟨rfl, s.heap, rfl, rfl, fun _ _ e => e, fun j u h => absurd h (Nat.not_lt_zero _)⟩ (fun k a b s' hk hj => ?_) fun b s' hj => ?_
  · rw [Nat.zero_add] at hj ⊢
    obtain ⟨eb, h', rfl, sz, kp, its⟩ := hj
    obtain ⟨u, hu, rfl⟩ : ∃ u, us[k]? = some u ∧ a = .str u.1 u.2 := by
      unfold txts at hk
      rw [List.getElem?_map] at hk
      cases e : us[k]? with
      | none => rw [e] at hk; cases hk
      | some u => rw [e] at hk; exact ⟨u, rfl, (Option.some.inj hk).symm⟩
    refine wpAny_bind (wpAny_holding (wpAny_pyIter_ascii (ha u (List.mem_of_getElem? hu)) (wpAny_pure ⟨_, rfl, ?_, _, rfl, ?_, fun c o e => Heap.get?_push_of_some _ (kp c o e), fun j v hj hv => ?_⟩)))
    · show (b.push (.ref h'.objs.size)).toList = _
      rw [Array.toList_push, eb, refs_succ, sz]
    · rw [Heap.size_push]
      show h'.objs.size + 1 = _
      rw [sz]; omega
    · by_cases e : j = k
      · subst e
        rw [hu] at hv; cases hv
        have q : (h'.push { cls := .type "str_ascii_iterator", data := .fields #[.str u.1 u.2, .int 0 0] }).get? (s.heap.objs.size + j) = some { cls := .type "str_ascii_iterator", data := .fields #[.str u.1 u.2, .int 0 0] } := by
          rw [← sz]; exact Heap.get?_push_size _ rfl
        exact ⟨_, q, rfl, rfl⟩
      · obtain ⟨o, ho, r⟩ := its j v (by omega) hv
        exact ⟨o, Heap.get?_push_of_some _ ho, r⟩
  · obtain ⟨eb, h', rfl, sz, kp, its⟩ := hj
    have el : 0 + (txts us).length = us.length := by unfold txts; rw [List.length_map, Nat.zero_add]
    rw [el] at eb sz its
    refine wpAny_pure ?_
    rw [eb]
    exact hQ h' sz kp fun j u hu => its j u (List.getElem?_eq_some_iff.mp hu).1 hu

theorem newClass_zip (us : List Value) {Q : Value × List Value → Shared → Prop} (h : Q (.type "zip", us) s) : wpAny (model prog w) A (Builtin.SmallTypes.newClass "zip" ⟨.type "zip" :: us, []⟩) Q E s := by
  unfold Builtin.SmallTypes.newClass
  show wpAny _ _ (isType (.type "zip") >>= _) _ _ s
  refine wpAny_bind (m := isType (.type "zip")) (wpAny_of_eq (a := true) rfl ?_)
  show wpAny _ _ (isSubtype (.type "zip") (.type "zip") >>= _) _ _ s
  refine wpAny_bind (wpAny_of_eq sub_zip ?_)
  exact wpAny_pure h
theorem meets_zipN (us : List (Str × Tok)) (ha : ∀ u ∈ us, u.1.cps.all (· < 128) = true) (hl : us.length ≤ 1000) :
    Meets (Builtin.«zip.__new__» ⟨.type "zip" :: txts us, []⟩) (fun _ R s => ∀ h', ZAt h' s.heap.objs.size us (fun _ => 0) → h'.objs.size = s.heap.objs.size + us.length + 3 → (∀ c o, s.heap.get? c = some o → h'.get? c = some o) →
      R (.ok (.ret (.ref (s.heap.objs.size + us.length + 2)))) { s with heap := h' }) :=
  .of_wp fun prog w A R s h => by
    unfold Builtin.«zip.__new__»
    refine wpAny_bind (newClass_zip _ ?_)
    show wpAny _ _ (Builtin.SmallTypes.iterAll (txts us) >>= _) _ _ s
    refine wpAny_bind (iterAll_txts us ha fun h1 sz1 kp1 its1 => ?_)
    generalize hb : s.heap.objs.size = b at *
    have hs : us.length ≤ sizeLine := Nat.le_trans hl (by decide)
    have el : (refs b us.length).length = us.length := refs_len _ _
    refine wpAny_bind (wpAny_newTuple ?_ (by rw [el]; exact hs))
    refine wpAny_bind (wpAny_newTuple ?_ (by rw [List.length_map, el]; exact hs))
    unfold Builtin.SmallTypes.newRecord
    refine wpAny_bind (wpAny_newObj_type ?_ (by show (5 : Nat) ≤ sizeLine + 2; decide))
    refine wpAny_pure ⟨_, rfl, ?_⟩
    generalize e2 : (h1.push { cls := .type "tuple", data := .seq (refs b us.length).toArray } : Heap) = h2
    generalize e3 : (h2.push { cls := .type "tuple", data := .seq ((refs b us.length).map fun _ => Value.none).toArray } : Heap) = h3
    have sz2 : h2.objs.size = b + us.length + 1 := by rw [← e2, Heap.size_push, sz1]
    have sz3 : h3.objs.size = b + us.length + 2 := by rw [← e3, Heap.size_push, sz2]
    have up : ∀ (o3 : Obj) c o, h1.get? c = some o → (h3.push o3).get? c = some o := fun o3 c o e => by
      refine Heap.get?_push_of_some _ ?_
      rw [← e3]
      refine Heap.get?_push_of_some _ ?_
      rw [← e2]
      exact Heap.get?_push_of_some _ e
    have g1 : h2.get? (b + us.length) = some { cls := .type "tuple", data := .seq (refs b us.length).toArray } := by
      rw [← e2, ← sz1]; exact Heap.get?_push_size _ rfl
    have g2 : h3.get? (b + us.length + 1) = some { cls := .type "tuple", data := .seq ((refs b us.length).map fun _ => Value.none).toArray } := by
      rw [← e3, ← sz2]; exact Heap.get?_push_size _ rfl
    have g1' : h3.get? (b + us.length) = some { cls := .type "tuple", data := .seq (refs b us.length).toArray } := by
      rw [← e3]; exact Heap.get?_push_of_some _ g1
    show R (.ok (.ret (.ref h3.objs.size))) _
    rw [sz3]
    refine h _ ⟨⟨.none, .bool false, .inl rfl, ?_⟩, Heap.get?_push_of_some _ g1', ⟨_, ?_, Heap.get?_push_of_some _ g2⟩, fun j u hu => ?_⟩ ?_ fun c o e => up _ c o (kp1 c o e)
    · rw [← sz3]
      have q : (h3.push { cls := .type "zip", dict := none, data := .fields (Builtin.SmallTypes.ownedTupleFields ++ [Value.bool false, .ref h1.objs.size, .ref h2.objs.size]).toArray, slots := #[] }).get? h3.objs.size = some { cls := .type "zip", dict := none, data := .fields (Builtin.SmallTypes.ownedTupleFields ++ [Value.bool false, .ref h1.objs.size, .ref h2.objs.size]).toArray, slots := #[] } := Heap.get?_push_size _ rfl
      exact q.trans (by rw [sz1, sz2] <;> rfl)
    · simp [refs]
    · obtain ⟨o, ho, r⟩ := its1 j u hu
      exact ⟨o, up _ _ o ho, r⟩
    · rw [Heap.size_push, sz3]
theorem call_zipN {us : List (Str × Tok)} {Q : Value → Shared → Prop} (ha : ∀ u ∈ us, u.1.cps.all (· < 128) = true) (hl : us.length ≤ 1000)
    (hQ : ∀ h', ZAt h' s.heap.objs.size us (fun _ => 0) → h'.objs.size = s.heap.objs.size + us.length + 3 → (∀ c o, s.heap.get? c = some o → h'.get? c = some o) → Q (.ref (s.heap.objs.size + us.length + 2)) { s with heap := h' }) :
    wpAny (model prog w) A (call (.type "zip") (txts us)) Q E s := by
  refine callType_new F.called_zip (by decide) (zn_typeCall _) (zn_newCall _) (fun obj => zn_initArgs obj _) F.entry_zip_new (meets_zipN us ha hl) fun h' Z sz kp => ?_
  obtain ⟨f0, f1, _, q⟩ := id Z.z
  exact ⟨⟨_, q, rfl⟩, hQ h' Z sz kp⟩

variable {b : Nat} {us : List (Str × Tok)} {c : Nat → Nat} {ok : Value → Prop} {h h' : Heap}
theorem ZAt.lt (Z : ZAt h b us c ok) : b + us.length + 2 < h.objs.size := let ⟨_, _, _, e⟩ := Z.z; Heap.lt_size e
/-- the k-th iterator has turned -/
theorem ZAt.draw {k i : Nat} {u : Str × Tok} (Z : ZAt h b us c ok) (hu : us[k]? = some u) (sb : Heap.SameBut (b + k) h h') (hit : h'.IsStrIter (b + k) "str_ascii_iterator" u.1 u.2 i) {c' : Nat → Nat} (h1 : c' k = i) (h2 : ∀ j, j ≠ k → c' j = c j) : ZAt h' b us c' ok := by
  have hk : k < us.length := (List.getElem?_eq_some_iff.mp hu).1
  obtain ⟨⟨f0, f1, ho, hz⟩, hTI, ⟨xs, hx, hTO⟩, its⟩ := Z
  refine ⟨⟨f0, f1, ho, (sb.2 _ (ne_adr (by omega))).trans hz⟩, (sb.2 _ (ne_adr (by omega))).trans hTI, ⟨xs, hx, (sb.2 _ (ne_adr (by omega))).trans hTO⟩, fun j v hv => ?_⟩
  by_cases e : j = k
  · subst e
    rw [hu] at hv; cases hv
    rw [h1]; exact hit
  · obtain ⟨o, ho, r⟩ := its j v hv
    rw [h2 j e]
    exact ⟨o, (sb.2 _ (ne_adr (by omega))).trans ho, r⟩
/-- the zip object's own fields have changed -/
theorem ZAt.mark {ok' : Value → Prop} {f0 f1 : Value} (Z : ZAt h b us c ok) (sb : Heap.SameBut (b + us.length + 2) h h') (e : h'.get? (b + us.length + 2) = some { cls := .type "zip", dict := none, data := .fields #[f0, f1, .bool false, .ref (b + us.length), .ref (b + us.length + 1)], slots := #[] })
    (ho : ok' f0) : ZAt h' b us c ok' := by
  obtain ⟨_, hTI, ⟨xs, hx, hTO⟩, its⟩ := Z
  refine ⟨⟨f0, f1, ho, e⟩, (sb.2 _ (ne_adr (by omega))).trans hTI, ⟨xs, hx, (sb.2 _ (ne_adr (by omega))).trans hTO⟩, fun j v hv => ?_⟩
  have hk : j < us.length := (List.getElem?_eq_some_iff.mp hv).1
  obtain ⟨o, ho, r⟩ := its j v hv
  exact ⟨o, (sb.2 _ (ne_adr (by omega))).trans ho, r⟩
/-- the owned tuple has changed -/
theorem ZAt.own {xs : Array Value} (Z : ZAt h b us c ok) (sb : Heap.SameBut (b + us.length + 1) h h') (hx : xs.size = us.length) (e : h'.get? (b + us.length + 1) = some { cls := .type "tuple", data := .seq xs }) : ZAt h' b us c ok := by
  obtain ⟨⟨f0, f1, ho, hz⟩, hTI, _, its⟩ := Z
  refine ⟨⟨f0, f1, ho, (sb.2 _ (ne_adr (by omega))).trans hz⟩, (sb.2 _ (ne_adr (by omega))).trans hTI, ⟨xs, hx, e⟩, fun j v hv => ?_⟩
  have hk : j < us.length := (List.getElem?_eq_some_iff.mp hv).1
  obtain ⟨o, ho, r⟩ := its j v hv
  exact ⟨o, (sb.2 _ (ne_adr (by omega))).trans ho, r⟩
theorem ZAt.kept (Z : ZAt h b us c ok) (k : ∀ c o, b ≤ c → c < b + us.length + 3 → h.get? c = some o → h'.get? c = some o) : ZAt h' b us c ok := by
  obtain ⟨⟨f0, f1, ho, hz⟩, hTI, ⟨xs, hx, hTO⟩, its⟩ := Z
  refine ⟨⟨f0, f1, ho, k _ _ (by omega) (by omega) hz⟩, k _ _ (by omega) (by omega) hTI, ⟨xs, hx, k _ _ (by omega) (by omega) hTO⟩, fun j v hv => ?_⟩
  have hk : j < us.length := (List.getElem?_eq_some_iff.mp hv).1
  obtain ⟨o, ho, r⟩ := its j v hv
  exact ⟨o, k _ _ (by omega) (by omega) ho, r⟩
theorem ZAt.congr {c' : Nat → Nat} (Z : ZAt h b us c ok) (e : ∀ j, j < us.length → c' j = c j) : ZAt h b us c' ok :=
  ⟨Z.z, Z.TI, Z.TO, fun j u hu => by rw [e j (List.getElem?_eq_some_iff.mp hu).1]; exact Z.its j u hu⟩
theorem Out.but {n : Nat} {g : Heap} {a : Nat} (x : Out b n g h) (sb : Heap.SameBut a h h') (ha : b ≤ a ∧ a < b + n + 3) : Out b n g h' := fun d o hd e => (sb.2 d (fun z => hd (by rw [z]; exact ha))).trans (x d o hd e)


theorem zip_free (Z : ZAt s.heap b us c) {Q : Bool → Shared → Prop} (hQ : ∀ r h', ZAt h' b us c → Heap.SameBut (b + us.length + 2) s.heap h' → Q r { s with heap := h' }) :
    wpAny (model prog w) A (Builtin.SmallTypes.ownedTupleIsFree (.ref (b + us.length + 2))) Q E s := by
  obtain ⟨f0, f1, hf0, hz⟩ := id Z.z
  unfold Builtin.SmallTypes.ownedTupleIsFree
  refine wpAny_bind (wpAny_field hz rfl (x := f0) rfl ?_)
  rcases hf0 with rfl | ⟨a, ta, rfl⟩
  · exact wpAny_pure (hQ true _ Z (Heap.SameBut.refl _ _))
  · show wpAny _ _ (loadIfAlive a.toNat >>= _) _ _ _
    refine wpAny_bind (wpAny_loadIfAlive ?_)
    cases e : s.heap.get? a.toNat with
    | none => exact wpAny_pure (hQ true _ Z (Heap.SameBut.refl _ _))
    | some o =>
      show wpAny _ _ (field (.ref (b + us.length + 2)) 1 >>= _) _ _ _
      refine wpAny_bind (wpAny_field hz rfl (x := f1) rfl ?_)
      split
      · refine wpAny_bind (wpAny_setField_rec hz (by simp) fun h' hz' sb => ?_)
        exact wpAny_pure (hQ false _ (Z.mark sb hz' (.inr ⟨a, ta, rfl⟩)) sb)
      · exact wpAny_pure (hQ false _ Z (Heap.SameBut.refl _ _))
theorem refs_at {k : Nat} {x : Value} (h : (refs b us.length)[k]? = some x) : ∃ u, us[k]? = some u ∧ x = .ref (b + k) := by
  have hk : k < us.length := by
    have := (List.getElem?_eq_some_iff.mp h).1
    rw [refs_len] at this
    exact this
  rw [refs_get hk] at h
  exact ⟨us[k], List.getElem?_eq_getElem hk, (Option.some.inj h).symm⟩
/-- so far: the first k of the signs at i -/
def SignsTo (us : List (Str × Tok)) (i k : Nat) (xs : List Value) : Prop := ∀ (j : Nat) (u : Str × Tok), j < k → us[j]? = some u → ∃ c t, u.1.cps[i]? = some c ∧ xs[j]? = some (.str ⟨#[c]⟩ t)
theorem zipN_item {i : Nat} {Q : Value → Shared → Prop} (Z : ZAt s.heap b us (fun _ => i)) (hne : us ≠ []) (hl : us.length ≤ 1000) (hi : ∀ u ∈ us, i < u.1.cps.size)
    (hQ : ∀ T h' tk xs, s.heap.objs.size ≤ T → h'.get? T = some { cls := .type "tuple", data := .seq (List.toArray xs) } → SignsAt us i xs → ZAt h' b us (fun _ => i + 1) → Out b us.length s.heap h' → Q (.ref T) { s with heap := h', toks := tk }) :
    wpAny (model prog w) A (Builtin.«zip.__next__» ⟨[.ref (b + us.length + 2)], []⟩) (fun fin s' => ∃ v, fin = .done (.ret v) ∧ Q v s') E s := by
  obtain ⟨f0, f1, hf0, hz⟩ := id Z.z
  have hne' : us.length ≠ 0 := fun e => hne (List.length_eq_zero_iff.mp e)
  show wpAny _ _ (field (.ref (b + us.length + 2)) 2 >>= _) _ _ _
  refine wpAny_bind (wpAny_field hz rfl (x := .bool false) rfl ?_)
  show wpAny _ _ (field (.ref (b + us.length + 2)) 3 >>= _) _ _ _
  refine wpAny_bind (wpAny_field hz rfl (x := .ref (b + us.length)) rfl ?_)
  refine wpAny_bind (wpAny_seqItems Z.TI rfl ?_)
  have hemp : (refs b us.length).toArray.isEmpty = false := by
    rw [Array.isEmpty_eq_false_iff]
    intro e
    have := congrArg Array.size e
    simp [refs] at this
    exact hne (by simpa using this)
  show wpAny _ _ (if (refs b us.length).toArray.isEmpty = true then _ else _) _ _ _
  rw [if_neg (by rw [hemp]; exact Bool.false_ne_true)]
  refine wpAny_bind (zip_free Z fun r h1 Z1 sb1 => ?_)
  have O1 : Out b us.length s.heap h1 := fun d o hd e => (sb1.2 d (fun z => hd (by rw [z]; omega))).trans e
  cases r with
  | true =>
    rw [if_pos rfl]
    refine wpAny_bind (wpAny_rule ?_)
    obtain ⟨g0, g1, hg0, hz1⟩ := id Z1.z
    refine wpAny_bind (wpAny_field hz1 rfl (x := .ref (b + us.length + 1)) rfl ?_)
    refine wpAny_bind (wpAny_setField_rec hz1 (by simp) fun h2 hz2 sb2 => ?_)
    have Z2 : ZAt h2 b us (fun _ => i) (fun _ => True) := Z1.mark sb2 hz2 trivial
    have O2 : Out b us.length s.heap h2 := O1.but sb2 (by omega)
    refine wpAny_bind ?_
    refine forIn_turns (fun k r s' => r = (none, ()) ∧ ∃ h' tk xs, s' = { s with heap := h', toks := tk } ∧ ZAt h' b us (fun j => if j < k then i + 1 else i) (fun _ => True) ∧ Out b us.length s.heap h' ∧ h'.objs.size = s.heap.objs.size ∧
      xs.length = us.length ∧ h'.get? (b + us.length + 1) = some { cls := .type "tuple", data := .seq (List.toArray xs) } ∧ SignsTo us i k xs) _ 0 _ _ ⟨rfl, h2, s.toks, ?_⟩ (fun k a r s' hk hj => ?_) fun r s' hj => ?_
    · obtain ⟨xs, hx, hTO⟩ := Z2.TO
      refine ⟨xs.toList, rfl, Z2.congr fun j _ => by simp, O2, sb2.1.trans sb1.1, by simpa using hx, by simpa using hTO, fun j u h => absurd h (Nat.not_lt_zero _)⟩
    · rw [Nat.zero_add] at hj ⊢
      obtain ⟨rfl, h3, tk, xs, rfl, Z3, O3, sz3, lx, hTO3, sg⟩ := hj
      rw [List.toList_toArray, List.getElem?_zipIdx] at hk
      obtain ⟨y, hy, ea⟩ := Option.map_eq_some_iff.mp hk
      obtain ⟨u, hu, rfl⟩ := refs_at hy
      subst ea
      rw [Nat.zero_add]
      have hkl : k < us.length := (List.getElem?_eq_some_iff.mp hu).1
      have hit := Z3.its k u hu
      rw [if_neg (Nat.lt_irrefl k)] at hit
      obtain ⟨c, hc⟩ : ∃ c, u.1.cps[i]? = some c := ⟨_, Array.getElem?_eq_getElem (hi u (List.mem_of_getElem? hu))⟩
      refine wpAny_bind (wpAny_onRaise ?_)
      show wpAny _ _ (Builtin.SmallTypes.nextOf (.ref (b + k)) >>= _) _ _ _
      refine wpAny_bind (wpAny_nextOf_ascii_item (s := { s with heap := h3, toks := tk }) hit hc fun h4 hit4 sb4 => wpAny_pure ?_)
      have hTO4 := (sb4.2 _ (ne_adr (.inr (by omega)))).trans hTO3
      have Z4 : ZAt h4 b us (fun j => if j < k + 1 then i + 1 else i) (fun _ => True) := Z3.draw hu sb4 hit4 (if_pos (Nat.lt_succ_self k)) fun j hj => by
        by_cases e : j < k
        · rw [if_pos e, if_pos (by omega)]
        · rw [if_neg e, if_neg (by omega)]
      refine wpAny_bind (wpAny_seqItems hTO4 rfl ?_)
      refine wpAny_bind (wpAny_updateSeq hTO4 rfl ?_ (by rw [List.size_toArray, lx]; exact Nat.le_trans hl (by decide)) (by rw [Array.size_setIfInBounds, List.size_toArray, lx]; exact Nat.le_trans hl (by decide)))
      have hTO5 := Heap.get?_update_self (Obj.mapSeq fun x_1 => x_1.setIfInBounds k (Value.str ⟨#[c]⟩ tk)) hTO4 rfl
      have sb5 := Heap.SameBut.update h4 (b + us.length + 1) (Obj.mapSeq fun x_1 => x_1.setIfInBounds k (Value.str ⟨#[c]⟩ tk))
      have hTO6 : (h4.update (b + us.length + 1) (Obj.mapSeq fun x_1 => x_1.setIfInBounds k (Value.str ⟨#[c]⟩ tk))).get? (b + us.length + 1) = some { cls := .type "tuple", data := .seq (List.toArray (xs.set k (Value.str ⟨#[c]⟩ tk))) } := by
        rw [hTO5]
        simp [Obj.mapSeq]
      refine wpAny_bind (wpAny_letGo (wpAny_pure ⟨_, rfl, rfl, _, _, xs.set k (.str ⟨#[c]⟩ tk), rfl, Z4.own sb5 (by simp [lx]) hTO6, (O3.but sb4 (by omega)).but sb5 (by omega), ?_, by rw [List.length_set, lx], hTO6, fun j v hj hv => ?_⟩))
      · rw [sb5.1, sb4.1]; exact sz3
      · by_cases e : j = k
        · subst e
          rw [hu] at hv; cases hv
          exact ⟨c, tk, hc, by rw [List.getElem?_set_self (by omega)]⟩
        · obtain ⟨c', t', h1', h2'⟩ := sg j v (by omega) hv
          exact ⟨c', t', h1', by rw [List.getElem?_set_ne (Ne.symm e)]; exact h2'⟩
    · obtain ⟨rfl, h3, tk, xs, rfl, Z3, O3, sz3, lx, hTO3, sg⟩ := hj
      have el : 0 + ((refs b us.length).toArray.toList.zipIdx).length = us.length := by simp [refs]
      rw [el] at Z3 sg
      refine wpAny_bind (wpAny_seqItems hTO3 rfl ?_)
      refine wpAny_bind (wpAny_newTuple ?_ (by show xs.length ≤ _; rw [lx]; exact Nat.le_trans hl (by decide)))
      obtain ⟨g3, g4, _, hz3⟩ := id Z3.z
      generalize e4 : h3.push { cls := .type "tuple", data := .seq xs.toArray } = h4
      have sz4 : h4.objs.size = s.heap.objs.size + 1 := by rw [← e4, Heap.size_push, sz3]
      have up4 : ∀ d o, h3.get? d = some o → h4.get? d = some o := fun d o e => by rw [← e4]; exact Heap.get?_push_of_some _ e
      have hT4 : h4.get? s.heap.objs.size = some { cls := .type "tuple", data := .seq xs.toArray } := by rw [← e4, ← sz3]; exact Heap.get?_push_size _ rfl
      have Z4 : ZAt h4 b us (fun _ => i + 1) (fun _ => True) := (Z3.kept fun d o _ _ e => up4 d o e).congr fun j hj => by rw [if_pos hj]
      have hzb := Z.lt
      obtain ⟨g3, g4, _, hz4⟩ := id Z4.z
      show wpAny _ _ (Builtin.SmallTypes.ownedTupleHandOut (.ref (b + us.length + 2)) (.ref h3.objs.size) >>= _) _ _ _
      refine wpAny_bind ?_
      unfold Builtin.SmallTypes.ownedTupleHandOut
      refine wpAny_bind (wpAny_setField_rec (s := { s with heap := _, toks := tk }) hz4 (by simp) fun h5 hz5 sb5 => ?_)
      refine wpAny_setField_rec hz5 (by simp) fun h6 hz6 sb6 => ?_
      refine wpAny_pure ⟨_, rfl, ?_⟩
      rw [sz3]
      rw [sz3] at hz5 hz6
      have Z6 := Z4.mark (ok' := fun f0 => f0 = .none ∨ ∃ a t, f0 = .int a t) (h' := h6) ⟨sb6.1.trans sb5.1, fun d hd => (sb6.2 d hd).trans (sb5.2 d hd)⟩ hz6 (.inr ⟨_, _, rfl⟩)
      refine hQ _ h6 tk xs (Nat.le_refl _) ?_ ⟨lx, fun j u hu => sg j u (List.getElem?_eq_some_iff.mp hu).1 hu⟩ Z6 fun d o hd e => ?_
      · have hn : s.heap.objs.size ≠ b + us.length + 2 := Nat.ne_of_gt hzb
        rw [sb6.2 _ hn, sb5.2 _ hn]
        exact hT4
      · have hn : d ≠ b + us.length + 2 := fun z => hd (by rw [z]; omega)
        rw [sb6.2 _ hn, sb5.2 _ hn]
        exact up4 d o (O3 d o hd e)
  | false =>
    rw [if_neg Bool.false_ne_true]
    show wpAny _ _ (forIn (refs b us.length).toArray _ _ >>= _) _ _ _
    rw [List.forIn_toArray]
    refine wpAny_bind ?_
    refine forIn_turns (fun k r s' => ∃ xs : List Value, r = (none, xs.toArray) ∧ ∃ h' tk, s' = { s with heap := h', toks := tk } ∧ ZAt h' b us (fun j => if j < k then i + 1 else i) ∧ Out b us.length s.heap h' ∧ h'.objs.size = s.heap.objs.size ∧
      xs.length = k ∧ SignsTo us i k xs) _ 0 _ _ ⟨[], rfl, h1, s.toks, rfl, Z1.congr fun j _ => by simp, O1, sb1.1, rfl, fun j u h => absurd h (Nat.not_lt_zero _)⟩ (fun k a r s' hk hj => ?_) fun r s' hj => ?_
    · rw [Nat.zero_add] at hj ⊢
      obtain ⟨xs, rfl, h3, tk, rfl, Z3, O3, sz3, lx, sg⟩ := hj
      obtain ⟨u, hu, rfl⟩ := refs_at hk
      have hkl : k < us.length := (List.getElem?_eq_some_iff.mp hu).1
      have hit := Z3.its k u hu
      rw [if_neg (Nat.lt_irrefl k)] at hit
      obtain ⟨c, hc⟩ : ∃ c, u.1.cps[i]? = some c := ⟨_, Array.getElem?_eq_getElem (hi u (List.mem_of_getElem? hu))⟩
      refine wpAny_bind (wpAny_holding ?_)
      show wpAny _ _ (Builtin.SmallTypes.nextOf (.ref (b + k)) >>= _) _ _ _
      refine wpAny_bind (wpAny_nextOf_ascii_item (s := { s with heap := h3, toks := tk }) hit hc fun h4 hit4 sb4 => wpAny_pure ?_)
      have Z4 : ZAt h4 b us (fun j => if j < k + 1 then i + 1 else i) := Z3.draw hu sb4 hit4 (if_pos (Nat.lt_succ_self k)) fun j hj => by
        by_cases e : j < k
        · rw [if_pos e, if_pos (by omega)]
        · rw [if_neg e, if_neg (by omega)]
      refine wpAny_pure ⟨_, rfl, xs ++ [.str ⟨#[c]⟩ tk], by simp, _, _, rfl, Z4, O3.but sb4 (by omega), sb4.1.trans sz3, by simp [lx], fun j v hj hv => ?_⟩
      by_cases e : j = k
      · subst e
        rw [hu] at hv; cases hv
        exact ⟨c, tk, hc, by rw [List.getElem?_append_right (by omega), lx, Nat.sub_self] <;> rfl⟩
      · obtain ⟨c', t', h1', h2'⟩ := sg j v (by omega) hv
        exact ⟨c', t', h1', by rw [List.getElem?_append_left (by omega)]; exact h2'⟩
    · obtain ⟨xs, rfl, h3, tk, rfl, Z3, O3, sz3, lx, sg⟩ := hj
      have el : 0 + (refs b us.length).length = us.length := by simp [refs]
      rw [el] at Z3 sg lx
      refine wpAny_bind (wpAny_newTuple ?_ (by show xs.length ≤ _; rw [lx]; exact Nat.le_trans hl (by decide)))
      refine wpAny_pure ⟨_, rfl, ?_⟩
      show Q (.ref h3.objs.size) _
      rw [sz3]
      refine hQ _ _ tk xs (Nat.le_refl _) (by rw [← sz3]; exact Heap.get?_push_size _ rfl) ⟨lx, fun j u hu => sg j u (List.getElem?_eq_some_iff.mp hu).1 hu⟩ ((Z3.kept fun d o _ _ e => Heap.get?_push_of_some _ e).congr fun j hj => by rw [if_pos hj]) fun d o hd e => Heap.get?_push_of_some _ (O3 d o hd e)
/-- StopIteration is raised -/
theorem stop_new {α : Type} {Q : α → Shared → Prop} (hh : A.handled = none) (hE : ∀ h' e, (∀ d o, s.heap.get? d = some o → h'.get? d = some o) → (∃ o, h'.get? e = some o ∧ o.cls = .type "StopIteration") → E (.ref e) { s with heap := h' }) :
    wpAny (model prog w) A (Builtin.SmallTypes.stopIteration : Sem α) Q E s := by
  unfold Builtin.SmallTypes.stopIteration
  refine wpAny_bind ?_
  simp only [newExc, newTuple]
  refine wpAny_bind (wpAny_newObj_type ?_ (by size_fits))
  refine wpAny_bind (m := firstArgMember _ _) (wpAny_of_eq (a := Value.none) (by first | rfl | (simp only [firstArgMember]; rfl)) ?_)
  refine wpAny_newObj_type ?_ (by size_fits)
  simp only [raiseNew]
  refine wpAny_bind (wpAny_handled ?_)
  rw [hh]
  refine wpAny_bind (wpAny_pure (wpAny_throw ?_))
  exact hE _ _ (fun d o e => Heap.get?_push_of_some _ (Heap.get?_push_of_some _ e)) ⟨_, Heap.get?_push_size _ rfl, rfl⟩
/-- the first text is at its end (or there is none) -/
theorem zipN_end {i : Nat} {Q : PySem.Fin → Shared → Prop} (hh : A.handled = none) (Z : ZAt s.heap b us (fun _ => i)) (hi : ∀ u, us[0]? = some u → u.1.cps[i]? = none)
    (hE : ∀ h' e, Out b us.length s.heap h' → (∃ o, h'.get? e = some o ∧ o.cls = .type "StopIteration") → E (.ref e) { s with heap := h' }) :
    wpAny (model prog w) A (Builtin.«zip.__next__» ⟨[.ref (b + us.length + 2)], []⟩) Q E s := by
  obtain ⟨f0, f1, hf0, hz⟩ := id Z.z
  show wpAny _ _ (field (.ref (b + us.length + 2)) 2 >>= _) _ _ _
  refine wpAny_bind (wpAny_field hz rfl (x := .bool false) rfl ?_)
  show wpAny _ _ (field (.ref (b + us.length + 2)) 3 >>= _) _ _ _
  refine wpAny_bind (wpAny_field hz rfl (x := .ref (b + us.length)) rfl ?_)
  refine wpAny_bind (wpAny_seqItems Z.TI rfl ?_)
  cases us with
  | nil =>
    show wpAny _ _ (if (refs b 0).toArray.isEmpty = true then _ else _) _ _ _
    rw [if_pos (by rfl)]
    refine wpAny_bind (wpAny_rule (wpAny_bind ?_))
    exact stop_new hh fun h' e kp he => hE h' e (fun d o _ q => kp d o q) he
  | cons u0 us =>
    have er : refs b (u0 :: us).length = .ref b :: (List.range us.length).map (fun j => Value.ref (b + (j + 1))) := by
      unfold refs
      rw [List.length_cons, List.range_succ_eq_map, List.map_cons, List.map_map]
      rfl
    have hx := hi u0 rfl
    show wpAny _ _ (if (refs b (u0 :: us).length).toArray.isEmpty = true then _ else _) _ _ _
    rw [if_neg (by rw [er]; simp)]
    refine wpAny_bind (zip_free Z fun r h1 Z1 sb1 => ?_)
    have O1 : Out b (u0 :: us).length s.heap h1 := fun d o hd e => (sb1.2 d (fun z => hd (by rw [z]; omega))).trans e
    have hit := Z1.its 0 u0 rfl
    cases r with
    | true =>
      rw [if_pos rfl]
      refine wpAny_bind (wpAny_rule ?_)
      obtain ⟨g0, g1, hg0, hz1⟩ := id Z1.z
      refine wpAny_bind (wpAny_field hz1 rfl (x := .ref (b + (u0 :: us).length + 1)) rfl ?_)
      refine wpAny_bind (wpAny_setField_rec hz1 (by simp) fun h2 hz2 sb2 => ?_)
      have O2 : Out b (u0 :: us).length s.heap h2 := O1.but sb2 (by omega)
      have hit2 : h2.IsStrIter (b + 0) "str_ascii_iterator" u0.1 u0.2 i := let ⟨o, ho, r⟩ := hit; ⟨o, (sb2.2 _ (ne_adr (.inl (by omega)))).trans ho, r⟩
      refine wpAny_bind ?_
      rw [er, List.toList_toArray, List.zipIdx_cons, List.forIn_cons]
      refine wpAny_bind (wpAny_bind (wpAny_onRaise ?_))
      show wpAny _ _ (Builtin.SmallTypes.nextOf (.ref (b + 0)) >>= _) _ _ _
      refine wpAny_bind (wpAny_nextOf_ascii_end hh hit2 hx fun h3 e eb he => ?_)
      obtain ⟨oe, hoe, hce⟩ := he
      have hz3 := eb _ _ (ne_adr (.inr (by simp only [List.length_cons]; omega))) hz2
      have hez : e ≠ b + (u0 :: us).length + 2 := fun z => by
        rw [z, hz3] at hoe
        cases hoe
        simp at hce
      refine wpAny_setField_rec hz3 (by simp) fun h4 _ sb4 => hE h4 e (fun d o hd q => ?_) ⟨oe, (sb4.2 e hez).trans hoe, hce⟩
      rw [sb4.2 d (fun z => hd (by rw [z]; omega))]
      exact eb d o (fun z => hd (by rw [z]; omega)) (O2 d o hd q)
    | false =>
      rw [if_neg Bool.false_ne_true]
      show wpAny _ _ (forIn (refs b (u0 :: us).length).toArray _ _ >>= _) _ _ _
      rw [List.forIn_toArray, er, List.forIn_cons]
      refine wpAny_bind (wpAny_bind (wpAny_bind (wpAny_holding ?_)))
      show wpAny _ _ (Builtin.SmallTypes.nextOf (.ref (b + 0)) >>= _) _ _ _
      refine wpAny_bind (wpAny_nextOf_ascii_end (s := { s with heap := h1 }) hh hit hx fun h3 e eb he => ?_)
      exact hE h3 e (fun d o hd q => eb d o (fun z => hd (by rw [z]; omega)) (O1 d o hd q)) he
end
/-! ### the rule: for column in zip(*rows) -/
section
variable {P : Program} {w : World} {K : PySem.W.Frag}
/-- the signs at place i of every row -/
def colAt (ws : List Str) (i : Nat) : List Str := ws.map fun a => ⟨#[a.cps.getD i 0]⟩
/-- columns of the rows ws -/
def ItzN (ws : List Str) : It := ⟨fun i _ => ws ≠ [] ∧ ∀ a ∈ ws, i < a.cps.size, fun i H x H' => ∃ T, x = .ref T ∧ H T = none ∧ H' = upd H T (.tup ((colAt ws i).map V.str)), fun i _ => ∀ a, ws[0]? = some a → a.cps.size ≤ i⟩
theorem vals_get : ∀ {xs : List V} {us : List Value}, xs.length = us.length → (∀ (j : Nat) x, xs[j]? = some x → ∃ u, us[j]? = some u ∧ RelV x u) → Vals xs us
  | [], [], _, _ => .nil
  | [], _ :: _, h, _ => by cases h
  | _ :: _, [], h, _ => by cases h
  | x :: xs, u :: us, h, g => by
    obtain ⟨u', e, r⟩ := g 0 x rfl
    cases e
    exact .cons r (vals_get (Nat.succ.inj h) fun j y hy => g (j + 1) y hy)
theorem col_vals {us : List (Str × Tok)} {ws : List Str} {i : Nat} {xs : List Value} (e : us.map (·.1) = ws) (h : SignsAt us i xs) : Vals ((colAt ws i).map V.str) xs := by
  subst e
  refine vals_get (by simp [colAt, h.1]) fun j x hx => ?_
  unfold colAt at hx
  rw [List.map_map, List.map_map, List.getElem?_map] at hx
  cases hu : us[j]? with
  | none => rw [hu] at hx; cases hx
  | some u =>
    rw [hu] at hx
    cases hx
    obtain ⟨c, t, hc, ht⟩ := h.2 j u hu
    refine ⟨_, ht, t, ?_⟩
    have e : u.1.cps.getD i 0 = c := by simp [Array.getD_eq_getD_getElem?, hc]
    show Value.str ⟨#[c]⟩ t = Value.str ⟨#[u.1.cps.getD i 0]⟩ t
    rw [e]
def zfp (b n : Nat) : List Addr := (List.range (n + 3)).map fun j => b + j
theorem mem_zfp {b n a : Nat} : a ∈ zfp b n ↔ b ≤ a ∧ a < b + n + 3 := by
  unfold zfp
  simp only [List.mem_map, List.mem_range]
  constructor
  · rintro ⟨j, hj, rfl⟩
    omega
  · rintro ⟨h1, h2⟩
    exact ⟨a - b, by omega, by omega⟩
theorem turn_zipN {x : Str} {px : Pos} (b : Nat) (ws : List Str) (hl : ws.length ≤ 1000) :
    Turn P w K (.Name x px) (ItzN ws) (zfp b ws.length) (b + ws.length + 2) (fun i h => ∃ us : List (Str × Tok), us.map (·.1) = ws ∧ ZAt h b us (fun _ => i)) where
  mem := mem_zfp.mpr ⟨by omega, by omega⟩
  obj := fun i h ⟨us, e, Z⟩ a ha => by
    have el : us.length = ws.length := by rw [← e, List.length_map]
    have h12 := mem_zfp.mp ha
    rw [← el] at h12
    obtain ⟨⟨f0, f1, _, hz⟩, hTI, ⟨xs, _, hTO⟩, its⟩ := Z
    obtain ⟨j, rfl⟩ : ∃ j : Nat, a = b + j := ⟨a - b, (Nat.add_sub_of_le h12.1).symm⟩
    have h13 : j < us.length + 3 := by
      have q : b + j < b + us.length + 3 := h12.2
      omega
    by_cases hj : j < us.length
    · obtain ⟨o, ho, _, hd⟩ := its j _ (List.getElem?_eq_getElem hj)
      exact ⟨o, ho, fun v q => by rw [hd] at q; cases q⟩
    rcases (by omega : j = us.length ∨ j = us.length + 1 ∨ j = us.length + 2) with e1 | e1 | e1
    · rw [e1]; exact ⟨_, hTI, fun v q => nomatch q⟩
    · rw [e1]; exact ⟨_, hTO, fun v q => nomatch q⟩
    · rw [e1]; exact ⟨_, hz, fun v q => nomatch q⟩
  keep := fun i h h' ⟨us, e, Z⟩ k => by
    have el : us.length = ws.length := by rw [← e, List.length_map]
    exact ⟨us, e, Z.kept fun c o h1 h2 q => k c (mem_zfp.mpr ⟨h1, by rw [← el]; exact h2⟩) o q⟩
  item := by
    intro X hP hw hK hc i pins s σ H E I hf st hg
    subst hP hw hK
    obtain ⟨us, e, Z⟩ := st
    obtain ⟨hne, hi⟩ := hg
    have el : us.length = ws.length := by rw [← e, List.length_map]
    have hT : s.TypeIs (.ref (b + us.length + 2)) "zip" := let ⟨_, _, _, q⟩ := Z.z; ⟨_, q, rfl⟩
    have key : wpAny (model X.prog X.w) X.A (pyNext (.ref (b + us.length + 2))) (fun r s1 => ∃ u, r = some u ∧ ∃ x H', Inv X pins σ H' s1 ∧ RelV x u ∧ (ItzN ws).yld i H x H' ∧ (∃ us' : List (Str × Tok), us'.map (·.1) = ws ∧ ZAt s1.heap b us' (fun _ => i + 1)) ∧ ∀ c ∈ zfp b ws.length, H' c = none) E s := by
      unfold pyNext
      refine wpAny_bind (wpAny_attempt (wpAny_callSpecial?_slot (name := Str.ofString "__next__") hT PySem.F.slot_zip_next (wpAny_call_entry PySem.F.slot_zip_next hT PySem.F.entry_zip_next
        (zipN_item Z (fun z => hne (by rw [← e, z] <;> rfl)) (by rw [el]; exact hl) (fun u hu => hi u.1 (by rw [← e]; exact List.mem_map_of_mem hu)) fun T h' tk xs hT hTo sg Z' O => wpAny_pure ?_) (PySem.F.args_zip_next_1 _))))
      have new : ObjOk X.prog X.w (upd H T (.tup ((colAt ws i).map V.str))) h' T (.tup ((colAt ws i).map V.str)) :=
        ⟨by rw [List.length_map]; unfold colAt; rw [List.length_map]; exact Nat.le_trans hl (by decide), xs, col_vals e sg, ⟨_, hTo, rfl, _, rfl⟩⟩
      have I1 : Inv X pins σ (upd H T (.tup ((colAt ws i).map V.str))) { s with heap := h', toks := tk } :=
        I.turnedNew (t' := tk) (ch := zfp b ws.length) (fun c o hb q => O c o (fun z => hb (mem_zfp.mpr (by rw [← el]; exact z))) q) hf hT new
      refine ⟨_, rfl, .ref T, _, I1, rfl, ⟨T, rfl, I.hok.fresh hT, rfl⟩, ⟨us, e, Z'⟩, fun c hcm => ?_⟩
      have h12 := mem_zfp.mp hcm
      have hlt := Z.lt
      rw [upd_ne (ne_adr (.inl (by rw [el] at hlt; omega)))]
      exact (hf c hcm).1
    rw [el] at key
    refine thn key fun r s1 ⟨u, hr, x, H', q⟩ => ⟨u, hr, ?_⟩
    exact wpAny_of_eq (rfl : letOwnedTupleGo _ _ u = pure ()) ⟨x, H', q⟩
  done := by
    intro X hP hw hK hc i pins s σ H E I hf st hg
    subst hP hw hK
    obtain ⟨us, e, Z⟩ := st
    have el : us.length = ws.length := by rw [← e, List.length_map]
    have hT : s.TypeIs (.ref (b + us.length + 2)) "zip" := let ⟨_, _, _, q⟩ := Z.z; ⟨_, q, rfl⟩
    rw [← el]
    unfold pyNext
    refine wpAny_bind (wpAny_attempt (wpAny_callSpecial?_slot (name := Str.ofString "__next__") hT PySem.F.slot_zip_next (wpAny_call_entry PySem.F.slot_zip_next hT PySem.F.entry_zip_next
      (zipN_end (I.ok.hd hc) Z (fun u hu => ?_) fun h' x O he => ?_) (PySem.F.args_zip_next_1 _))))
    · refine Array.getElem?_eq_none (hg u.1 ?_)
      rw [← e, List.getElem?_map, hu] <;> rfl
    · obtain ⟨o, ho, hcl⟩ := he
      refine wpAny_bind (wpAny_isInstance (T := "StopIteration") (b := true) ⟨o, ho, hcl⟩ isSubtype_stop ?_)
      exact wpAny_pure ⟨rfl, I.turnedL (t' := s.toks) (ch := zfp b ws.length) (fun c o hb q => O c o (fun z => hb (mem_zfp.mpr (by rw [← el]; exact z))) q) hf⟩
  self := fun A i s Q E ⟨us, e, Z⟩ h => by
    have el : us.length = ws.length := by rw [← e, List.length_map]
    obtain ⟨f0, f1, _, hz⟩ := Z.z
    rw [el] at hz
    have hT : s.TypeIs (.ref (b + ws.length + 2)) "zip" := ⟨_, hz, rfl⟩
    refine wpAny_pyIter_slot hT PySem.F.slot_zip_iter (wpAny_call_entry PySem.F.slot_zip_iter hT PySem.F.entry_zip_iter ?_ (PySem.F.args_zip_iter_1 _))
    show wpAny _ _ (ret _) _ _ s
    exact wpAny_pure ⟨_, rfl, "zip", _, hT, PySem.F.slot_zip_next.lookup, h⟩
/-- zip(*rows): a list of texts of small signs -/
def iZipN (K : PySem.W.Frag) (te : TE) : TI := fun σ H R => te σ H fun v H1 => ∃ a ws, v = .ref a ∧ SqL K H1 a (ws.map V.str) ∧ ws.length ≤ 1000 ∧ (∀ a ∈ ws, a.cps.all (· < 128) = true) ∧ R (ItzN ws) H1
theorem pi_zipN {X : Cx} {e : Expr} {te : TE} {x : Str} {px p p2 pos : Pos} (hg : Gl X "zip") (hm : X.mg "zip" = none) (he : PE X e te) (hs : starEach [.Starred e p2] X.env = [(true, eval e X.env)] := by rfl) :
    PI X (.Name x px) (.Call (.Name "zip" p) [.Starred e p2] [] pos) (iZipN X.K te) := by
  refine ⟨fun pins s σ H R I h => ?_⟩
  refine Call_ (ld_blt I hg hm PyProof.Rows.boot_zip ?_)
  rw [hs]
  refine PySem.W.ks_call (P := fun _ => True) rfl (fun _ _ => ⟨.machine, .inr (.inl rfl), PySem.W.Looks.of_pure rfl⟩) (PySem.W.ks_lone (thn (he.run pins s σ H _ I h) fun v s1 ⟨y, H1, I1, r1, q1⟩ => ?_))
  obtain ⟨a, ws, rfl, hq, hl, ha, q⟩ := q1
  obtain rfl : v = Value.ref a := r1
  refine StX.star_lst I1 hq fun us s2 I2 rv => ⟨trivial, ?_⟩
  obtain ⟨ps, ep, eu⟩ : ∃ ps : List (Str × Tok), ps.map (·.1) = ws ∧ us = txts ps := by
    clear hq ha hl q
    induction ws generalizing us with
    | nil => cases rv; exact ⟨[], rfl, rfl⟩
    | cons a ws ih =>
      cases rv with
      | cons r rr =>
        obtain ⟨t, rfl⟩ := (show ∃ t, _ = Value.str a t from r)
        obtain ⟨ps, e1, e2⟩ := ih _ rr
        exact ⟨(a, t) :: ps, by rw [List.map_cons, e1], by rw [e2] <;> rfl⟩
  subst eu
  have el : ps.length = ws.length := by rw [← ep, List.length_map]
  refine call_zipN (fun u hu => ha u.1 (by rw [← ep]; exact List.mem_map_of_mem hu)) (by rw [el]; exact hl) fun h' Z sz kp => ?_
  have I3 : Inv X pins σ H1 { s2 with heap := h' } := I2.kept (t' := s2.toks) kp
  rw [el]
  have T := turn_zipN (P := X.prog) (w := X.w) (K := X.K) (x := x) (px := px) s2.heap.objs.size ws hl
  refine T.self X.A 0 _ _ _ ⟨ps, ep, Z⟩ ⟨_, zfp s2.heap.objs.size ws.length, _, _, H1, rfl, I3, T, ⟨ps, ep, Z⟩, fun c hc => ?_, q⟩
  have hle := (mem_zfp.mp hc).1
  exact I2.fpOk hle (I2.hok.fresh hle)
end
end AK
set_option Elab.async false
set_option linter.all false
set_option maxRecDepth 100000
set_option maxHeartbeats 2000000
namespace AK
open PySem PySem.Spec PyProof.Rows L2

/-! ### counting one sign in a text -/
theorem occ_len (x : Str) (c limit : Nat) : ∀ (m i : Nat) (st : Array Nat × Nat), st.2 ≤ i → st.1.size + m ≤ limit →
    (forIn (List.range' i m) st (StrLaws.occBody x ⟨#[c]⟩ x.length limit)).run.fst.size = st.1.size + ((List.range' i m).filter fun j => x.cps.toList[j]? == some c).length
  | 0, i, st, _, _ => by simp
  | m + 1, i, st, h, hl => by
    rw [List.range'_succ, List.forIn_cons]
    unfold StrLaws.occBody
    have hb := StrLaws.subAt_one x c i
    by_cases hc : x.cps.toList[i]? = some c
    · have q := hb.mpr hc
      rw [if_pos ⟨⟨⟨by omega, h⟩, q.1⟩, q.2⟩]
      have ih := occ_len x c limit m (i + 1) (st.1.push i, i + (⟨#[c]⟩ : Str).length) (Nat.le_refl _) (by simp only [Array.size_push]; omega)
      rw [List.filter_cons_of_pos (by simp [hc])]
      refine ih.trans ?_
      simp only [Array.size_push, List.length_cons]
      omega
    · rw [if_neg (fun z => hc (hb.mp ⟨z.1.2, z.2⟩))]
      have ih := occ_len x c limit m (i + 1) (st.1, st.2) (by show st.2 ≤ i + 1; omega) (by show st.1.size + m ≤ limit; omega)
      rw [List.filter_cons_of_neg (by rw [beq_iff_eq]; exact hc)]
      exact ih
theorem filter_get : ∀ (l : List Nat) (c k : Nat), ((List.range' k (l.length + 1)).filter fun j => l[j - k]? == some c).length = l.count c
  | [], c, k => by simp [List.range']
  | a :: l, c, k => by
    have ih := filter_get l c (k + 1)
    rw [List.length_cons, List.range'_succ]
    have e : (List.range' (k + 1) (l.length + 1)).filter (fun j => (a :: l)[j - k]? == some c) = (List.range' (k + 1) (l.length + 1)).filter (fun j => l[j - (k + 1)]? == some c) := by
      refine List.filter_congr fun j hj => ?_
      have h1 : k + 1 ≤ j := (List.mem_range'_1.mp hj).1
      have e : j - k = (j - (k + 1)) + 1 := by omega
      rw [e, List.getElem?_cons_succ]
    by_cases h : a = c
    · subst h
      rw [List.filter_cons_of_pos (by simp), List.length_cons, e, ih]
      simp
    · rw [List.filter_cons_of_neg (by simp [h]), e, ih]
      simp [h]
theorem count_one (x : Str) (c : Nat) : Txt.count x ⟨#[c]⟩ = (x.cps.toList.count c : Int) := by
  unfold Txt.count
  rw [StrLaws.occ_eq]
  have h := occ_len x c (x.length + 1) (x.length + 1) 0 (#[], 0) (Nat.le_refl _) (by simp)
  have e : x.length = x.cps.toList.length := by simp [Str.length]
  have h2 := filter_get x.cps.toList c 0
  simp only [Nat.sub_zero] at h2
  rw [← e] at h2
  rw [h2] at h
  rw [Nat.sub_zero, Array.length_toList]
  simp only [List.size_toArray, List.length_nil, Nat.zero_add] at h
  rw [h]

/-! ### joining signs by nothing -/
theorem joinL_signs : ∀ cs : List Nat, TL.joinL [] (cs.map fun c => [c]) = cs
  | [] => rfl
  | [_] => rfl
  | a :: b :: r => by
    have ih := joinL_signs (b :: r)
    show [a] ++ ([] ++ TL.joinL [] ((b :: r).map fun c => [c])) = a :: b :: r
    rw [ih] <;> rfl
theorem join_signs (cs : List Nat) : Txt.join (Str.ofString "") (cs.map fun c => (⟨#[c]⟩ : Str)) = ⟨cs.toArray⟩ := by
  refine TL.ext_tl ?_
  rw [TL.join_eq, TL.tl_join, List.map_map]
  show TL.joinL [] _ = _
  exact joinL_signs cs

/-! ### webs as texts -/
def sg (b : Bool) : Nat := if b = true then 120 else 45
def row (n : Nat) (e : Nat → Bool) : Str := ⟨((List.range n).map fun j => sg (e j)).toArray⟩
def web (n : Nat) (e : Nat → Nat → Bool) : List Str := (List.range n).map fun i => row n (e i)
def deg (n : Nat) (e : Nat → Bool) : Nat := ((List.range n).filter e).length
structure IsWeb (n : Nat) (e : Nat → Nat → Bool) : Prop where
  sym : ∀ i j, i < n → j < n → e i j = e j i
  irr : ∀ i, i < n → e i i = false
theorem row_size (n : Nat) (e : Nat → Bool) : (row n e).cps.size = n := by simp [row]
theorem row_len (n : Nat) (e : Nat → Bool) : (row n e).length = n := by simp [row, Str.length]
theorem web_len (n : Nat) (e : Nat → Nat → Bool) : (web n e).length = n := by simp [web]
theorem row_at {n j : Nat} {e : Nat → Bool} (h : j < n) : (row n e).cps[j]? = some (sg (e j)) := by simp [row, h]
theorem row_atL {n j : Nat} {e : Nat → Bool} (h : j < n) : (row n e).cps.toList[j]? = some (sg (e j)) := by simp [row, h]
theorem web_at {n i : Nat} {e : Nat → Nat → Bool} (h : i < n) : (web n e)[i]? = some (row n (e i)) := by simp [web, h]
theorem sg_x (b : Bool) : (sg b = 120) ↔ b = true := by cases b <;> simp [sg]
theorem sg_lt (b : Bool) : sg b < 128 := by cases b <;> decide
theorem row_ascii (n : Nat) (e : Nat → Bool) : (row n e).cps.all (· < 128) = true := by
  rw [Array.all_eq_true']
  intro c hc
  simp only [row, List.mem_toArray, List.mem_map] at hc
  obtain ⟨j, _, rfl⟩ := hc
  exact decide_eq_true (sg_lt _)
theorem deg_le (n : Nat) (e : Nat → Bool) : deg n e ≤ n := by
  have h := List.length_filter_le e (List.range n)
  rw [List.length_range] at h
  exact h
theorem count_map_x : ∀ (l : List Nat) (e : Nat → Bool), (l.map fun j => sg (e j)).count 120 = (l.filter e).length
  | [], e => rfl
  | a :: l, e => by
    rw [List.map_cons, List.count_cons, count_map_x l e]
    cases h : e a with
    | true => rw [List.filter_cons_of_pos h]; simp [sg]
    | false => rw [List.filter_cons_of_neg (by simp [h])]; simp [sg]
theorem count_map_d : ∀ (l : List Nat) (e : Nat → Bool), (l.map fun j => sg (e j)).count 120 + (l.map fun j => sg (e j)).count 45 = l.length
  | [], e => rfl
  | a :: l, e => by
    have ih := count_map_d l e
    rw [List.map_cons, List.count_cons, List.count_cons, List.length_cons]
    cases h : e a with
    | true => simp [sg] at ih ⊢; omega
    | false => simp [sg] at ih ⊢; omega
theorem row_knows (n : Nat) (e : Nat → Bool) : Txt.count (row n e) (Str.ofString "x") = (deg n e : Int) := by
  show Txt.count (row n e) ⟨#[120]⟩ = _
  rw [count_one]
  show (((List.range n).map fun j => sg (e j)).count 120 : Int) = _
  rw [count_map_x] <;> rfl
theorem row_both (n : Nat) (e : Nat → Bool) : Txt.count (row n e) (Str.ofString "x") + Txt.count (row n e) (Str.ofString "-") = (n : Int) := by
  show Txt.count (row n e) ⟨#[120]⟩ + Txt.count (row n e) ⟨#[45]⟩ = _
  rw [count_one, count_one]
  have h := count_map_d (List.range n) e
  rw [List.length_range] at h
  show (((List.range n).map fun j => sg (e j)).count 120 : Int) + (((List.range n).map fun j => sg (e j)).count 45 : Int) = _
  omega
/-- a column of a web, joined, is the row -/
theorem col_join {n i : Nat} {e : Nat → Nat → Bool} (W : IsWeb n e) (hi : i < n) : Txt.join (Str.ofString "") ((web n e).map fun a => (⟨#[a.cps.getD i 0]⟩ : Str)) = row n (e i) := by
  have h : ((web n e).map fun a => (⟨#[a.cps.getD i 0]⟩ : Str)) = ((List.range n).map fun j => sg (e i j)).map fun c => (⟨#[c]⟩ : Str) := by
    unfold web
    rw [List.map_map, List.map_map]
    refine List.map_congr_left fun j hj => ?_
    have hj' : j < n := List.mem_range.mp hj
    have q := row_at (e := e j) hi
    show (⟨#[(row n (e j)).cps.getD i 0]⟩ : Str) = ⟨#[sg (e i j)]⟩
    rw [Array.getD_eq_getD_getElem?, q, W.sym j i hj' hi] <;> rfl
  rw [h, join_signs] <;> rfl

/-! ### lists as data -/
theorem canS : ∀ ws : List Str, (∀ a ∈ ws, PyData.strOk a = true) → PyData.canLayAll0 (ws.map PyData.str) = true
  | [], _ => rfl
  | a :: ws, h => by
    rw [List.map_cons]
    simp only [PyData.canLayAll0, PyData.canLay0, Bool.and_eq_true]
    exact ⟨h a (List.mem_cons_self ..), canS ws fun b hb => h b (List.mem_cons_of_mem _ hb)⟩
theorem depthS : ∀ ws : List Str, PyData.depthAll (ws.map PyData.str) = 0
  | [] => rfl
  | a :: ws => by
    rw [List.map_cons]
    simp only [PyData.depthAll, PyData.depth, depthS ws]
    rfl
theorem shapedS {ws : List Str} (h : ∀ a ∈ ws, PyData.strOk a = true) : SeqAt.shaped (.list (ws.map PyData.str)) = true := by
  unfold SeqAt.shaped
  simp only [PyData.canLay0, PyData.depth, canS ws h, depthS ws]
  rfl
theorem eqvS : ∀ ws vs : List Str, PyData.eqvAll (ws.map PyData.str) (vs.map PyData.str) = decide (ws = vs)
  | [], [] => rfl
  | [], _ :: _ => rfl
  | _ :: _, [] => rfl
  | a :: ws, b :: vs => by
    rw [List.map_cons, List.map_cons]
    simp only [PyData.eqvAll, PyData.eqv, eqvS ws vs]
    by_cases h1 : a = b <;> by_cases h2 : ws = vs <;> simp [h1, h2]
theorem canI : ∀ ns : List Int, PyData.canLayAll0 (ns.map PyData.int) = true
  | [] => rfl
  | a :: ns => by
    rw [List.map_cons]
    simp only [PyData.canLayAll0, PyData.canLay0, canI ns]
    rfl
theorem depthI : ∀ ns : List Int, PyData.depthAll (ns.map PyData.int) = 0
  | [] => rfl
  | a :: ws => by
    rw [List.map_cons]
    simp only [PyData.depthAll, PyData.depth, depthI ws]
    rfl
theorem shapedI (ns : List Int) : SeqAt.shaped (.list (ns.map PyData.int)) = true := by
  unfold SeqAt.shaped
  simp only [PyData.canLay0, PyData.depth, canI ns, depthI ns]
  rfl
theorem eqvI : ∀ ws vs : List Int, PyData.eqvAll (ws.map PyData.int) (vs.map PyData.int) = decide (ws = vs)
  | [], [] => rfl
  | [], _ :: _ => rfl
  | _ :: _, [] => rfl
  | a :: ws, b :: vs => by
    rw [List.map_cons, List.map_cons]
    simp only [PyData.eqvAll, PyData.eqv, eqvI ws vs]
    by_cases h1 : a = b <;> by_cases h2 : ws = vs <;> simp [h1, h2]
section
variable {K : PySem.W.Frag} {H : Hp}
theorem dpS : ∀ ws : List Str, DpAll K H (ws.map V.str) (ws.map PyData.str)
  | [] => .nil
  | a :: ws => .cons (.str a) (dpS ws)
theorem dpI : ∀ ws : List Int, DpAll K H (ws.map V.int) (ws.map PyData.int)
  | [] => .nil
  | a :: ws => .cons (.int a) (dpI ws)
theorem tyList {a : Addr} {xs : List V} (h : SqL K H a xs) : TyX K H (.ref a) (.type "list") := by
  rcases h with (h | ⟨o, h⟩) | ⟨o, _, _, h, c, _⟩
  · exact .base (.lst h)
  · exact .base (.frz h)
  · exact .kList h c
end
end AK
set_option Elab.async false
set_option linter.all false
set_option maxRecDepth 100000
namespace AK
open PySem PySem.Spec PyProof.Rows L2
def topS (i : Nat) : Stmt := PySem.Challenge.pw_allknown_k02_whole_fewest.main.body.getD i (.Pass ⟨0, 0, 0, 0⟩)
abbrev sWhole : Stmt := topS 5
abbrev sCount : Stmt := topS 6
abbrev sWeb : Stmt := topS 11
abbrev sRow : Stmt := topS 12
abbrev sTies : Stmt := topS 13
abbrev sAlike : Stmt := topS 15
abbrev sFewest : Stmt := topS 16
abbrev sThrees : Stmt := topS 17
abbrev sWebOf : Stmt := topS 18
abbrev sRing : Stmt := topS 19
abbrev sKnow : Stmt := topS 20
abbrev sNum : Stmt := topS 22
abbrev sLFew : Stmt := topS 23
abbrev sIsWeb : Stmt := topS 24
abbrev sSmall : Stmt := topS 25
abbrev sLaw : Stmt := topS 26
end AK
set_option Elab.async false
set_option linter.all false
set_option maxRecDepth 100000
set_option maxHeartbeats 2000000
/-! generator expressions over any source, their names captured, elements that may call -/
namespace AK
open PySem PySem.Spec PyProof.Rows L2
section
variable {X : Cx} {pins : List (Addr × Obj)} {σ : L2.St} {H : Hp} {s : Shared}
/-- where an element runs: s0 is the state ahead of the source's iterator -/
structure EltAt (X : Cx) (P : Addr) (s0 : Shared) (scope : Scope) (cenv : Env) (A' : Around) (s2 : Shared) : Prop where
  sc : cenv.scope = scope
  cells : cenv.cells = cloFrom X.env.cells scope.names []
  glob : cenv.globals = X.env.globals
  hd : A'.handled = none
  dp : A'.depth ≤ X.A.depth + 1
  un : A'.units ≤ X.A.units + 8
  old : ∀ b o, b ≠ P → s0.heap.get? b = some o → s2.heap.get? b = some o
/-- a source: an iterator that hands out n things -/
def SrcAt (X : Cx) (P : Addr) (s0 s2 : Shared) (it : Value) (n : Nat) (Pf : Nat → Value → Prop) : Prop :=
  ∃ (Ia : Addr) (fp wr : List Addr) (St0 : Nat → Heap → Prop), it = .ref Ia ∧ (∀ A' : Around, A'.handled = none → Walks X.prog X.w A' Ia fp wr n Pf St0) ∧ St0 0 s2.heap ∧ (∀ b ∈ fp, b < s2.heap.objs.size ∧ b ≠ P) ∧ (∀ b ∈ wr, s0.heap.objs.size ≤ b) ∧
    (∃ h tk, s2 = { s0 with heap := h, toks := tk }) ∧ (∀ b o, s0.heap.get? b = some o → s2.heap.get? b = some o) ∧ s0.heap.objs.size ≤ s2.heap.objs.size
/-- the generator g, ready to hand out n things -/
def ReadyG (X : Cx) (pins : List (Addr × Obj)) (σ : L2.St) (H1 : Hp) (P : Addr) (n : Nat) (F : Nat → Value → Prop) (g : Addr) (s5 : Shared) : Prop :=
  ∃ (fp wr : List Addr) (G : Array GenState → Array GenState → Prop) (St : Nat → Shared → Prop), WalksS X.prog X.w X.A.in4 g fp wr G n F St ∧ St 0 s5 ∧ (∀ b ∈ fp, b < s5.heap.objs.size) ∧ g ∈ fp ∧ (∀ i s9, St i s9 → s9.TypeIs (.ref g) "generator") ∧
    ∀ s', Moved wr G s5 s' → ∃ H2, GxR.Tabbed P H1 H2 ∧ Inv X pins σ H2 s'
theorem gen_mk {c P : Addr} {elt iter : Expr} {x : Str} {px gpos : Pos} {scope : Scope} {k : Nat} {Q' : Value → Shared → Prop}
    (hr : Room k X.A) (TB : GxR.TabB X.base X.mg c P) (hcode : X.env.code = .ref c) (S : GxR.GenS X.env scope x) (hs : ∀ v, genFold iter X.env v = pure v) (hc : X.calm = true) (hok : X.Ok)
    (h : wpAny (model X.prog X.w) X.A (eval iter X.env) (fun xv s1 => wpAny (model X.prog X.w) X.A (pyIter xv) (fun it s2 => ∃ (s0 : Shared) (H1 : Hp) (n : Nat) (Pf F : Nat → Value → Prop), Inv X pins σ H1 s0 ∧ GxR.TabG H1 P ∧ SrcAt X P s0 s2 it n Pf ∧
      (∀ (cenv : Env) (A' : Around) (E' : Value → Shared → Prop) (i : Nat) (v : Value) (s3 : Shared) (m : Str → Option Value), EltAt X P s0 scope cenv A' s3 → Pf i v → s3.heap.Ns cenv.locals m → m x = some v →
        wpAny (model X.prog X.w) A' (eval elt cenv) (fun y s4 => F i y ∧ Keeps s3 s4) E' s3) ∧
      ∀ g s5, ReadyG X pins σ H1 P n F g s5 → Q' (.ref g) s5) X.xe s1) X.xe s) :
    wpAny (model X.prog X.w) X.A (eval (.GeneratorExp elt [⟨.Name x px, iter, [], 0⟩] scope gpos) X.env) Q' X.xe s := by
  refine wpAny_GeneratorExp_walksQD (hok.hd hc) S.co (closure_ok S.free) S.cell S.dot S.loc S.kind (by have := hr.dp; omega) ?_ hs
  refine thn h fun xv s1 h1 => thn h1 fun it s2 h2 => ?_
  obtain ⟨s0, H1, n, Pf, F, I1, ⟨ps, hP, ht⟩, ⟨Ia, fp, wr, St0, rfl, W, hst, hfp, hwr, ⟨hh2, tk2, es2⟩, kp2, szs⟩, hel, hq⟩ := h2
  have hPs : s0.heap.get? P = some { cls := .none, data := .fields ps } := I1.hok P _ hP
  have hP2 := kp2 _ _ hPs
  have cd : PySem.W.CodeHd s2.heap c P := TB.code.keeps fun b u e => kp2 b u (I1.bk b u e)
  have lim2 : s2.heap.NoLimit := I1.nolimit.keeps kp2
  have nP : ∀ b, s2.heap.objs.size ≤ b → b ≠ P := fun b hb z => by
    have := Heap.lt_size hP2
    rw [← z] at this
    exact absurd (Nat.lt_of_lt_of_le this hb) (Nat.lt_irrefl _)
  have hg2 : AllBare s2.gens := by rw [es2]; exact I1.bare
  have eg2 : s2.gens = s0.gens := by rw [es2]
  have eo2 : s2.os = s0.os := by rw [es2]
  have cont : ∀ (code : Value) (h3 : Heap) (tk : Nat) (ps' : Array Value), Heap.ExtBut P s2.heap h3 → s2.heap.objs.size ≤ h3.objs.size → h3.get? P = some { cls := .none, data := .fields ps' } → (∃ more, ps' = ps ++ more) → TriplesOk ps'.toList →
      wpAny (model X.prog X.w) X.A (builtinsFor X.env.globals X.env.builtins) (fun bi s₄ =>
        ∃ Ib fp' wr' n₀ Pf' St₀ pz F', Value.ref Ia = .ref Ib ∧ (∀ A' : Around, A'.handled = none → Walks X.prog X.w A' Ib fp' wr' n₀ Pf' St₀) ∧ St₀ 0 s₄.heap ∧ (∀ b ∈ fp', b < s₄.heap.objs.size) ∧ s₄.heap.NoLimit ∧ cStatics ∉ wr' ∧
          (∀ href : Heap, (∀ b o, s₄.heap.get? b = some o → href.get? b = some o) →
            QuietGenD X.prog X.w (genEnv scope (cloFrom X.env.cells scope.names []) s₄.heap.objs.size code bi X.env) x [] elt (List.range s₄.heap.objs.size) wr' Pf' pz F' href (X.A.depth + 1) (X.A.units + 8)) ∧
          (∀ a h₅ tk gs, gs.bare = true → s₄.heap.objs.size < a → h₅.objs.size = a + 1 → (∀ b o, s₄.heap.get? b = some o → h₅.get? b = some o) →
            WalksS X.prog X.w X.A.in4 a (a :: s₄.heap.objs.size :: List.range s₄.heap.objs.size) (s₄.heap.objs.size :: wr') (GenOnlyQ s₄.gens.size) (passing pz n₀ 0).length
              (fun j y => ∃ i, (passing pz n₀ 0)[j]? = some i ∧ F' i y) (GenAt X.prog X.w X.A.in4 a s₄.gens.size s₄.heap.objs.size (List.range s₄.heap.objs.size) wr' pz n₀ F') →
            GenAt X.prog X.w X.A.in4 a s₄.gens.size s₄.heap.objs.size (List.range s₄.heap.objs.size) wr' pz n₀ F' 0 { s₄ with gens := s₄.gens.push gs, toks := tk, heap := h₅ } →
            Q' (.ref a) { s₄ with gens := s₄.gens.push gs, toks := tk, heap := h₅ })) X.xe { s2 with heap := h3, toks := tk } := by
    intro code h3 tk ps' hx hsz hP3 hmore ht3
    obtain ⟨bm, ob, e1, e2, e3, e4, e5, e6, e7, e8⟩ := TB.bm
    have keep3 : ∀ b u, b ≠ P → s0.heap.get? b = some u → h3.get? b = some u := fun b u hb e => hx b u hb (kp2 b u e)
    have hcP : cStatics ≠ P := fun e => by
      obtain ⟨_, hns, _⟩ := lim2
      obtain ⟨o', es, ep, ho, hd, _⟩ := hns
      rw [e, hP2] at ho
      cases ho
      cases hd
    have hcl : cStatics < s0.heap.objs.size := let ⟨_, hns, _⟩ := I1.nolimit; hns.lt
    refine wpAny_builtinsFor (m := X.mg) (by rw [hok.glob]; exact (hok.mod.glob.keeps fun b u e => kp2 b u (I1.bk b u e)).extBut hx TB.gP) e1 e2 (keep3 _ _ e4 (I1.bk _ _ e5)) e6 e7 e8 ?_
    refine ⟨Ia, fp, wr, n, Pf, St0, (fun _ => true), F, rfl, W, ?_, fun b hb => Nat.lt_of_lt_of_le (hfp b hb).1 hsz, lim2.extBut hx hcP, fun z => absurd (Nat.lt_of_lt_of_le hcl (hwr _ z)) (Nat.lt_irrefl _), ?_, ?_⟩
    · exact (W X.A (hok.hd hc)).frame 0 _ _ hst fun b hb o e => hx b o (hfp b hb).2 e
    · intro href hhref
      have old : ∀ (s4 : Shared), (∀ b ∈ List.range h3.objs.size, b ∉ wr → ∀ o, href.get? b = some o → s4.heap.get? b = some o) → ∀ b o, b ≠ P → s0.heap.get? b = some o → s4.heap.get? b = some o := fun s4 hk b o hb e => by
        have hl := Heap.lt_size e
        refine hk b (List.mem_range.mpr (Nat.lt_of_lt_of_le hl (Nat.le_trans szs hsz))) (fun z => absurd (Nat.lt_of_lt_of_le hl (hwr b z)) (Nat.lt_irrefl _)) o (hhref b o (keep3 b o hb e))
      refine ⟨fun A' E' i v s4 m4 hA hD hU hPv hn hm hk => ?_, fun A' E' i v s4 m4 hA hD hU hPv hp hn hm hk => ?_⟩
      · simp only [List.forIn_nil]
        exact wpAny_pure ⟨rfl, GxR.keeps_refl _⟩
      · exact hel _ A' E' i v s4 m4 ⟨rfl, rfl, rfl, hA, hD, hU, old s4 hk⟩ hPv hn hm
    · intro g h5 tk5 gs hgb hag hsz5 hk5 W5 hgat
      simp only [GxR.passing_true, List.length_range] at W5
      have imp : ∀ j y, (∃ i, (List.range n)[j]? = some i ∧ F i y) → F j y := fun j y ⟨i, hij, hF⟩ => by
        obtain ⟨hj, ej⟩ := List.getElem?_eq_some_iff.mp hij
        rw [List.getElem_range] at ej
        subst ej
        exact hF
      refine hq g _ ⟨_, _, _, _, W5.imp imp, hgat, ?_, List.mem_cons_self, fun i s9 h9 => ?_, fun s' hm => ?_⟩
      · intro b hb
        show b < h5.objs.size
        have e5 : h5.objs.size = g + 1 := hsz5
        have h8 : h3.objs.size < g := hag
        rw [e5]
        rcases List.mem_cons.mp hb with z | z
        · rw [z]
          exact Nat.lt_succ_self g
        rcases List.mem_cons.mp z with z | z
        · rw [z]
          exact Nat.lt_succ_of_lt h8
        · exact Nat.lt_succ_of_lt (Nat.lt_trans (List.mem_range.mp z) h8)
      · obtain ⟨hg9, _⟩ := h9
        exact hg9.typeIs
      · obtain ⟨more, em⟩ := hmore
        have nwr : ∀ b u, s0.heap.get? b = some u → b ∉ h3.objs.size :: wr := fun b u e hb => by
          have hl := Heap.lt_size e
          rcases List.mem_cons.mp hb with z | z
          · rw [z] at hl
            exact absurd (Nat.lt_of_lt_of_le hl (Nat.le_trans szs hsz)) (Nat.lt_irrefl _)
          · exact absurd (Nat.lt_of_lt_of_le hl (hwr b z)) (Nat.lt_irrefl _)
        have hbare : AllBare s'.gens := AllBare.movedS (hg2.push hgb) hm
        have J := GxR.inv_tab (more := more) (h' := s'.heap) (g' := s'.gens) (d' := s'.drawn) (t' := s'.toks) I1 hP (fun b u hb e => hm.heap b u (nwr b u e) (hk5 b u (keep3 b u hb e)))
          (by rw [← em]; exact hm.heap P _ (nwr P _ hPs) (hk5 P _ hP3)) hbare
        have eos : s'.os = s0.os := hm.os.trans eo2
        rw [GxR.sh_eta s0 s' eos] at J
        refine ⟨upd H1 P (.tbl (ps ++ more)), ⟨⟨ps ++ more, upd_same, by rw [← em]; exact ht3⟩, fun b hb => upd_ne hb⟩, J⟩
  refine ⟨lim2, ?_⟩
  cases hf : codeAmong gpos ps.toList with
  | none =>
    refine wpAny_genexprCodeX hcode (cd.code hP2 ht) (cd.tab hP2) hf fun c' h' tk hx hge hlt hco' _ htab' _ => ?_
    obtain ⟨o1, vs, f1, tf, fl, tg, inF, tx, tt, op, _, _, _, _, _, _, _, _, _, htr, _⟩ := hco'
    exact cont _ h' tk _ hx (Nat.le_trans hge (Nat.le_of_lt hlt)) htab'.2 ⟨_, rfl⟩ htr
  | some cv =>
    refine wpAny_genexprCode_hit hcode (cd.code hP2 ht) hf ?_
    exact cont cv s2.heap s2.toks ps (Heap.ExtBut.refl _ _) (Nat.le_refl _) hP2 ⟨#[], by simp⟩ ht
end
end AK
set_option Elab.async false
set_option linter.all false
set_option maxRecDepth 100000
set_option maxHeartbeats 2000000
namespace AK
open PySem PySem.Spec PyProof.Rows L2
section
variable {X : Cx} {pins : List (Addr × Obj)} {σ : L2.St} {H : Hp} {s : Shared}
/-- the element: of a value of C the value f, all objects stand -/
def ElV (X : Cx) (P : Addr) (scope : Scope) (x : Str) (elt : Expr) (σ : L2.St) (C : V → Prop) (f : V → V) : Prop :=
  ∀ (pins : List (Addr × Obj)) (s0 : Shared) (H1 : Hp), Inv X pins σ H1 s0 → H1 P ≠ none → ∀ (cenv : Env) (A' : Around) (E' : Value → Shared → Prop) (v : V) (u : Value) (s3 : Shared) (m : Str → Option Value), EltAt X P s0 scope cenv A' s3 → C v → RelV v u → s3.heap.Ns cenv.locals m → m x = some u →
    wpAny (model X.prog X.w) A' (eval elt cenv) (fun y s4 => RelV (f v) y ∧ Keeps s3 s4) E' s3
theorem preSum_take (L : List Int) : ∀ k, k ≤ L.length → preSum (fun i => L.getD i 0) k = (L.take k).sum
  | 0, _ => rfl
  | k + 1, h => by
    have hk : k < L.length := h
    have e : L[k]? = some (L.getD k 0) := by rw [List.getD_eq_getElem?_getD, List.getElem?_eq_getElem hk] <;> rfl
    show preSum (fun i => L.getD i 0) k + L.getD k 0 = _
    rw [preSum_take L k (Nat.le_of_lt hk), L2.sum_take e]
/-- a list as a source -/
theorem src_lst {P yl : Addr} {its : List Value} (I : Inv X pins σ H s) (hP : H P ≠ none) (hcs : ∃ ps, H P = some (.tbl ps)) (hl : s.heap.IsList yl its.toArray) :
    SrcAt X P s { s with heap := s.heap.push { cls := .type "list_iterator", data := .fields #[.ref yl, .int 0 0] } } (.ref s.heap.objs.size) its.length (fun i v => its[i]? = some v) := by
  obtain ⟨ps, hP⟩ := hcs
  have hPs : s.heap.get? P = some { cls := .none, data := .fields ps } := I.hok P _ hP
  have hPlt := Heap.lt_size hPs
  have hylt : yl < s.heap.objs.size := by
    obtain ⟨_, e, _⟩ := id hl
    exact Heap.lt_size e
  have hylP : yl ≠ P := fun z => by
    obtain ⟨_, e, _, _, hd⟩ := id hl
    rw [z, hPs] at e
    cases e
    cases hd
  refine ⟨s.heap.objs.size, [s.heap.objs.size, yl], [s.heap.objs.size], fun i h => h.IsListIter s.heap.objs.size yl i ∧ h.IsList yl its.toArray, rfl, fun A' hA => ?_, ⟨⟨_, Heap.get?_push_size _ rfl, rfl, rfl⟩, hl.push _⟩, fun b hb => ?_, fun b hb => ?_, ⟨_, s.toks, rfl⟩, fun b o e => Heap.get?_push_of_some _ e, ?_⟩
  · have W := Walks.list (prog := X.prog) (w := X.w) hA s.heap.objs.size yl (Nat.ne_of_lt hylt) its.toArray
    rw [List.size_toArray] at W
    have e : (fun (i : Nat) (v : Value) => its.toArray[i]? = some v) = fun i v => its[i]? = some v := by
      funext i v
      rw [List.getElem?_toArray]
    rw [e] at W
    exact W
  · rw [Heap.size_push]
    rcases List.mem_cons.mp hb with z | z
    · rw [z]; exact ⟨Nat.lt_succ_self _, Nat.ne_of_gt hPlt⟩
    · rw [List.mem_singleton.mp z]; exact ⟨Nat.lt_succ_of_lt hylt, hylP⟩
  · rw [List.mem_singleton.mp hb]; exact Nat.le_refl _
  · rw [Heap.size_push]; exact Nat.le_succ _
/-- sum(elt for x in a list of ints) -/
def tSumG (X : Cx) (P : Addr) (scope : Scope) (x : Str) (elt : Expr) (te : TE) : TE := fun σ H Q => te σ H fun u H2 => ∃ (yl : Addr) (ws : List Int) (f : Int → Int), u = .ref yl ∧ SqL X.K H2 yl (ws.map V.int) ∧ GxR.TabG H2 P ∧
  ElV X P scope x elt σ (fun v => ∃ i, i ∈ ws ∧ v = .int i) (fun v => match v with | .int i => .int (f i) | _ => .non) ∧ ∀ H3, GxR.Tabbed P H2 H3 → Q (.int (ws.map f).sum) H3
theorem pe_sumG {c P : Addr} {elt iter : Expr} {x : Str} {px gpos p pos : Pos} {scope : Scope} {k : Nat} {te : TE} (hr : Room k X.A) (TB : GxR.TabB X.base X.mg c P) (hcode : X.env.code = .ref c) (S : GxR.GenS X.env scope x) (hi : PE X iter te)
    (hs : ∀ v, genFold iter X.env v = pure v) (hc : X.calm = true) (hg : Gl X "sum") (hm : X.mg "sum" = none) (hb : bootBuiltins "sum" = some (.builtin "sum") := by decide +kernel)
    (he : starEach [.GeneratorExp elt [⟨.Name x px, iter, [], 0⟩] scope gpos] X.env = (false, eval (.GeneratorExp elt [⟨.Name x px, iter, [], 0⟩] scope gpos) X.env) :: starEach [] X.env := by rfl) :
    PE X (.Call (.Name "sum" p) [.GeneratorExp elt [⟨.Name x px, iter, [], 0⟩] scope gpos] [] pos) (tSumG X P scope x elt te) := by
  refine ⟨fun pins s σ H Q I h => ?_⟩
  refine wpAny_Call_Name_kw (ld_blt I hg hm hb ?_)
  refine PyProof.Rows.callWith_builtin1 ?_ he rfl
  rw [he]
  show wpAny _ _ (spliced ((false, eval (.GeneratorExp elt [⟨.Name x px, iter, [], 0⟩] scope gpos) X.env) :: backTo pos (starEach [] X.env))) _ _ s
  refine Calls.spliced_cons (gen_mk (σ := σ) (pins := pins) hr TB hcode S hs hc I.ok (thn (hi.run pins s σ H _ I h) fun xv s1 ⟨v, H1, I1, r1, q1⟩ => ?_))
  obtain ⟨yl, ws, f, rfl, hyl, hT, hel, hq⟩ := q1
  obtain rfl : xv = Value.ref yl := r1
  obtain ⟨its, rv, hl, hz⟩ := I1.list hyl
  obtain ⟨ps, hP, ht⟩ := id hT
  have hlen : its.length = ws.length := by rw [← rv.length, List.length_map]
  refine wpAny_pyIter_list hl.isList ⟨s1, H1, its.length, _, fun i y => ∃ t, y = .int ((ws.map f).getD i 0) t, I1, hT, src_lst I1 (by rw [hP]; exact fun z => nomatch z) ⟨ps, hP⟩ hl.isList, fun cenv A' E' i v s3 m ea hv hn hm => ?_, fun g s5 hG => ?_⟩
  · have hi2 : i < ws.length := by rw [← hlen]; exact (List.getElem?_eq_some_iff.mp hv).1
    have hb2 : (ws.map V.int)[i]? = some (V.int ws[i]) := by rw [List.getElem?_map, List.getElem?_eq_getElem hi2] <;> rfl
    obtain ⟨u, hu, ru⟩ := rv.get hb2
    rw [hv] at hu
    cases hu
    refine wpAny_mono (hel pins s1 H1 I1 (by rw [hP]; exact fun z => nomatch z) cenv A' E' (.int ws[i]) v s3 m ea ⟨_, List.getElem_mem hi2, rfl⟩ ru hn hm) (fun y s4 r => ⟨?_, r.2⟩) fun _ _ e => e
    obtain ⟨t, e⟩ := (show ∃ t, y = Value.int (f ws[i]) t from r.1)
    refine ⟨t, ?_⟩
    have e2 : (ws.map f).getD i 0 = f ws[i] := by simp [List.getD_eq_getElem?_getD, hi2]
    rw [e2]; exact e
  · refine Calls.spliced_nil ?_
    obtain ⟨fp, wr, G, St, W, hst, hfp, hgf, hTy, hinv⟩ := hG
    refine call_sum_walkAnyS (W.in4_1.self 0 s5 _ _ hst ⟨g, fp, wr, G, its.length, _, St, fun i => (ws.map f).getD i 0, rfl, W.in4_1, hst, hfp, fun i v hv => hv, fun s' t' hm => ?_⟩)
    obtain ⟨H2, hTb, I2⟩ := hinv s' hm
    have e : preSum (fun i => (ws.map f).getD i 0) its.length = (ws.map f).sum := by
      rw [preSum_take _ _ (by rw [hlen, List.length_map]; exact Nat.le_refl _), List.take_of_length_le (by rw [hlen, List.length_map]; exact Nat.le_refl _)]
    exact ⟨.int (ws.map f).sum, H2, I2, ⟨t', by rw [e]⟩, hq H2 hTb⟩
end
end AK
set_option Elab.async false
set_option linter.all false
set_option maxRecDepth 100000
set_option maxHeartbeats 2000000
/-! expressions that leave every object as it stands -/
namespace AK
open PySem PySem.Spec PyProof.Rows L2
theorem kp_trans {a b c : Shared} (h : Keeps a b) (k : Keeps b c) : Keeps a c := by
  obtain ⟨h1, t1, rfl, q1⟩ := h
  obtain ⟨h2, t2, rfl, q2⟩ := k
  exact ⟨h2, t2, rfl, fun b o e => q2 b o (q1 b o e)⟩
theorem kp_tok (s : Shared) (k : Nat) : Keeps s { s with toks := k } := ⟨s.heap, k, rfl, fun _ _ e => e⟩
/-- where Pre holds, e gives v and every object stays -/
structure Pk (prog : Program) (w : World) (A : Around) (env : Env) (Pre : Shared → Prop) (e : Expr) (v : V) : Prop where
  run : ∀ (E : Value → Shared → Prop) (s : Shared), Pre s → wpAny (model prog w) A (eval e env) (fun u s' => RelV v u ∧ Keeps s s') E s
def Stays (Pre : Shared → Prop) : Prop := ∀ s s', Pre s → Keeps s s' → Pre s'
section
variable {prog : Program} {w : World} {A : Around} {env : Env} {Pre : Shared → Prop} {a b : Expr} {pos p2 : Pos} {i j : Int}
theorem pk_int {k : Nat} : Pk prog w A env Pre (.Constant (.int i) k pos) (.int i) := ⟨fun _ s _ => wpAny_Constant_int ⟨⟨_, rfl⟩, kp_tok s _⟩⟩
/-- a name: the frame's own, captured, or the module's -/
def Nm (env : Env) (s : Shared) (x : Str) (u : Value) : Prop :=
  (env.kindOf x = some .local ∧ ∃ m, s.heap.Ns env.locals m ∧ m x = some u) ∨ (env.kindOf x = some .free ∧ ∃ c, env.cells.lookup x = some c ∧ s.heap.IsCell c (some u)) ∨
  (env.kindOf x = some .globalImplicit ∧ ∃ m, s.heap.Ns env.globals m ∧ m x = some u)
theorem pk_nm {x : Str} {v : V} (hk : env.scope.kind = .function) (h : ∀ s, Pre s → ∃ u, RelV v u ∧ Nm env s x u) (hd : (x == ("__debug__" : Str)) = false := by decide) (hcd : (x == ("__classdict__" : Str)) = false := by decide) : Pk prog w A env Pre (.Name x pos) v := ⟨fun E s hp => by
  obtain ⟨u, r, hn⟩ := h s hp
  rcases hn with ⟨k, m, n, e⟩ | ⟨k, c, n, e⟩ | ⟨k, m, n, e⟩
  · exact wpAny_Name (wpAny_loadName_local hk k n e ⟨r, kp_tok s s.toks⟩) hd
  · exact wpAny_Name (wpAny_loadName_free hk k n e ⟨r, kp_tok s s.toks⟩ hcd) hd
  · exact Calls.Name_function_global hk k (Calls.loadGlobal_global n e ⟨r, kp_tok s s.toks⟩) hd⟩
/-- two operands in a row -/
theorem pk_two {x y : V} (hst : Stays Pre) (ha : Pk prog w A env Pre a x) (hb : Pk prog w A env Pre b y) {E : Value → Shared → Prop} {s : Shared} (hp : Pre s) {Q : Value → Value → Shared → Prop} (h : ∀ u v s', RelV x u → RelV y v → Keeps s s' → Q u v s') :
    wpAny (model prog w) A (eval a env) (fun u s1 => wpAny (model prog w) A (eval b env) (fun v s2 => Q u v s2) E s1) E s := by
  refine thn (ha.run E s hp) fun u s1 ⟨r1, k1⟩ => ?_
  exact thn (hb.run E s1 (hst s s1 hp k1)) fun v s2 ⟨r2, k2⟩ => h u v s2 r1 r2 (kp_trans k1 k2)
theorem pk_sub (hst : Stays Pre) (ha : Pk prog w A env Pre a (.int i)) (hb : Pk prog w A env Pre b (.int j)) : Pk prog w A env Pre (.BinOp a .Sub b pos) (.int (i - j)) := ⟨fun E s hp => by
  refine wpAny_BinOp (pk_two hst ha hb hp fun u v s' ⟨t, e1⟩ ⟨t', e2⟩ k => ?_)
  subst e1 e2
  exact sub_int ⟨⟨_, rfl⟩, kp_trans k (kp_tok _ _)⟩⟩
theorem pk_mul (hst : Stays Pre) (ha : Pk prog w A env Pre a (.int i)) (hb : Pk prog w A env Pre b (.int j)) (hi : -(2 ^ 64) < i ∧ i < 2 ^ 64) : Pk prog w A env Pre (.BinOp a .Mult b pos) (.int (i * j)) := ⟨fun E s hp => by
  refine wpAny_BinOp (pk_two hst ha hb hp fun u v s' ⟨t, e1⟩ ⟨t', e2⟩ k => ?_)
  subst e1 e2
  exact mul_int ⟨⟨_, rfl⟩, kp_trans k (kp_tok _ _)⟩ (.of_left (intBits_le_64 hi.1 hi.2))⟩
end
/-- a captured name's value, in the generator's frame -/
theorem cap_at {X : Cx} {pins : List (Addr × Obj)} {σ : L2.St} {H : Hp} {s0 s3 : Shared} {P : Addr} {scope : Scope} {cenv : Env} {A' : Around} {y : Str} {j : Nat} {v : V} (I : Inv X pins σ H s0) (hP : H P ≠ none) (ea : EltAt X P s0 scope cenv A' s3) (hN : X.N[j]? = some y) (hσ : σ[j]? = some (some v))
    (hk : X.env.scope.names.lookup y = some .cell) (hclo : ∀ (cells : List (Str × Addr)) (c : Addr), cells.lookup y = some c → (cloFrom cells scope.names []).lookup y = some c) : ∃ u c, RelV v u ∧ cenv.cells.lookup y = some c ∧ c ≠ P ∧ s0.heap.IsCell c (some u) ∧ s3.heap.IsCell c (some u) := by
  obtain ⟨m, hn, hl⟩ := I.loc
  obtain ⟨u, r, l⟩ := hl j y v hN hσ (.inr (.inl hk))
  have hkk : X.env.kindOf y = some .cell := hk
  rcases l with ⟨q, _⟩ | ⟨_, c, hc, hcell⟩
  · rw [hkk] at q; cases q
  · have ncP : c ≠ P := fun z => hP (by rw [← z]; exact I.freeC y c hc)
    refine ⟨u, c, r, by rw [ea.cells]; exact hclo _ c hc, ncP, hcell, ?_⟩
    obtain ⟨o, ho, hd⟩ := hcell
    exact ⟨o, ea.old c o ncP ho, hd⟩
end AK
set_option Elab.async false
set_option linter.all false
set_option maxRecDepth 100000
set_option maxHeartbeats 4000000
namespace AK
open PySem PySem.Spec PyProof.Rows L2
theorem same_upd {H : Hp} {p : Addr} {o : HO} (h : H p = none) : Same H (upd H p o) := fun b x e => by
  rw [upd_ne (ne_of_none e h)]
  exact e
/-- for i, x in enumerate(a list that the body leaves) -/
theorem for_en {K : PySem.W.Frag} {a : Addr} {xs : List V} {g : TG} {tb : TS} {D : Ends} {σ : L2.St} {H : Hp} (Pv : Nat → L2.St → Hp → Prop) (h0 : Pv 0 σ H) (hl : ∀ i σ H, i ≤ xs.length → Pv i σ H → SqL K H a xs)
    (hs : ∀ i x σ H T, xs[i]? = some x → Pv i σ H → H T = none → g (.ref T) σ (upd H T (.tup [.int (i : Nat), x])) fun σ2 H2 => tb { D with nx := Pv (i + 1), ct := Pv (i + 1), bk := D.nx } σ2 H2) (hd : ∀ σ H, Pv xs.length σ H → D.nx σ H) :
    ∃ W : Nat → Nat → L2.St → Hp → Prop, (∃ m, W 0 m σ H) ∧ ∀ i m σ H, W i m σ H →
      ((Ite K a).stop i H ∧ D.nx σ H) ∨ ((Ite K a).go i H ∧ ∃ N : L2.St → Hp → Prop, (∀ σ' H', N σ' H' → ∃ m', m' < m ∧ W (i + 1) m' σ' H') ∧ ∀ x H', (Ite K a).yld i H x H' → g x σ H' fun σ2 H2 => tb { D with nx := N, ct := N, bk := D.nx } σ2 H2) := by
  refine ⟨fun i m σ H => m = xs.length - i ∧ i ≤ xs.length ∧ Pv i σ H, ⟨xs.length, by simp, Nat.zero_le _, h0⟩, ?_⟩
  rintro i m σ H ⟨rfl, hi, p⟩
  have q := hl i σ H hi p
  rcases Nat.lt_or_ge i xs.length with hlt | hge
  · refine .inr ⟨⟨xs, xs[i], q, List.getElem?_eq_getElem hlt⟩, Pv (i + 1), fun σ' H' p' => ⟨xs.length - (i + 1), by omega, rfl, hlt, p'⟩, fun v H' y => ?_⟩
    obtain ⟨T, x, rfl, nT, rfl, y⟩ := y
    exact hs i x σ H T (y xs q) p nT
  · have e : i = xs.length := by omega
    subst e
    exact .inl ⟨⟨xs, q, Nat.le_refl _⟩, hd σ H p⟩
/-- [.. for column in zip(*rows)], rows as long as n -/
theorem lc_zipN {ws : List Str} {n : Nat} {g : TG} {tt : TT} {te : TE} {vs : List Nat} {σ : L2.St} {H1 : Hp} {D : Addr} {Qd : Hp → Prop} (hn : ws = [] → n = 0) (hw : ∀ a ∈ ws, a.cps.size = n) (Pv : Nat → Hp → Prop) (h0 : Pv 0 (upd H1 D (.lst [])))
    (hs : ∀ i H T, i < n → Pv i H → H T = none → g (.ref T) (wipe σ vs) (upd H T (.tup ((colAt ws i).map V.str))) fun σ2 H2 => wipe σ2 vs = wipe σ vs ∧ tt σ2 H2 fun b H3 =>
      if b = true then te σ2 H3 fun y H4 => ∃ acc, H4 D = some (.lst acc) ∧ acc.length < sizeLine ∧ Pv (i + 1) (upd H4 D (.lst (acc ++ [y]))) else Pv (i + 1) H3) (hd : ∀ H, Pv n H → Qd H) :
    ∃ W : Nat → Nat → Hp → Prop, (∃ m, W 0 m (upd H1 D (.lst []))) ∧ ∀ i m H, W i m H →
      ((ItzN ws).stop i H ∧ Qd H) ∨ ((ItzN ws).go i H ∧ ∃ Nx : Hp → Prop, (∀ H', Nx H' → ∃ m', m' < m ∧ W (i + 1) m' H') ∧ ∀ x H', (ItzN ws).yld i H x H' → g x (wipe σ vs) H' fun σ2 H2 => wipe σ2 vs = wipe σ vs ∧ tt σ2 H2 fun b H3 =>
        if b = true then te σ2 H3 fun y H4 => ∃ acc, H4 D = some (.lst acc) ∧ acc.length < sizeLine ∧ Nx (upd H4 D (.lst (acc ++ [y]))) else Nx H3) := by
  refine ⟨fun i m H => m = n - i ∧ i ≤ n ∧ Pv i H, ⟨n, by simp, Nat.zero_le _, h0⟩, ?_⟩
  rintro i m H ⟨rfl, hi, p⟩
  rcases Nat.lt_or_ge i n with hlt | hge
  · refine .inr ⟨⟨fun z => by have := hn z; omega, fun a ha => by rw [hw a ha]; exact hlt⟩, Pv (i + 1), fun H' p' => ⟨n - (i + 1), by omega, rfl, hlt, p'⟩, fun x H' y => ?_⟩
    obtain ⟨T, rfl, nT, rfl⟩ := y
    exact hs i H T hlt p nT
  · have e : i = n := by omega
    subst e
    exact .inl ⟨fun a ha => by rw [hw a (List.mem_of_getElem? ha)]; exact Nat.le_refl _, hd H p⟩
theorem row_ok (n : Nat) (e : Nat → Bool) : PyData.strOk (row n e) = true := by
  unfold PyData.strOk
  rw [Array.all_eq_true']
  intro c hc
  simp only [row, List.mem_toArray, List.mem_map] at hc
  obtain ⟨j, _, rfl⟩ := hc
  exact decide_eq_true (Nat.lt_trans (sg_lt _) (by decide))
theorem web_mem {n : Nat} {e : Nat → Nat → Bool} {a : Str} (h : a ∈ web n e) : ∃ i, i < n ∧ a = row n (e i) := by
  unfold web at h
  obtain ⟨i, hi, rfl⟩ := List.mem_map.mp h
  exact ⟨i, List.mem_range.mp hi, rfl⟩
theorem webV_at {n i : Nat} {e : Nat → Nat → Bool} {x : V} (h : ((web n e).map V.str)[i]? = some x) : i < n ∧ x = .str (row n (e i)) := by
  have hi : i < n := by
    have := (List.getElem?_eq_some_iff.mp h).1
    rw [List.length_map, web_len] at this
    exact this
  rw [List.getElem?_map, web_at hi] at h
  exact ⟨hi, (Option.some.inj h).symm⟩
/-- sep.join(a list or a tuple of texts), the written part by name -/
def rJoin (K : PySem.W.Frag) : V → List V → Hp → VK → Prop := fun x xs H Q => ∃ a p, ∃ ys : List Str, x = .str a ∧ xs = [.ref p] ∧ (SqL K H p (ys.map V.str) ∨ SqT K H p (ys.map V.str)) ∧ (ys.map (·.length)).sum + ys.length * a.length ≤ 16777216 ∧ Q (.str (Txt.join a ys)) H
theorem pe_joinK {X : Cx} {o e : Expr} {to te : TE} {apos pos : Pos} (K : PySem.W.Frag) (hK : X.K = K) (ho : PE X o to) (he : PE X e te) (hs : starEach [e] X.env = [(false, eval e X.env)] := by rfl)
    (hbase : attributeBase o "join" X.env (eval o X.env) = eval o X.env := by rfl) (hline : (apos.endLine == pos.line) = true := by rfl) : PE X (.Call (.Attribute o "join" apos) [e] [] pos) (tM1 (rJoin K) to te) := by
  subst hK
  exact pe_join ho he hs hbase hline
end AK
set_option Elab.async false
set_option linter.all false
set_option maxRecDepth 100000
set_option maxHeartbeats 2000000
namespace AK
open PySem PySem.Spec PyProof.Rows L2
/-! ### defs whose code object bears a table -/
structure FunR (K : PySem.W.Frag) (x qual : Str) (st : Stmt) (c : Addr) (f : Addr) (fd : FuncData) : Prop where
  ex : ∃ (oc : Value) (od : Option Addr) (kV doc pm : Value) (an : Option Addr) (ct : Value) (osl : Array (Option Value)),
    fd = PySem.W.fnOf x qual (defArgs st) (defBody st) (defScope st) .none kV doc pm an (.ref c) ct ∧ K.lookup f = some ⟨oc, od, .func fd, osl⟩ ∧ PySem.W.codeIn K (.ref c) qual = true
  kp : PySem.W.keepIn K (.ref f) = true
section
variable {P : Program} {w : World} {K : PySem.W.Frag} {mg : Str → Option Value} {base : Heap}
theorem FunR.ok {x qual : Str} {st : Stmt} {c f : Addr} {fd : FuncData} {N ps : List Str} {k : Nat} {sp : Sp} (F : FunR K x qual st c f fd) (S : FnScope N ps (defScope st)) (len : ∀ vs H Q E, sp vs H Q E → vs.length = ps.length)
    (hbody : ∀ (A : Around) (outer : List Env) (s : Shared) (H : Hp) (vs : List V) (Q : VK) (E : XK), Room k (A.deeper (envOfC qual (defScope st) s.heap.objs.size f (.ref c))) → sp vs H Q E →
      ∃ t, PSs (cxOf CX0 P w K mg base N qual (defScope st) f (.ref c) A outer s H E).nox (defBody st) t ∧ t { nx := fun _ H' => Q .non H', rt := Q } (start N vs) H) : FnOk P w K mg base CX0 (k + 1) f fd ps sp := by
  obtain ⟨oc, od, kV, doc, pm, an, ct, osl, rfl, lk, hcd⟩ := F.ex
  refine fn_of lk hcd S len fun A outer s H vs Q E hr hsp => ?_
  obtain ⟨t, h, q⟩ := hbody A outer s H vs Q E hr hsp
  exact ⟨t, h.nox, q⟩
theorem FunR.binds {x qual : Str} {st : Stmt} {c f : Addr} {fd : FuncData} {ps : List Str} (F : FunR K x qual st c f fd)
    (h : ∀ (kV doc pm : Value) (an : Option Addr) (cdv ct : Value) (us : List Value), us.length = ps.length → bindArgs (PySem.W.fnOf x qual (defArgs st) (defBody st) (defScope st) .none kV doc pm an cdv ct) ⟨us, []⟩ = pure (ps.zip us)) : Binds K fd ps [] := by
  obtain ⟨oc, od, kV, doc, pm, an, ct, osl, rfl, lk, hcd⟩ := F.ex
  exact .all (h kV doc pm an _ ct)
theorem funR_mk {x qual : Str} {st : Stmt} {c f : Addr} {oc : Value} {od an : Option Addr} {osl : Array (Option Value)} {kV doc pm cdv ct : Value} (hc : cdv = .ref c) (l : K.lookup f = some ⟨oc, od, .func (PySem.W.fnOf x qual (defArgs st) (defBody st) (defScope st) .none kV doc pm an cdv ct), osl⟩)
    (hcd : PySem.W.codeIn K cdv qual = true) (k : PySem.W.keepIn K (.ref f) = true) : FunR K x qual st c f (PySem.W.fnOf x qual (defArgs st) (defBody st) (defScope st) .none kV doc pm an cdv ct) := by
  subst hc
  exact ⟨⟨oc, od, kV, doc, pm, an, ct, osl, rfl, l, hcd⟩, k⟩
end
/-- a generator expression's scope in a def's frame -/
theorem genS_of {qual : Str} {dsc scope : Scope} {n f : Nat} {cd : Value} {x : Str} (hk : scope.kind = .function) (hco : scope.isCoroutine = false) (hcell : (scope.names.all fun y => decide (y.2 ≠ .cell)) = true) (hdot : scope.names.lookup (".0" : Str) = some NameKind.local)
    (hloc : scope.names.lookup x = some .local) (hfree : (scope.names.all fun y => decide (y.2 ≠ .free) || decide (dsc.names.lookup y.1 = some .cell)) = true) : GxR.GenS (envOfC qual dsc n f cd) scope x where
  kind := hk
  co := hco
  cell := fun y hy => of_decide_eq_true (List.all_eq_true.mp hcell y hy)
  dot := hdot
  loc := hloc
  free := fun y hy e => by
    have q := List.all_eq_true.mp hfree y hy
    rw [e] at q
    simp only [ne_eq, not_true_eq_false, decide_false, Bool.false_or, decide_eq_true_eq] at q
    exact cell_has q
/-! ### the tables grow, all else stands -/
def Tb (Ts : List Addr) (H : Hp) : Prop := ∀ p ∈ Ts, GxR.TabG H p
def SmT (Ts : List Addr) (H H' : Hp) : Prop := (∀ b o, b ∉ Ts → H b = some o → H' b = some o) ∧ (Tb Ts H → Tb Ts H')
section
variable {Ts : List Addr} {H H1 H2 : Hp} {K : PySem.W.Frag} {a p : Addr} {xs : List V} {o : HO}
theorem SmT.refl : SmT Ts H H := ⟨fun _ _ _ e => e, fun h => h⟩
theorem SmT.trans (x : SmT Ts H H1) (y : SmT Ts H1 H2) : SmT Ts H H2 := ⟨fun b o hb e => y.1 b o hb (x.1 b o hb e), fun h => y.2 (x.2 h)⟩
theorem SmT.of (s : Same H H1) : SmT Ts H H1 := ⟨fun b o _ e => s b o e, fun h p hp => let ⟨ps, e, t⟩ := h p hp; ⟨ps, s _ _ e, t⟩⟩
theorem SmT.tab (hp : p ∈ Ts) (t : GxR.Tabbed p H H1) : SmT Ts H H1 := ⟨fun b o hb e => by rw [t.2 b (fun z => hb (by rw [z]; exact hp))]; exact e, fun h q hq => by
  by_cases e : q = p
  · rw [e]; exact t.1
  · obtain ⟨ps, e1, e2⟩ := h q hq
    exact ⟨ps, by rw [t.2 q e]; exact e1, e2⟩⟩
theorem Tb.no (h : Tb Ts H) (e : H a = some o) (ho : ∀ ps, o ≠ .tbl ps) : a ∉ Ts := fun z => by
  obtain ⟨ps, e1, _⟩ := h a z
  rw [e] at e1
  exact ho ps (Option.some.inj e1)
theorem SmT.at (s : SmT Ts H H1) (h : Tb Ts H) (e : H a = some o) (ho : ∀ ps, o ≠ .tbl ps) : H1 a = some o := s.1 a o (h.no e ho) e
theorem SmT.lst (s : SmT Ts H H1) (h : Tb Ts H) (e : H a = some (.lst xs)) : H1 a = some (.lst xs) := s.at h e fun _ z => nomatch z
theorem SmT.seq (s : SmT Ts H H1) (h : Tb Ts H) (e : SqL K H a xs) : SqL K H1 a xs := by
  rcases e with (e | ⟨o, e⟩) | e
  · exact .inl (.inl (s.lst h e))
  · exact .inl (.inr ⟨o, s.at h e fun _ z => nomatch z⟩)
  · exact .inr e
theorem SmT.sqt (s : SmT Ts H H1) (h : Tb Ts H) (e : SqT K H a xs) : SqT K H1 a xs := by
  rcases e with (e | ⟨o, e⟩) | e
  · exact .inl (.inl (s.at h e fun _ z => nomatch z))
  · exact .inl (.inr ⟨o, s.at h e fun _ z => nomatch z⟩)
  · exact .inr e
theorem SmT.free (s : SmT Ts H H1) (h : Tb Ts H) {l : Addr} (e : H1 l = none) : H l = none := by
  cases q : H l with
  | none => rfl
  | some o =>
    by_cases hl : l ∈ Ts
    · obtain ⟨ps, e1, _⟩ := s.2 h l hl
      rw [e] at e1; cases e1
    · rw [s.1 l o hl q] at e; cases e
theorem Tb.upd (h : Tb Ts H) {d : Addr} (hd : H d = none) : Tb Ts (upd H d o) := fun p hp => by
  obtain ⟨ps, e, t⟩ := h p hp
  exact ⟨ps, by rw [upd_ne (ne_of_none e hd)]; exact e, t⟩
theorem Tb.put (h : Tb Ts H) {d : Addr} {u : HO} (hd : H d = some u) (hu : ∀ ps, u ≠ .tbl ps) : Tb Ts (L2.upd H d o) := fun p hp => by
  obtain ⟨ps, e, t⟩ := h p hp
  have n : p ≠ d := fun z => by rw [z, hd] at e; exact hu ps (Option.some.inj e)
  exact ⟨ps, by rw [upd_ne n]; exact e, t⟩
end
end AK
set_option Elab.async false
set_option linter.all false
set_option maxRecDepth 100000
set_option maxHeartbeats 4000000
namespace AK
open PySem PySem.Spec PyProof.Rows L2
/-- names of built-ins that the module does not hide -/
structure Bl (mg : Str → Option Value) : Prop where
  isi : mg "isinstance" = none
  int : mg "int" = none
  bool : mg "bool" = none
  list : mg "list" = none
  str : mg "str" = none
  len : mg "len" = none
  enumerate : mg "enumerate" = none
  zip : mg "zip" = none
  range : mg "range" = none
  sum : mg "sum" = none
  abs : mg "abs" = none
  min : mg "min" = none
/-- the module's constants -/
structure Cn (mg : Str → Option Value) : Prop where
  knows : ∃ t, mg "KNOWS" = some (.str "x" t)
  apart : ∃ t, mg "APART" = some (.str "-" t)
  most : ∃ t, mg "MOST_PEOPLE" = some (.int 200 t)
section
variable {P : Program} {w : World} {K : PySem.W.Frag} {mg : Str → Option Value} {base : Heap}
/-! ### is_whole -/
theorem scWhole : FnScope ["value"] ["value"] (defScope sWhole) := ⟨rfl, rfl, rfl, by decide +kernel, rfl, by decide +kernel, by decide +kernel⟩
def spWhole (K : PySem.W.Frag) : Sp := fun vs H Q _ => ∃ i : Int, vs = [.int i] ∧ Q (.bl true) H
theorem ok_whole {f : Addr} {fd : FuncData} (F : Fun K "is_whole" "is_whole" sWhole f fd) (B : Bl mg) : FnOk P w K mg base CX0 1 f fd ["value"] (spWhole K) := by
  refine F.ok scWhole (fun vs H Q E h => ?_) (fun cdv A outer s H vs Q E hr h => ?_)
  · obtain ⟨i, rfl, _⟩ := h
    rfl
  · obtain ⟨i, rfl, q⟩ := h
    refine ⟨_, pss_one (ps_ret (pe_and (pe_callB call_isi (by rfl) B.isi (by decide +kernel) (pa_cons (pv 0) (pa_cons (pe_bltn (v := .ty "int") (u := .type "int") (by rfl) B.int (by decide +kernel) rfl) pa_nil)))
      (pe_one (pe_not (pe_callB call_isi (by rfl) B.isi (by decide +kernel) (pa_cons (pv 0) (pa_cons (pe_bltn (v := .ty "bool") (u := .type "bool") (by rfl) B.bool (by decide +kernel) rfl) pa_nil))))))), ?_⟩
    refine ⟨_, rfl, .int i, .ty "int", .type "int", .type "int", true, rfl, .ty "int", .base (.int i), kit_ty (by decide +kernel), true, rfl, iteT ?_⟩
    refine ⟨_, rfl, .int i, .ty "bool", .type "int", .type "bool", false, rfl, .ty "bool", .base (.int i), kit_ty (by decide +kernel), false, rfl, ?_⟩
    exact q
/-! ### check_count -/
theorem scCount : FnScope ["value", "least", "most"] ["value", "least", "most"] (defScope sCount) := ⟨rfl, rfl, rfl, by decide +kernel, rfl, by decide +kernel, by decide +kernel⟩
/-- a count within its bounds -/
def spCount (K : PySem.W.Frag) : Sp := fun vs H Q _ => ∃ (i a : Int) (m : V), vs = [.int i, .int a, m] ∧ a ≤ i ∧ (m = .non ∨ ∃ b, m = .int b ∧ i ≤ b) ∧ Q .non H
abbrev FunC (K : PySem.W.Frag) (f : Addr) (fd : FuncData) : Prop := FunD K "check_count" "check_count" (defArgs sCount) (defBody sCount) (defScope sCount) [.non] [] f fd
theorem ok_count {f fW : Addr} {fd fdW : FuncData} (F : FunC K f fd) (FW : Fun K "is_whole" "is_whole" sWhole fW fdW) (bW : Binds K fdW ["value"] []) (gW : mg "is_whole" = some (.ref fW)) (B : Bl mg) : FnOk P w K mg base CX0 2 f fd ["value", "least", "most"] (spCount K) := by
  have GW : FnOk P w K mg base CX0 1 fW fdW ["value"] (spWhole K) := ok_whole FW B
  refine FunD.ok F scCount (fun vs H Q E h => ?_) (fun cdv A outer s H vs Q E hr h => ?_)
  · obtain ⟨i, a, m, rfl, _⟩ := h
    rfl
  · obtain ⟨i, a, m, rfl, ha, hm, q⟩ := h
    refine ⟨_, pss_cons (ps_if (pt_not (pt_val (pe_call GW hr (by rfl) gW FW.kp bW .nil pass0 (pa_cons (pv 0) pa_nil)))) (pss_one ps_never) pss_nil)
      (pss_cons (ps_if (pt_cmpR op_lt (pv 0) (pv 1) (nomark _)) (pss_one ps_never) pss_nil)
      (pss_one (ps_if (PW.pt (pw_and (pt_cmp (pc_notN (pv 2))) (pw_and1 (pt_cmpR op_gt (pv 0) (pv 2) (nomark _))))) (pss_one ps_never) pss_nil))), ?_⟩
    refine ⟨_, rfl, i, rfl, true, rfl, iteF ?_⟩
    refine ⟨_, rfl, _, rfl, i, a, rfl, rfl, _, rfl, ?_⟩
    rw [decide_eq_false (by omega)]
    refine iteF ?_
    refine ⟨_, rfl, ?_⟩
    rcases hm with rfl | ⟨b, rfl, hb⟩
    · refine ⟨_, rfl, ?_⟩
      exact iteF (iteF q)
    · refine ⟨_, rfl, iteT ?_⟩
      refine ⟨_, rfl, _, rfl, i, b, rfl, rfl, _, rfl, ?_⟩
      rw [decide_eq_false (by omega)]
      exact iteF q
/-! ### _check_row -/
theorem scRow : FnScope ["row", "place", "size"] ["row", "place", "size"] (defScope sRow) := ⟨rfl, rfl, rfl, by decide +kernel, rfl, by decide +kernel, by decide +kernel⟩
def spRow (K : PySem.W.Frag) : Sp := fun vs H Q _ => ∃ (n i : Nat) (e : Nat → Bool), vs = [.str (row n e), .int i, .int n] ∧ i < n ∧ n ≤ 200 ∧ e i = false ∧ Q .non H
theorem ok_row {f : Addr} {fd : FuncData} (F : Fun K "_check_row" "_check_row" sRow f fd) (B : Bl mg) (C : Cn mg) : FnOk P w K mg base CX0 1 f fd ["row", "place", "size"] (spRow K) := by
  obtain ⟨tk, gk⟩ := C.knows
  obtain ⟨ta, ga⟩ := C.apart
  refine F.ok scRow (fun vs H Q E h => ?_) (fun cdv A outer s H vs Q E hr h => ?_)
  · obtain ⟨n, i, e, rfl, _⟩ := h
    rfl
  · obtain ⟨n, i, e, rfl, hi, hn, he, q⟩ := h
    have hsz : (row n e).length ≤ sizeLine := by rw [row_len]; exact Nat.le_trans hn (by decide)
    refine ⟨_, pss_cons (ps_if (pt_not (pt_val (pe_callB call_isi (by rfl) B.isi (by decide +kernel) (pa_cons (pv 0) (pa_cons (pe_bltn (v := .ty "str") (u := .type "str") (by rfl) B.str (by decide +kernel) rfl) pa_nil))))) (pss_one ps_never) pss_nil)
      (pss_cons (ps_if (pt_cmpR op_ne (pe_callB call_len_str (by rfl) B.len PySem.boot_len (pa_cons (pv 0) pa_nil)) (pv 2) (nomark _)) (pss_one ps_never) pss_nil)
      (pss_cons (ps_if (pt_cmpR op_ne (pe_op op_add (pe_m1 PySem.F.slot_str_count PySem.F.type_str_count mt_count (pv 0) (pe_glob (v := .str "x") rfl gk ⟨_, rfl⟩)) (pe_m1 PySem.F.slot_str_count PySem.F.type_str_count mt_count (pv 0) (pe_glob (v := .str "-") rfl ga ⟨_, rfl⟩)))
          (pe_callB call_len_str (by rfl) B.len PySem.boot_len (pa_cons (pv 0) pa_nil)) (nomark _)) (pss_one ps_never) pss_nil)
      (pss_one (ps_if (pt_cmpR op_eq (pe_ix ix_str (pv 0) (pv 1) (fun _ _ => rfl)) (pe_glob (v := .str "x") rfl gk ⟨_, rfl⟩) (nomark _)) (pss_one ps_never) pss_nil)))), ?_⟩
    refine ⟨_, rfl, .str (row n e), .ty "str", .type "str", .type "str", true, rfl, .ty "str", .base (.str _), kit_ty (by decide +kernel), true, rfl, iteF ?_⟩
    refine ⟨_, rfl, _, rfl, hsz, _, rfl, rfl, _, rfl, ?_⟩
    rw [row_len]
    refine iteNS rfl ?_
    refine ⟨_, rfl, ⟨_, rfl⟩, _, _, rfl, rfl, _, rfl, ⟨_, rfl⟩, _, _, rfl, rfl, _, _, rfl, rfl, _, rfl, _, rfl, hsz, rfl, _, rfl, ?_⟩
    refine iteNS (c := V.int (Txt.count (row n e) "x" + Txt.count (row n e) "-") = V.int ((row n e).length : Int)) (by rw [row_both, row_len]) ?_
    refine ⟨_, rfl, _, rfl, _, _, sg (e i), rfl, rfl, hsz, atI_nat (row_atL hi), rfl, _, rfl, ?_⟩
    have hne : ¬ V.str ⟨#[sg (e i)]⟩ = V.str "x" := by rw [he]; decide
    rw [decide_eq_false hne]
    exact iteF q
end
end AK
set_option Elab.async false
set_option linter.all false
set_option maxRecDepth 100000
set_option maxHeartbeats 4000000
namespace AK
open PySem PySem.Spec PyProof.Rows L2
section
variable {P : Program} {w : World} {K : PySem.W.Frag} {mg : Str → Option Value} {base : Heap}
/-! ### check_web -/
theorem scWeb : FnScope ["web", "place", "row", "columns", "column"] ["web"] (defScope sWeb) := ⟨rfl, rfl, rfl, by decide +kernel, rfl, by decide +kernel, by decide +kernel⟩
/-- a web is handed in -/
def WebAt (K : PySem.W.Frag) (H : Hp) (a : Addr) (n : Nat) (e : Nat → Nat → Bool) : Prop := SqL K H a ((web n e).map V.str) ∧ n ≤ 200 ∧ IsWeb n e
theorem WebAt.same {H H' : Hp} {a : Addr} {n : Nat} {e : Nat → Nat → Bool} (h : WebAt K H a n e) (s : Same H H') : WebAt K H' a n e := ⟨s.seq h.1, h.2⟩
def spWeb (K : PySem.W.Frag) : Sp := fun vs H Q _ => ∃ (a : Addr) (n : Nat) (e : Nat → Nat → Bool), vs = [.ref a] ∧ WebAt K H a n e ∧ ∀ H', Same H H' → Q .non H'
theorem ok_web {f fR : Addr} {fd fdR : FuncData} (F : Fun K "check_web" "check_web" sWeb f fd) (FR : Fun K "_check_row" "_check_row" sRow fR fdR) (bR : Binds K fdR ["row", "place", "size"] []) (gR : mg "_check_row" = some (.ref fR)) (B : Bl mg) (C : Cn mg) : FnOk P w K mg base CX0 2 f fd ["web"] (spWeb K) := by
  have GR : FnOk P w K mg base CX0 1 fR fdR ["row", "place", "size"] (spRow K) := ok_row FR B C
  obtain ⟨tm, gm⟩ := C.most
  refine F.ok scWeb (fun vs H Q E h => ?_) (fun cdv A outer s H vs Q E hr h => ?_)
  · obtain ⟨a, n, e, rfl, _⟩ := h
    rfl
  · obtain ⟨a, n, e, rfl, ⟨hS, hn, hW⟩, q⟩ := h
    have hlen : ((web n e).map V.str).length = n := by rw [List.length_map, web_len]
    refine ⟨_, pss_cons (ps_if (pt_not (pt_val (pe_callB call_isi (by rfl) B.isi (by decide +kernel) (pa_cons (pv 0) (pa_cons (pe_bltn (v := .ty "list") (u := .type "list") (by rfl) B.list (by decide +kernel) rfl) pa_nil))))) (pss_one ps_never) pss_nil)
      (pss_cons (ps_if (pt_cmpR op_gt (pe_callB call_len_seq (by rfl) B.len PySem.boot_len (pa_cons (pv 0) pa_nil)) (pe_glob (v := .int 200) rfl gm ⟨_, rfl⟩) (nomark _)) (pss_one ps_never) pss_nil)
      (pss_cons (ps_for PassesOwn.never rfl (pi_enum (by rfl) B.enumerate (pa_cons (pv 0) pa_nil)) (pg_tup rfl (pgs_cons (pg_name (i := 1) scWeb.nd rfl (.inl rfl)) (pgs_cons (pg_name (i := 2) scWeb.nd rfl (.inl rfl)) pgs_nil)))
        (pss_one (ps_expr (pe_call GR hr (by rfl) gR FR.kp bR .nil pass0 (pa_cons (pv 2) (pa_cons (pv 1) (pa_cons (pe_callB call_len_seq (by rfl) B.len PySem.boot_len (pa_cons (pv 0) pa_nil)) pa_nil)))))))
      (pss_cons (ps_setLc (i := 3) (own := [("column", 4)]) (g := gName 4) (tt := tYes) rfl scWeb.nd rfl rfl (sw_true rfl rfl rfl (by decide +kernel)) (pi_zipN (by rfl) B.zip (pv 0)) (blkOk_by (N := ["web", "place", "row", "columns", "column"]) (sc := defScope sWeb) (by decide +kernel))
        (fun _ _ _ _ _ => pg_name (i := 4) scWeb.nd rfl (Or.inl rfl)) (fun _ _ _ _ _ => pts_nil) (fun _ _ _ _ _ => pe_joinK K rfl pe_str (pv 4)))
      (pss_one (ps_if (pt_cmpR (op_neD hr.units) (pv 3) (pv 0) (nomark _)) (pss_one ps_never) pss_nil))))), ?_⟩
    refine ⟨_, rfl, .ref a, .ty "list", .type "list", .type "list", true, rfl, .ty "list", tyList hS, kit_ty (by decide +kernel), true, rfl, iteF ?_⟩
    refine ⟨.ref a, rfl, a, _, rfl, .inl hS, _, _, rfl, rfl, _, rfl, ?_⟩
    rw [hlen, decide_eq_false (by omega)]
    refine iteF ?_
    -- the rows
    refine ⟨.ref a, rfl, a, _, rfl, hS, for_en (xs := (web n e).map V.str) (fun i σ H1 => ∃ y1 y2, σ = [some (.ref a), y1, y2, none, none] ∧ Same H H1) ⟨none, none, rfl, Same.refl _⟩ (fun i σ H1 _ ⟨_, _, _, s1⟩ => s1.seq hS) ?_ ?_⟩
    · rintro i x σ H1 T hx ⟨y1, y2, rfl, s1⟩ nT
      obtain ⟨hi, rfl⟩ := webV_at hx
      have s2 := s1.trans (same_upd (o := .tup [.int (i : Nat), .str (row n (e i))]) nT)
      refine ⟨T, _, rfl, SqT.of upd_same, rfl, _, _, rfl, _, _, rfl, rfl, ?_⟩
      refine ⟨_, rfl, _, rfl, .ref a, rfl, a, _, rfl, .inl (s2.seq hS), ?_⟩
      rw [hlen]
      refine ⟨n, i, e i, rfl, hi, hn, hW.irr i hi, ?_⟩
      exact ⟨_, _, rfl, s2⟩
    · rintro σ H1 ⟨y1, y2, rfl, s1⟩
      -- the columns
      refine ⟨.ref a, rfl, a, web n e, rfl, s1.seq hS, by rw [web_len]; exact Nat.le_trans hn (by decide), fun b hb => ?_, fun D nD => ?_⟩
      · obtain ⟨i, _, rfl⟩ := web_mem hb
        exact row_ascii _ _
      refine lc_zipN (n := n) (fun z => by have := congrArg List.length z; rw [web_len] at this; exact this) (fun b hb => ?_) (fun i H2 => Same H1 H2 ∧ H2 D = some (.lst (((web n e).take i).map V.str))) ⟨same_upd nD, upd_same⟩ ?_ ?_
      · obtain ⟨i, _, rfl⟩ := web_mem hb
        exact row_size _ _
      · rintro i H2 T hi ⟨s2, e2⟩ nT
        have nTD : D ≠ T := ne_of_none e2 nT
        refine ⟨rfl, ⟨_, rfl⟩, .ref T, rfl, _, T, colAt (web n e) i, rfl, rfl, .inr (SqT.of upd_same), ?_, ((web n e).take i).map V.str, ?_, ?_, ?_, ?_⟩
        · unfold colAt
          rw [List.map_map, List.length_map, web_len]
          have e1 : ∀ l : List Str, (l.map ((fun x => x.length) ∘ fun a => (⟨#[a.cps.getD i 0]⟩ : Str))).sum = l.length := fun l => by
            induction l with
            | nil => rfl
            | cons b l ih =>
              rw [List.map_cons, List.sum_cons, ih, List.length_cons]
              show 1 + l.length = _
              omega
          rw [e1, web_len]
          show n + n * 0 ≤ _
          omega
        · rw [upd_ne nTD]; exact e2
        · rw [List.length_map, List.length_take, web_len]
          exact small1000 (by omega)
        · intro b o eb
          have nb : b ≠ D := ne_of_none eb nD
          rw [upd_ne nb, upd_ne (ne_of_none (s2 _ _ eb) nT)]
          exact s2 _ _ eb
        · have ej : Txt.join (Str.ofString "") (colAt (web n e) i) = row n (e i) := col_join hW hi
          have et : ((web n e).take (i + 1)).map V.str = ((web n e).take i).map V.str ++ [V.str (row n (e i))] := by
            rw [List.take_add_one, web_at hi, List.map_append] <;> rfl
          rw [upd_same, et, ej]
      · rintro H2 ⟨s2, e2⟩
        have et : (web n e).take n = web n e := List.take_of_length_le (by rw [web_len]; exact Nat.le_refl _)
        rw [et] at e2
        have ok : ∀ b ∈ web n e, PyData.strOk b = true := fun b hb => by
          obtain ⟨i, _, rfl⟩ := web_mem hb
          exact row_ok _ _
        refine ⟨.ref D, rfl, .ref a, rfl, .list ((web n e).map PyData.str), .list ((web n e).map PyData.str), .lst (SqL.of e2) (dpS _), .lst ((s1.trans s2).seq hS) (dpS _), shapedS ok, shapedS ok, _, rfl, ?_⟩
        have ee : PyData.eqv (.list ((web n e).map PyData.str)) (.list ((web n e).map PyData.str)) = true := by
          simp only [PyData.eqv, eqvS, decide_true]
        rw [ee]
        exact iteF (q _ (s1.trans s2))
/-! ### ties -/
theorem scTies : FnScope ["web", "row"] ["web"] (defScope sTies) := ⟨rfl, rfl, rfl, by decide +kernel, rfl, by decide +kernel, by decide +kernel⟩
def degs (n : Nat) (e : Nat → Nat → Bool) : List Int := (List.range n).map fun i => (deg n (e i) : Int)
theorem degs_len (n : Nat) (e : Nat → Nat → Bool) : (degs n e).length = n := by simp [degs]
def spTies (K : PySem.W.Frag) : Sp := fun vs H Q _ => ∃ (a : Addr) (n : Nat) (e : Nat → Nat → Bool), vs = [.ref a] ∧ WebAt K H a n e ∧ ∀ H' p, Same H H' → H p = none → H' p = some (.lst ((degs n e).map V.int)) → Q (.ref p) H'
theorem ok_ties {f fW : Addr} {fd fdW : FuncData} (F : Fun K "ties" "ties" sTies f fd) (GW : FnOk P w K mg base CX0 2 fW fdW ["web"] (spWeb K)) (FW : Fun K "check_web" "check_web" sWeb fW fdW) (bW : Binds K fdW ["web"] []) (gW : mg "check_web" = some (.ref fW)) (B : Bl mg) (C : Cn mg) : FnOk P w K mg base CX0 3 f fd ["web"] (spTies K) := by
  obtain ⟨tk, gk⟩ := C.knows
  refine F.ok scTies (fun vs H Q E h => ?_) (fun cdv A outer s H vs Q E hr h => ?_)
  · obtain ⟨a, n, e, rfl, _⟩ := h
    rfl
  · obtain ⟨a, n, e, rfl, hA, q⟩ := h
    obtain ⟨hS, hn, hW⟩ := id hA
    refine ⟨_, pss_cons (ps_expr (pe_call GW hr (by rfl) gW FW.kp bW .nil pass0 (pa_cons (pv 0) pa_nil)))
      (pss_one (ps_ret (pe_lc (own := [("row", 1)]) (g := gName 1) (tt := tYes) rfl scTies.nd (pi_list (pv 0)) (blkOk_by (N := ["web", "row"]) (sc := defScope sTies) (by decide +kernel)) (fun _ _ _ _ _ => pg_name (i := 1) scTies.nd rfl (Or.inl rfl)) (fun _ _ _ _ _ => pts_nil)
        (fun _ _ _ _ _ => pe_m1 PySem.F.slot_str_count PySem.F.type_str_count mt_count (pv 1) (pe_glob (v := .str "x") rfl gk ⟨_, rfl⟩))))), ?_⟩
    refine ⟨.ref a, rfl, a, n, e, rfl, hA, fun H1 s1 => ?_⟩
    refine ⟨.ref a, rfl, a, rfl, ⟨_, s1.seq hS⟩, fun D nD => lc_list (K := K) (xs := (web n e).map V.str) (fun i H2 => Same H1 H2 ∧ H2 D = some (.lst (((degs n e).take i).map V.int))) ⟨same_upd nD, upd_same⟩ (fun i H2 _ ⟨s2, _⟩ => (s1.trans s2).seq hS) ?_ ?_⟩
    · rintro i x H2 hx ⟨s2, e2⟩
      obtain ⟨hi, rfl⟩ := webV_at hx
      refine ⟨rfl, _, rfl, ⟨_, rfl⟩, _, _, rfl, rfl, ((degs n e).take i).map V.int, e2, ?_, fun b o eb => ?_, ?_⟩
      · rw [List.length_map, List.length_take, degs_len]
        exact small1000 (by omega)
      · rw [upd_ne (ne_of_none eb nD)]
        exact s2 _ _ eb
      · have et : ((degs n e).take (i + 1)).map V.int = ((degs n e).take i).map V.int ++ [V.int (Txt.count (row n (e i)) "x")] := by
          rw [List.take_add_one, row_knows]
          have eg : (degs n e)[i]? = some (deg n (e i) : Int) := by simp [degs, hi]
          rw [eg, List.map_append] <;> rfl
        rw [upd_same, et]
    · rintro H2 ⟨s2, e2⟩
      rw [List.length_map, web_len] at e2
      have et : (degs n e).take n = degs n e := List.take_of_length_le (by rw [degs_len]; exact Nat.le_refl _)
      rw [et] at e2
      exact q H2 D (s1.trans s2) (s1.free nD) e2
end
end AK
set_option Elab.async false
set_option linter.all false
set_option maxRecDepth 100000
set_option maxHeartbeats 4000000
namespace AK
open PySem PySem.Spec PyProof.Rows L2
section
variable {P : Program} {w : World} {K : PySem.W.Frag} {mg : Str → Option Value} {base : Heap}
/-! ### _all_threes -/
theorem scThrees : FnScope ["size"] ["size"] (defScope sThrees) := ⟨rfl, rfl, rfl, by decide +kernel, rfl, by decide +kernel, by decide +kernel⟩
def threesN (z : Int) : Int := z * (z - 1) * (z - 2) / 6
def spThrees (K : PySem.W.Frag) : Sp := fun vs H Q _ => ∃ z : Int, vs = [.int z] ∧ z.natAbs < 2 ^ 128 ∧ Q (.int (threesN z)) H
theorem ok_threes {f : Addr} {fd : FuncData} (F : Fun K "_all_threes" "_all_threes" sThrees f fd) : FnOk P w K mg base CX0 1 f fd ["size"] (spThrees K) := by
  refine F.ok scThrees (fun vs H Q E h => ?_) (fun cdv A outer s H vs Q E hr h => ?_)
  · obtain ⟨i, rfl, _⟩ := h
    rfl
  · obtain ⟨z, rfl, hz, q⟩ := h
    refine ⟨_, pss_one (ps_ret (pe_op op_fdivW (pe_op op_mulW (pe_op op_mulW (pv 0) (pe_op op_sub (pv 0) pe_int)) (pe_op op_sub (pv 0) pe_int)) pe_int)), ?_⟩
    have h1 : (z - 1).natAbs < 2 ^ 129 := by omega
    have h2 : (z - 2).natAbs < 2 ^ 129 := by omega
    have h3 := wide_lt hz h1
    refine ⟨_, rfl, _, rfl, _, _, rfl, rfl, _, _, rfl, rfl, wide_mul hz h1 (by decide) (by decide) (by decide), _, rfl, _, _, rfl, rfl, _, _, rfl, rfl, wide_mul h3 h2 (by decide) (by decide) (by decide), _, _, rfl, rfl, wide_div (by decide) (b := 3) (by decide) (by decide) (by decide), ?_⟩
    exact q
/-! ### fewest -/
theorem scFewest : FnScope ["size", "mixed"] ["size"] (defScope sFewest) := ⟨rfl, rfl, rfl, by decide +kernel, rfl, by decide +kernel, by decide +kernel⟩
def fewestN (z : Int) : Int := threesN z - z * ((z - 1) * (z - 1) / 4) / 2
def spFewest (K : PySem.W.Frag) : Sp := fun vs H Q _ => ∃ z : Int, vs = [.int z] ∧ 0 ≤ z ∧ z.natAbs < 2 ^ 128 ∧ Q (.int (fewestN z)) H
theorem ok_fewest {f fC fT : Addr} {fd fdC fdT : FuncData} (F : Fun K "fewest" "fewest" sFewest f fd) (GC : FnOk P w K mg base CX0 2 fC fdC ["value", "least", "most"] (spCount K)) (FC : FunC K fC fdC) {ds : List Value} (bC : Binds K fdC ["value", "least", "most"] ds) (dC : Vals [.non] ds) (gC : mg "check_count" = some (.ref fC))
    (FT : Fun K "_all_threes" "_all_threes" sThrees fT fdT) (bT : Binds K fdT ["size"] []) (gT : mg "_all_threes" = some (.ref fT)) : FnOk P w K mg base CX0 3 f fd ["size"] (spFewest K) := by
  have GT : FnOk P w K mg base CX0 1 fT fdT ["size"] (spThrees K) := ok_threes FT
  refine F.ok scFewest (fun vs H Q E h => ?_) (fun cdv A outer s H vs Q E hr h => ?_)
  · obtain ⟨i, rfl, _⟩ := h
    rfl
  · obtain ⟨z, rfl, h0, hz, q⟩ := h
    refine ⟨_, pss_cons (ps_expr (pe_call GC hr (by rfl) gC FC.kp bC dC pass0 (pa_cons (pv 0) (pa_cons pe_int pa_nil))))
      (pss_cons (ps_set (i := 1) scFewest.nd rfl (.inl rfl) (pe_op op_mulW (pv 0) (pe_op op_fdivW (pe_op op_mulW (pe_op op_sub (pv 0) pe_int) (pe_op op_sub (pv 0) pe_int)) pe_int)))
      (pss_one (ps_ret (pe_op op_sub (pe_call GT (hr.mono (by decide)) (by rfl) gT FT.kp bT .nil pass0 (pa_cons (pv 0) pa_nil)) (pe_op op_fdivW (pv 1) pe_int))))), ?_⟩
    refine ⟨_, rfl, z, 0, .non, rfl, h0, .inl rfl, ?_⟩
    have h1 : (z - 1).natAbs < 2 ^ 129 := by omega
    have h3 := wide_lt h1 h1
    have h4 : ((z - 1) * (z - 1) / 4).natAbs < 2 ^ 258 := by
      have : 0 ≤ (z - 1) * (z - 1) := by
        have := Int.natAbs_mul_self' (z - 1)
        rw [← this]
        exact Int.ofNat_nonneg _
      omega
    refine ⟨_, rfl, _, rfl, _, _, rfl, rfl, _, rfl, _, _, rfl, rfl, _, _, rfl, rfl, wide_mul h1 h1 (by decide) (by decide) (by decide), _, _, rfl, rfl, wide_div (by decide) (b := 3) (by decide) (by decide) (by decide), _, _, rfl, rfl, wide_mul hz h4 (by decide) (by decide) (by decide), ?_⟩
    refine ⟨_, rfl, z, rfl, hz, _, rfl, _, _, rfl, rfl, wide_div (by decide) (b := 3) (by decide) (by decide) (by decide), _, _, rfl, rfl, ?_⟩
    exact q
/-! ### alike -/
theorem scAlike : FnScope ["web", "counts", "mixed", "size"] ["web"] (defScope sAlike) := ⟨rfl, rfl, rfl, by decide +kernel, rfl, by decide +kernel, by decide +kernel⟩
def mixedN (n : Nat) (e : Nat → Nat → Bool) : Int := ((degs n e).map fun d => d * ((n : Int) - 1 - d)).sum
def alikeN (n : Nat) (e : Nat → Nat → Bool) : Int := threesN n - mixedN n e / 2
def spAlike (K : PySem.W.Frag) (Ts : List Addr) : Sp := fun vs H Q _ => ∃ (a : Addr) (n : Nat) (e : Nat → Nat → Bool), vs = [.ref a] ∧ WebAt K H a n e ∧ Tb Ts H ∧ ∀ H', SmT Ts H H' → Q (.int (alikeN n e)) H'
theorem degs_mem {n : Nat} {e : Nat → Nat → Bool} {d : Int} (h : d ∈ degs n e) : 0 ≤ d ∧ d ≤ n := by
  unfold degs at h
  obtain ⟨i, _, rfl⟩ := List.mem_map.mp h
  have := deg_le n (e i)
  omega
theorem mixed_le {n : Nat} (hn : n ≤ 200) : ∀ ds : List Int, ds.length ≤ 200 → (∀ d ∈ ds, 0 ≤ d ∧ d ≤ n) → -(40000 * 200 : Int) ≤ (ds.map fun d => d * ((n : Int) - 1 - d)).sum ∧ (ds.map fun d => d * ((n : Int) - 1 - d)).sum ≤ 40000 * 200 := by
  intro ds hl hd
  have key : ∀ ds : List Int, (∀ d ∈ ds, 0 ≤ d ∧ d ≤ n) → -(40000 * (ds.length : Int)) ≤ (ds.map fun d => d * ((n : Int) - 1 - d)).sum ∧ (ds.map fun d => d * ((n : Int) - 1 - d)).sum ≤ 40000 * (ds.length : Int) := by
    intro ds
    induction ds with
    | nil => intro _; simp
    | cons d r ih =>
      intro h
      obtain ⟨i1, i2⟩ := ih fun x hx => h x (List.mem_cons_of_mem _ hx)
      obtain ⟨d0, d1⟩ := h d (List.mem_cons_self ..)
      rw [List.map_cons, List.sum_cons, List.length_cons]
      have b1 : d * ((n : Int) - 1 - d) ≤ 40000 := by
        have h1 : (n : Int) - 1 - d ≤ 200 := by omega
        have h2 : d * ((n : Int) - 1 - d) ≤ d * 200 := Int.mul_le_mul_of_nonneg_left h1 d0
        omega
      have b2 : -40000 ≤ d * ((n : Int) - 1 - d) := by
        have h1 : -1 ≤ (n : Int) - 1 - d := by omega
        have h2 : d * (-1) ≤ d * ((n : Int) - 1 - d) := Int.mul_le_mul_of_nonneg_left h1 d0
        omega
      omega
  obtain ⟨k1, k2⟩ := key ds hd
  omega
/-- many * (size - 1 - many) -/
theorem elt_mixed {X : Cx} {Pa : Addr} {σ : L2.St} {scope : Scope} {j k : Nat} {n : Int} {C : V → Prop} {p1 p2 p3 p4 p5 p6 p7 : Pos} (hN : X.N[j]? = some ("size" : Str)) (hσ : σ[j]? = some (some (.int n))) (hk : X.env.scope.names.lookup ("size" : Str) = some NameKind.cell)
    (hclo : ∀ (cells : List (Str × Addr)) (c : Addr), cells.lookup ("size" : Str) = some c → (cloFrom cells scope.names []).lookup ("size" : Str) = some c) (hsk : scope.kind = .function) (hl : scope.names.lookup ("many" : Str) = some NameKind.local) (hf : scope.names.lookup ("size" : Str) = some NameKind.free)
    (hC : ∀ v, C v → ∃ i : Int, v = .int i ∧ -(2 ^ 64) < i ∧ i < 2 ^ 64) :
    ElV X Pa scope "many" (.BinOp (.Name "many" p1) .Mult (.BinOp (.BinOp (.Name "size" p2) .Sub (.Constant (.int 1) k p3) p4) .Sub (.Name "many" p5) p6) p7) σ C (fun v => match v with | .int i => .int (i * (n - 1 - i)) | _ => .non) := by
  intro pins s0 H1 I hP cenv A' E' v u s3 m ea hCv rv hn hm
  obtain ⟨i, rfl, b1, b2⟩ := hC v hCv
  obtain ⟨uc, cc, rc, hcl, _, _, hcell⟩ := cap_at I hP ea hN hσ hk hclo
  have hst : Stays fun s => (∃ m, s.heap.Ns cenv.locals m ∧ m ("many" : Str) = some u) ∧ s.heap.IsCell cc (some uc) := fun s s' ⟨⟨m, q1, q2⟩, o, q3, q4⟩ ⟨h', t', e, kp⟩ => by
    subst e
    exact ⟨⟨m, q1.keeps kp, q2⟩, o, kp _ _ q3, q4⟩
  have kk : cenv.scope.kind = .function := by rw [ea.sc]; exact hsk
  have nm : ∀ {p : Pos}, Pk X.prog X.w A' cenv (fun s => (∃ m, s.heap.Ns cenv.locals m ∧ m ("many" : Str) = some u) ∧ s.heap.IsCell cc (some uc)) (.Name "many" p) (.int i) := fun {p} =>
    pk_nm kk fun s ⟨⟨m, q1, q2⟩, _⟩ => ⟨u, rv, .inl ⟨show cenv.scope.names.lookup ("many" : Str) = some NameKind.local by rw [ea.sc]; exact hl, m, q1, q2⟩⟩
  have ns : ∀ {p : Pos}, Pk X.prog X.w A' cenv (fun s => (∃ m, s.heap.Ns cenv.locals m ∧ m ("many" : Str) = some u) ∧ s.heap.IsCell cc (some uc)) (.Name "size" p) (.int n) := fun {p} =>
    pk_nm kk fun s ⟨_, q⟩ => ⟨uc, rc, .inr (.inl ⟨show cenv.scope.names.lookup ("size" : Str) = some NameKind.free by rw [ea.sc]; exact hf, cc, hcl, q⟩)⟩
  exact (pk_mul hst nm (pk_sub hst (pk_sub hst ns pk_int) nm) ⟨b1, b2⟩).run E' s3 ⟨⟨m, hn, hm⟩, hcell⟩
theorem ok_alike {c f fI fT Pt : Addr} {fd fdI fdT : FuncData} {Ts : List Addr} (F : FunR K "alike" "alike" sAlike c f fd) (TB : GxR.TabB base mg c Pt) (hPt : Pt ∈ Ts) (GI : FnOk P w K mg base CX0 3 fI fdI ["web"] (spTies K)) (FI : Fun K "ties" "ties" sTies fI fdI) (bI : Binds K fdI ["web"] []) (gI : mg "ties" = some (.ref fI))
    (FT : Fun K "_all_threes" "_all_threes" sThrees fT fdT) (bT : Binds K fdT ["size"] []) (gT : mg "_all_threes" = some (.ref fT)) (B : Bl mg) : FnOk P w K mg base CX0 4 f fd ["web"] (spAlike K Ts) := by
  have GT : FnOk P w K mg base CX0 1 fT fdT ["size"] (spThrees K) := ok_threes FT
  refine F.ok scAlike (fun vs H Q E h => ?_) (fun A outer s H vs Q E hr h => ?_)
  · obtain ⟨a, n, e, rfl, _⟩ := h
    rfl
  · obtain ⟨a, n, e, rfl, hA, hT, q⟩ := h
    refine ⟨_, pss_cons (ps_set (i := 1) scAlike.nd rfl (.inl rfl) (pe_call GI hr (by rfl) gI FI.kp bI .nil pass0 (pa_cons (pv 0) pa_nil)))
      (pss_cons (ps_set (i := 3) scAlike.nd rfl (.inr rfl) (pe_callB call_len_seq (by rfl) B.len PySem.boot_len (pa_cons (pv 1) pa_nil)))
      (pss_cons (ps_set (i := 2) scAlike.nd rfl (.inl rfl) (pe_sumG hr TB rfl (genS_of rfl rfl (by decide +kernel) rfl rfl (by decide +kernel)) (pv 1) (fun _ => rfl) rfl (by rfl) B.sum))
      (pss_one (ps_ret (pe_op op_sub (pe_call GT (hr.mono (by decide)) (by rfl) gT FT.kp bT .nil pass0 (pa_cons (pv 3) pa_nil)) (pe_op op_fdiv (pv 2) pe_int)))))), ?_⟩
    refine ⟨.ref a, rfl, a, n, e, rfl, hA, fun H1 p s1 np e1 => ?_⟩
    refine ⟨.ref p, rfl, p, _, rfl, .inl (SqL.of e1), ?_⟩
    have el : ((degs n e).map V.int).length = n := by rw [List.length_map, degs_len]
    rw [el]
    have hT1 : Tb Ts H1 := (SmT.of s1).2 hT
    refine ⟨.ref p, rfl, p, degs n e, fun d => d * ((n : Int) - 1 - d), rfl, SqL.of e1, hT1 Pt hPt, ?_, fun H2 t2 => ?_⟩
    · exact elt_mixed (j := 3) (n := (n : Int)) rfl rfl rfl (fun cells c h => by
        show List.lookup _ [((Str.ofString "size"), (cells.lookup (Str.ofString "size")).getD 0)] = _
        rw [h] <;> rfl) rfl rfl rfl fun v ⟨i, hi, ev⟩ => ⟨i, ev, by have := degs_mem hi; omega, by have := degs_mem hi; have := hA.2.1; omega⟩
    · have s2 : SmT Ts H H2 := (SmT.of s1).trans (SmT.tab hPt t2)
      have hn := hA.2.1
      refine ⟨_, rfl, (n : Int), rfl, by omega, _, rfl, mixedN n e, 2, rfl, rfl, ⟨by decide, by decide⟩, _, _, rfl, rfl, ?_⟩
      exact q H2 s2
end
end AK
set_option Elab.async false
set_option linter.all false
set_option maxRecDepth 100000
set_option maxHeartbeats 2000000
namespace AK
open PySem PySem.Spec PyProof.Rows L2
/-- names of a frame: its own by m, the module's by mg, the built-ins' by mb -/
structure FrN (env : Env) (m mg mb : Str → Option Value) (s : Shared) : Prop where
  ns : s.heap.Ns env.locals m
  gl : s.heap.Ns env.globals mg
  bl : s.heap.Ns env.builtins mb
theorem frN_stays {env : Env} {m mg mb : Str → Option Value} : Stays (FrN env m mg mb) := fun s s' F ⟨h', t', e, kp⟩ => by
  subst e
  exact ⟨F.ns.keeps kp, F.gl.keeps kp, F.bl.keeps kp⟩
section
variable {prog : Program} {w : World} {A : Around} {env : Env} {m mg mb : Str → Option Value} {Pre : Shared → Prop} {a b c : Expr} {pos p p2 : Pos} {i j k : Int} {v x y : V} {u : Value} {nm : Str}
theorem pk_own (hk : env.scope.kind = .function) (hx : env.kindOf nm = some .local) (h : m nm = some u) (r : RelV v u) (hd : (nm == ("__debug__" : Str)) = false := by decide) (hcd : (nm == ("__classdict__" : Str)) = false := by decide) : Pk prog w A env (FrN env m mg mb) (.Name nm pos) v :=
  pk_nm hk (fun s F => ⟨u, r, .inl ⟨hx, m, F.ns, h⟩⟩) hd hcd
theorem pk_bl {b : Bool} {n : Nat} : Pk prog w A env Pre (.Constant (.bool b) n pos) (.bl b) := ⟨fun E s _ => Constant_bool ⟨rfl, kp_tok s s.toks⟩⟩
/-- f(a), f(a, b), f a built-in -/
theorem pk_b1 {id : String} {pf : Pos} (hk : env.scope.kind = .function) (hf : env.kindOf nm = some .globalImplicit) (hm : mg nm = none) (hv : mb nm = some (.builtin id)) (ha : Pk prog w A env (FrN env m mg mb) a x)
    (rule : ∀ (E : Value → Shared → Prop) (s : Shared) (u : Value), RelV x u → wpAny (model prog w) A (call (.builtin id) [u]) (fun r s' => RelV v r ∧ Keeps s s') E s) (he : starEach [a] env = (false, eval a env) :: starEach [] env) (hd : (nm == ("__debug__" : Str)) = false := by decide) :
    Pk prog w A env (FrN env m mg mb) (.Call (.Name nm pf) [a] [] pos) v := ⟨fun E s F => by
  refine wpAny_Call_Name_kw (Calls.Name_function_global hk hf (Calls.loadGlobal_builtin F.gl hm F.bl hv ?_) hd)
  refine callWith_builtin1 ?_ he rfl
  rw [he]
  show wpAny _ _ (spliced ((false, eval a env) :: backTo pos (starEach [] env))) _ _ s
  refine Calls.spliced_cons (thn (ha.run E s F) fun u s1 ⟨r1, k1⟩ => Calls.spliced_nil (thn (rule E s1 u r1) fun q s2 ⟨r2, k2⟩ => ⟨r2, kp_trans k1 k2⟩))⟩
theorem pk_b2 {id : String} {pf : Pos} (hk : env.scope.kind = .function) (hf : env.kindOf nm = some .globalImplicit) (hm : mg nm = none) (hv : mb nm = some (.builtin id)) (ha : Pk prog w A env (FrN env m mg mb) a x) (hb : Pk prog w A env (FrN env m mg mb) b y)
    (rule : ∀ (E : Value → Shared → Prop) (s : Shared) (u u' : Value), RelV x u → RelV y u' → wpAny (model prog w) A (call (.builtin id) [u, u']) (fun r s' => RelV v r ∧ Keeps s s') E s) (he : starEach [a, b] env = (false, eval a env) :: starEach [b] env) (he2 : starEach [b] env = (false, eval b env) :: starEach [] env) (hd : (nm == ("__debug__" : Str)) = false := by decide) :
    Pk prog w A env (FrN env m mg mb) (.Call (.Name nm pf) [a, b] [] pos) v := ⟨fun E s F => by
  refine wpAny_Call_Name_kw (Calls.Name_function_global hk hf (Calls.loadGlobal_builtin F.gl hm F.bl hv ?_) hd)
  refine callWith_builtin1 ?_ he (by rw [he2] <;> rfl)
  rw [he, he2]
  show wpAny _ _ (spliced ((false, eval a env) :: (false, eval b env) :: backTo pos (starEach [] env))) _ _ s
  refine Calls.spliced_cons (thn (ha.run E s F) fun u s1 ⟨r1, k1⟩ => Calls.spliced_cons (thn (hb.run E s1 (frN_stays s s1 F k1)) fun u' s2 ⟨r2, k2⟩ => Calls.spliced_nil (thn (rule E s2 u u' r1 r2) fun q s3 ⟨r3, k3⟩ => ⟨r3, kp_trans (kp_trans k1 k2) k3⟩)))⟩
theorem r_abs (E : Value → Shared → Prop) (s : Shared) (u : Value) (h : RelV (.int i) u) : wpAny (model prog w) A (call (.builtin "abs") [u]) (fun r s' => RelV (.int (if i < 0 then -i else i)) r ∧ Keeps s s') E s := by
  obtain ⟨t, rfl⟩ := h
  exact call_abs_int fun u tk => ⟨⟨_, rfl⟩, kp_tok s tk⟩
theorem r_min (hh : A.handled = none) (E : Value → Shared → Prop) (s : Shared) (u u' : Value) (h : RelV (.int i) u) (h' : RelV (.int j) u') : wpAny (model prog w) A (call (.builtin "min") [u, u']) (fun r s' => RelV (.int (if j < i then j else i)) r ∧ Keeps s s') E s := by
  obtain ⟨t, rfl⟩ := h
  obtain ⟨t', rfl⟩ := h'
  refine min_two_ints hh fun h' tk k => ⟨?_, h', tk, rfl, k⟩
  by_cases hj : j < i
  · rw [if_pos hj, if_pos hj]; exact ⟨_, rfl⟩
  · rw [if_neg hj, if_neg hj]; exact ⟨_, rfl⟩
theorem pk_fdiv (hst : Stays Pre) (ha : Pk prog w A env Pre a (.int i)) (hb : Pk prog w A env Pre b (.int j)) (h1 : 0 < j) (h2 : j < 1073741824) : Pk prog w A env Pre (.BinOp a .FloorDiv b pos) (.int (i / j)) := ⟨fun E s hp => by
  refine wpAny_BinOp (pk_two hst ha hb hp fun u v s' ⟨t, e1⟩ ⟨t', e2⟩ k => ?_)
  subst e1 e2
  exact floordiv_int (by omega) (by rw [Int.fdiv_eq_ediv_of_nonneg i (by omega)]; exact ⟨⟨_, rfl⟩, kp_trans k (kp_tok _ _)⟩) (.inl (PyProof.noPylong_small (by omega)))⟩
theorem pk_mod (hst : Stays Pre) (ha : Pk prog w A env Pre a (.int i)) (hb : Pk prog w A env Pre b (.int j)) (h1 : 0 < j) : Pk prog w A env Pre (.BinOp a .Mod b pos) (.int (i % j)) := ⟨fun E s hp => by
  refine wpAny_BinOp (pk_two hst ha hb hp fun u v s' ⟨t, e1⟩ ⟨t', e2⟩ k => ?_)
  subst e1 e2
  exact mod_int' (by omega) (by rw [Int.fmod_eq_emod_of_nonneg i (by omega)]; exact ⟨⟨_, rfl⟩, kp_trans k (kp_tok _ _)⟩)⟩
theorem pk_eqI (hst : Stays Pre) (ha : Pk prog w A env Pre a (.int i)) (hb : Pk prog w A env Pre b (.int j)) (hm : behindInMarks .Eq b = false) : Pk prog w A env Pre (.Compare a [.Eq] [b] pos) (.bl (decide (i = j))) := ⟨fun E s hp => by
  refine wpAny_Compare1 (pk_two hst ha hb hp fun u v s' ⟨t, e1⟩ ⟨t', e2⟩ k => ?_) hm
  subst e1 e2
  exact eq_int (by rw [Bool.beq_eq_decide_eq]; exact ⟨rfl, k⟩)⟩
/-- a in (b, c), three ints -/
theorem pk_in2 {n : Nat} {pt : Pos} (hst : Stays Pre) (ha : Pk prog w A env Pre a (.int i)) (hb : Pk prog w A env Pre b (.int j)) (hc : Pk prog w A env Pre c (.int k)) (hm : behindInMarks .In (.Tuple [b, c] n pt) = false)
    (he : starEach [b, c] env = (false, eval b env) :: starEach [c] env) (he2 : starEach [c] env = (false, eval c env) :: starEach [] env) : Pk prog w A env Pre (.Compare a [.In] [.Tuple [b, c] n pt] pos) (.bl (decide (i = j) || decide (i = k))) := ⟨fun E s hp => by
  refine wpAny_Compare1 (thn (ha.run E s hp) fun u s1 ⟨r1, k1⟩ => ?_) hm
  have hp1 := hst _ _ hp k1
  refine wpAny_Tuple_spliced ?_
  rw [he, he2]
  show wpAny _ _ (spliced ((false, eval b env) :: (false, eval c env) :: backTo pt (starEach [] env))) _ _ s1
  refine Calls.spliced_cons (thn (hb.run E s1 hp1) fun u1 s2 ⟨r2, k2⟩ => Calls.spliced_cons (thn (hc.run E s2 (hst _ _ hp1 k2)) fun u2 s3 ⟨r3, k3⟩ => Calls.spliced_nil ⟨?_, ?_⟩))
  · exact (show 2 ≤ sizeLine by decide)
  · have rr : Vals [.int j, .int k] [u1, u2] := .cons r2 (.cons r3 .nil)
    refine SeqAt.in_tupleAt (items := #[u1, u2]) (eqU (.int i)) ?_ (fun w hw => mem_eqAt r1 rfl rr rfl w (by simpa using hw)) ?_
    · exact ⟨_, Heap.get?_push_size _ rfl, rfl, _, rfl⟩
    · rw [show [u1, u2].toArray.any (eqU (.int i)) = [u1, u2].any (eqU (.int i)) by simp, any_eqU rr rfl]
      refine ⟨?_, kp_trans k1 (kp_trans k2 (kp_trans k3 ⟨_, s3.toks, rfl, fun b o e => Heap.get?_push_of_some _ e⟩))⟩
      show Value.bool _ = .bool _
      congr 1
      simp [eqV, Bool.beq_eq_decide_eq, eq_comm]⟩
end
end AK
set_option Elab.async false
set_option linter.all false
set_option maxRecDepth 100000
set_option maxHeartbeats 2000000
namespace AK
open PySem PySem.Spec PyProof.Rows L2
def apartI (i j : Int) : Int := if i - j < 0 then -(i - j) else i - j
def knowI (i j n : Int) : Bool :=
  (decide (1 ≤ (if n - apartI i j < apartI i j then n - apartI i j else apartI i j)) && decide ((if n - apartI i j < apartI i j then n - apartI i j else apartI i j) ≤ (n - 1) / 4)) || ((decide (n % 4 = 0) || decide (n % 4 = 3)) && decide (apartI i j = n / 2))
section
variable {prog : Program} {w : World} {A : Around} {env : Env} {Pre : Shared → Prop} {a b c : Expr} {pos p p2 : Pos} {i j k : Int} {x y : Bool}
theorem pk_and (hst : Stays Pre) (ha : Pk prog w A env Pre a (.bl x)) (hb : Pk prog w A env Pre b (.bl y)) : Pk prog w A env Pre (.BoolOp .And [a, b] pos) (.bl (x && y)) := ⟨fun E s hp => by
  refine PyProof.Rows.BoolOp_and (thn (ha.run E s hp) fun u s1 ⟨r1, k1⟩ => ?_)
  obtain rfl : u = Value.bool x := r1
  refine wpAny_truthy_bool ?_
  cases x with
  | true => exact PyProof.Rows.BoolOp_one (thn (hb.run E s1 (hst _ _ hp k1)) fun u s2 ⟨r2, k2⟩ => ⟨r2, kp_trans k1 k2⟩)
  | false => exact ⟨rfl, k1⟩⟩
/-- a <= b <= c of ints, as a test -/
theorem tk_chain {whole : Sem Value} (hst : Stays Pre) (ha : Pk prog w A env Pre a (.int i)) (hb : Pk prog w A env Pre b (.int j)) (hc : Pk prog w A env Pre c (.int k)) {E : Value → Shared → Prop} {s : Shared} {Q : Bool → Shared → Prop} (hp : Pre s)
    (h : ∀ s', Keeps s s' → Q (decide (i ≤ j) && decide (j ≤ k)) s') (hm : lastMarks [.LtE, .LtE] [b, c] = false := by with_unfolding_all rfl) :
    wpAny (model prog w) A (isTrue (.Compare a [.LtE, .LtE] [b, c] pos) env whole) Q E s := by
  refine PyProof.Rows.isTrue_chain ?_ hm
  refine thn (ha.run E s hp) fun u s1 ⟨⟨t, e1⟩, k1⟩ => ?_
  subst e1
  have hp1 := hst _ _ hp k1
  refine PyProof.Rows.test_link (thn (hb.run E s1 hp1) fun u s2 ⟨⟨t2, e2⟩, k2⟩ => ?_)
  subst e2
  refine PyProof.Rows.le_int (wpAny_truthy_bool ?_)
  cases hd : decide (i ≤ j) with
  | false =>
    rw [hd, Bool.false_and] at h
    exact h _ (kp_trans k1 k2)
  | true =>
    rw [hd, Bool.true_and] at h
    refine PyProof.Rows.test_last (thn (hc.run E s2 (hst _ _ hp1 k2)) fun u s3 ⟨⟨t3, e3⟩, k3⟩ => ?_)
    subst e3
    exact PyProof.Rows.le_int (wpAny_truthy_bool (h _ (kp_trans k1 (kp_trans k2 k3))))
end
section
variable {P : Program} {w : World} {K : PySem.W.Frag} {mg : Str → Option Value} {base : Heap}
theorem scKnow : FnScope ["one", "other", "size", "apart"] ["one", "other", "size"] (defScope sKnow) := ⟨rfl, rfl, rfl, by decide +kernel, rfl, by decide +kernel, by decide +kernel⟩
theorem know_call {f : Addr} {fd : FuncData} (F : Fun K "_know_in_ring" "_know_in_ring" sKnow f fd) (Md : Mod K mg base) (B : Bl mg) {A : Around} (hh : A.handled = none) (hd : A.depth < recursionLimit) {s : Shared} (hb : ∀ b o, base.get? b = some o → s.heap.get? b = some o)
    {i j n : Int} {u1 u2 u3 : Value} (r1 : RelV (.int i) u1) (r2 : RelV (.int j) u2) (r3 : RelV (.int n) u3) {E : Value → Shared → Prop} : wpAny (model P w) A (call (.ref f) [u1, u2, u3]) (fun r s' => r = .bool (knowI i j n) ∧ Keeps s s') E s := by
  obtain ⟨oc, od, kV, doc, pm, an, cdv, ct, osl, rfl, lk, hcd⟩ := F.ex
  have KX : K.In s.heap := Md.kin.keeps hb
  have lim : s.heap.NoLimit := Md.nolimit.keeps hb
  obtain ⟨mb, hmb, hbb⟩ := Md.blt
  refine wpAny_call ?_
  refine codeAny_call_function hd (KX _ _ lk) rfl scKnow.co scKnow.gen rfl (PySem.W.codeRec_of KX hcd) ?_
  have hbn : bindArgs (PySem.W.fnOf "_know_in_ring" "_know_in_ring" (defArgs sKnow) (defBody sKnow) (defScope sKnow) Value.none kV doc pm an cdv ct) ⟨[u1, u2, u3], []⟩ = pure ((["one", "other", "size"] : List Str).zip [u1, u2, u3]) := by rfl
  rw [hbn]
  refine wpAny_pure ?_
  refine wpAny_newFunctionEnv_cells scKnow.kind (fun ⟨n, v⟩ hy => .inl ?_) fun env he s1 x => ?_
  · rcases scKnow.par n (List.of_mem_zip hy).1 with q | q
    · exact q
    · have : n ∈ (["one", "other", "size"] : List Str) := (List.of_mem_zip hy).1
      simp only [List.mem_cons, List.not_mem_nil, or_false] at this
      rcases this with rfl | rfl | rfl <;> rfl
  subst he
  refine ⟨lim.keeps x.toInCall.keep, codeAny_func ?_⟩
  have hk1 : (envOfC "_know_in_ring" (defScope sKnow) s.heap.objs.size f cdv).scope.kind = .function := scKnow.kind
  obtain ⟨h1, tk1, rfl, kp1⟩ := x.done
  have kf : ∀ y : Str, (envOfC "_know_in_ring" (defScope sKnow) s.heap.objs.size f cdv).kindOf y = (defScope sKnow).names.lookup y := fun _ => rfl
  -- the frame
  have ns1 : h1.Ns s.heap.objs.size (bindL (envOfC "_know_in_ring" (defScope sKnow) s.heap.objs.size f cdv).kindOf ((["one", "other", "size"] : List Str).zip [u1, u2, u3]) fun _ => none) := x.toInCall.ns
  have nd : (["one", "other", "size"] : List Str).Nodup := by decide +kernel
  have g1 : bindL (envOfC "_know_in_ring" (defScope sKnow) s.heap.objs.size f cdv).kindOf ((["one", "other", "size"] : List Str).zip [u1, u2, u3]) (fun _ => none) "one" = some u1 := bindL_get (i := 0) nd rfl rfl rfl
  have g2 : bindL (envOfC "_know_in_ring" (defScope sKnow) s.heap.objs.size f cdv).kindOf ((["one", "other", "size"] : List Str).zip [u1, u2, u3]) (fun _ => none) "other" = some u2 := bindL_get (i := 1) nd rfl rfl rfl
  have g3 : bindL (envOfC "_know_in_ring" (defScope sKnow) s.heap.objs.size f cdv).kindOf ((["one", "other", "size"] : List Str).zip [u1, u2, u3]) (fun _ => none) "size" = some u3 := bindL_get (i := 2) nd rfl rfl rfl
  have F1 : FrN (envOfC "_know_in_ring" (defScope sKnow) s.heap.objs.size f cdv) (bindL (envOfC "_know_in_ring" (defScope sKnow) s.heap.objs.size f cdv).kindOf ((["one", "other", "size"] : List Str).zip [u1, u2, u3]) fun _ => none) mg mb { s with heap := h1, toks := tk1 } :=
    ⟨ns1, Md.glob.keeps fun b o e => kp1 b o (hb b o e), hmb.keeps fun b o e => kp1 b o (hb b o e)⟩
  generalize bindL (envOfC "_know_in_ring" (defScope sKnow) s.heap.objs.size f cdv).kindOf ((["one", "other", "size"] : List Str).zip [u1, u2, u3]) (fun _ => none) = m at *
  have mab : mb "abs" = some (.builtin "abs") := by rw [hbb _ (by decide)]; decide +kernel
  have mmi : mb "min" = some (.builtin "min") := by rw [hbb _ (by decide)]; decide +kernel
  refine wpAny_execs_cons (wpAny_Assign_Name ?_ (by rfl))
  have one1 : ∀ {A' : Around} {p : Pos}, Pk P w A' (envOfC "_know_in_ring" (defScope sKnow) s.heap.objs.size f cdv) (FrN (envOfC "_know_in_ring" (defScope sKnow) s.heap.objs.size f cdv) m mg mb) (.Name "one" p) (.int i) := pk_own hk1 rfl g1 r1
  have oth1 : ∀ {A' : Around} {p : Pos}, Pk P w A' (envOfC "_know_in_ring" (defScope sKnow) s.heap.objs.size f cdv) (FrN (envOfC "_know_in_ring" (defScope sKnow) s.heap.objs.size f cdv) m mg mb) (.Name "other" p) (.int j) := pk_own hk1 rfl g2 r2
  refine thn ((pk_b1 (v := .int (apartI i j)) hk1 rfl B.abs mab (pk_sub frN_stays one1 oth1) (fun E s u h => r_abs E s u h) rfl).run _ _ F1) fun u s2 ⟨⟨t4, e4⟩, h2, tk2, e2, kp2⟩ => ?_
  subst e4 e2
  refine wpAny_storeName_local (m := m) rfl (ns1.keeps kp2) (fun h3 ns3 sb3 => ?_)
  have kp3 : ∀ b o, s.heap.get? b = some o → h3.get? b = some o := fun b o e => by
    have hlt := Heap.lt_size e
    have ne : b ≠ s.heap.objs.size := fun z => by rw [z] at hlt; exact absurd hlt (Nat.lt_irrefl _)
    rw [sb3.2 b ne]
    exact kp2 b o (kp1 b o e)
  have F3 : FrN (envOfC "_know_in_ring" (defScope sKnow) s.heap.objs.size f cdv) (fun x => if x = "apart" then some (.int (apartI i j) t4) else m x) mg mb { s with heap := h3, toks := tk2 + 1 } :=
    ⟨ns3, Md.glob.keeps fun b o e => kp3 b o (hb b o e), hmb.keeps fun b o e => kp3 b o (hb b o e)⟩
  have ap : ∀ {A' : Around} {p : Pos}, Pk P w A' (envOfC "_know_in_ring" (defScope sKnow) s.heap.objs.size f cdv) (FrN (envOfC "_know_in_ring" (defScope sKnow) s.heap.objs.size f cdv) (fun x => if x = "apart" then some (.int (apartI i j) t4) else m x) mg mb) (.Name "apart" p) (.int (apartI i j)) := pk_own hk1 rfl (if_pos rfl) ⟨_, rfl⟩
  have sz : ∀ {A' : Around} {p : Pos}, Pk P w A' (envOfC "_know_in_ring" (defScope sKnow) s.heap.objs.size f cdv) (FrN (envOfC "_know_in_ring" (defScope sKnow) s.heap.objs.size f cdv) (fun x => if x = "apart" then some (.int (apartI i j) t4) else m x) mg mb) (.Name "size" p) (.int n) := pk_own hk1 rfl ((if_neg (by decide)).trans g3) r3
  refine wpAny_execs_cons (wpAny_If (tk_chain frN_stays pk_int (pk_b2 (v := .int (if n - apartI i j < apartI i j then n - apartI i j else apartI i j)) hk1 rfl B.min mmi ap (pk_sub frN_stays sz ap) (fun E s u u' h h' => r_min (by exact hh) E s u u' h h') rfl rfl) (pk_fdiv frN_stays (pk_sub frN_stays sz pk_int) pk_int (by decide) (by decide)) F3 (fun s4 k4 => ?_)))
  have kend : ∀ s', Keeps s4 s' → Keeps s s' := fun s' k => kp_trans (kp_trans ⟨h3, tk2 + 1, rfl, kp3⟩ k4) k
  have F4 := frN_stays _ _ F3 k4
  unfold knowI
  generalize (decide (1 ≤ if n - apartI i j < apartI i j then n - apartI i j else apartI i j) && decide ((if n - apartI i j < apartI i j then n - apartI i j else apartI i j) ≤ (n - 1) / 4)) = q1
  cases q1 with
  | true =>
    refine wpAny_execs_cons (wpAny_Return_some (thn (pk_bl.run _ _ F4) fun u s5 ⟨r5, k5⟩ => ⟨?_, kend _ k5⟩))
    rw [Bool.true_or]
    exact r5
  | false =>
    refine wpAny_execs_nil ?_
    refine wpAny_execs_cons (wpAny_Return_some (thn ((pk_and frN_stays (pk_in2 frN_stays (pk_mod frN_stays sz pk_int (by decide)) pk_int pk_int (by rfl) rfl rfl) (pk_eqI frN_stays ap (pk_fdiv frN_stays sz pk_int (by decide) (by decide)) (by rfl))).run _ _ F4) fun u s5 ⟨r5, k5⟩ => ⟨?_, kend _ k5⟩))
    rw [Bool.false_or]
    exact r5
end
end AK
set_option Elab.async false
set_option linter.all false
set_option maxRecDepth 100000
set_option maxHeartbeats 2000000
namespace AK
open PySem PySem.Spec PyProof.Rows L2
section
variable {X : Cx} {pins : List (Addr × Obj)} {σ : L2.St} {H : Hp} {s : Shared}
/-- a range as a source -/
theorem src_rng {P : Addr} {n : Nat} (I : Inv X pins σ H s) (hcs : ∃ ps, H P = some (.tbl ps)) :
    SrcAt X P s { s with heap := s.heap.push { cls := .type "range_iterator", data := .fields #[rawInt 0, rawInt (Builtin.Range.rangeSize 0 (n : Int) 1), rawInt 1] } } (.ref s.heap.objs.size) n (fun i v => i < n ∧ ∃ t, v = .int (i : Nat) t) := by
  obtain ⟨ps, hP⟩ := hcs
  have hPs : s.heap.get? P = some { cls := .none, data := .fields ps } := I.hok P _ hP
  have hPlt := Heap.lt_size hPs
  refine ⟨s.heap.objs.size, [s.heap.objs.size], [s.heap.objs.size], fun i h => IsRangeIter h s.heap.objs.size (0 + (i : Nat) * 1) ((n : Int) - (i : Nat)) 1, rfl, fun A' hA => ?_, ?_, fun b hb => ?_, fun b hb => ?_, ⟨_, s.toks, rfl⟩, fun b o e => Heap.get?_push_of_some _ e, ?_⟩
  · have W := Walks.range (prog := X.prog) (w := X.w) hA s.heap.objs.size 0 1 n
    exact W.mono_item fun i v hi ⟨t, e⟩ => ⟨hi, t, by rw [e, Int.mul_one, Int.zero_add]⟩
  · show IsRangeIter _ _ (0 + ((0 : Nat) : Int) * 1) ((n : Int) - ((0 : Nat) : Int)) 1
    have e2 : (n : Int) - ((0 : Nat) : Int) = Builtin.Range.rangeSize 0 n 1 := by rw [rangeSize_one]; split <;> omega
    rw [e2]
    exact Heap.get?_push_size _ rfl
  · rw [Heap.size_push]
    rw [List.mem_singleton.mp hb]; exact ⟨Nat.lt_succ_self _, Nat.ne_of_gt hPlt⟩
  · rw [List.mem_singleton.mp hb]; exact Nat.le_refl _
  · rw [Heap.size_push]; exact Nat.le_succ _
/-- the element: of a place below n the text f, all objects stand -/
def ElI (X : Cx) (P : Addr) (scope : Scope) (x : Str) (elt : Expr) (σ : L2.St) (n : Nat) (f : Nat → Str) : Prop :=
  ∀ (pins : List (Addr × Obj)) (s0 : Shared) (H1 : Hp), Inv X pins σ H1 s0 → (∃ ps, H1 P = some (.tbl ps)) → ∀ (cenv : Env) (A' : Around) (E' : Value → Shared → Prop) (i : Nat) (u : Value) (s3 : Shared) (m : Str → Option Value), EltAt X P s0 scope cenv A' s3 → i < n → RelV (.int i) u → s3.heap.Ns cenv.locals m → m x = some u →
    wpAny (model X.prog X.w) A' (eval elt cenv) (fun y s4 => (∃ t, y = .str (f i) t) ∧ Keeps s3 s4) E' s3
/-- sep.join(elt for x in range(e)) -/
def tJoinR (X : Cx) (P : Addr) (scope : Scope) (x : Str) (elt : Expr) (to : TE) (tr : L2.St → Hp → (Int → Int → Hp → Prop) → Prop) : TE := fun σ H Q => to σ H fun v H1 => ∃ sep : Str, v = .str sep ∧ tr σ H1 fun a b H2 => ∃ (n : Nat) (f : Nat → Str), a = 0 ∧ b = n ∧ n ≤ 16777216 ∧ GxR.TabG H2 P ∧
  ElI X P scope x elt σ n f ∧ JoinOk sep ((List.range n).map f) = true ∧ ∀ H3, GxR.Tabbed P H2 H3 → Q (.str (Txt.join sep ((List.range n).map f))) H3
theorem pe_joinR {c P : Addr} {o elt iter : Expr} {x : Str} {px apos cpos gpos : Pos} {scope : Scope} {to : TE} {tr : L2.St → Hp → (Int → Int → Hp → Prop) → Prop} {k : Nat}
    (hr : Room k X.A) (TB : GxR.TabB X.base X.mg c P) (hcode : X.env.code = .ref c) (S : GxR.GenS X.env scope x) (ho : PE X o to) (hi : PRg X iter tr)
    (hs : ∀ v, genFold iter X.env v = pure v) (hc : X.calm = true) (hbase : attributeBase o "join" X.env (eval o X.env) = eval o X.env := by rfl)
    (hfew : ((backTo cpos (starEach [.GeneratorExp elt [⟨.Name x px, iter, [], 0⟩] scope gpos] X.env)).all (fun x => !x.1) && (backToKw cpos (keywordEach [] X.env)).all (fun x => x.1.isSome)
      && decide (([.GeneratorExp elt [⟨.Name x px, iter, [], 0⟩] scope gpos] : List Expr).length + ([] : List Keyword).length + (if ([] : List Keyword).isEmpty then 0 else 1) < 30)) = true := by rfl)
    (hline : (apos.endLine == cpos.line) = true := by rfl)
    (he : starEach [.GeneratorExp elt [⟨.Name x px, iter, [], 0⟩] scope gpos] X.env = (false, eval (.GeneratorExp elt [⟨.Name x px, iter, [], 0⟩] scope gpos) X.env) :: starEach [] X.env := by rfl)
    (hplain : (backTo cpos (starEach [] X.env)).any (·.1) = false := by rfl) :
    PE X (.Call (.Attribute o "join" apos) [.GeneratorExp elt [⟨.Name x px, iter, [], 0⟩] scope gpos] [] cpos) (tJoinR X P scope x elt to tr) := by
  refine ⟨fun pins s σ H Q I h => ?_⟩
  refine wpAny_Call_method_late hbase hfew hline rfl (thn (ho.run pins s σ H _ I h) fun v s1 ⟨x', H1, I1, r1, sep, ex, q1⟩ => ?_)
  subst ex
  obtain ⟨tk, rfl⟩ := (show ∃ t, v = Value.str sep t from r1)
  refine ⟨"str", _, PySem.F.plainAttrs_str, PySem.F.slot_str_join, PySem.F.type_str_join, typeIs_str _ _ _, (fun _ e => nomatch e), ?_⟩
  rw [he]
  refine Calls.callWith_builtin (by show (false || (backTo cpos (starEach [] X.env)).any (·.1)) = false; rw [hplain] <;> rfl) (Calls.evalArgs_plain ?_)
  show wpAny _ _ (spliced ((false, eval (.GeneratorExp elt [⟨.Name x px, iter, [], 0⟩] scope gpos) X.env) :: backTo cpos (starEach [] X.env))) _ _ s1
  refine Calls.spliced_cons (gen_mk (σ := σ) (pins := pins) hr TB hcode S hs hc I1.ok (thn (hi pins s1 σ H1 _ I1 q1) fun xv s2 ⟨r, a, b, t, u, v, H2, ex2, hIR, I2, q2⟩ => ?_))
  subst ex2
  obtain ⟨n, f, rfl, rfl, hn, hT, hel, jok, hq⟩ := q2
  obtain ⟨ps, hP, ht⟩ := id hT
  refine wpAny_pyIter_range hIR (small_one (by omega) (by omega) (by omega) (by omega)) ⟨s2, H2, n, _, fun i y => ∃ t, y = .str (f i) t, I2, hT, src_rng I2 ⟨ps, hP⟩, fun cenv A' E' i v s3 m ea hv hn hm => ?_, fun g s5 hG => ?_⟩
  · obtain ⟨hi3, t3, rfl⟩ := hv
    exact hel pins s2 H2 I2 ⟨ps, hP⟩ cenv A' E' i _ s3 m ea hi3 ⟨_, rfl⟩ hn hm
  · refine Calls.spliced_nil ?_
    obtain ⟨fp, wr, G, St, W, hst, hfp, hgf, hTy, hinv⟩ := hG
    refine PySem.SC.joinGen W.in4_2 hTy hst hfp hgf (fun i v hv => let ⟨t, e⟩ := hv; ⟨_, t, e⟩) (fun s' l hm hio => ?_) (show n ≤ sizeLine from Nat.le_trans hn (by decide))
    have hl0 : l.length = n := by
      have e0 := hio.1
      rw [List.size_toArray] at e0
      unfold strValues at e0
      rw [List.length_map] at e0
      exact e0
    have e : l.map (·.1) = (List.range n).map f := by
      refine List.ext_getElem? fun j => ?_
      rw [List.getElem?_map, List.getElem?_map]
      cases hj : l[j]? with
      | none =>
        have h1 : (List.range n)[j]? = none := by
          rw [List.getElem?_eq_none_iff] at hj ⊢
          rw [List.length_range]
          omega
        rw [h1] <;> rfl
      | some p =>
        have hjn : j < n := by
          have := (List.getElem?_eq_some_iff.mp hj).1
          omega
        have h2 : (strValues l).toArray[j]? = some (.str p.1 p.2) := by
          show (strValues l).toArray[j]? = _
          rw [List.getElem?_toArray]
          unfold strValues
          rw [List.getElem?_map, hj] <;> rfl
        obtain ⟨t, ev⟩ := hio.2 j _ h2
        have e1 : p.1 = f j := by injection ev
        rw [List.getElem?_range hjn]
        show some p.1 = some (f j)
        rw [e1]
    obtain ⟨H3, ht3, J⟩ := hinv s' hm
    rw [e]
    exact ⟨jok, fun t' k' => ⟨.str _, H3, J.tok k', ⟨t', rfl⟩, hq H3 ht3⟩⟩
end
end AK
set_option Elab.async false
set_option linter.all false
set_option maxRecDepth 100000
set_option maxHeartbeats 4000000
namespace AK
open PySem PySem.Spec PyProof.Rows L2
def ringS (n i j : Nat) : Str := if knowI i j n = true then "x" else "-"
theorem el_ring {X : Cx} {Pt fK : Addr} {fdK : FuncData} {σ : L2.St} {scope : Scope} {i n k : Nat} {p1 p2 p3 p4 p5 p6 p7 p8 : Pos} (hr : Room k X.A) (FK : Fun X.K "_know_in_ring" "_know_in_ring" sKnow fK fdK) (gK : X.mg "_know_in_ring" = some (.ref fK)) (B : Bl X.mg) (C : Cn X.mg)
    (hN0 : X.N[0]? = some ("place" : Str)) (h0 : σ[0]? = some (some (.int i))) (hk0 : X.env.scope.names.lookup ("place" : Str) = some NameKind.cell) (hN1 : X.N[1]? = some ("size" : Str)) (h1 : σ[1]? = some (some (.int n))) (hk1 : X.env.scope.names.lookup ("size" : Str) = some NameKind.cell)
    (hclo0 : ∀ (cells : List (Str × Addr)) (c : Addr), cells.lookup ("place" : Str) = some c → (cloFrom cells scope.names []).lookup ("place" : Str) = some c)
    (hclo1 : ∀ (cells : List (Str × Addr)) (c : Addr), cells.lookup ("size" : Str) = some c → (cloFrom cells scope.names []).lookup ("size" : Str) = some c)
    (hsk : scope.kind = .function) (hl : scope.names.lookup ("other" : Str) = some NameKind.local) (hf0 : scope.names.lookup ("place" : Str) = some NameKind.free) (hf1 : scope.names.lookup ("size" : Str) = some NameKind.free)
    (hg1 : scope.names.lookup ("_know_in_ring" : Str) = some NameKind.globalImplicit) (hg2 : scope.names.lookup ("KNOWS" : Str) = some NameKind.globalImplicit) (hg3 : scope.names.lookup ("APART" : Str) = some NameKind.globalImplicit) :
    ElI X Pt scope "other" (.IfExp (.Call (.Name "_know_in_ring" p1) [.Name "place" p2, .Name "other" p3, .Name "size" p4] [] p5) (.Name "KNOWS" p6) (.Name "APART" p7) p8) σ n (ringS n i) := by
  intro pins s0 H1 I hP cenv A' E' j u s3 m ea hj rj hn hm
  obtain ⟨ps, hP⟩ := hP
  have hPn : H1 Pt ≠ none := by rw [hP]; exact fun z => nomatch z
  obtain ⟨u0, c0, r0, hc0, _, _, hcell0⟩ := cap_at I hPn ea hN0 h0 hk0 hclo0
  obtain ⟨u1, c1, r1, hc1, _, _, hcell1⟩ := cap_at I hPn ea hN1 h1 hk1 hclo1
  obtain ⟨tk, gk⟩ := C.knows
  obtain ⟨ta, ga⟩ := C.apart
  have kk : cenv.scope.kind = .function := by rw [ea.sc]; exact hsk
  have kof : ∀ y, cenv.kindOf y = scope.names.lookup y := fun y => by show cenv.scope.names.lookup y = _; rw [ea.sc]
  have old : ∀ b o, X.base.get? b = some o → s3.heap.get? b = some o := fun b o e => ea.old b o (fun z => by have := (I.bs b o e).2; rw [z, hP] at this; cases this) (I.bk b o e)
  have glob : s3.heap.Ns cenv.globals X.mg := by rw [ea.glob, I.ok.glob]; exact I.mod.glob.keeps old
  have KX : X.K.In s3.heap := I.mod.kin.keeps old
  have hd3 : A'.depth < recursionLimit := by have := hr.dp; have := ea.dp; omega
  refine PyProof.Rows.IfExp_ (isTrue_plain ?_ rfl)
  refine wpAny_Call_Name_kw (Calls.Name_function_global kk (by rw [kof]; exact hg1) (Calls.loadGlobal_global glob gK ?_))
  refine PySem.W.callWith_K (h₀ := X.base) I.mod.kin FK.kp ?_ rfl rfl
  show wpAny _ _ (spliced ((false, eval (.Name "place" p2) cenv) :: (false, eval (.Name "other" p3) cenv) :: (false, eval (.Name "size" p4) cenv) :: [])) _ _ s3
  refine Calls.spliced_cons (wpAny_Name (wpAny_loadName_free kk (by rw [kof]; exact hf0) hc0 hcell0 ?_ rfl) rfl)
  refine Calls.spliced_cons (wpAny_Name (wpAny_loadName_local kk (by rw [kof]; exact hl) hn hm ?_) rfl)
  refine Calls.spliced_cons (wpAny_Name (wpAny_loadName_free kk (by rw [kof]; exact hf1) hc1 hcell1 ?_ rfl) rfl)
  refine Calls.spliced_nil ⟨KX, ?_⟩
  refine thn (know_call FK I.mod B ea.hd hd3 old r0 rj r1) fun q s4 ⟨e4, k4⟩ => ?_
  subst e4
  refine wpAny_truthy_bool ?_
  obtain ⟨h4, t4, rfl, kp4⟩ := k4
  have glob4 : h4.Ns cenv.globals X.mg := glob.keeps kp4
  unfold ringS
  cases knowI (↑i) (↑j) (↑n) with
  | true => exact Calls.Name_function_global kk (by rw [kof]; exact hg2) (Calls.loadGlobal_global glob4 gk ⟨⟨_, rfl⟩, h4, t4, rfl, kp4⟩)
  | false => exact Calls.Name_function_global kk (by rw [kof]; exact hg3) (Calls.loadGlobal_global glob4 ga ⟨⟨_, rfl⟩, h4, t4, rfl, kp4⟩)
end AK
set_option Elab.async false
set_option linter.all false
set_option maxRecDepth 100000
set_option maxHeartbeats 4000000
namespace AK
open PySem PySem.Spec PyProof.Rows L2
theorem ring_join (n i : Nat) : Txt.join (Str.ofString "") ((List.range n).map (ringS n i)) = row n (fun j => knowI i j n) := by
  have e : (List.range n).map (ringS n i) = ((List.range n).map fun (j : Nat) => sg (knowI i j n)).map fun c => (⟨#[c]⟩ : Str) := by
    rw [List.map_map]
    refine List.map_congr_left fun j _ => ?_
    unfold ringS
    show _ = (⟨#[sg _]⟩ : Str)
    cases knowI (↑i) (↑j) (↑n) <;> rfl
  rw [e, join_signs] <;> rfl
theorem ring_ok {n i : Nat} (hn : n ≤ 200) : JoinOk (Str.ofString "") ((List.range n).map (ringS n i)) = true := by
  refine joinOk_of_weight ?_ (by decide)
  have e1 : (((List.range n).map (ringS n i)).map (·.length)).sum = n := by
    have : ∀ l : List Nat, ((l.map (ringS n i)).map (·.length)).sum = l.length := by
      intro l
      induction l with
      | nil => rfl
      | cons b l ih =>
        rw [List.map_cons, List.map_cons, List.sum_cons, ih, List.length_cons]
        have : (ringS n i b).length = 1 := by unfold ringS; split <;> rfl
        omega
    rw [this, List.length_range]
  rw [e1, List.length_map, List.length_range]
  omega
section
variable {P : Program} {w : World} {K : PySem.W.Frag} {mg : Str → Option Value} {base : Heap}
/-! ### _ring_row -/
theorem scRing : FnScope ["place", "size"] ["place", "size"] (defScope sRing) := ⟨rfl, rfl, rfl, by decide +kernel, rfl, by decide +kernel, by decide +kernel⟩
def spRing (K : PySem.W.Frag) (Ts : List Addr) : Sp := fun vs H Q _ => ∃ i n : Nat, vs = [.int i, .int n] ∧ n ≤ 200 ∧ Tb Ts H ∧ ∀ H', SmT Ts H H' → Q (.str (row n (fun j => knowI i j n))) H'
theorem ok_ring {c f fK Pt : Addr} {fd fdK : FuncData} {Ts : List Addr} (F : FunR K "_ring_row" "_ring_row" sRing c f fd) (TB : GxR.TabB base mg c Pt) (hPt : Pt ∈ Ts) (FK : Fun K "_know_in_ring" "_know_in_ring" sKnow fK fdK) (gK : mg "_know_in_ring" = some (.ref fK)) (B : Bl mg) (C : Cn mg) : FnOk P w K mg base CX0 1 f fd ["place", "size"] (spRing K Ts) := by
  refine F.ok scRing (fun vs H Q E h => ?_) (fun A outer s H vs Q E hr h => ?_)
  · obtain ⟨i, n, rfl, _⟩ := h
    rfl
  · obtain ⟨i, n, rfl, hn, hT, q⟩ := h
    refine ⟨_, pss_one (ps_ret (pe_joinR hr TB rfl (genS_of rfl rfl (by decide +kernel) rfl rfl (by decide +kernel)) pe_str (prg_1 (by rfl) B.range (pv 1)) (fun _ => rfl) rfl)), ?_⟩
    refine ⟨_, rfl, _, rfl, _, rfl, n, ringS n i, rfl, rfl, by omega, hT Pt hPt, ?_, ring_ok hn, fun H2 t2 => ?_⟩
    · exact el_ring hr FK gK B C rfl rfl rfl rfl rfl rfl (fun cells c h => by
        show List.lookup _ [((Str.ofString "size"), (cells.lookup (Str.ofString "size")).getD 0), ((Str.ofString "place"), (cells.lookup (Str.ofString "place")).getD 0)] = _
        rw [h] <;> rfl) (fun cells c h => by
        show List.lookup _ [((Str.ofString "size"), (cells.lookup (Str.ofString "size")).getD 0), ((Str.ofString "place"), (cells.lookup (Str.ofString "place")).getD 0)] = _
        rw [h] <;> rfl) rfl rfl rfl rfl rfl rfl rfl
    · rw [ring_join]
      exact q H2 (SmT.tab hPt t2)
/-! ### web_of -/
def ringE (n i j : Nat) : Bool := knowI i j n
theorem scWebOf : FnScope ["size", "place"] ["size"] (defScope sWebOf) := ⟨rfl, rfl, rfl, by decide +kernel, rfl, by decide +kernel, by decide +kernel⟩
def spWebOf (K : PySem.W.Frag) (Ts : List Addr) : Sp := fun vs H Q _ => ∃ n : Nat, vs = [.int n] ∧ n ≤ 200 ∧ Tb Ts H ∧ ∀ H' p, SmT Ts H H' → H p = none → H' p = some (.lst ((web n (ringE n)).map V.str)) → Q (.ref p) H'
theorem SmT.upd {Ts : List Addr} {H H1 : Hp} {D : Addr} {o : HO} {u : HO} (s : SmT Ts H H1) (nD : H D = none) (eD : H1 D = some u) (hu : ∀ ps, u ≠ .tbl ps) : SmT Ts H (L2.upd H1 D o) :=
  ⟨fun b p hb e => by rw [upd_ne (ne_of_none e nD)]; exact s.1 b p hb e, fun h => (s.2 h).put eD hu⟩
theorem ok_webOf {f fC fR : Addr} {fd fdC fdR : FuncData} {c : Addr} {Ts : List Addr} (F : Fun K "web_of" "web_of" sWebOf f fd) (GC : FnOk P w K mg base CX0 2 fC fdC ["value", "least", "most"] (spCount K)) (FC : FunC K fC fdC) (bC : Binds K fdC ["value", "least", "most"] []) (gC : mg "check_count" = some (.ref fC))
    (GR : FnOk P w K mg base CX0 1 fR fdR ["place", "size"] (spRing K Ts)) (FR : FunR K "_ring_row" "_ring_row" sRing c fR fdR) (bR : Binds K fdR ["place", "size"] []) (gR : mg "_ring_row" = some (.ref fR)) (B : Bl mg) (C : Cn mg) : FnOk P w K mg base CX0 3 f fd ["size"] (spWebOf K Ts) := by
  obtain ⟨tm, gm⟩ := C.most
  refine F.ok scWebOf (fun vs H Q E h => ?_) (fun cdv A outer s H vs Q E hr h => ?_)
  · obtain ⟨n, rfl, _⟩ := h
    rfl
  · obtain ⟨n, rfl, hn, hT, q⟩ := h
    refine ⟨_, pss_cons (ps_expr (pe_call GC hr (by rfl) gC FC.kp bC .nil pass0 (pa_cons (pv 0) (pa_cons pe_int (pa_cons (pe_glob (v := .int 200) rfl gm ⟨_, rfl⟩) pa_nil)))))
      (pss_one (ps_ret (pe_lc (own := [("place", 1)]) (g := gName 1) (tt := tYes) rfl scWebOf.nd (pi_range1 (by rfl) B.range (pa_cons (pv 0) pa_nil)) (blkOk_by (N := ["size", "place"]) (sc := defScope sWebOf) (by decide +kernel)) (fun _ _ _ _ _ => pg_name (i := 1) scWebOf.nd rfl (Or.inl rfl)) (fun _ _ _ _ _ => pts_nil)
        (fun _ _ _ _ _ => pe_call GR (hr.mono (by decide)) (by rfl) gR FR.kp bR .nil pass0 (pa_cons (pv 1) (pa_cons (pv 0) pa_nil)))))), ?_⟩
    refine ⟨_, rfl, (n : Int), 0, .int 200, rfl, by omega, .inr ⟨200, rfl, by omega⟩, ?_⟩
    refine ⟨_, rfl, (n : Int), rfl, by omega, by omega, fun D nD => lc_range (fun i H2 => SmT Ts H H2 ∧ H2 D = some (.lst (((web n (ringE n)).take i).map V.str))) ⟨SmT.of (same_upd nD), upd_same⟩ ?_ ?_⟩
    · rintro i H2 hi ⟨s2, e2⟩
      have hi : i < n := by omega
      have hT2 := s2.2 hT
      refine ⟨rfl, _, rfl, _, rfl, i, n, ?_, hn, hT2, fun H4 s4 => ?_⟩
      · rw [Int.zero_add]
        rfl
      · have e4 := s4.lst hT2 e2
        refine ⟨_, e4, ?_, (s2.trans s4).upd nD e4 (fun _ z => nomatch z), ?_⟩
        · rw [List.length_map, List.length_take, web_len]
          exact small1000 (by omega)
        · have et : ((web n (ringE n)).take (i + 1)).map V.str = ((web n (ringE n)).take i).map V.str ++ [V.str (row n (fun j => knowI i j n))] := by
            rw [List.take_add_one, web_at hi, List.map_append] <;> rfl
          rw [upd_same, et]
    · rintro H2 ⟨s2, e2⟩
      have en : (n : Int).toNat = n := by omega
      rw [en, List.take_of_length_le (by rw [web_len]; exact Nat.le_refl _)] at e2
      exact q H2 D s2 nD e2
end
end AK
set_option Elab.async false
set_option linter.all false
set_option maxRecDepth 100000
set_option maxHeartbeats 4000000
namespace AK
open PySem PySem.Spec PyProof.Rows L2
/-- * of two factors of together less than a hundred million bits -/
def CMulH (i j : Int) : Prop := i.natAbs.log2 + j.natAbs.log2 < 100000000
theorem CMulH.ok {i j : Int} (h : CMulH i j) : IntMulOk i j := by
  have b : ∀ x : Int, Builtin.Int.intBits x ≤ x.natAbs.log2 + 1 := fun x => by
    unfold Builtin.Int.intBits
    split <;> omega
  have h1 := b i
  have h2 := b j
  have h3 : i.natAbs.log2 + j.natAbs.log2 < 100000000 := h
  have e : bitsLine = 134217728 := by decide
  unfold IntMulOk
  intro z
  rw [Bool.and_eq_true] at z
  have z2 := z.2
  unfold Builtin.Int.intTooBig at z2
  have z3 := of_decide_eq_true z2
  rw [e] at z3
  omega
theorem hard_mul {i j : Int} {a b : Nat} (ha : i.natAbs < 2 ^ a) (hb : j.natAbs < 2 ^ b) (h0 : 0 < a) (h1 : 0 < b) (h : a + b ≤ 100000000) : CMulH i j := by
  have x := PySem.Flt.log2_lt_of h0 ha
  have y := PySem.Flt.log2_lt_of h1 hb
  unfold CMulH
  omega
theorem op_mulH {X : Cx} : OpR X (binaryOp .Mult) (rI CMulH fun i j => .int (i * j)) := opI fun _ _ _ _ _ _ _ hc q => mul_int q hc.ok
section
variable {P : Program} {w : World} {K : PySem.W.Frag} {mg : Str → Option Value} {base : Heap}
/-! ### _law_number -/
theorem scNum : FnScope ["_law_cell", "_law_at", "_law_whole", "_law_mixed", "_law_more"] ["_law_cell", "_law_at", "_law_whole"] (defScope sNum) := ⟨rfl, rfl, rfl, by decide +kernel, rfl, by decide +kernel, by decide +kernel⟩
def spNum (K : PySem.W.Frag) (N : Nat) : Sp := fun vs H Q _ => ∃ c a t : Int, vs = [.int c, .int a, .int t] ∧ 0 ≤ a ∧ a ≤ 6 ∧ c.natAbs < 2 ^ N ∧ ∀ z, Q (.int z) H
theorem ok_num {f : Addr} {fd : FuncData} {N : Nat} (n0 : 40 ≤ N) (n1 : N ≤ 2000000) (F : Fun K "_law_number" "_law_number" sNum f fd) : FnOk P w K mg base CX0 1 f fd ["_law_cell", "_law_at", "_law_whole"] (spNum K N) := by
  refine F.ok scNum (fun vs H Q E h => ?_) (fun cdv A outer s H vs Q E hr h => ?_)
  · obtain ⟨c, a, t, rfl, _⟩ := h
    rfl
  · obtain ⟨c, a, t, rfl, a0, a1, hc, q⟩ := h
    refine ⟨_, pss_cons (ps_if (pt_cmpR op_ge (pv 0) (pe_op op_pow pe_int pe_int) (nomark _)) (pss_one (ps_ret (pv 0))) pss_nil)
      (pss_cons (ps_set (i := 3) scNum.nd rfl (.inl rfl) (pe_op op_mod (pe_op op_add (pe_op op_mul (pe_op op_add (pv 0) (pe_op op_mul pe_int (pv 1))) pe_int) (pv 2)) pe_int))
      (pss_cons (ps_set (i := 4) scNum.nd rfl (.inl rfl) (pe_op op_mulH (pv 3) (pe_op op_add (pe_op op_add (pv 0) (pe_op op_mul pe_int (pv 1))) pe_int)))
      (pss_one (ps_ret (pe_op op_fdiv (pe_op op_mul (pe_op op_mulH (pv 4) (pe_op op_add (pe_op op_add (pv 3) (pv 0)) pe_int)) (pe_op op_add (pe_op op_mul (pv 3) (pv 3)) pe_int)) (pe_op op_add pe_int (pv 1))))))), ?_⟩
    have hp : 2 ^ 40 ≤ 2 ^ N := Nat.pow_le_pow_right (by decide) n0
    have e1 : 2 ^ (N + 1) = 2 * 2 ^ N := by rw [Nat.pow_succ]; omega
    refine ⟨_, rfl, 10, 18, rfl, rfl, ⟨by decide, by decide, by decide⟩, c, _, rfl, rfl, _, rfl, ?_⟩
    by_cases h18 : (10 : Int) ^ (18 : Int).toNat ≤ c
    · rw [decide_eq_true h18]
      refine iteT ⟨_, rfl, ?_⟩
      exact q c
    · rw [decide_eq_false h18]
      refine iteF ?_
      refine ⟨_, rfl, _, rfl, 977, a, rfl, rfl, .inl ⟨by decide, by decide⟩, _, _, rfl, rfl, _, _, rfl, rfl, .inr ⟨by decide, by decide⟩, _, rfl, _, _, rfl, rfl, _, _, rfl, rfl, (show (0 : Int) < 2147483647 by decide), ?_⟩
      have m0 : 0 ≤ ((c + 977 * a) * 48271 + t) % 2147483647 := Int.emod_nonneg _ (by decide)
      have m1 : ((c + 977 * a) * 48271 + t) % 2147483647 < 2147483647 := Int.emod_lt_of_pos _ (by decide)
      have fx : ∀ m : Int, 0 ≤ m → m < 2147483647 → m.natAbs < 2 ^ 31 ∧ (c + 31 * a + 7).natAbs < 2 ^ (N + 1) ∧ (m + c + 5).natAbs < 2 ^ (N + 1) ∧ (m * (c + 31 * a + 7)).natAbs < 2 ^ (31 + (N + 1)) ∧ 0 ≤ m * m ∧ m * m < 2 ^ 62 := fun m m0 m1 => by
        have hm : m.natAbs < 2 ^ 31 := by omega
        have hx : (c + 31 * a + 7).natAbs < 2 ^ (N + 1) := by omega
        have h1 : m.natAbs * m.natAbs < 2 ^ 31 * 2 ^ 31 := Nat.mul_lt_mul'' hm hm
        have h2 := Int.natAbs_mul_self' m
        exact ⟨hm, hx, by omega, wide_lt hm hx, by omega, by omega⟩
      obtain ⟨hm, hx, hy, hz, mm0, mm1⟩ := fx _ m0 m1
      refine ⟨_, rfl, _, rfl, _, rfl, 31, a, rfl, rfl, .inl ⟨by decide, by decide⟩, _, _, rfl, rfl, _, _, rfl, rfl, _, _, rfl, rfl, hard_mul (a := 31) (b := N + 1) hm hx (by decide) (by omega) (by omega), ?_⟩
      refine ⟨_, rfl, _, rfl, _, rfl, _, _, rfl, rfl, _, _, rfl, rfl, _, _, rfl, rfl, hard_mul (a := 31 + (N + 1)) (b := N + 1) hz hy (by omega) (by omega) (by omega), ?_⟩
      refine ⟨_, rfl, _, rfl, _, _, rfl, rfl, .inl ⟨by omega, by omega⟩, _, _, rfl, rfl, _, _, rfl, rfl, .inr ⟨by omega, by omega⟩, ?_⟩
      refine ⟨_, rfl, _, _, rfl, rfl, _, _, rfl, rfl, ⟨by omega, by omega⟩, ?_⟩
      exact q _
end
end AK
set_option Elab.async false
set_option linter.all false
set_option maxRecDepth 100000
set_option maxHeartbeats 4000000
namespace AK
open PySem PySem.Spec PyProof.Rows L2
/-- three numbers in a row are six times something -/
theorem six_dvd (z : Int) : ∃ t, z * (z - 1) * (z - 2) = 6 * t := by
  have h : z = 6 * (z / 6) + z % 6 := by omega
  generalize z / 6 = k at h
  have h1 : 0 ≤ z % 6 := Int.emod_nonneg _ (by decide)
  have h2 : z % 6 < 6 := Int.emod_lt_of_pos _ (by decide)
  generalize z % 6 = r at h h1 h2
  subst h
  have hr : r = 0 ∨ r = 1 ∨ r = 2 ∨ r = 3 ∨ r = 4 ∨ r = 5 := by omega
  rcases hr with rfl | rfl | rfl | rfl | rfl | rfl
  · exact ⟨k * (6 * k - 1) * (6 * k - 2), by grind⟩
  · exact ⟨(6 * k + 1) * k * (6 * k - 1), by grind⟩
  · exact ⟨(6 * k + 2) * (6 * k + 1) * k, by grind⟩
  · exact ⟨(2 * k + 1) * (3 * k + 1) * (6 * k + 1), by grind⟩
  · exact ⟨(3 * k + 2) * (2 * k + 1) * (6 * k + 2), by grind⟩
  · exact ⟨(6 * k + 5) * (3 * k + 2) * (2 * k + 1), by grind⟩
def lawMixed (z : Int) : Int := if z % 4 = 3 then z * ((z - 1) / 2) * (z - 1 - (z - 1) / 2) - (z - 1) / 2 * ((z - 1) / 2) + ((z - 1) / 2 - 1) * (z - (z - 1) / 2) else z * ((z - 1) / 2) * (z - 1 - (z - 1) / 2)
def lawF (z : Int) : Int := (z * (z - 1) * (z - 2) / 3 - lawMixed z) / 2
theorem lawF_eq (z : Int) : lawF z = fewestN z := by
  obtain ⟨t, ht⟩ := six_dvd z
  unfold lawF fewestN threesN
  rw [ht]
  have e3 : 6 * t / 3 = 2 * t := by omega
  have e6 : 6 * t / 6 = t := by omega
  rw [e3, e6]
  have hz : z = 2 * (z / 2) ∨ z = 2 * (z / 2) + 1 := by omega
  generalize z / 2 = k at hz
  rcases hz with rfl | rfl
  · have h4 : ¬ (2 * k) % 4 = 3 := by omega
    unfold lawMixed
    rw [if_neg h4]
    have e1 : (2 * k - 1) / 2 = k - 1 := by omega
    rw [e1]
    have e2 : (2 * k - 1) * (2 * k - 1) = 4 * (k * k - k) + 1 := by grind
    rw [e2]
    have e5 : (4 * (k * k - k) + 1) / 4 = k * k - k := by omega
    rw [e5]
    have e7 : 2 * k * (k - 1) * (2 * k - 1 - (k - 1)) = 2 * (k * (k * k - k)) := by grind
    have e8 : 2 * k * (k * k - k) = 2 * (k * (k * k - k)) := by grind
    rw [e7, e8]
    omega
  · have e1 : (2 * k + 1 - 1) / 2 = k := by omega
    have e2 : (2 * k + 1 - 1) * (2 * k + 1 - 1) = 4 * (k * k) := by grind
    rw [e2]
    have e5 : 4 * (k * k) / 4 = k * k := by omega
    rw [e5]
    unfold lawMixed
    rw [e1]
    have e7 : (2 * k + 1) * k * (2 * k + 1 - 1 - k) = (2 * k + 1) * (k * k) := by grind
    rw [e7]
    by_cases h4 : (2 * k + 1) % 4 = 3
    · rw [if_pos h4]
      have hk : k = 2 * (k / 2) + 1 := by omega
      generalize k / 2 = j at hk
      subst hk
      have e9 : (2 * (2 * j + 1) + 1) * ((2 * j + 1) * (2 * j + 1)) - (2 * j + 1) * (2 * j + 1) + (2 * j + 1 - 1) * (2 * (2 * j + 1) + 1 - (2 * j + 1)) = 2 * (8 * (j * j * j) + 14 * (j * j) + 8 * j + 1) := by grind
      have e10 : (2 * (2 * j + 1) + 1) * ((2 * j + 1) * (2 * j + 1)) = 2 * (8 * (j * j * j) + 14 * (j * j) + 8 * j + 1) + 1 := by grind
      rw [e9, e10]
      omega
    · rw [if_neg h4]
      have hk : k = 2 * (k / 2) := by omega
      generalize k / 2 = j at hk
      subst hk
      have e9 : (2 * (2 * j) + 1) * (2 * j * (2 * j)) = 2 * ((2 * (2 * j) + 1) * (j * (2 * j))) := by grind
      rw [e9]
      omega
section
variable {P : Program} {w : World} {K : PySem.W.Frag} {mg : Str → Option Value} {base : Heap}
theorem scLFew : FnScope ["_law_size", "_law_half", "_law_mixed"] ["_law_size"] (defScope sLFew) := ⟨rfl, rfl, rfl, by decide +kernel, rfl, by decide +kernel, by decide +kernel⟩
def spLFew (K : PySem.W.Frag) : Sp := fun vs H Q _ => ∃ z : Int, vs = [.int z] ∧ 0 < z ∧ z.natAbs < 2 ^ 128 ∧ Q (.int (fewestN z)) H
theorem ok_lfew {f : Addr} {fd : FuncData} (F : Fun K "_law_fewest" "_law_fewest" sLFew f fd) : FnOk P w K mg base CX0 1 f fd ["_law_size"] (spLFew K) := by
  refine F.ok scLFew (fun vs H Q E h => ?_) (fun cdv A outer s H vs Q E hr h => ?_)
  · obtain ⟨z, rfl, _⟩ := h
    rfl
  · obtain ⟨z, rfl, h0, hz, q⟩ := h
    refine ⟨_, pss_cons (ps_set (i := 1) scLFew.nd rfl (.inl rfl) (pe_op op_fdivW (pe_op op_sub (pv 0) pe_int) pe_int))
      (pss_cons (ps_set (i := 2) scLFew.nd rfl (.inl rfl) (pe_op op_mulW (pe_op op_mulW (pv 0) (pv 1)) (pe_op op_sub (pe_op op_sub (pv 0) pe_int) (pv 1))))
      (pss_cons (ps_if (pt_cmpR op_eq (pe_op op_mod (pv 0) pe_int) pe_int (nomark _)) (pss_one (ps_set (i := 2) scLFew.nd rfl (.inl rfl) (pe_op op_add (pe_op op_sub (pv 2) (pe_op op_mulW (pv 1) (pv 1))) (pe_op op_mulW (pe_op op_sub (pv 1) pe_int) (pe_op op_sub (pv 0) (pv 1)))))) pss_nil)
      (pss_one (ps_ret (pe_op op_fdivW (pe_op op_sub (pe_op op_fdivW (pe_op op_mulW (pe_op op_mulW (pv 0) (pe_op op_sub (pv 0) pe_int)) (pe_op op_sub (pv 0) pe_int)) pe_int) (pv 2)) pe_int))))), ?_⟩
    have b1 : ((z - 1) / 2).natAbs < 2 ^ 128 := by omega
    have b2 : (z - 1 - (z - 1) / 2).natAbs < 2 ^ 128 := by omega
    have b3 := wide_lt hz b1
    have b4 : ((z - 1) / 2 - 1).natAbs < 2 ^ 129 := by omega
    have b5 : (z - (z - 1) / 2).natAbs < 2 ^ 129 := by omega
    have b6 : (z - 1).natAbs < 2 ^ 129 := by omega
    have b7 : (z - 2).natAbs < 2 ^ 129 := by omega
    have b8 := wide_lt hz b6
    have dd : ∀ y : Int, CDivW y 2 := fun y => wide_div (b := 3) (by decide) (by decide) (by decide) (by decide)
    have d3 : ∀ y : Int, CDivW y 3 := fun y => wide_div (b := 3) (by decide) (by decide) (by decide) (by decide)
    have fin : ∀ mx : Int, mx = lawMixed z → Q (.int ((z * (z - 1) * (z - 2) / 3 - mx) / 2)) H := fun mx e => by
      subst e
      have := lawF_eq z
      unfold lawF at this
      rw [this]
      exact q
    refine ⟨_, rfl, _, _, rfl, rfl, _, _, rfl, rfl, dd _, ?_⟩
    refine ⟨_, rfl, _, rfl, _, _, rfl, rfl, wide_mul hz b1 (by decide) (by decide) (by decide), _, rfl, _, _, rfl, rfl, _, rfl, _, _, rfl, rfl, _, _, rfl, rfl, wide_mul b3 b2 (by decide) (by decide) (by decide), ?_⟩
    refine ⟨_, rfl, _, _, rfl, rfl, (show (0 : Int) < 4 by decide), rfl, _, rfl, ?_⟩
    by_cases h4 : z % 4 = 3
    · rw [decide_eq_true (show V.int (z % 4) = V.int 3 by rw [h4])]
      refine iteT ?_
      refine ⟨_, rfl, _, rfl, _, rfl, _, _, rfl, rfl, wide_mul b1 b1 (by decide) (by decide) (by decide), _, _, rfl, rfl, _, rfl, _, _, rfl, rfl, _, rfl, _, rfl, _, _, rfl, rfl, _, _, rfl, rfl, wide_mul b4 b5 (by decide) (by decide) (by decide), _, _, rfl, rfl, ?_⟩
      refine ⟨_, rfl, _, rfl, _, _, rfl, rfl, _, _, rfl, rfl, wide_mul hz b6 (by decide) (by decide) (by decide), _, rfl, _, _, rfl, rfl, _, _, rfl, rfl, wide_mul b8 b7 (by decide) (by decide) (by decide), _, _, rfl, rfl, d3 _, _, rfl, _, _, rfl, rfl, _, _, rfl, rfl, dd _, ?_⟩
      refine fin _ ?_
      unfold lawMixed
      rw [if_pos h4]
    · rw [decide_eq_false (show ¬ V.int (z % 4) = V.int 3 from fun e => h4 (by injection e))]
      refine iteF ?_
      refine ⟨_, rfl, _, rfl, _, _, rfl, rfl, _, _, rfl, rfl, wide_mul hz b6 (by decide) (by decide) (by decide), _, rfl, _, _, rfl, rfl, _, _, rfl, rfl, wide_mul b8 b7 (by decide) (by decide) (by decide), _, _, rfl, rfl, d3 _, _, rfl, _, _, rfl, rfl, _, _, rfl, rfl, dd _, ?_⟩
      refine fin _ ?_
      unfold lawMixed
      rw [if_neg h4]
end
end AK
set_option Elab.async false
set_option linter.all false
set_option maxRecDepth 100000
set_option maxHeartbeats 4000000
namespace AK
open PySem PySem.Spec PyProof.Rows L2
theorem tw_all {p : Nat → Bool} : ∀ l : List Nat, (∀ c ∈ l, p c = true) → l.takeWhile p = l
  | [], _ => rfl
  | a :: l, h => by rw [List.takeWhile_cons, h a (List.mem_cons_self ..), if_pos rfl, tw_all l fun c hc => h c (List.mem_cons_of_mem _ hc)]
theorem strip_all (x y : Str) (h : ∀ c ∈ x.cps.toList, y.cps.contains c = true) : Txt.stripChars x y = Str.ofString "" := by
  unfold Txt.stripChars
  rw [PySem.W.stripBy_eq]
  have e1 : (x.cps.toList.takeWhile y.cps.contains) = x.cps.toList := tw_all _ h
  show Builtin.Str.strSub x _ _ = _
  simp only [if_true]
  rw [e1]
  have e2 : x.cps.toList.drop x.cps.toList.length = [] := List.drop_length
  rw [e2]
  unfold Builtin.Str.strSub
  have e3 : x.cps.extract x.cps.toList.length (x.length - (List.takeWhile y.cps.contains ([] : List Nat).reverse).length) = #[] := by
    rw [Array.extract_eq_empty_iff]
    simp [Str.length]
  rw [e3] <;> rfl
theorem row_strip (n : Nat) (e : Nat → Bool) : Txt.stripChars (row n e) (Str.ofString "x-") = Str.ofString "" := by
  refine strip_all _ _ fun c hc => ?_
  simp only [row, List.mem_map] at hc
  obtain ⟨j, _, rfl⟩ := hc
  cases e j <;> decide +kernel
theorem pe_ixK {X : Cx} {a b : Expr} {ta tb : TE} {pos : Pos} (K : PySem.W.Frag) (hK : X.K = K) (ha : PE X a ta) (hb : PE X b tb) (hs : PlainIx b) : PE X (.Subscript a b pos) (tOp (rIxL K) ta tb) := by
  subst hK
  exact pe_ix ix_list ha hb hs
theorem pe_isiK {X : Cx} {e : Expr} {es : List Expr} {t : TA} {p pos : Pos} (K : PySem.W.Frag) (hK : X.K = K) (hg : Gl X "isinstance") (hm : X.mg "isinstance" = none) (ha : PA X (e :: es) t)
    (he : starEach (e :: es) X.env = (false, eval e X.env) :: starEach es X.env := by rfl) (hpl : (backTo pos (starEach es X.env)).any (·.1) = false := by rfl) : PE X (.Call (.Name "isinstance" p) (e :: es) [] pos) (tCB (rIsi K) t) := by
  subst hK
  exact pe_callB call_isi hg hm (by decide +kernel) ha (he := he) (hpl := hpl)
section
variable {P : Program} {w : World} {K : PySem.W.Frag} {mg : Str → Option Value} {base : Heap}
theorem scIsWeb : FnScope ["_law_some", "_law_size", "_law_row", "_law_one", "_law_other"] ["_law_some", "_law_size"] (defScope sIsWeb) := ⟨rfl, rfl, rfl, by decide +kernel, rfl, by decide +kernel, by decide +kernel⟩
def spIsWeb (K : PySem.W.Frag) : Sp := fun vs H Q _ => ∃ (a : Addr) (n : Nat) (e : Nat → Nat → Bool), vs = [.ref a, .int n] ∧ WebAt K H a n e ∧ ∀ H', Same H H' → Q (.bl true) H'
theorem ok_isWeb {f : Addr} {fd : FuncData} (F : Fun K "_law_is_web" "_law_is_web" sIsWeb f fd) (B : Bl mg) (hall : mg "all" = none) (hany : mg "any" = none) : FnOk P w K mg base CX0 1 f fd ["_law_some", "_law_size"] (spIsWeb K) := by
  refine F.ok scIsWeb (fun vs H Q E h => ?_) (fun cdv A outer s H vs Q E hr h => ?_)
  · obtain ⟨a, n, e, rfl, _⟩ := h
    rfl
  · obtain ⟨a, n, e, rfl, hA, q⟩ := h
    obtain ⟨hS, hn, hW⟩ := id hA
    have hlen : ((web n e).map V.str).length = n := by rw [List.length_map, web_len]
    refine ⟨_, pss_cons (ps_if (PW.pt (pw_or (pt_not (pt_val (pe_callB call_isi (by rfl) B.isi (by decide +kernel) (pa_cons (pv 0) (pa_cons (pe_bltn (v := .ty "list") (u := .type "list") (by rfl) B.list (by decide +kernel) rfl) pa_nil)))))
        (pw_or (pt_cmpR op_ne (pe_callB call_len_seq (by rfl) B.len PySem.boot_len (pa_cons (pv 0) pa_nil)) (pv 1) (nomark _))
        (pw_or1 (pt_not (pt_val (pe_callB (cr_all rfl) (by rfl) hall (by decide +kernel) (pa_cons
          (pe_lc (own := [("_law_row", 2)]) (g := gName 2) (tt := tYes) rfl scIsWeb.nd (pi_list (pv 0)) (blkOk_by (N := ["_law_some", "_law_size", "_law_row", "_law_one", "_law_other"]) (sc := defScope sIsWeb) (by decide +kernel)) (fun _ _ _ _ _ => pg_name (i := 2) scIsWeb.nd rfl (Or.inl rfl)) (fun _ _ _ _ _ => pts_nil)
            (fun _ _ _ _ _ => pe_isiK K rfl (by rfl) B.isi (pa_cons (pv 2) (pa_cons (pe_bltn (v := .ty "str") (u := .type "str") (by rfl) B.str (by decide +kernel) rfl) pa_nil)))) pa_nil)))))))) (pss_one ps_never) pss_nil)
      (pss_cons (ps_for PassesOwn.never rfl (pi_enum (by rfl) B.enumerate (pa_cons (pv 0) pa_nil)) (pg_tup rfl (pgs_cons (pg_name (i := 3) scIsWeb.nd rfl (.inr rfl)) (pgs_cons (pg_name (i := 2) scIsWeb.nd rfl (.inr rfl)) pgs_nil)))
        (pss_cons (ps_if (PW.pt (pw_or (pt_cmpR op_ne (pe_callB call_len_str (by rfl) B.len PySem.boot_len (pa_cons (pv 2) pa_nil)) (pv 1) (nomark _))
            (pw_or (pt_cmpR op_ne (pe_m1 PySem.F.slot_str_strip PySem.F.type_str_strip mt_stripChars (pv 2) pe_str) pe_str (nomark _))
            (pw_or1 (pt_cmpR op_ne (pe_ix ix_str (pv 2) (pv 3) (fun _ _ => rfl)) pe_str (nomark _)))))) (pss_one ps_never) pss_nil)
        (pss_one (ps_if (pt_val (pe_callB (cr_any rfl) (by rfl) hany (by decide +kernel) (pa_cons
          (pe_lc (own := [("_law_other", 4)]) (g := gName 4) (tt := tYes) rfl scIsWeb.nd (pi_range1 (by rfl) B.range (pa_cons (pv 3) pa_nil)) (blkOk_by (N := ["_law_some", "_law_size", "_law_row", "_law_one", "_law_other"]) (sc := defScope sIsWeb) (by decide +kernel)) (fun _ _ _ _ _ => pg_name (i := 4) scIsWeb.nd rfl (Or.inl rfl)) (fun _ _ _ _ _ => pts_nil)
            (fun _ _ _ _ _ => pe_cmpR op_ne (pe_ix ix_str (pv 2) (pv 4) (fun _ _ => rfl)) (pe_ix ix_str (pe_ixK K rfl (pv 0) (pv 4) (fun _ _ => rfl)) (pv 3) (fun _ _ => rfl)) (nomark _))) pa_nil))) (pss_one ps_never) pss_nil))))
      (pss_one (ps_ret pe_bl))), ?_⟩
    refine ⟨_, rfl, .ref a, .ty "list", .type "list", .type "list", true, rfl, .ty "list", tyList hS, kit_ty (by decide +kernel), true, rfl, iteF ?_⟩
    refine ⟨.ref a, rfl, a, _, rfl, .inl hS, _, rfl, rfl, _, rfl, ?_⟩
    refine iteNS (c := V.int (((web n e).map V.str).length : Nat) = V.int (n : Nat)) (by rw [hlen]) ?_
    refine ⟨.ref a, rfl, a, rfl, ⟨_, hS⟩, fun D nD => lc_list (K := K) (xs := (web n e).map V.str) (fun i H2 => Same H H2 ∧ H2 D = some (.lst ((List.replicate i true).map V.bl))) ⟨same_upd nD, upd_same⟩ (fun i H2 _ ⟨s2, _⟩ => s2.seq hS) ?_ ?_⟩
    · rintro i x H2 hx ⟨s2, e2⟩
      obtain ⟨hi, rfl⟩ := webV_at hx
      refine ⟨rfl, _, rfl, .str (row n (e i)), .ty "str", .type "str", .type "str", true, rfl, .ty "str", .base (.str _), kit_ty (by decide +kernel), _, e2, ?_, fun b o eb => ?_, ?_⟩
      · rw [List.length_map, List.length_replicate]
        exact small1000 (by omega)
      · rw [upd_ne (ne_of_none eb nD)]
        exact s2 _ _ eb
      · rw [upd_same, List.replicate_succ', List.map_append] <;> rfl
    rintro H2 ⟨s2, e2⟩
    refine ⟨D, List.replicate _ true, rfl, SqL.of e2, _, rfl, ?_⟩
    have eall : ∀ k : Nat, (List.replicate k true).all id = true := fun k => by rw [List.all_replicate]; simp
    rw [eall]
    refine iteF ?_
    -- the rows
    refine ⟨.ref a, rfl, a, _, rfl, s2.seq hS, for_en (xs := (web n e).map V.str) (fun i σ H1 => ∃ y2 y3, σ = [some (.ref a), some (.int n), y2, y3, none] ∧ Same H H1) ⟨none, none, rfl, s2⟩ (fun i σ H1 _ ⟨_, _, _, s1⟩ => s1.seq hS) ?_ ?_⟩
    · rintro i x σ H1 T hx ⟨y1, y2, rfl, s1⟩ nT
      obtain ⟨hi, rfl⟩ := webV_at hx
      have s3 := s1.trans (same_upd (o := .tup [.int (i : Nat), .str (row n (e i))]) nT)
      have hsz : ∀ j, (row n (e j)).length ≤ sizeLine := fun j => by rw [row_len]; exact Nat.le_trans hn (by decide)
      refine ⟨T, _, rfl, SqT.of upd_same, rfl, _, _, rfl, _, _, rfl, rfl, ?_⟩
      refine ⟨_, rfl, _, rfl, hsz i, _, rfl, rfl, _, rfl, ?_⟩
      refine iteNS (c := V.int ((row n (e i)).length : Nat) = V.int (n : Nat)) (by rw [row_len]) ?_
      refine ⟨_, rfl, ⟨_, rfl⟩, _, _, rfl, rfl, hsz i, rfl, _, rfl, ?_⟩
      refine iteNS (c := V.str (Txt.stripChars (row n (e i)) (Str.ofString "x-")) = V.str (Str.ofString "")) (by rw [row_strip]) ?_
      refine ⟨_, rfl, _, rfl, _, _, sg (e i i), rfl, rfl, hsz i, atI_nat (row_atL hi), rfl, _, rfl, ?_⟩
      refine iteNS (c := V.str ⟨#[sg (e i i)]⟩ = V.str (Str.ofString "-")) (by rw [hW.2 i hi]; rfl) ?_
      refine ⟨_, rfl, (i : Int), rfl, by omega, by omega, fun D nD => lc_range (fun j H2 => Same H H2 ∧ H2 D = some (.lst ((List.replicate j false).map V.bl))) ⟨s3.trans (same_upd nD), upd_same⟩ ?_ ?_⟩
      · rintro j H2 hj ⟨s2, e2⟩
        have hj : j < i := by omega
        have hjn : j < n := Nat.lt_trans hj hi
        have nD0 : H D = none := s3.free nD
        refine ⟨rfl, _, rfl, _, rfl, _, _, sg (e i j), rfl, rfl, hsz i, by rw [Int.zero_add]; exact atI_nat (row_atL hjn), _, rfl, _, rfl, a, _, _, .str (row n (e j)), rfl, rfl, s2.seq hS, by rw [Int.zero_add]; exact atI_nat (by rw [List.getElem?_map, web_at hjn] <;> rfl), _, rfl, _, _, sg (e j i), rfl, rfl, hsz j, atI_nat (row_atL hi), rfl, _, e2, ?_, fun b o eb => ?_, ?_⟩
        · rw [List.length_map, List.length_replicate]
          exact small1000 (by omega)
        · rw [upd_ne (ne_of_none eb nD0)]
          exact s2 _ _ eb
        · have ee : V.bl (!decide (V.str ⟨#[sg (e i j)]⟩ = V.str ⟨#[sg (e j i)]⟩)) = V.bl false := by
            rw [hW.1 i j hi hjn, decide_eq_true rfl] <;> rfl
          rw [upd_same, List.replicate_succ', List.map_append, ee] <;> rfl
      · rintro H2 ⟨s2, e2⟩
        refine ⟨D, List.replicate _ false, rfl, SqL.of e2, _, rfl, ?_⟩
        have eany : ∀ k : Nat, (List.replicate k false).any id = false := fun k => by rw [List.any_replicate]; simp
        rw [eany]
        exact iteF ⟨_, _, rfl, s2⟩
    · rintro σ H3 ⟨y1, y2, rfl, s3⟩
      exact q _ s3
end
end AK
set_option Elab.async false
set_option linter.all false
set_option maxRecDepth 100000
set_option maxHeartbeats 4000000
namespace AK
open PySem PySem.Spec PyProof.Rows L2
/-! ### webs by bits -/
def tri : Nat → Nat
  | 0 => 0
  | n + 1 => tri n + n
theorem tri_mono {a b : Nat} (h : a ≤ b) : tri a ≤ tri b := by
  induction h with
  | refl => exact Nat.le_refl _
  | step _ ih => exact Nat.le_trans ih (Nat.le_add_right _ _)
theorem tri_lt {i j n : Nat} (h1 : j < i) (h2 : i < n) : tri i + j < tri n := Nat.lt_of_lt_of_le (Nat.add_lt_add_left h1 _) (tri_mono (a := i + 1) h2)
theorem tri_inj {i j a b : Nat} (h1 : j < i) (h2 : b < a) (h : tri i + j = tri a + b) : i = a ∧ j = b := by
  rcases Nat.lt_trichotomy i a with z | z | z
  · have h3 : tri i + i ≤ tri a := tri_mono (a := i + 1) z
    omega
  · subst z
    exact ⟨rfl, by omega⟩
  · have h3 : tri a + a ≤ tri i := tri_mono (a := a + 1) z
    omega
def bitN (b t : Nat) : Bool := decide (b / 2 ^ t % 2 = 1)
def pairN (b t i j : Nat) : Bool := decide (tri i + j < t) && bitN b (tri i + j)
def partE (b t i j : Nat) : Bool := if j < i then pairN b t i j else if i < j then pairN b t j i else false
def smallE (b i j : Nat) : Bool := if j < i then bitN b (tri i + j) else if i < j then bitN b (tri j + i) else false
theorem pair_next {b t i j a c : Nat} (h1 : j < i) (h2 : c < a) (ht : t = tri a + c) : pairN b (t + 1) i j = if i = a ∧ j = c then bitN b t else pairN b t i j := by
  unfold pairN
  by_cases h : i = a ∧ j = c
  · obtain ⟨rfl, rfl⟩ := h
    rw [if_pos ⟨rfl, rfl⟩, ht, decide_eq_true (Nat.lt_succ_self _), Bool.true_and]
  · rw [if_neg h]
    have hne : tri i + j ≠ t := fun z => h (tri_inj h1 h2 (by rw [z, ht]))
    have e : decide (tri i + j < t + 1) = decide (tri i + j < t) := by
      rw [decide_eq_decide]
      omega
    rw [e]
theorem part_next {b t a c : Nat} (h2 : c < a) (ht : t = tri a + c) (i j : Nat) : partE b (t + 1) i j = if (i = a ∧ j = c) ∨ (i = c ∧ j = a) then bitN b t else partE b t i j := by
  unfold partE
  by_cases h1 : j < i
  · rw [if_pos h1, if_pos h1, pair_next h1 h2 ht]
    by_cases h : i = a ∧ j = c
    · rw [if_pos h, if_pos (.inl h)]
    · rw [if_neg h, if_neg (by omega)]
  · rw [if_neg h1, if_neg h1]
    by_cases h3 : i < j
    · rw [if_pos h3, if_pos h3, pair_next h3 h2 ht]
      by_cases h : j = a ∧ i = c
      · rw [if_pos h, if_pos (.inr ⟨h.2, h.1⟩)]
      · rw [if_neg h, if_neg (by omega)]
    · rw [if_neg h3, if_neg h3, if_neg (by omega)]
theorem part_end {b n i j : Nat} (hi : i < n) (hj : j < n) : partE b (tri n) i j = smallE b i j := by
  unfold partE smallE pairN
  by_cases h1 : j < i
  · rw [if_pos h1, if_pos h1, decide_eq_true (tri_lt h1 hi), Bool.true_and]
  · rw [if_neg h1, if_neg h1]
    by_cases h3 : i < j
    · rw [if_pos h3, if_pos h3, decide_eq_true (tri_lt h3 hj), Bool.true_and]
    · rw [if_neg h3, if_neg h3]
theorem part_zero (b i j : Nat) : partE b (tri 0) i j = false := by
  unfold partE pairN
  have e : ∀ x : Nat, decide (x < tri 0) = false := fun x => decide_eq_false (Nat.not_lt_zero _)
  rw [e, e, Bool.false_and, Bool.false_and]
  split
  · rfl
  · split <;> rfl
theorem small_web (b n : Nat) : IsWeb n (smallE b) := by
  refine ⟨fun i j _ _ => ?_, fun i _ => ?_⟩
  · unfold smallE
    rcases Nat.lt_trichotomy i j with z | z | z
    · rw [if_neg (by omega), if_pos z, if_pos z]
    · rw [z]
    · rw [if_pos z, if_neg (by omega), if_pos z]
  · unfold smallE
    rw [if_neg (Nat.lt_irrefl _), if_neg (Nat.lt_irrefl _)]
theorem web_congr {n : Nat} {e e' : Nat → Nat → Bool} (h : ∀ i j, i < n → j < n → e i j = e' i j) : web n e = web n e' := by
  unfold web row
  refine List.map_congr_left fun i hi => ?_
  have hi := List.mem_range.mp hi
  congr 2
  refine List.map_congr_left fun j hj => ?_
  rw [h i j hi (List.mem_range.mp hj)]
/-! ### lists of lists of signs -/
def signs (n : Nat) (e : Nat → Bool) : List V := (List.range n).map fun j => V.str ⟨#[sg (e j)]⟩
structure Signs (H0 H : Hp) (D : Addr) (ps : List Addr) (n : Nat) (E : Nat → Nat → Bool) : Prop where
  same : Same H0 H
  hD : H D = some (.lst (ps.map V.ref))
  len : ps.length = n
  nd : ps.Nodup
  nD : D ∉ ps
  fr : ∀ p ∈ ps, H0 p = none
  frD : H0 D = none
  at_ : ∀ i p, ps[i]? = some p → H p = some (.lst (signs n (E i)))
theorem signs_len (n : Nat) (e : Nat → Bool) : (signs n e).length = n := by simp [signs]
theorem signs_set {n j : Nat} {e e' : Nat → Bool} (hj : j < n) (h : ∀ k, k < n → e' k = if k = j then true else e k) : (signs n e).set j (.str "x") = signs n e' := by
  refine List.ext_getElem? fun k => ?_
  rw [List.getElem?_set]
  unfold signs
  by_cases hk : k < n
  · rw [List.getElem?_map, List.getElem?_map, List.getElem?_range hk]
    by_cases hjk : j = k
    · subst hjk
      rw [if_pos rfl, if_pos (by simpa using hk)]
      show _ = some (V.str ⟨#[sg (e' j)]⟩)
      rw [h j hk, if_pos rfl] <;> rfl
    · rw [if_neg hjk]
      show some (V.str ⟨#[sg (e k)]⟩) = some (V.str ⟨#[sg (e' k)]⟩)
      rw [h k hk, if_neg (fun z => hjk z.symm)]
  · have e1 : ((List.range n).map fun j => V.str ⟨#[sg (e j)]⟩)[k]? = none := by rw [List.getElem?_eq_none_iff]; simpa using hk
    have e2 : ((List.range n).map fun j => V.str ⟨#[sg (e' j)]⟩)[k]? = none := by rw [List.getElem?_eq_none_iff]; simpa using hk
    rw [e1, e2]
    split
    · split
      · rename_i h1 h2
        subst h1
        exact absurd hj hk
      · rfl
    · rfl
theorem Signs.congr {H0 H : Hp} {D : Addr} {ps : List Addr} {n : Nat} {E E' : Nat → Nat → Bool} (S : Signs H0 H D ps n E) (h : ∀ i j, i < n → j < n → E i j = E' i j) : Signs H0 H D ps n E' where
  same := S.same
  hD := S.hD
  len := S.len
  nd := S.nd
  nD := S.nD
  fr := S.fr
  frD := S.frD
  at_ := fun i p hp => by
    rw [S.at_ i p hp]
    have hi : i < n := by rw [← S.len]; exact (List.getElem?_eq_some_iff.mp hp).1
    unfold signs
    congr 2
    refine List.map_congr_left fun j hj => ?_
    rw [h i j hi (List.mem_range.mp hj)]
theorem nodup_inj {α : Type} : ∀ {l : List α} {i j : Nat} {x : α}, l.Nodup → l[i]? = some x → l[j]? = some x → i = j
  | [], i, _, _, _, h, _ => by simp at h
  | a :: l, 0, 0, _, _, _, _ => rfl
  | a :: l, 0, j + 1, x, nd, h1, h2 => by
    simp at h1 h2
    subst h1
    exact absurd (List.mem_of_getElem? h2) (List.nodup_cons.mp nd).1
  | a :: l, i + 1, 0, x, nd, h1, h2 => by
    simp at h1 h2
    subst h2
    exact absurd (List.mem_of_getElem? h1) (List.nodup_cons.mp nd).1
  | a :: l, i + 1, j + 1, x, nd, h1, h2 => by
    simp at h1 h2
    rw [nodup_inj (List.nodup_cons.mp nd).2 h1 h2]
theorem Signs.write {H0 H : Hp} {D : Addr} {ps : List Addr} {n : Nat} {E : Nat → Nat → Bool} (S : Signs H0 H D ps n E) {i j : Nat} {p : Addr} (hp : ps[i]? = some p) (hj : j < n) :
    Signs H0 (L2.upd H p (.lst ((signs n (E i)).set j (.str "x")))) D ps n (fun a b => if a = i ∧ b = j then true else E a b) where
  same := fun b o e => by
    have nb : b ≠ p := fun z => by
      have := S.fr p (List.mem_of_getElem? hp)
      rw [z, this] at e
      cases e
    rw [upd_ne nb]
    exact S.same b o e
  hD := by
    have nb : D ≠ p := fun z => S.nD (by rw [z]; exact List.mem_of_getElem? hp)
    rw [upd_ne nb]
    exact S.hD
  len := S.len
  nd := S.nd
  nD := S.nD
  fr := S.fr
  frD := S.frD
  at_ := fun a q hq => by
    by_cases ha : a = i
    · subst ha
      rw [hp] at hq
      cases hq
      rw [upd_same]
      congr 2
      refine signs_set hj fun k hk => ?_
      by_cases hkj : k = j
      · rw [if_pos hkj, if_pos ⟨rfl, hkj⟩]
      · rw [if_neg hkj, if_neg (fun z => hkj z.2)]
    · have nq : q ≠ p := fun z => by
        subst z
        exact ha (nodup_inj S.nd hq hp)
      rw [upd_ne nq, S.at_ a q hq]
      unfold signs
      congr 2
      refine List.map_congr_left fun k _ => ?_
      show _ = V.str ⟨#[sg (if a = i ∧ k = j then true else E a k)]⟩
      rw [if_neg (fun z => ha z.1)]
theorem signs_join (n : Nat) (e : Nat → Bool) : Txt.join (Str.ofString "") ((List.range n).map fun j => (⟨#[sg (e j)]⟩ : Str)) = row n e := by
  have h := join_signs ((List.range n).map fun j => sg (e j))
  rw [List.map_map] at h
  exact h
end AK
set_option Elab.async false
set_option linter.all false
set_option maxRecDepth 100000
set_option maxHeartbeats 4000000
namespace AK
open PySem PySem.Spec PyProof.Rows L2
theorem flat_signs (n : Nat) : (List.replicate (n : Int).toNat [V.str (Str.ofString "-")]).flatten = signs n fun _ => false := by
  have e : (n : Int).toNat = n := by omega
  rw [e]
  have h : ∀ k : Nat, (List.replicate k [V.str (Str.ofString "-")]).flatten = List.replicate k (V.str (Str.ofString "-")) := fun k => by
    induction k with
    | zero => rfl
    | succ k ih => rw [List.replicate_succ, List.flatten_cons, ih, List.replicate_succ] <;> rfl
  rw [h]
  unfold signs
  have h2 : ∀ l : List Nat, l.map (fun _ => V.str (⟨#[sg false]⟩ : Str)) = List.replicate l.length (V.str (Str.ofString "-")) := fun l => by
    induction l with
    | nil => rfl
    | cons c l ih => rw [List.map_cons, ih, List.length_cons, List.replicate_succ] <;> rfl
  rw [h2, List.length_range]
theorem ixN_at {n j : Nat} (hj : j < n) : ixN n (j : Int) = some j := by
  unfold ixN
  rw [if_pos (by omega), if_pos (by omega)]
  simp
section
variable {P : Program} {w : World} {K : PySem.W.Frag} {mg : Str → Option Value} {base : Heap}
theorem scSmall : FnScope ["_law_size", "_law_number_here", "_law_signs", "_law_one", "_law_other", "_law_row"] ["_law_size", "_law_number_here"] (defScope sSmall) := ⟨rfl, rfl, rfl, by decide +kernel, rfl, by decide +kernel, by decide +kernel⟩
def spSmall (K : PySem.W.Frag) : Sp := fun vs H Q _ => ∃ n b : Nat, vs = [.int n, .int b] ∧ n ≤ 200 ∧ ∀ H' p, Same H H' → H p = none → H' p = some (.lst ((web n (smallE b)).map V.str)) → Q (.ref p) H'
theorem ok_small {f : Addr} {fd : FuncData} (F : Fun K "_law_small" "_law_small" sSmall f fd) (B : Bl mg) : FnOk P w K mg base CX0 1 f fd ["_law_size", "_law_number_here"] (spSmall K) := by
  refine F.ok scSmall (fun vs H Q E h => ?_) (fun cdv A outer s H vs Q E hr h => ?_)
  · obtain ⟨n, b, rfl, _⟩ := h
    rfl
  · obtain ⟨n, b, rfl, hn, q⟩ := h
    refine ⟨_, pss_cons (ps_setLc (i := 2) (own := [("_law_one", 3)]) (g := gName 3) (tt := tYes) rfl scSmall.nd rfl rfl (sw_true rfl rfl rfl (by decide +kernel)) (pi_range1 (by rfl) B.range (pa_cons (pv 0) pa_nil)) (blkOk_by (N := ["_law_size", "_law_number_here", "_law_signs", "_law_one", "_law_other", "_law_row"]) (sc := defScope sSmall) (by decide +kernel))
        (fun _ _ _ _ _ => pg_name (i := 3) scSmall.nd rfl (Or.inl rfl)) (fun _ _ _ _ _ => pts_nil) (fun _ _ _ _ _ => pe_op op_rep (pe_lst (pa_cons pe_str pa_nil)) (pv 0)))
      (pss_cons (ps_for PassesOwn.never rfl (pi_range1 (by rfl) B.range (pa_cons (pv 0) pa_nil)) (pg_name (i := 3) scSmall.nd rfl (.inl rfl))
        (pss_one (ps_for PassesOwn.never rfl (pi_range1 (by rfl) B.range (pa_cons (pv 3) pa_nil)) (pg_name (i := 4) scSmall.nd rfl (.inl rfl))
          (pss_cons (ps_if (pt_cmpR op_eq (pe_op op_mod (pv 1) pe_int) pe_int (nomark _))
            (pss_cons (ps_asg pe_str (pg_sub (pe_ix ix_list (pv 2) (pv 3) (fun _ _ => rfl)) (pv 4) set_list))
            (pss_one (ps_asg pe_str (pg_sub (pe_ix ix_list (pv 2) (pv 4) (fun _ _ => rfl)) (pv 3) set_list)))) pss_nil)
          (pss_one (ps_set (i := 1) scSmall.nd rfl (.inl rfl) (pe_op op_fdiv (pv 1) pe_int)))))))
      (pss_one (ps_ret (pe_lc (own := [("_law_row", 5)]) (g := gName 5) (tt := tYes) rfl scSmall.nd (pi_list (pv 2)) (blkOk_by (N := ["_law_size", "_law_number_here", "_law_signs", "_law_one", "_law_other", "_law_row"]) (sc := defScope sSmall) (by decide +kernel)) (fun _ _ _ _ _ => pg_name (i := 5) scSmall.nd rfl (Or.inl rfl)) (fun _ _ _ _ _ => pts_nil)
        (fun _ _ _ _ _ => pe_joinK K rfl pe_str (pv 5)))))), ?_⟩
    refine ⟨_, rfl, (n : Int), rfl, by omega, by omega, fun D nD => lc_range (fun i H2 => ∃ ps : List Addr, Same H H2 ∧ H2 D = some (.lst (ps.map V.ref)) ∧ ps.length = i ∧ ps.Nodup ∧ D ∉ ps ∧ ∀ p ∈ ps, H p = none ∧ H2 p = some (.lst (signs n fun _ => false))) ?_ ?_ ?_⟩
    · exact ⟨[], same_upd nD, upd_same, rfl, .nil, List.not_mem_nil, fun p hp => absurd hp List.not_mem_nil⟩
    · rintro i H2 hi ⟨ps, s2, e2, hl, nd, nDp, hp⟩
      refine ⟨rfl, by decide, fun p1 n1 => ⟨_, rfl, p1, (n : Int), _, rfl, rfl, upd_same, by omega, by omega, ?_, fun p2 n2 => ?_⟩⟩
      · rw [List.length_singleton, Nat.one_mul]
        exact Nat.le_of_lt (small1000 (by omega))
      · have ne21 : p2 ≠ p1 := fun z => by rw [z, upd_same] at n2; cases n2
        rw [upd_ne ne21] at n2
        have nD1 : D ≠ p1 := ne_of_none e2 n1
        have nD2 : D ≠ p2 := ne_of_none e2 n2
        have in1 : ∀ p ∈ ps, p ≠ p1 := fun p h => ne_of_none (hp p h).2 n1
        have in2 : ∀ p ∈ ps, p ≠ p2 := fun p h => ne_of_none (hp p h).2 n2
        have inD : ∀ p ∈ ps, p ≠ D := fun p h z => nDp (by rw [← z]; exact h)
        refine ⟨ps.map V.ref, by rw [upd_ne nD2, upd_ne nD1]; exact e2, by rw [List.length_map, hl]; exact small1000 (by omega), ps ++ [p2], fun b o e => ?_, ?_, by rw [List.length_append, hl] <;> rfl, ?_, ?_, fun p h => ?_⟩
        · have e' := s2 _ _ e
          rw [upd_ne (ne_of_none e nD), upd_ne (ne_of_none e' n2), upd_ne (ne_of_none e' n1)]
          exact e'
        · rw [upd_same, List.map_append] <;> rfl
        · rw [List.nodup_append]
          refine ⟨nd, by simp, fun a ha c hc => ?_⟩
          rw [List.mem_singleton.mp hc]
          exact in2 a ha
        · intro h
          rcases List.mem_append.mp h with h | h
          · exact nDp h
          · exact nD2 (List.mem_singleton.mp h)
        · rcases List.mem_append.mp h with h | h
          · refine ⟨(hp p h).1, ?_⟩
            rw [upd_ne (inD p h), upd_ne (in2 p h), upd_ne (in1 p h)]
            exact (hp p h).2
          · rw [List.mem_singleton.mp h]
            refine ⟨s2.free n2, ?_⟩
            rw [upd_ne nD2.symm, upd_same, flat_signs]
    · rintro H2 ⟨ps, s2, e2, hl, nd, nDp, hp⟩
      have hl : ps.length = n := by omega
      have S0 : Signs H H2 D ps n (partE b (tri 0)) := ⟨s2, e2, hl, nd, nDp, fun p h => (hp p h).1, nD, fun i p h => by
        rw [(hp p (List.mem_of_getElem? h)).2]
        unfold signs
        congr 2
        refine List.map_congr_left fun j _ => ?_
        rw [part_zero]⟩
      refine ⟨_, rfl, (n : Int), rfl, by omega, by omega, for_range (fun i σ H1 => ∃ y3 y4, σ = [some (.int n), some (.int (b / 2 ^ (tri i) : Nat)), some (.ref D), y3, y4, none] ∧ Signs H H1 D ps n (partE b (tri i))) ⟨none, none, ?_, S0⟩ ?_ ?_⟩
      · have e : b / 2 ^ tri 0 = b := by show b / 2 ^ 0 = b; rw [Nat.pow_zero, Nat.div_one]
        rw [e] <;> rfl
      · rintro i σ H1 hi ⟨y3, y4, rfl, S1⟩
        have hi : i < n := by omega
        refine ⟨_, rfl, _, rfl, by omega, by omega, for_range (fun j σ H1 => ∃ y4, σ = [some (.int n), some (.int (b / 2 ^ (tri i + j) : Nat)), some (.ref D), some (.int (0 + (i : Nat))), y4, none] ∧ Signs H H1 D ps n (partE b (tri i + j))) ⟨_, rfl, S1⟩ ?_ ?_⟩
        · rintro j σ H2 hj ⟨y5, rfl, S2⟩
          have hj : j < i := by omega
          have hjn : j < n := Nat.lt_trans hj hi
          have half : ((b / 2 ^ (tri i + j) : Nat) : Int) / 2 = ((b / 2 ^ (tri i + (j + 1)) : Nat) : Int) := by
            have : b / 2 ^ (tri i + (j + 1)) = b / 2 ^ (tri i + j) / 2 := by rw [Nat.div_div_eq_div_mul, ← Nat.pow_succ] <;> rfl
            rw [this]
            rfl
          obtain ⟨pi, hpi⟩ : ∃ p, ps[i]? = some p := ⟨ps[i]'(by omega), List.getElem?_eq_getElem _⟩
          obtain ⟨pj, hpj⟩ : ∃ p, ps[j]? = some p := ⟨ps[j]'(by omega), List.getElem?_eq_getElem _⟩
          refine ⟨_, rfl, _, 2, rfl, rfl, (show (0 : Int) < 2 by decide), rfl, _, rfl, ?_⟩
          by_cases hb : b / 2 ^ (tri i + j) % 2 = 1
          · rw [decide_eq_true (show V.int (((b / 2 ^ (tri i + j) : Nat) : Int) % 2) = V.int 1 by congr 1; omega)]
            refine iteT ?_
            have S3 := (S2.write hpi hjn).write hpj hi
            refine ⟨_, rfl, _, rfl, D, _, _, .ref pi, rfl, rfl, SqL.of S2.hD, by rw [Int.zero_add]; exact atI_nat (by rw [List.getElem?_map, hpi] <;> rfl), _, rfl, pi, _, _, j, rfl, rfl, S2.at_ i pi hpi, by rw [Int.zero_add, signs_len]; exact ixN_at hjn, ?_⟩
            refine ⟨_, rfl, _, rfl, D, _, _, .ref pj, rfl, rfl, SqL.of (S2.write hpi hjn).hD, by rw [Int.zero_add]; exact atI_nat (by rw [List.getElem?_map, hpj] <;> rfl), _, rfl, pj, _, _, i, rfl, rfl, (S2.write hpi hjn).at_ j pj hpj, by rw [Int.zero_add, signs_len]; exact ixN_at hi, ?_⟩
            refine ⟨_, rfl, _, 2, rfl, rfl, ⟨by decide, by decide⟩, ?_⟩
            refine ⟨_, by rw [← half]; rfl, S3.congr fun a c ha hc => ?_⟩
            show _ = partE b (tri i + j + 1) a c
            rw [part_next hj rfl]
            have hbit : bitN b (tri i + j) = true := decide_eq_true hb
            rw [hbit]
            by_cases h1 : a = j ∧ c = i
            · rw [if_pos h1, if_pos (.inr h1)]
            · rw [if_neg h1]
              by_cases h2 : a = i ∧ c = j
              · rw [if_pos h2, if_pos (.inl h2)]
              · rw [if_neg h2, if_neg (fun z => z.elim h2 h1)]
          · rw [decide_eq_false (show ¬ V.int (((b / 2 ^ (tri i + j) : Nat) : Int) % 2) = V.int 1 from fun z => hb (by injection z; omega))]
            refine iteF ?_
            refine ⟨_, rfl, _, 2, rfl, rfl, ⟨by decide, by decide⟩, ?_⟩
            refine ⟨_, by rw [← half]; rfl, S2.congr fun a c ha hc => ?_⟩
            show _ = partE b (tri i + j + 1) a c
            rw [part_next hj rfl]
            have hbit : bitN b (tri i + j) = false := decide_eq_false hb
            rw [hbit]
            have hz : pairN b (tri i + j) i j = false := by
              unfold pairN
              rw [decide_eq_false (Nat.lt_irrefl _), Bool.false_and]
            by_cases h1 : (a = i ∧ c = j) ∨ (a = j ∧ c = i)
            · rw [if_pos h1]
              unfold partE
              rcases h1 with ⟨rfl, rfl⟩ | ⟨rfl, rfl⟩
              · rw [if_pos hj, hz]
              · rw [if_neg (by omega), if_pos hj, hz]
            · rw [if_neg h1]
        · rintro σ H2 ⟨y5, rfl, S2⟩
          have e : (0 + (i : Int)).toNat = i := by omega
          rw [e] at S2 ⊢
          exact ⟨_, _, rfl, S2⟩
      · rintro σ H2' ⟨y3, y4, rfl, S2⟩
        have en : (n : Int).toNat = n := by omega
        rw [en] at S2 ⊢
        have S := S2.congr fun i j hi hj => part_end hi hj
        refine ⟨_, rfl, D, rfl, ⟨_, SqL.of S.hD⟩, fun L nL => lc_list (K := K) (xs := ps.map V.ref) (fun i H3 => Same H2' H3 ∧ H3 L = some (.lst (((web n (smallE b)).take i).map V.str))) ⟨same_upd nL, upd_same⟩ (fun i H3 _ ⟨s3, _⟩ => SqL.of (s3 _ _ S.hD)) ?_ ?_⟩
        · rintro i x H3 hx ⟨s3, e3⟩
          rw [List.getElem?_map] at hx
          obtain ⟨p, hp, rfl⟩ := Option.map_eq_some_iff.mp hx
          have hi : i < n := by rw [← S.len]; exact (List.getElem?_eq_some_iff.mp hp).1
          have hq := s3 _ _ (S.at_ i p hp)
          refine ⟨rfl, ⟨_, rfl⟩, _, rfl, _, p, (List.range n).map fun j => (⟨#[sg (smallE b i j)]⟩ : Str), rfl, rfl, .inl (SqL.of (by rw [List.map_map]; exact hq)), ?_, _, e3, ?_, fun c o eb => ?_, ?_⟩
          · rw [List.map_map, List.length_map, List.length_range]
            have e1 : ∀ l : List Nat, (l.map ((fun x => x.length) ∘ fun j => (⟨#[sg (smallE b i j)]⟩ : Str))).sum = l.length := fun l => by
              induction l with
              | nil => rfl
              | cons c l ih =>
                rw [List.map_cons, List.sum_cons, ih, List.length_cons]
                show 1 + l.length = _
                omega
            rw [e1, List.length_range]
            show n + n * 0 ≤ _
            omega
          · rw [List.length_map, List.length_take, web_len]
            exact small1000 (by omega)
          · rw [upd_ne (ne_of_none eb nL)]
            exact s3 _ _ eb
          · have ej := signs_join n (smallE b i)
            have et : ((web n (smallE b)).take (i + 1)).map V.str = ((web n (smallE b)).take i).map V.str ++ [V.str (row n (smallE b i))] := by
              rw [List.take_add_one, web_at hi, List.map_append] <;> rfl
            rw [upd_same, et, ← ej] <;> rfl
        · rintro H3 ⟨s3, e3⟩
          rw [List.length_map, S.len, List.take_of_length_le (by rw [web_len]; exact Nat.le_refl _)] at e3
          exact q H3 L (S.same.trans s3) (S.same.free nL) e3
end
end AK
set_option Elab.async false
set_option linter.all false
set_option maxRecDepth 100000
set_option maxHeartbeats 4000000
namespace AK
open PySem PySem.Spec PyProof.Rows L2
theorem know_iff {n i j : Nat} : knowI i j n = true ↔ (1 ≤ min (apartI i j) ((n : Int) - apartI i j) ∧ min (apartI i j) ((n : Int) - apartI i j) ≤ ((n : Int) - 1) / 4) ∨ (((n : Int) % 4 = 0 ∨ (n : Int) % 4 = 3) ∧ apartI i j = (n : Int) / 2) := by
  unfold knowI
  simp only [Bool.or_eq_true, Bool.and_eq_true, decide_eq_true_eq]
  have e : (if (n : Int) - apartI i j < apartI i j then (n : Int) - apartI i j else apartI i j) = min (apartI i j) ((n : Int) - apartI i j) := by
    split <;> omega
  rw [e]
theorem deg_succ (k : Nat) (e : Nat → Bool) : deg (k + 1) e = deg k e + if e k = true then 1 else 0 := by
  unfold deg
  rw [List.range_succ, List.filter_append, List.length_append]
  by_cases h : e k = true
  · rw [if_pos h, List.filter_cons_of_pos h] <;> rfl
  · rw [if_neg h, List.filter_cons_of_neg h] <;> rfl
def ivl (a b j : Nat) : Bool := decide (a ≤ j) && decide (j < b)
theorem ivl_iff {a b j : Nat} : ivl a b j = true ↔ a ≤ j ∧ j < b := by
  unfold ivl
  simp only [Bool.and_eq_true, decide_eq_true_eq]
theorem deg_ivl (a b : Nat) : ∀ k, deg k (ivl a b) = min k b - a
  | 0 => by show 0 = _; omega
  | k + 1 => by
    rw [deg_succ, deg_ivl a b k]
    by_cases h : ivl a b k = true
    · rw [if_pos h]
      rw [ivl_iff] at h
      omega
    · rw [if_neg h]
      rw [ivl_iff] at h
      omega
theorem deg_or {p q r : Nat → Bool} : ∀ k, (∀ j, j < k → (r j = true ↔ p j = true ∨ q j = true)) → (∀ j, j < k → p j = true → q j = true → False) → deg k r = deg k p + deg k q
  | 0, _, _ => rfl
  | k + 1, h, d => by
    rw [deg_succ, deg_succ, deg_succ, deg_or k (fun j hj => h j (by omega)) fun j hj => d j (by omega)]
    have h1 := h k (by omega)
    have d1 := d k (by omega)
    cases hp : p k <;> cases hq : q k <;> cases hr : r k <;> simp_all <;> omega
def nearN (n i j : Nat) : Bool := ((ivl (i - (n - 1) / 4) i j || ivl (i + 1) (i + (n - 1) / 4 + 1) j) || ivl 0 (i + (n - 1) / 4 + 1 - n) j) || ivl (i + n - (n - 1) / 4) n j
theorem near_deg {n i : Nat} (hn : 1 ≤ n) (hi : i < n) : deg n (nearN n i) = 2 * ((n - 1) / 4) := by
  unfold nearN
  rw [deg_or (p := fun j => (ivl (i - (n - 1) / 4) i j || ivl (i + 1) (i + (n - 1) / 4 + 1) j) || ivl 0 (i + (n - 1) / 4 + 1 - n) j) (q := ivl (i + n - (n - 1) / 4) n) n (fun j _ => by rw [Bool.or_eq_true]) (fun j hj h1 h2 => by
    simp only [Bool.or_eq_true, ivl_iff] at h1 h2; omega)]
  rw [deg_or (p := fun j => (ivl (i - (n - 1) / 4) i j || ivl (i + 1) (i + (n - 1) / 4 + 1) j)) (q := ivl 0 (i + (n - 1) / 4 + 1 - n)) n (fun j _ => by rw [Bool.or_eq_true]) (fun j hj h1 h2 => by
    simp only [Bool.or_eq_true, ivl_iff] at h1 h2; omega)]
  rw [deg_or (p := ivl (i - (n - 1) / 4) i) (q := ivl (i + 1) (i + (n - 1) / 4 + 1)) n (fun j _ => by rw [Bool.or_eq_true]) (fun j hj h1 h2 => by
    simp only [ivl_iff] at h1 h2; omega)]
  rw [deg_ivl, deg_ivl, deg_ivl, deg_ivl]
  omega
theorem near_iff {n i j : Nat} (hi : i < n) (hj : j < n) : nearN n i j = true ↔ (1 ≤ min (apartI i j) ((n : Int) - apartI i j) ∧ min (apartI i j) ((n : Int) - apartI i j) ≤ ((n : Int) - 1) / 4) := by
  unfold nearN
  simp only [Bool.or_eq_true, ivl_iff]
  unfold apartI
  split <;> omega
def halfN (n i j : Nat) : Bool := ivl (i + n / 2) (i + n / 2 + 1) j || ivl (i - n / 2) (i + 1 - n / 2) j
theorem half_deg {n i : Nat} (hn : 2 ≤ n) (hi : i < n) : deg n (halfN n i) = (min n (i + n / 2 + 1) - (i + n / 2)) + (i + 1 - n / 2 - (i - n / 2)) := by
  unfold halfN
  rw [deg_or (p := ivl (i + n / 2) (i + n / 2 + 1)) (q := ivl (i - n / 2) (i + 1 - n / 2)) n (fun j _ => by rw [Bool.or_eq_true]) (fun j hj h1 h2 => by
    simp only [ivl_iff] at h1 h2; omega)]
  rw [deg_ivl, deg_ivl]
  omega
theorem half_iff {n i j : Nat} (hi : i < n) (hj : j < n) (hn : 2 ≤ n) : halfN n i j = true ↔ apartI i j = (n : Int) / 2 := by
  unfold halfN
  simp only [Bool.or_eq_true, ivl_iff]
  unfold apartI
  split <;> omega
theorem ring_deg0 {n i : Nat} (hn : 1 ≤ n) (hi : i < n) (hr : n % 4 = 1 ∨ n % 4 = 2) : deg n (ringE n i) = 2 * ((n - 1) / 4) := by
  rw [← near_deg hn hi]
  have := deg_or (p := nearN n i) (q := fun _ => false) (r := ringE n i) n (fun j hj => by
    show knowI i j n = true ↔ _
    rw [know_iff, near_iff hi hj]
    constructor
    · rintro (h | h)
      · exact .inl h
      · omega
    · rintro (h | h)
      · exact .inl h
      · cases h) (fun _ _ _ h => by cases h)
  rw [this]
  have e : ∀ k, deg k (fun _ => false) = 0 := fun k => by
    induction k with
    | zero => rfl
    | succ k ih => rw [deg_succ, ih] <;> rfl
  rw [e, Nat.add_zero]
theorem ring_deg1 {n i : Nat} (hn : 3 ≤ n) (hi : i < n) (hr : n % 4 = 0 ∨ n % 4 = 3) : deg n (ringE n i) = 2 * ((n - 1) / 4) + ((min n (i + n / 2 + 1) - (i + n / 2)) + (i + 1 - n / 2 - (i - n / 2))) := by
  rw [← near_deg (by omega) hi, ← half_deg (by omega) hi]
  refine deg_or n (fun j hj => ?_) (fun j hj h1 h2 => ?_)
  · show knowI i j n = true ↔ _
    rw [know_iff, near_iff hi hj, half_iff hi hj (by omega)]
    constructor
    · rintro (h | h)
      · exact .inl h
      · exact .inr h.2
    · rintro (h | h)
      · exact .inl h
      · exact .inr ⟨by omega, h⟩
  · rw [near_iff hi hj] at h1
    rw [half_iff hi hj (by omega)] at h2
    omega
theorem sum_const (c : Int) (f : Nat → Int) (x : Nat) (d : Int) : ∀ k, (∀ i, i < k → f i = if i = x then d else c) → ((List.range k).map f).sum = k * c + if x < k then d - c else 0
  | 0, _ => by simp
  | k + 1, h => by
    rw [List.range_succ, List.map_append, List.sum_append, sum_const c f x d k fun i hi => h i (by omega), List.map_singleton, List.sum_singleton, h k (by omega)]
    have e : ((k + 1 : Nat) : Int) * c = k * c + c := by rw [Int.natCast_add, Int.add_mul]; omega
    rw [e]
    by_cases h1 : k = x
    · rw [if_pos h1, if_neg (by omega), if_pos (by omega)]; omega
    · rw [if_neg h1]
      by_cases h2 : x < k
      · rw [if_pos h2, if_pos (by omega)]; omega
      · rw [if_neg h2, if_neg (by omega)]; omega
theorem ring_web (n : Nat) : IsWeb n (ringE n) := by
  refine ⟨fun i j _ _ => ?_, fun i hi => ?_⟩
  · unfold ringE
    have e : apartI (i : Int) j = apartI j i := by unfold apartI; split <;> split <;> omega
    unfold knowI
    rw [e]
  · unfold ringE
    cases h : knowI i i n with
    | false => rfl
    | true =>
      rw [know_iff] at h
      unfold apartI at h
      split at h <;> omega
theorem mixed_ring (n : Nat) : mixedN n (ringE n) / 2 = (n : Int) * (((n : Int) - 1) * ((n : Int) - 1) / 4) / 2 := by
  by_cases h0 : n = 0
  · subst h0; decide
  have hn : 1 ≤ n := by omega
  unfold mixedN degs
  rw [List.map_map]
  obtain ⟨m, hm⟩ : ∃ m, n = 4 * m + n % 4 := ⟨n / 4, by omega⟩
  have hr : n % 4 = 0 ∨ n % 4 = 1 ∨ n % 4 = 2 ∨ n % 4 = 3 := by omega
  rcases hr with hr | hr | hr | hr
  · have ed : ∀ i, i < n → ((deg n (ringE n i) : Nat) : Int) = 2 * m - 1 := fun i hi => by
      rw [ring_deg1 (by omega) hi (.inl hr)]; omega
    rw [sum_const ((2 * m - 1) * (2 * m)) _ n 0 n fun i hi => by
      rw [if_neg (by omega)]
      show ((deg n (ringE n i) : Nat) : Int) * ((n : Int) - 1 - (deg n (ringE n i) : Nat)) = _
      rw [ed i hi]
      congr 1
      omega]
    rw [if_neg (Nat.lt_irrefl _)]
    have e1 : (n : Int) = 4 * m := by omega
    rw [e1]
    have e2 : (4 * (m : Int) - 1) * (4 * m - 1) = 4 * ((2 * m - 1) * (2 * m)) + 1 := by grind
    rw [e2]
    have e3 : (4 * ((2 * (m : Int) - 1) * (2 * m)) + 1) / 4 = (2 * m - 1) * (2 * m) := by omega
    rw [e3, Int.add_zero]
  · have ed : ∀ i, i < n → ((deg n (ringE n i) : Nat) : Int) = 2 * m := fun i hi => by
      rw [ring_deg0 hn hi (by omega)]; omega
    rw [sum_const ((2 * m) * (2 * m)) _ n 0 n fun i hi => by
      rw [if_neg (by omega)]
      show ((deg n (ringE n i) : Nat) : Int) * ((n : Int) - 1 - (deg n (ringE n i) : Nat)) = _
      rw [ed i hi]
      congr 1
      omega]
    rw [if_neg (Nat.lt_irrefl _)]
    have e1 : (n : Int) = 4 * m + 1 := by omega
    rw [e1]
    have e2 : (4 * (m : Int) + 1 - 1) * (4 * m + 1 - 1) = 4 * ((2 * m) * (2 * m)) := by grind
    rw [e2]
    have e3 : (4 * ((2 * (m : Int)) * (2 * m))) / 4 = (2 * m) * (2 * m) := by omega
    rw [e3, Int.add_zero]
  · have ed : ∀ i, i < n → ((deg n (ringE n i) : Nat) : Int) = 2 * m := fun i hi => by
      rw [ring_deg0 hn hi (by omega)]; omega
    rw [sum_const ((2 * m) * (2 * m + 1)) _ n 0 n fun i hi => by
      rw [if_neg (by omega)]
      show ((deg n (ringE n i) : Nat) : Int) * ((n : Int) - 1 - (deg n (ringE n i) : Nat)) = _
      rw [ed i hi]
      congr 1
      omega]
    rw [if_neg (Nat.lt_irrefl _)]
    have e1 : (n : Int) = 4 * m + 2 := by omega
    rw [e1]
    have e2 : (4 * (m : Int) + 2 - 1) * (4 * m + 2 - 1) = 4 * ((2 * m) * (2 * m + 1)) + 1 := by grind
    rw [e2]
    have e3 : (4 * ((2 * (m : Int)) * (2 * m + 1)) + 1) / 4 = (2 * m) * (2 * m + 1) := by omega
    rw [e3, Int.add_zero]
  · have ed : ∀ i, i < n → ((deg n (ringE n i) : Nat) : Int) = if i = 2 * m + 1 then 2 * m + 2 else 2 * m + 1 := fun i hi => by
      rw [ring_deg1 (by omega) hi (.inr hr)]
      by_cases hx : i = 2 * m + 1
      · rw [if_pos hx]; omega
      · rw [if_neg hx]; omega
    have e1 : (n : Int) = 4 * m + 3 := by omega
    rw [sum_const ((2 * m + 1) * (2 * m + 1)) _ (2 * m + 1) ((2 * m + 2) * (2 * m)) n fun i hi => by
      show ((deg n (ringE n i) : Nat) : Int) * ((n : Int) - 1 - (deg n (ringE n i) : Nat)) = _
      rw [ed i hi]
      by_cases hx : i = 2 * m + 1
      · rw [if_pos hx, if_pos hx]
        congr 1
        omega
      · rw [if_neg hx, if_neg hx]
        congr 1
        omega]
    rw [if_pos (by omega), e1]
    have e2 : (4 * (m : Int) + 3 - 1) * (4 * m + 3 - 1) = 4 * ((2 * m + 1) * (2 * m + 1)) := by grind
    rw [e2]
    have e3 : (4 * ((2 * (m : Int) + 1) * (2 * m + 1))) / 4 = (2 * m + 1) * (2 * m + 1) := by omega
    rw [e3]
    have e4 : (4 * (m : Int) + 3) * ((2 * m + 1) * (2 * m + 1)) = 2 * (8 * (m * m * m) + 14 * (m * m) + 8 * m + 1) + 1 := by grind
    have e5 : (2 * (m : Int) + 2) * (2 * m) - (2 * m + 1) * (2 * m + 1) = -1 := by grind
    rw [e4, e5]
    omega
theorem alike_ring (n : Nat) : alikeN n (ringE n) = fewestN n := by
  unfold alikeN fewestN
  rw [mixed_ring]
theorem mixed_sum_le (n : Int) : ∀ ds : List Int, (ds.map fun d => d * (n - 1 - d)).sum ≤ ds.length * ((n - 1) * (n - 1) / 4)
  | [] => by simp
  | d :: ds => by
    rw [List.map_cons, List.sum_cons, List.length_cons]
    have ih := mixed_sum_le n ds
    have e : ((ds.length + 1 : Nat) : Int) * ((n - 1) * (n - 1) / 4) = ds.length * ((n - 1) * (n - 1) / 4) + (n - 1) * (n - 1) / 4 := by rw [Int.natCast_add, Int.add_mul]; omega
    rw [e]
    have h1 : 4 * (d * (n - 1 - d)) = (n - 1) * (n - 1) - (n - 1 - 2 * d) * (n - 1 - 2 * d) := by grind
    have h2 : 0 ≤ (n - 1 - 2 * d) * (n - 1 - 2 * d) := by
      rw [← Int.natAbs_mul_self' (n - 1 - 2 * d)]
      exact Int.natCast_nonneg _
    omega
theorem alike_ge (n : Nat) (e : Nat → Nat → Bool) : fewestN n ≤ alikeN n e := by
  unfold alikeN fewestN mixedN
  have h := mixed_sum_le n (degs n e)
  rw [degs_len] at h
  omega
theorem few3 : alikeN 3 (smallE 1) = fewestN 3 := by decide +kernel
theorem few4 : alikeN 4 (smallE 37) = fewestN 4 := by decide +kernel
theorem few9 : (List.range 9).map (fun k => fewestN (k : Nat)) = [0, 0, 0, 0, 0, 0, 2, 4, 8] := by decide +kernel
end AK
set_option Elab.async false
set_option linter.all false
set_option maxRecDepth 100000
set_option maxHeartbeats 8000000
namespace AK
open PySem PySem.Spec PyProof.Rows L2
section
variable {P : Program} {w : World} {K : PySem.W.Frag} {mg : Str → Option Value} {base : Heap}
abbrev nLaw : List Str := ["_law_script", "_law_cells", "_law_whole", "_law_at", "_law_cell", "_law_size", "_law_many", "_law_due", "_law_some", "_law_web", "_law_few", "_law_counts", "_law_number_here", "_law_bits"]
/-- a statement, then the rest from what holds after it -/
def tCut (R : L2.St → Hp → Prop) (t u : TS) : TS := fun D σ H => t { D with nx := R } σ H ∧ ∀ σ' H', R σ' H' → u D σ' H'
theorem pss_cut {X : Cx} {st : Stmt} {rest : List Stmt} {t u : TS} (R : L2.St → Hp → Prop) (h1 : PS X st t) (h2 : PSs X rest u) : PSs X (st :: rest) (tCut R t u) := by
  refine ⟨fun pins s σ H D I h => ?_⟩
  refine wpAny_execs_cons (thn (h1.run pins s σ H { D with nx := R } I h.1) fun f s1 q => ?_)
  cases f with
  | next =>
    obtain ⟨σ', H', I', q⟩ := q
    exact h2.run pins s1 σ' H' D I' (h.2 σ' H' q)
  | ret v => exact q
  | brk => exact q
  | cont => exact q
/-- after the cells are set -/
def R1 (K : PySem.W.Frag) (H : Hp) (a : Addr) (N : Nat) (σ : L2.St) (H1 : Hp) : Prop := ∃ (p : Addr) (cs : List Int), σ = [some (.ref a), some (.ref p), none, none, none, none, none, none, none, none, none, none, none, none] ∧ Same H H1 ∧ SqL K H1 p (cs.map V.int) ∧ cs.length ≤ 63 ∧ ∀ z ∈ cs, z.natAbs < 2 ^ N
/-- after the size is set -/
def R2 (H : Hp) (a : Addr) (σ : L2.St) (H1 : Hp) : Prop := ∃ (p : Addr) (wh : Int) (n : Nat) (y3 y4 y6 y7 : Option V), σ = [some (.ref a), some (.ref p), some (.int wh), y3, y4, some (.int n), y6, y7, none, none, none, none, none, none] ∧ Same H H1 ∧ n ≤ 200
/-- after the few are set -/
def R3 (Ts : List Addr) (σ : L2.St) (H1 : Hp) : Prop := ∃ (y0 y1 y3 y4 y5 y6 y7 y8 y9 : Option V) (wh : Int) (few M : Nat), σ = [y0, y1, some (.int wh), y3, y4, y5, y6, y7, y8, y9, some (.int few), none, none, none] ∧ Tb Ts H1 ∧ 3 ≤ few ∧ few ≤ 6 ∧ atI [V.int 0, V.int 0, V.int 0, V.int 8, V.int 64, V.int 64, V.int 64] (few : Int) = some (.int (M : Int)) ∧ M ≤ 64 ∧ 8 ≤ M ∧ (few = 4 → M = 64)
/-- at the end -/
def R4 (Ts : List Addr) (σ : L2.St) (H1 : Hp) : Prop := ∃ y0 y1 y2 y3 y4 y5 y6 y7 y8 y9 y10 y11 y12 y13 : Option V, σ = [y0, y1, y2, y3, y4, y5, y6, y7, y8, y9, y10, y11, y12, y13] ∧ Tb Ts H1
theorem few_at (wh : Int) : ∃ few M : Nat, 3 + wh % 4 = (few : Int) ∧ 3 ≤ few ∧ few ≤ 6 ∧ atI [V.int 0, V.int 0, V.int 0, V.int 8, V.int 64, V.int 64, V.int 64] (few : Int) = some (.int (M : Int)) ∧ M ≤ 64 ∧ 8 ≤ M ∧ (few = 4 → M = 64) := by
  have h : wh % 4 = 0 ∨ wh % 4 = 1 ∨ wh % 4 = 2 ∨ wh % 4 = 3 := by omega
  rcases h with e | e | e | e <;> rw [e]
  · exact ⟨3, 8, rfl, by decide, by decide, rfl, by decide, by decide, by decide⟩
  · exact ⟨4, 64, rfl, by decide, by decide, rfl, by decide, by decide, by decide⟩
  · exact ⟨5, 64, rfl, by decide, by decide, rfl, by decide, by decide, by decide⟩
  · exact ⟨6, 64, rfl, by decide, by decide, rfl, by decide, by decide, by decide⟩
/-- the least count -/
theorem least {few M : Nat} {vs : List Int} (h3 : 3 ≤ few) (hM : 8 ≤ M) (h64 : few = 4 → M = 64) (hl : vs.length = M) (hge : ∀ v ∈ vs, fewestN few ≤ v) (hex : few ≤ 4 → vs = (List.range M).map fun j => alikeN few (smallE j)) {m : Int} (hm : m ∈ vs) (hmin : ∀ y, y ∈ vs → m ≤ y) (h5 : few < 5) : m = fewestN few := by
  have h1 := hge m hm
  have hv := hex (by omega)
  have hf : few = 3 ∨ few = 4 := by omega
  rcases hf with rfl | rfl
  · have := hmin (alikeN 3 (smallE 1)) (by rw [hv]; exact List.mem_map.mpr ⟨1, List.mem_range.mpr (by omega), rfl⟩)
    have e : alikeN 3 (smallE 1) = fewestN ((3 : Nat) : Int) := few3
    omega
  · have := hmin (alikeN 4 (smallE 37)) (by rw [hv]; exact List.mem_map.mpr ⟨37, List.mem_range.mpr (by have := h64 rfl; omega), rfl⟩)
    have e : alikeN 4 (smallE 37) = fewestN ((4 : Nat) : Int) := few4
    omega
theorem cut_head (xs : List V) (k : Nat) : cutV xs none (some (k : Int)) = xs.take k := by
  unfold cutV
  rw [HT.sIx_none, HT.sIx_nat, List.drop_zero, Nat.sub_zero]
  by_cases h : k ≤ xs.length
  · rw [Nat.min_eq_left h]
  · rw [Nat.min_eq_right (by omega), List.take_of_length_le (Nat.le_refl _), List.take_of_length_le (by omega)]
theorem scLaw : FnScope nLaw ["_law_script"] (defScope sLaw) := ⟨rfl, rfl, rfl, by decide +kernel, rfl, by decide +kernel, by decide +kernel⟩
def spLaw (K : PySem.W.Frag) (Ts : List Addr) (N : Nat) : Sp := fun vs H Q _ => ∃ (a : Addr) (ns : List Int), vs = [.ref a] ∧ SqL K H a (ns.map V.int) ∧ ns.length ≤ 63 ∧ (∀ z ∈ ns, z.natAbs < 2 ^ N) ∧ Tb Ts H ∧ ∀ H', Q (.bl true) H'
/-- a def that is called: its name, its object, what it keeps -/
structure Cal (K : PySem.W.Frag) (mg : Str → Option Value) (x : Str) (f : Addr) (fd : FuncData) (ps : List Str) : Prop where
  g : mg x = some (.ref f)
  kp : PySem.W.keepIn K (.ref f) = true
  b : Binds K fd ps []
theorem ok_law {f fF fW fA fN fL fI fS : Addr} {fd dF dW dA dN dL dI dS : FuncData} {Ts : List Addr} {N : Nat} (n0 : 40 ≤ N) (n1 : N ≤ 2000000) (F : Fun K "law" "law" sLaw f fd) (B : Bl mg)
    (GF : FnOk P w K mg base CX0 3 fF dF ["size"] (spFewest K)) (cF : Cal K mg "fewest" fF dF ["size"])
    (GW : FnOk P w K mg base CX0 3 fW dW ["size"] (spWebOf K Ts)) (cW : Cal K mg "web_of" fW dW ["size"])
    (GA : FnOk P w K mg base CX0 4 fA dA ["web"] (spAlike K Ts)) (cA : Cal K mg "alike" fA dA ["web"])
    (GN : FnOk P w K mg base CX0 1 fN dN ["_law_cell", "_law_at", "_law_whole"] (spNum K N)) (cN : Cal K mg "_law_number" fN dN ["_law_cell", "_law_at", "_law_whole"])
    (GL : FnOk P w K mg base CX0 1 fL dL ["_law_size"] (spLFew K)) (cL : Cal K mg "_law_fewest" fL dL ["_law_size"])
    (GI : FnOk P w K mg base CX0 1 fI dI ["_law_some", "_law_size"] (spIsWeb K)) (cI : Cal K mg "_law_is_web" fI dI ["_law_some", "_law_size"])
    (GS : FnOk P w K mg base CX0 1 fS dS ["_law_size", "_law_number_here"] (spSmall K)) (cS : Cal K mg "_law_small" fS dS ["_law_size", "_law_number_here"]) :
    FnOk P w K mg base CX0 5 f fd ["_law_script"] (spLaw K Ts N) := by
  refine F.ok scLaw (fun vs H Q E h => ?_) (fun cdv A outer s H vs Q E hr h => ?_)
  · obtain ⟨a, ns, rfl, _⟩ := h
    rfl
  · obtain ⟨a, ns, rfl, hS, hlen, hbits, hT, q⟩ := h
    have r1 := hr.mono (j := 1) (by decide)
    have r3 := hr.mono (j := 3) (by decide)
    refine ⟨_, pss_cut (R1 K H a N) (ps_set (i := 1) scLaw.nd rfl (.inl rfl) (pe_ifExp (pt_cmpR (op_neD hr.units) (pv 0) (pe_lst pa_nil) (nomark _)) (pe_slice sl_list (pv 0) po_none (po_some pe_int)) (pe_lst (pa_cons pe_int pa_nil))))
      (pss_cons (ps_set (i := 2) scLaw.nd rfl (.inl rfl) (pe_callB (cr_sum rfl) (by rfl) B.sum (by decide +kernel) (pa_cons (pv 1) pa_nil)))
      (pss_cons (ps_for PassesOwn.never rfl (pi_enum (by rfl) B.enumerate (pa_cons (pe_slice sl_list (pv 1) po_none (po_some pe_int)) pa_nil)) (pg_tup rfl (pgs_cons (pg_name (i := 3) scLaw.nd rfl (.inl rfl)) (pgs_cons (pg_name (i := 4) scLaw.nd rfl (.inl rfl)) pgs_nil)))
        (pss_cons (ps_set (i := 5) scLaw.nd rfl (.inl rfl) (pe_op op_mod (pe_call GN r1 (by rfl) cN.g cN.kp cN.b .nil pass0 (pa_cons (pv 4) (pa_cons (pv 3) (pa_cons (pv 2) pa_nil))))
          (pe_ix ix_tup (pe_tup (pa_cons (pe_op op_pow pe_int pe_int) (pa_cons pe_int (pa_cons pe_int pa_nil)))) (pe_op op_mod (pe_op op_fdiv (pv 4) pe_int) pe_int) (fun _ _ => rfl))))
        (pss_cons (ps_set (i := 6) scLaw.nd rfl (.inl rfl) (pe_call GF r3 (by rfl) cF.g cF.kp cF.b .nil pass0 (pa_cons (pv 5) pa_nil)))
        (pss_cons (ps_set (i := 7) scLaw.nd rfl (.inl rfl) (pe_ifExp (pt_cmpR op_gt (pv 5) pe_int (nomark _)) (pe_call GL r1 (by rfl) cL.g cL.kp cL.b .nil pass0 (pa_cons (pv 5) pa_nil)) pe_int))
        (pss_one (ps_if (PW.pt (pw_or (pt_val (pe_callB call_isi (by rfl) B.isi (by decide +kernel) (pa_cons (pv 6) (pa_cons (pe_bltn (v := .ty "bool") (u := .type "bool") (by rfl) B.bool (by decide +kernel) rfl) pa_nil))))
          (pw_or (pt_not (pt_val (pe_callB call_isi (by rfl) B.isi (by decide +kernel) (pa_cons (pv 6) (pa_cons (pe_bltn (v := .ty "int") (u := .type "int") (by rfl) B.int (by decide +kernel) rfl) pa_nil)))))
          (pw_or1 (pt_cmpR op_ne (pv 6) (pv 7) (nomark _)))))) (pss_one ps_never) pss_nil))))))
      (pss_cons (ps_set (i := 5) scLaw.nd rfl (.inl rfl) (pe_op op_mod (pv 2) pe_int))
      (pss_cut (R2 H a) (ps_if (pt_cmpR op_eq (pe_op op_mod (pe_op op_fdiv (pv 2) pe_int) pe_int) pe_int (nomark _)) (pss_one (ps_set (i := 5) scLaw.nd rfl (.inl rfl) (pe_op op_mod (pv 2) pe_int))) pss_nil)
      (pss_cons (ps_for PassesOwn.never rfl (pi_list (pe_lst (pa_cons (pv 5) (pa_cons (pe_op op_mod (pe_op op_fdiv (pv 2) pe_int) pe_int) pa_nil)))) (pg_name (i := 8) scLaw.nd rfl (.inl rfl))
        (pss_cons (ps_set (i := 9) scLaw.nd rfl (.inl rfl) (pe_call GW r3 (by rfl) cW.g cW.kp cW.b .nil pass0 (pa_cons (pv 8) pa_nil)))
        (pss_one (ps_if (PW.pt (pw_or (pt_not (pt_val (pe_call GI r1 (by rfl) cI.g cI.kp cI.b .nil pass0 (pa_cons (pv 9) (pa_cons (pv 8) pa_nil)))))
          (pw_or1 (pt_cmpR op_ne (pe_call GA hr (by rfl) cA.g cA.kp cA.b .nil pass0 (pa_cons (pv 9) pa_nil)) (pe_call GF r3 (by rfl) cF.g cF.kp cF.b .nil pass0 (pa_cons (pv 8) pa_nil)) (nomark _))))) (pss_one ps_never) pss_nil))))
      (pss_cut (R3 Ts) (ps_set (i := 10) scLaw.nd rfl (.inl rfl) (pe_op op_add pe_int (pe_op op_mod (pv 2) pe_int)))
      (pss_cons (ps_set (i := 11) scLaw.nd rfl (.inl rfl) (pe_lst pa_nil))
      (pss_cons (ps_for PassesOwn.never rfl (pi_range1 (by rfl) B.range (pa_cons (pe_ix ix_tup (pe_tup (pa_cons pe_int (pa_cons pe_int (pa_cons pe_int (pa_cons pe_int (pa_cons pe_int (pa_cons pe_int (pa_cons pe_int pa_nil)))))))) (pv 10) (fun _ _ => rfl)) pa_nil)) (pg_name (i := 12) scLaw.nd rfl (.inl rfl))
        (pss_cons (ps_set (i := 13) scLaw.nd rfl (.inl rfl) (pe_ifExp (pt_cmpR op_gt (pv 10) pe_int (nomark _)) (pe_op op_mod (pe_op op_add (pe_op op_mul (pv 12) pe_int) (pv 2)) (pe_op op_shl pe_int (pe_op op_fdiv (pe_op op_mul (pv 10) (pe_op op_sub (pv 10) pe_int)) pe_int))) (pv 12)))
        (pss_one (ps_expr (pe_bm PySem.F.plainAttrs_list PySem.F.slot_list_append PySem.F.type_list_append mt_append (pv 11) (pa_cons (pe_call GA hr (by rfl) cA.g cA.kp cA.b .nil pass0 (pa_cons (pe_call GS r1 (by rfl) cS.g cS.kp cS.b .nil pass0 (pa_cons (pv 10) (pa_cons (pv 13) pa_nil))) pa_nil)) pa_nil))))))
      (pss_cut (R4 Ts) (ps_if (PW.pt (pw_or (PW.pt (pw_and (pt_cmpR op_lt (pv 10) pe_int (nomark _)) (pw_and1 (pt_cmpR op_ne (pe_callB (cr_min rfl) (by rfl) B.min (by decide +kernel) (pa_cons (pv 11) pa_nil)) (pe_call GF r3 (by rfl) cF.g cF.kp cF.b .nil pass0 (pa_cons (pv 10) pa_nil)) (nomark _)))))
        (pw_or1 (pt_cmpR op_lt (pe_callB (cr_min rfl) (by rfl) B.min (by decide +kernel) (pa_cons (pv 11) pa_nil)) (pe_call GF r3 (by rfl) cF.g cF.kp cF.b .nil pass0 (pa_cons (pv 10) pa_nil)) (nomark _))))) (pss_one ps_never) pss_nil)
      (pss_one (ps_ret (pe_and (pe_cmpR (op_eqD hr.units) (pe_lc (own := [("_law_size", 5)]) (g := gName 5) (tt := tYes) rfl scLaw.nd (pi_range1 (by rfl) B.range (pa_cons pe_int pa_nil)) (blkOk_by (N := nLaw) (sc := defScope sLaw) (by decide +kernel)) (fun _ _ _ _ _ => pg_name (i := 5) scLaw.nd rfl (Or.inl rfl)) (fun _ _ _ _ _ => pts_nil)
          (fun _ _ _ _ _ => pe_call GF r3 (by rfl) cF.g cF.kp cF.b .nil pass0 (pa_cons (pv 5) pa_nil))) (pe_lst (pa_cons pe_int (pa_cons pe_int (pa_cons pe_int (pa_cons pe_int (pa_cons pe_int (pa_cons pe_int (pa_cons pe_int (pa_cons pe_int (pa_cons pe_int pa_nil)))))))))) (nomark _))
        (pe_one (pe_cmpR (op_eqD hr.units) (pe_call GW r3 (by rfl) cW.g cW.kp cW.b .nil pass0 (pa_cons pe_int pa_nil)) (pe_lst pa_nil) (nomark _))))))))))))))), ?_⟩
    refine ⟨?_, ?_⟩
    · -- the cells
      refine ⟨_, rfl, by decide, fun p0 np0 => ⟨_, _, .lst ((same_upd np0).seq hS) (dpI ns), .lst (SqL.of upd_same) .nil, shapedI ns, shapedI [], _, rfl, ?_⟩⟩
      have ee : PyData.eqv (.list (ns.map PyData.int)) (.list []) = decide (ns = []) := by
        have h := eqvI ns []
        simp only [PyData.eqv]
        exact h
      rw [ee]
      by_cases h0 : ns = []
      · rw [decide_eq_true h0]
        refine iteF ⟨by decide, fun p1 np1 => ⟨p1, [4], rfl, ?_, SqL.of upd_same, by decide, ?_⟩⟩
        · exact (same_upd np0).trans (same_upd np1)
        · intro z hz
          rw [List.mem_singleton.mp hz]
          have := Nat.pow_le_pow_right (show 0 < 2 by decide) n0
          show (4 : Int).natAbs < 2 ^ N
          have e4 : (4 : Int).natAbs = 4 := rfl
          omega
      · rw [decide_eq_false h0]
        refine iteT ?_
        refine ⟨_, rfl, _, rfl, a, _, rfl, (same_upd np0).seq hS, fun p1 np1 => ⟨p1, ns, rfl, ?_, ?_, hlen, hbits⟩⟩
        · exact (same_upd np0).trans (same_upd np1)
        · have e : cutV (ns.map V.int) none (some 63) = ns.map V.int := by
            have := cut_head (ns.map V.int) 63
            rw [List.take_of_length_le (by rw [List.length_map]; exact hlen)] at this
            exact this
          rw [e]
          exact SqL.of upd_same
    rintro σ H1 ⟨p, cs, rfl, s1, hp, hcl, hcb⟩
    refine ⟨_, rfl, p, cs, rfl, hp, ?_⟩
    generalize cs.sum = wh
    -- the great counts
    refine ⟨_, rfl, _, rfl, p, _, rfl, hp, fun p2 np2 => ⟨p2, _, rfl, SqL.of upd_same, ?_⟩⟩
    have e6 : cutV (cs.map V.int) none (some 6) = (cs.take 6).map V.int := by
      have := cut_head (cs.map V.int) 6
      rw [← List.map_take] at this
      exact this
    have s2 := s1.trans (same_upd (o := .lst (cutV (cs.map V.int) none (some 6))) np2)
    rw [e6] at s2 ⊢
    refine for_en (xs := (cs.take 6).map V.int) (fun i σ H3 => ∃ y3 y4 y5 y6 y7, σ = [some (.ref a), some (.ref p), some (.int wh), y3, y4, y5, y6, y7, none, none, none, none, none, none] ∧ Same H H3 ∧ H3 p2 = some (.lst ((cs.take 6).map V.int))) ⟨none, none, none, none, none, rfl, s2, upd_same⟩ (fun i σ H3 _ ⟨_, _, _, _, _, _, _, h⟩ => SqL.of h) ?_ ?_
    · rintro i x σ H3 T hx ⟨y3, y4, y5, y6, y7, rfl, s3, e3⟩ nT
      have e3T : upd H3 T (.tup [.int (i : Nat), x]) p2 = some (.lst ((cs.take 6).map V.int)) := by rw [upd_ne (ne_of_none e3 nT)]; exact e3
      have s4 := s3.trans (same_upd (o := .tup [.int (i : Nat), x]) nT)
      have hi : i < 6 := by
        have := (List.getElem?_eq_some_iff.mp hx).1
        rw [List.length_map, List.length_take] at this
        omega
      rw [List.getElem?_map] at hx
      obtain ⟨c, hc, rfl⟩ := Option.map_eq_some_iff.mp hx
      have hcm : c ∈ cs := List.mem_of_mem_take (List.mem_of_getElem? hc)
      refine ⟨T, _, rfl, SqT.of upd_same, rfl, _, _, rfl, _, _, rfl, rfl, ?_⟩
      obtain ⟨d, hd, d0, d1⟩ : ∃ d : Int, atI [V.int (10 ^ (30 : Int).toNat), V.int 50, V.int 1000] (c / 7 % 3) = some (.int d) ∧ 0 < d ∧ d ≤ 10 ^ 30 := by
        have h3 : c / 7 % 3 = 0 ∨ c / 7 % 3 = 1 ∨ c / 7 % 3 = 2 := by omega
        rcases h3 with e | e | e <;> rw [e]
        · exact ⟨10 ^ 30, rfl, by decide, by decide⟩
        · exact ⟨50, rfl, by decide, by decide⟩
        · exact ⟨1000, rfl, by decide, by decide⟩
      refine ⟨_, rfl, _, rfl, _, rfl, c, (i : Int), wh, rfl, by omega, by omega, hcb c hcm, fun z => ?_⟩
      refine ⟨10, 30, rfl, rfl, ⟨by decide, by decide, by decide⟩, by decide, fun pt npt => ⟨_, rfl, _, 7, rfl, rfl, ⟨by decide, by decide⟩, _, 3, rfl, rfl, (show (0 : Int) < 3 by decide), pt, _, _, .int d, rfl, rfl, SqT.of upd_same, hd, _, _, rfl, rfl, d0, ?_⟩⟩
      have z0 : 0 ≤ z % d := Int.emod_nonneg _ (by omega)
      have z1 : z % d < d := Int.emod_lt_of_pos _ d0
      have zb : (z % d).natAbs < 2 ^ 128 := by omega
      have s5 := s4.trans (same_upd (o := .tup [V.int (10 ^ (30 : Int).toNat), V.int 50, V.int 1000]) npt)
      have e5 : upd (upd H3 T (.tup [.int (i : Nat), .int c])) pt (.tup [V.int (10 ^ (30 : Int).toNat), V.int 50, V.int 1000]) p2 = some (.lst ((cs.take 6).map V.int)) := by
        rw [upd_ne (ne_of_none e3T npt)]
        exact e3T
      refine ⟨_, rfl, z % d, rfl, z0, zb, ?_⟩
      refine ⟨_, rfl, z % d, 0, rfl, rfl, _, rfl, ?_⟩
      by_cases hz : 0 < z % d
      · rw [decide_eq_true hz]
        refine iteT ⟨_, rfl, z % d, rfl, hz, zb, ?_⟩
        refine ⟨_, rfl, .int (fewestN (z % d)), .ty "bool", .type "int", .type "bool", false, rfl, .ty "bool", .base (.int _), kit_ty (by decide +kernel), false, rfl, iteF ?_⟩
        refine ⟨_, rfl, .int (fewestN (z % d)), .ty "int", .type "int", .type "int", true, rfl, .ty "int", .base (.int _), kit_ty (by decide +kernel), true, rfl, iteF ?_⟩
        refine ⟨_, rfl, _, rfl, rfl, _, rfl, iteNS (c := V.int (fewestN (z % d)) = V.int (fewestN (z % d))) rfl ?_⟩
        exact ⟨_, _, _, _, _, rfl, s5, e5⟩
      · rw [decide_eq_false hz]
        refine iteF ?_
        refine ⟨_, rfl, .int (fewestN (z % d)), .ty "bool", .type "int", .type "bool", false, rfl, .ty "bool", .base (.int _), kit_ty (by decide +kernel), false, rfl, iteF ?_⟩
        refine ⟨_, rfl, .int (fewestN (z % d)), .ty "int", .type "int", .type "int", true, rfl, .ty "int", .base (.int _), kit_ty (by decide +kernel), true, rfl, iteF ?_⟩
        refine ⟨_, rfl, _, rfl, rfl, _, rfl, iteNS (c := V.int (fewestN (z % d)) = V.int 0) (by rw [show z % d = 0 by omega] <;> rfl) ?_⟩
        exact ⟨_, _, _, _, _, rfl, s5, e5⟩
    · rintro σ H3 ⟨y3, y4, y5, y6, y7, rfl, s3, e3⟩
      refine ⟨_, rfl, _, 61, rfl, rfl, (show (0 : Int) < 61 by decide), ?_⟩
      refine ⟨?_, ?_⟩
      · refine ⟨_, rfl, _, 61, rfl, rfl, ⟨by decide, by decide⟩, _, 32, rfl, rfl, (show (0 : Int) < 32 by decide), rfl, _, rfl, ?_⟩
        by_cases h7 : wh / 61 % 32 = 7
        · rw [decide_eq_true (show V.int (wh / 61 % 32) = V.int 7 by rw [h7])]
          refine iteT ⟨_, rfl, _, 201, rfl, rfl, (show (0 : Int) < 201 by decide), ?_⟩
          refine ⟨p, wh, (wh % 201).toNat, y3, y4, y6, y7, ?_, s3, by omega⟩
          have e : (((wh % 201).toNat : Nat) : Int) = wh % 201 := by omega
          rw [e] <;> rfl
        · rw [decide_eq_false (show ¬ V.int (wh / 61 % 32) = V.int 7 from fun e => h7 (by injection e))]
          refine iteF ?_
          refine ⟨p, wh, (wh % 61).toNat, y3, y4, y6, y7, ?_, s3, by omega⟩
          have e : (((wh % 61).toNat : Nat) : Int) = wh % 61 := by omega
          rw [e] <;> rfl
      clear e3 s3 y3 y4 y5 y6 y7 H3 s2 e6 np2 p2 hcb hcl hp s1 H1 p wh cs
      rintro σ H1 ⟨p, wh, n, y3, y4, y6, y7, rfl, s1, hn⟩
      have hm16 : ((wh / 3 % 16).toNat : Int) = wh / 3 % 16 := by omega
      refine ⟨_, rfl, _, rfl, _, 3, rfl, rfl, ⟨by decide, by decide⟩, _, 16, rfl, rfl, (show (0 : Int) < 16 by decide), (show 2 ≤ sizeLine by decide), fun L nL => ⟨L, rfl, ⟨_, SqL.of upd_same⟩, for_list (K := K) (xs := [.int n, .int (wh / 3 % 16)]) (fun i σ H3 => ∃ y8 y9, σ = [some (.ref a), some (.ref p), some (.int wh), y3, y4, some (.int n), y6, y7, y8, y9, none, none, none, none] ∧ SmT Ts H H3 ∧ H3 L = some (.lst [.int n, .int (wh / 3 % 16)])) ⟨none, none, rfl, SmT.of (s1.trans (same_upd nL)), upd_same⟩ (fun i σ H3 _ ⟨_, _, _, _, h⟩ => SqL.of h) ?_ ?_⟩⟩
      · rintro i x σ H3 hx ⟨y8, y9, rfl, s3, e3⟩
        obtain ⟨m, rfl, hm⟩ : ∃ m : Nat, x = .int m ∧ m ≤ 200 := by
          have hx' := List.mem_of_getElem? hx
          rcases List.mem_cons.mp hx' with h | h
          · exact ⟨n, h, hn⟩
          · exact ⟨(wh / 3 % 16).toNat, by rw [hm16]; exact List.mem_singleton.mp h, by omega⟩
        have hT3 := s3.2 hT
        refine ⟨_, rfl, m, rfl, hm, hT3, fun H4 pw s4 npw e4 => ?_⟩
        refine ⟨_, rfl, _, rfl, pw, m, ringE m, rfl, ⟨SqL.of e4, hm, ring_web m⟩, fun H5 s5 => ⟨_, rfl, iteF ?_⟩⟩
        have hT5 := (SmT.of s5).2 (s4.2 hT3)
        refine ⟨_, rfl, pw, m, ringE m, rfl, ⟨SqL.of (s5 _ _ e4), hm, ring_web m⟩, hT5, fun H6 s6 => ?_⟩
        refine ⟨_, rfl, (m : Int), rfl, by omega, by omega, rfl, _, rfl, iteNS (c := V.int (alikeN m (ringE m)) = V.int (fewestN m)) (by rw [alike_ring]) ?_⟩
        have s36 := s4.trans ((SmT.of s5).trans s6)
        exact ⟨_, _, rfl, s3.trans s36, s36.at hT3 e3 fun _ z => nomatch z⟩
      · rintro σ H3 ⟨y8, y9, rfl, s3, e3⟩
        have hT3 := s3.2 hT
        clear e3 nL s3 hm16 s1 H1 L
        obtain ⟨few, M, hfew, f3, f6, hM, hM64, hM8, hM4⟩ := few_at wh
        refine ⟨?_, ?_⟩
        · refine ⟨_, rfl, _, 4, rfl, rfl, (show (0 : Int) < 4 by decide), _, _, rfl, rfl, ?_⟩
          exact ⟨_, _, _, _, _, _, _, _, _, wh, few, M, by rw [← hfew] <;> rfl, hT3, f3, f6, hM, hM64, hM8, hM4⟩
        clear hfew f3 f6 hM hM64 hM8 hM4 hT3 y8 y9 H3 y3 y4 y6 y7 hn
        clear few M
        rintro σ H3 ⟨y0, y1, y3, y4, y5, y6, y7, y8, y9, wh, few, M, rfl, hT3, f3, f6, hM, hM64, hM8, hM4⟩
        refine ⟨by decide, fun C nC => ?_⟩
        have hTC : Tb Ts (upd H3 C (.lst [])) := hT3.upd nC
        refine ⟨by decide, fun pt npt => ⟨_, rfl, pt, _, _, .int M, rfl, rfl, SqT.of upd_same, hM, (M : Int), rfl, by omega, by omega, ?_⟩⟩
        refine for_range (fun k σ H4 => ∃ (y12 y13 : Option V) (vs : List Int), σ = [y0, y1, some (.int wh), y3, y4, y5, y6, y7, y8, y9, some (.int few), some (.ref C), y12, y13] ∧ Tb Ts H4 ∧ H4 C = some (.lst (vs.map V.int)) ∧ vs.length = k ∧ (∀ v ∈ vs, fewestN few ≤ v) ∧ (few ≤ 4 → vs = (List.range k).map fun j => alikeN few (smallE j)))
          ⟨none, none, [], rfl, hTC.upd npt, by rw [upd_ne (ne_of_none upd_same npt)]; exact upd_same, rfl, fun v hv => absurd hv List.not_mem_nil, fun _ => rfl⟩ ?_ ?_
        · rintro k σ H4 hk ⟨y12, y13, vs, rfl, hT4, e4, hl, hge, hex⟩
          have hk : k < M := by omega
          refine ⟨_, rfl, _, 4, rfl, rfl, _, rfl, ?_⟩
          have nxt : ∀ (bv : Nat) (H6 : Hp), (few ≤ 4 → bv = k) → SmT Ts H4 H6 → Tb Ts (upd H6 C (.lst (vs.map V.int ++ [V.int (alikeN few (smallE bv))]))) ∧ upd H6 C (.lst (vs.map V.int ++ [V.int (alikeN few (smallE bv))])) C = some (.lst ((vs ++ [alikeN few (smallE bv)]).map V.int)) ∧ (vs ++ [alikeN few (smallE bv)]).length = k + 1 ∧ (∀ v ∈ vs ++ [alikeN few (smallE bv)], fewestN few ≤ v) ∧
              (few ≤ 4 → vs ++ [alikeN few (smallE bv)] = (List.range (k + 1)).map fun j => alikeN few (smallE j)) := fun bv H6 hb s46 => by
            refine ⟨(s46.2 hT4).put (s46.lst hT4 e4) (fun _ z => nomatch z), by rw [upd_same, List.map_append] <;> rfl, by rw [List.length_append, hl] <;> rfl, fun v hv => ?_, fun h4 => ?_⟩
            · rcases List.mem_append.mp hv with h | h
              · exact hge v h
              · rw [List.mem_singleton.mp h]
                exact alike_ge few _
            · rw [hex h4, hb h4, List.range_succ, List.map_append] <;> rfl
          have hvs : (vs.map V.int).length < sizeLine := by
            rw [List.length_map]
            exact small1000 (by omega)
          by_cases h4 : (4 : Int) < few
          · rw [decide_eq_true h4]
            have hpw : ∀ m : Nat, (0 : Int) < 1 * 2 ^ m := fun m => by
              rw [Int.one_mul]
              exact Int.pow_pos (by decide)
            have hq : 0 ≤ (few : Int) * ((few : Int) - 1) / 2 ∧ (few : Int) * ((few : Int) - 1) / 2 ≤ 1000000 := by
              have : few = 5 ∨ few = 6 := by omega
              rcases this with rfl | rfl <;> decide
            refine iteT ⟨_, rfl, _, 523, rfl, rfl, .inr ⟨by decide, by decide⟩, _, rfl, _, _, rfl, rfl, _, rfl, _, rfl, _, _, rfl, rfl, _, _, rfl, rfl, .inl ⟨by omega, by omega⟩, _, _, rfl, rfl, ⟨by decide, by decide⟩, _, _, rfl, rfl, ⟨hq.1, hq.2, by decide⟩, _, _, rfl, rfl, hpw _, ?_⟩
            have x0 : 0 ≤ ((0 + (k : Int)) * 523 + wh) % (1 * 2 ^ ((few : Int) * ((few : Int) - 1) / 2).toNat) := Int.emod_nonneg _ (Int.ne_of_gt (hpw _))
            refine ⟨_, rfl, .inl ⟨rfl, _, SqL.of e4⟩, _, rfl, _, rfl, few, (((0 + (k : Int)) * 523 + wh) % (1 * 2 ^ ((few : Int) * ((few : Int) - 1) / 2).toNat)).toNat, ?_, by omega, fun H5 ps s5 nps e5 => ?_⟩
            · rw [Int.toNat_of_nonneg x0]
              rfl
            refine ⟨ps, few, _, rfl, ⟨SqL.of e5, by omega, small_web _ few⟩, (SmT.of s5).2 hT4, fun H6 s6 => ?_⟩
            have s46 := (SmT.of s5).trans s6
            refine ⟨C, _, _, rfl, rfl, s46.lst hT4 e4, hvs, ?_⟩
            exact ⟨_, _, _, rfl, nxt _ H6 (fun h => by omega) s46⟩
          · rw [decide_eq_false h4]
            refine iteF ⟨_, rfl, ?_⟩
            refine ⟨_, rfl, .inl ⟨rfl, _, SqL.of e4⟩, _, rfl, _, rfl, few, k, by rw [Int.zero_add] <;> rfl, by omega, fun H5 ps s5 nps e5 => ?_⟩
            refine ⟨ps, few, _, rfl, ⟨SqL.of e5, by omega, small_web _ few⟩, (SmT.of s5).2 hT4, fun H6 s6 => ?_⟩
            have s46 := (SmT.of s5).trans s6
            refine ⟨C, _, _, rfl, rfl, s46.lst hT4 e4, hvs, ?_⟩
            exact ⟨_, _, _, rfl, nxt _ H6 (fun h => rfl) s46⟩
        · rintro σ H4 ⟨y12, y13, vs, rfl, hT4, e4, hl, hge, hex⟩
          have eM : (M : Int).toNat = M := by omega
          rw [eM] at hl hex
          have hpos : 0 < vs.length := by omega
          refine ⟨?_, ?_⟩
          · refine ⟨_, rfl, _, 5, rfl, rfl, _, rfl, ?_⟩
            have sec : ∀ m : Int, m ∈ vs → decide (m < fewestN few) = false := fun m hm => decide_eq_false (by have := hge m hm; omega)
            by_cases h5 : (few : Int) < 5
            · rw [decide_eq_true h5]
              refine iteT ⟨_, rfl, C, vs, rfl, SqL.of e4, hpos, fun m hm hmin => ⟨_, rfl, (few : Int), rfl, by omega, by omega, rfl, _, rfl, ?_⟩⟩
              refine iteNS (c := V.int m = V.int (fewestN few)) (by rw [least f3 hM8 hM4 hl hge hex hm hmin (by omega)]) ?_
              refine ⟨_, rfl, C, vs, rfl, SqL.of e4, hpos, fun m hm hmin => ⟨_, rfl, (few : Int), rfl, by omega, by omega, _, _, rfl, rfl, _, rfl, ?_⟩⟩
              rw [sec m hm]
              exact iteF ⟨_, _, _, _, _, _, _, _, _, _, _, _, _, _, rfl, hT4⟩
            · rw [decide_eq_false h5]
              refine iteF ?_
              refine ⟨_, rfl, C, vs, rfl, SqL.of e4, hpos, fun m hm hmin => ⟨_, rfl, (few : Int), rfl, by omega, by omega, _, _, rfl, rfl, _, rfl, ?_⟩⟩
              rw [sec m hm]
              exact iteF ⟨_, _, _, _, _, _, _, _, _, _, _, _, _, _, rfl, hT4⟩
          clear hex hge hl e4 hpos vs hT4 hTC y12 y13
          rintro σ H5 ⟨y0, y1, y2, y3, y4, y5, y6, y7, y8, y9, y10, y11, y12, y13, rfl, hT5⟩
          refine ⟨(9 : Int), rfl, by decide, by decide, fun D nD => lc_range (fun i H6 => Tb Ts H6 ∧ H6 D = some (.lst ((((List.range 9).map fun k => fewestN (k : Nat)).take i).map V.int))) ⟨hT5.upd nD, upd_same⟩ ?_ ?_⟩
          · rintro i H6 hi ⟨hT6, e6⟩
            have hi : i < 9 := hi
            refine ⟨rfl, _, rfl, 0 + (i : Int), rfl, by omega, by omega, _, e6, ?_, hT6.put e6 (fun _ z => nomatch z), ?_⟩
            · rw [List.length_map, List.length_take, List.length_map, List.length_range]
              exact small1000 (by omega)
            · have eg : ((List.range 9).map fun k => fewestN (k : Nat))[i]? = some (fewestN (i : Nat)) := by rw [List.getElem?_map, List.getElem?_range hi] <;> rfl
              rw [upd_same, List.take_add_one, eg, List.map_append, Int.zero_add] <;> rfl
          · rintro H6 ⟨hT6, e6⟩
            have e9 : (((List.range 9).map fun k => fewestN (k : Nat)).take (9 : Int).toNat).map V.int = [0, 0, 0, 0, 0, 0, 2, 4, 8].map V.int := by rw [few9] <;> rfl
            rw [e9] at e6
            refine ⟨(show 9 ≤ sizeLine by decide), fun L nL => ?_⟩
            have e7 : upd H6 L (.lst ([0, 0, 0, 0, 0, 0, 2, 4, 8].map V.int)) D = some (.lst ([0, 0, 0, 0, 0, 0, 2, 4, 8].map V.int)) := by
              rw [upd_ne (ne_of_none e6 nL)]
              exact e6
            refine ⟨.list ([0, 0, 0, 0, 0, 0, 2, 4, 8].map PyData.int), .list ([0, 0, 0, 0, 0, 0, 2, 4, 8].map PyData.int), .lst (SqL.of e7) (dpI _), .lst (xs := [0, 0, 0, 0, 0, 0, 2, 4, 8].map V.int) (SqL.of upd_same) (dpI _), shapedI _, shapedI _, _, rfl, ?_⟩
            have ee : PyData.eqv (.list ([0, 0, 0, 0, 0, 0, 2, 4, 8].map PyData.int)) (.list ([0, 0, 0, 0, 0, 0, 2, 4, 8].map PyData.int)) = true := by
              simp only [PyData.eqv, eqvI, decide_true]
            rw [ee]
            refine iteT ?_
            refine ⟨0, rfl, by decide, hT6.upd nL, fun H7 p7 s7 np7 h7 => ⟨by decide, fun L2 nL2 => ?_⟩⟩
            have e8 : upd H7 L2 (.lst []) p7 = some (.lst ([] : List V)) := by
              rw [upd_ne (ne_of_none h7 nL2)]
              exact h7
            refine ⟨.list [], .list [], .lst (SqL.of e8) .nil, .lst (SqL.of upd_same) .nil, shapedI [], shapedI [], ?_⟩
            have ez : PyData.eqv (.list []) (.list []) = true := by
              have h := eqvI [] []
              simp only [PyData.eqv]
              exact h
            rw [ez]
            exact q _
end
end AK
set_option Elab.async false
set_option linter.all false
set_option maxRecDepth 100000
set_option maxHeartbeats 4000000
namespace AK
open PySem PySem.Spec PyProof.Rows L2
theorem bits_lt {z : Int} {N : Nat} (h : Builtin.Int.intBits z ≤ N) : z.natAbs < 2 ^ N := by
  unfold Builtin.Int.intBits at h
  split at h
  · rename_i e
    have : z = 0 := by simpa using e
    subst this
    exact Nat.two_pow_pos N
  · exact Nat.lt_of_lt_of_le Nat.lt_log2_self (Nat.pow_le_pow_right (by decide) h)
/-- a def's code table at the head's heap -/
theorem tab_here {q : Program} {loose : List Str} {mean : ExcName → Option Value} {mg mb : Str → Option Value} {h : Heap} {K : PySem.W.Frag} {x : Str} {c P : Addr} (T : Top q loose mean mg mb h) (X : K.In h) (hs : ((recsOf q).find? (fun e => e.name == x)).isSome = true) (ht : PySem.W.tabIn K x = some (c, P)) :
    PySem.W.CodeHd h c P ∧ h.get? P = some { cls := .none, data := .fields #[] } := by
  obtain ⟨d, hd⟩ := Option.isSome_iff_exists.mp hs
  exact PySem.W.tab_of T X hd ht
/-! ### what the written part holds -/
def FAt (K : PySem.W.Frag) (x : Str) (st : Stmt) : Prop := ∃ (f : Addr) (fd : FuncData), PySem.W.nsIn K mainGlobals x = some (some (.ref f)) ∧ Fun K x x st f fd
theorem fat_mk {K : PySem.W.Frag} {x : Str} {st : Stmt} {f : Addr} {oc : Value} {od an : Option Addr} {osl : Array (Option Value)} {kV doc pm cdv ct : Value} (a : PySem.W.nsIn K mainGlobals x = some (some (.ref f))) (l : K.lookup f = some ⟨oc, od, .func (PySem.W.fnOf x x (defArgs st) (defBody st) (defScope st) .none kV doc pm an cdv ct), osl⟩)
    (c : PySem.W.codeIn K cdv x = true) (k : PySem.W.keepIn K (.ref f) = true) : FAt K x st := ⟨f, _, a, fun_mk l c k⟩
def TAt (K : PySem.W.Frag) (x : Str) (st : Stmt) : Prop := ∃ (c P f : Addr) (fd : FuncData), PySem.W.nsIn K mainGlobals x = some (some (.ref f)) ∧ FunR K x x st c f fd ∧ K.lookup P = none ∧ PySem.W.tabIn K x = some (c, P)
theorem tat_mk {K : PySem.W.Frag} {x : Str} {st : Stmt} {f c P : Addr} {oc oc2 : Value} {od od2 an : Option Addr} {osl osl2 : Array (Option Value)} {kV doc pm ct : Value} {vs : Array Value} (a : PySem.W.nsIn K mainGlobals x = some (some (.ref f))) (l : K.lookup f = some ⟨oc, od, .func (PySem.W.fnOf x x (defArgs st) (defBody st) (defScope st) .none kV doc pm an (.ref c) ct), osl⟩)
    (hc : PySem.W.codeIn K (.ref c) x = true) (k : PySem.W.keepIn K (.ref f) = true) (lc : K.lookup c = some ⟨oc2, od2, .fields vs, osl2⟩) (hv : vs[11]? = some (.ref P)) (lP : K.lookup P = none) : TAt K x st := by
  refine ⟨c, P, f, _, a, funR_mk rfl l hc k, lP, ?_⟩
  unfold PySem.W.tabIn
  rw [a]
  dsimp only
  rw [l]
  dsimp only [PySem.W.fnOf]
  rw [lc]
  dsimp only
  rw [hv]
def DAt (K : PySem.W.Frag) : Prop := ∃ (f : Addr) (fd : FuncData), PySem.W.nsIn K mainGlobals "check_count" = some (some (.ref f)) ∧ FunC K f fd
theorem dat_mk {K : PySem.W.Frag} {f T : Addr} {oc o1 : Value} {od an o2 : Option Addr} {osl o3 : Array (Option Value)} {kV doc pm cdv ct : Value} {n : Nat} (a : PySem.W.nsIn K mainGlobals "check_count" = some (some (.ref f))) (l : K.lookup f = some ⟨oc, od, .func (PySem.W.fnOf "check_count" "check_count" (defArgs sCount) (defBody sCount) (defScope sCount) (.ref T) kV doc pm an cdv ct), osl⟩)
    (c : PySem.W.codeIn K cdv "check_count" = true) (k : PySem.W.keepIn K (.ref f) = true) (lT : K.lookup T = some ⟨o1, o2, .seq #[.none] n, o3⟩) : DAt K :=
  ⟨f, _, a, ⟨oc, od, .ref T, kV, doc, pm, an, cdv, ct, osl, rfl, l, c, .inr ⟨by simp, T, _, [.none], n, rfl, lT, rfl, .cons rfl .nil⟩, .inl rfl⟩, k⟩
def SAt (K : PySem.W.Frag) (x y : Str) : Prop := ∃ t, PySem.W.nsIn K mainGlobals x = some (some (.str y t))
theorem sat_mk {K : PySem.W.Frag} {x y : Str} {t : Tok} (a : PySem.W.nsIn K mainGlobals x = some (some (.str y t))) : SAt K x y := ⟨t, a⟩
def IAt (K : PySem.W.Frag) (x : Str) (i : Int) : Prop := ∃ t, PySem.W.nsIn K mainGlobals x = some (some (.int i t))
theorem iat_mk {K : PySem.W.Frag} {x : Str} {i : Int} {t : Tok} (a : PySem.W.nsIn K mainGlobals x = some (some (.int i t))) : IAt K x i := ⟨t, a⟩
/-- a built-in's name is not the module's -/
abbrev NAt (K : PySem.W.Frag) (x : Str) : Prop := PySem.W.nsIn K mainGlobals x = some none
/-- the law at the head's heap -/
theorem all_mk {q : Program} {loose : List Str} {mean : ExcName → Option Value} {mb : Str → Option Value} {l : PySem.W.OpenLaw} {w : World} {K : PySem.W.Frag} {h : Heap} {mg : Str → Option Value} {fa : Addr} (T : Top q loose mean mg mb h) (X : K.In h) (hfa : mg "law" = some (.ref fa))
    (rA : ((recsOf q).find? (fun e => e.name == ("alike" : Str))).isSome = true) (rR : ((recsOf q).find? (fun e => e.name == ("_ring_row" : Str))).isSome = true)
    (hWhole : FAt K "is_whole" sWhole) (hCount : DAt K) (hWeb : FAt K "check_web" sWeb) (hRow : FAt K "_check_row" sRow) (hTies : FAt K "ties" sTies) (hAlike : TAt K "alike" sAlike) (hFew : FAt K "fewest" sFewest) (hThrees : FAt K "_all_threes" sThrees)
    (hWebOf : FAt K "web_of" sWebOf) (hRing : TAt K "_ring_row" sRing) (hKnow : FAt K "_know_in_ring" sKnow) (hNum : FAt K "_law_number" sNum) (hLFew : FAt K "_law_fewest" sLFew) (hIsWeb : FAt K "_law_is_web" sIsWeb) (hSmall : FAt K "_law_small" sSmall) (hLaw : FAt K "law" sLaw)
    (kn : SAt K "KNOWS" "x") (ap : SAt K "APART" "-") (mo : IAt K "MOST_PEOPLE" 200)
    (z1 : PySem.W.nsIn K mainGlobals "isinstance" = some none) (z2 : PySem.W.nsIn K mainGlobals "int" = some none) (z3 : PySem.W.nsIn K mainGlobals "bool" = some none) (z4 : PySem.W.nsIn K mainGlobals "list" = some none) (z5 : PySem.W.nsIn K mainGlobals "str" = some none) (z6 : PySem.W.nsIn K mainGlobals "len" = some none) (z7 : PySem.W.nsIn K mainGlobals "enumerate" = some none) (z8 : PySem.W.nsIn K mainGlobals "zip" = some none) (z9 : PySem.W.nsIn K mainGlobals "range" = some none) (z10 : PySem.W.nsIn K mainGlobals "sum" = some none) (z11 : PySem.W.nsIn K mainGlobals "abs" = some none) (z12 : PySem.W.nsIn K mainGlobals "min" = some none) (z13 : PySem.W.nsIn K mainGlobals "all" = some none) (z14 : PySem.W.nsIn K mainGlobals "any" = some none) :
    LamX.LawAtS l w K CX0 5 63 "_law_script" mg fa h := by
  have G := T.g
  have gg : ∀ {x : Str} {v : Value}, PySem.W.nsIn K mainGlobals x = some (some v) → mg x = some v := fun e => PySem.W.mg_of X G e
  have gn : ∀ {x : Str}, NAt K x → mg x = none := fun e => PySem.W.mg_none_of X G e
  obtain ⟨fW, dW, aW, FW⟩ := hWhole
  obtain ⟨fC, dC, aC, FC⟩ := hCount
  obtain ⟨fE, dE, aE, FE⟩ := hWeb
  obtain ⟨fO, dO, aO, FO⟩ := hRow
  obtain ⟨fT, dT, aT, FT⟩ := hTies
  obtain ⟨cA, PA, fA, dA, aA, FA, lA, tA⟩ := hAlike
  obtain ⟨fF, dF, aF, FF⟩ := hFew
  obtain ⟨fH, dH, aH, FH⟩ := hThrees
  obtain ⟨fB, dB, aB, FB⟩ := hWebOf
  obtain ⟨cR, PR, fR, dR, aR, FR, lR, tR⟩ := hRing
  obtain ⟨fK, dK, aK, FK⟩ := hKnow
  obtain ⟨fN, dN, aN, FN⟩ := hNum
  obtain ⟨fL, dL, aL, FL⟩ := hLFew
  obtain ⟨fI, dI, aI, FI⟩ := hIsWeb
  obtain ⟨fS, dS, aS, FS⟩ := hSmall
  obtain ⟨fM, dM, aM, FM⟩ := hLaw
  have e := hfa.symm.trans (gg aM)
  cases e
  obtain ⟨hcA, hpA⟩ := tab_here T X rA tA
  obtain ⟨hcR, hpR⟩ := tab_here T X rR tR
  have B : Bl mg := ⟨gn z1, gn z2, gn z3, gn z4, gn z5, gn z6, gn z7, gn z8, gn z9, gn z10, gn z11, gn z12⟩
  have C : Cn mg := ⟨let ⟨t, e⟩ := kn; ⟨t, gg e⟩, let ⟨t, e⟩ := ap; ⟨t, gg e⟩, let ⟨t, e⟩ := mo; ⟨t, gg e⟩⟩
  have bW := FW.binds (ps := ["value"]) fun _ _ _ _ _ _ us hl => match us, hl with | [_], _ => rfl
  have bE := FE.binds (ps := ["web"]) fun _ _ _ _ _ _ us hl => match us, hl with | [_], _ => rfl
  have bO := FO.binds (ps := ["row", "place", "size"]) fun _ _ _ _ _ _ us hl => match us, hl with | [_, _, _], _ => rfl
  have bT := FT.binds (ps := ["web"]) fun _ _ _ _ _ _ us hl => match us, hl with | [_], _ => rfl
  have bA := FA.binds (ps := ["web"]) fun _ _ _ _ _ _ us hl => match us, hl with | [_], _ => rfl
  have bF := FF.binds (ps := ["size"]) fun _ _ _ _ _ _ us hl => match us, hl with | [_], _ => rfl
  have bH := FH.binds (ps := ["size"]) fun _ _ _ _ _ _ us hl => match us, hl with | [_], _ => rfl
  have bB := FB.binds (ps := ["size"]) fun _ _ _ _ _ _ us hl => match us, hl with | [_], _ => rfl
  have bR := FR.binds (ps := ["place", "size"]) fun _ _ _ _ _ _ us hl => match us, hl with | [_, _], _ => rfl
  have bN := FN.binds (ps := ["_law_cell", "_law_at", "_law_whole"]) fun _ _ _ _ _ _ us hl => match us, hl with | [_, _, _], _ => rfl
  have bL := FL.binds (ps := ["_law_size"]) fun _ _ _ _ _ _ us hl => match us, hl with | [_], _ => rfl
  have bI := FI.binds (ps := ["_law_some", "_law_size"]) fun _ _ _ _ _ _ us hl => match us, hl with | [_, _], _ => rfl
  have bS := FS.binds (ps := ["_law_size", "_law_number_here"]) fun _ _ _ _ _ _ us hl => match us, hl with | [_, _], _ => rfl
  obtain ⟨ds2, vd2, bC2⟩ := FC.binds1 (ps := ["value", "least", "most"]) 2 0 (by simp) rfl fun T kV doc pm an cdv ct us its hl hi => match us, hl, its, hi with | [_, _], _, [_], _ => ⟨_, rfl, rfl⟩
  obtain ⟨ds3, vd3, bC3⟩ := FC.binds1 (ps := ["value", "least", "most"]) 3 1 (by simp) rfl fun T kV doc pm an cdv ct us its hl hi => match us, hl, its, hi with | [_, _, _], _, [_], _ => ⟨_, rfl, rfl⟩
  have vd3 : Vals [] ds3 := vd3
  cases vd3
  have vd2 : Vals [.non] ds2 := vd2
  refine ⟨dM, [(cA, PA), (cR, PR)], spLaw K [PA, PR] 1048576, ?_, ?_, ?_, ?_, ?_, ?_⟩
  · intro p hp
    rcases List.mem_cons.mp hp with rfl | hp
    · exact hpA
    · rw [List.mem_singleton.mp hp]; exact hpR
  · intro p hp
    rcases List.mem_cons.mp hp with rfl | hp
    · exact lA
    · rw [List.mem_singleton.mp hp]; exact lR
  · intro p hp
    rcases List.mem_cons.mp hp with rfl | hp
    · exact hcA
    · rw [List.mem_singleton.mp hp]; exact hcR
  · intro s u
    obtain ⟨oc, od, kV, doc, pm, an, cdv, ct, osl, rfl, _, _⟩ := FM.ex
    exact .of_eq rfl
  · intro H a ns hl hb hH hS
    refine ⟨a, ns, rfl, hS, hl, fun z hz => bits_lt (hb z hz), fun p hp => ?_, fun _ => rfl⟩
    rcases List.mem_cons.mp hp with rfl | hp
    · exact ⟨#[], hH (cA, p) (List.mem_cons_self ..), trivial⟩
    · rw [List.mem_singleton.mp hp]
      exact ⟨#[], hH (cR, PR) (List.mem_cons_of_mem _ (List.mem_cons_self ..)), trivial⟩
  · intro base hK hg hTB
    have TA := hTB (cA, PA) (List.mem_cons_self ..)
    have TR := hTB (cR, PR) (List.mem_cons_of_mem _ (List.mem_cons_self ..))
    have TA' : GxR.TabB base mg cA PA := ⟨TA.code, TA.bm, TA.gP⟩
    have TR' : GxR.TabB base mg cR PR := ⟨TR.code, TR.bm, TR.gP⟩
    have mA : PA ∈ [PA, PR] := List.mem_cons_self ..
    have mR : PR ∈ [PA, PR] := List.mem_cons_of_mem _ (List.mem_cons_self ..)
    have GC := ok_count (P := l.prog) (w := w) (base := base) FC FW bW (gg aW) B
    have GE := ok_web (P := l.prog) (w := w) (base := base) FE FO bO (gg aO) B C
    have GT := ok_ties (P := l.prog) (w := w) (base := base) FT GE FE bE (gg aE) B C
    have GA := ok_alike (P := l.prog) (w := w) (base := base) FA TA' mA GT FT bT (gg aT) FH bH (gg aH) B
    have GF := ok_fewest (P := l.prog) (w := w) (base := base) FF GC FC bC2 vd2 (gg aC) FH bH (gg aH)
    have GR := ok_ring (P := l.prog) (w := w) (base := base) FR TR' mR FK (gg aK) B C
    have GB := ok_webOf (P := l.prog) (w := w) (base := base) FB GC FC bC3 (gg aC) GR FR bR (gg aR) B C
    have GN := ok_num (P := l.prog) (w := w) (K := K) (mg := mg) (base := base) (N := 1048576) (by decide) (by decide) FN
    have GL := ok_lfew (P := l.prog) (w := w) (mg := mg) (base := base) FL
    have GI := ok_isWeb (P := l.prog) (w := w) (base := base) FI B (gn z13) (gn z14)
    have GS := ok_small (P := l.prog) (w := w) (base := base) FS B
    exact ok_law (by decide) (by decide) FM B GF ⟨gg aF, FF.kp, bF⟩ GB ⟨gg aB, FB.kp, bB⟩ GA ⟨gg aA, FA.kp, bA⟩ GN ⟨gg aN, FN.kp, bN⟩ GL ⟨gg aL, FL.kp, bL⟩ GI ⟨gg aI, FI.kp, bI⟩ GS ⟨gg aS, FS.kp, bS⟩
/-- the end, the head's heap told -/
theorem walk_own {l : PySem.W.OpenLaw} {n k : Nat} {q : Program} {loose : List Str} {XP : (Str → Option Value) → Heap → Prop} {YP : World → Heap → Prop} {d : DefRec} {K : Params → PySem.W.Frag} {x : Str}
    (hn : l.most = some n) (hn2 : n ≤ sizeLine) (hdf : d.params.defaults = []) (hr : Room k callerA) (hY : ∀ (w : World) (h : Heap), YP w h → (K w.params).In h)
    (F : ∀ (w : World) (mg mb : Str → Option Value) (mean : ExcName → Option Value) (fa : Addr) (h : Heap), Top q (PySem.W.looseW q loose) mean mg mb h → (K w.params).In h → mg d.name = some (.ref fa) → LamX.LawAtS l w (K w.params) CX0 k n x mg fa h) :
    PySem.W.WalkO q loose XP YP l.row.toRowW d [] (fun f vs => PySem.call f vs) := by
  refine Att.attach_callB hn hdf fun w s₀ s₁ mg mb fa o pm cd doc a vs ns G Y ho hd hcd hmg hobj hints hlen hbits hg => ?_
  have KX := hY w _ Y
  obtain ⟨fd, cs, sp, hT, nT, C, hb, hsp, hF⟩ := F w mg mb _ fa _ G.T KX hmg
  exact LamX.law_callTs KX G.T.g G.T.b G.T.builtins G.T.nolimit hg hT nT C G.T.bmain hobj hints (Nat.le_trans hlen hn2) hr hF hb (fun H hH hS => hsp H a ns hlen hbits hH hS) fun H e s' h => h
end AK
set_option Elab.async false
set_option linter.all false
set_option maxRecDepth 100000
open PySem PySem.W PyProof.Rows
set_option maxHeartbeats 0 in
theorem PySem.Challenge.cw_allknown_k02_whole_fewest_holds : PySem.Challenge.rw_allknown_k02_whole_fewest.Holds := by
  w_on; o_law; k_head; (case hw => w_witness2)
  k_fill
  refine AK.walk_own (l := PySem.Challenge.rw_allknown_k02_whole_fewest) (n := 63) (k := 5) (x := "_law_script") rfl (by decide) rfl ⟨rfl, by decide, by decide⟩ (fun w h Y => PySem.W.kIn_of Y) ?F
  case F =>
    intro w mg mb mean fa h T KX hmg
    refine' AK.all_mk T KX hmg ?rA ?rR ?f1 ?f2 ?f3 ?f4 ?f5 ?f6 ?f7 ?f8 ?f9 ?f10 ?f11 ?f12 ?f13 ?f14 ?f15 ?f16 ?kn ?ap ?mo ?z1 ?z2 ?z3 ?z4 ?z5 ?z6 ?z7 ?z8 ?z9 ?z10 ?z11 ?z12 ?z13 ?z14
    case rA => kernel_rfl
    case rR => kernel_rfl
    (case f1 => refine' AK.fat_mk ?q1a ?q1l ?q1c ?q1k; (case q1a => k_is); (case q1l => k_is); (case q1c => k_is); (case q1k => k_is))
    (case f2 => refine' AK.dat_mk ?q2a ?q2l ?q2c ?q2k ?q2t; (case q2a => k_is); (case q2l => k_is); (case q2c => k_is); (case q2k => k_is); (case q2t => k_is))
    (case f3 => refine' AK.fat_mk ?q3a ?q3l ?q3c ?q3k; (case q3a => k_is); (case q3l => k_is); (case q3c => k_is); (case q3k => k_is))
    (case f4 => refine' AK.fat_mk ?q4a ?q4l ?q4c ?q4k; (case q4a => k_is); (case q4l => k_is); (case q4c => k_is); (case q4k => k_is))
    (case f5 => refine' AK.fat_mk ?q5a ?q5l ?q5c ?q5k; (case q5a => k_is); (case q5l => k_is); (case q5c => k_is); (case q5k => k_is))
    (case f6 => refine' AK.tat_mk ?q6a ?q6l ?q6hc ?q6k ?q6lc ?q6hv ?q6lP; (case q6a => k_is); (case q6l => k_is); (case q6hc => k_is); (case q6k => k_is); (case q6lc => k_is); (case q6hv => rfl); (case q6lP => kernel_rfl))
    (case f7 => refine' AK.fat_mk ?q7a ?q7l ?q7c ?q7k; (case q7a => k_is); (case q7l => k_is); (case q7c => k_is); (case q7k => k_is))
    (case f8 => refine' AK.fat_mk ?q8a ?q8l ?q8c ?q8k; (case q8a => k_is); (case q8l => k_is); (case q8c => k_is); (case q8k => k_is))
    (case f9 => refine' AK.fat_mk ?q9a ?q9l ?q9c ?q9k; (case q9a => k_is); (case q9l => k_is); (case q9c => k_is); (case q9k => k_is))
    (case f10 => refine' AK.tat_mk ?q10a ?q10l ?q10hc ?q10k ?q10lc ?q10hv ?q10lP; (case q10a => k_is); (case q10l => k_is); (case q10hc => k_is); (case q10k => k_is); (case q10lc => k_is); (case q10hv => rfl); (case q10lP => kernel_rfl))
    (case f11 => refine' AK.fat_mk ?q11a ?q11l ?q11c ?q11k; (case q11a => k_is); (case q11l => k_is); (case q11c => k_is); (case q11k => k_is))
    (case f12 => refine' AK.fat_mk ?q12a ?q12l ?q12c ?q12k; (case q12a => k_is); (case q12l => k_is); (case q12c => k_is); (case q12k => k_is))
    (case f13 => refine' AK.fat_mk ?q13a ?q13l ?q13c ?q13k; (case q13a => k_is); (case q13l => k_is); (case q13c => k_is); (case q13k => k_is))
    (case f14 => refine' AK.fat_mk ?q14a ?q14l ?q14c ?q14k; (case q14a => k_is); (case q14l => k_is); (case q14c => k_is); (case q14k => k_is))
    (case f15 => refine' AK.fat_mk ?q15a ?q15l ?q15c ?q15k; (case q15a => k_is); (case q15l => k_is); (case q15c => k_is); (case q15k => k_is))
    (case f16 => refine' AK.fat_mk ?q16a ?q16l ?q16c ?q16k; (case q16a => k_is); (case q16l => k_is); (case q16c => k_is); (case q16k => k_is))
    (case kn => refine' AK.sat_mk ?qkna; (case qkna => k_is))
    (case ap => refine' AK.sat_mk ?qapa; (case qapa => k_is))
    (case mo => refine' AK.iat_mk ?qmoa; (case qmoa => k_is))
    (case z1 => k_is); (case z2 => k_is); (case z3 => k_is); (case z4 => k_is); (case z5 => k_is); (case z6 => k_is); (case z7 => k_is)
    (case z8 => k_is); (case z9 => k_is); (case z10 => k_is); (case z11 => k_is); (case z12 => k_is); (case z13 => k_is); (case z14 => k_is)
