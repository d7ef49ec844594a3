import PyProof.Rows.All
import Wide.All
import OpenK.AllK
import Wide.FinOn
import HandS.ForMost
import HandS.ExcCtx
import HandS.Lambda
import HandS.Wide
import HandS.TupAny
import HandS.Style
import HandS.IsInst
import HandS.StrMore
import HandS.FStr
import HandS.Deep
import HandS.TupMul
import HandS.More
import HandS.CallSlots
import HandS.SetKeys
import HandS.SortInts
import HandS.Comp
import HandS.Dict
import HandS.Small
import HandS.Zip
import HandS.WideBits
import HandS.CallLocal
import HandS.Iter
import HandS.Set
import HandS.TupSets
import PyProof.Rows.SortShellAny
import HandS.EndBits
import HandS.Words
import HandS.DictComp
import HandS.Star
import HandS.SortRule
import HandS.Sort
import HandS.ExcInit
import HandS.Nested
import KE.KExcSuper
import HandS.ExcField
import HandS.HotCalls
import HandS.Replace
import KE.GoesEnum
import HandS.Conv
import HandS.RaiseMore
import HandS.Codes
import KE.SortData
import KE.SortKeyHeap
import KE.KSortKey
import KE.KLam
import HandS.EndTab
import KE.KNestM
import PyProof.AutoSeq1
import KE.KTupSum
import PyProof.StrLawsIn
import HandS.ReplaceDef
import HandS.ReplaceLit
import PyProof.Rows.StrOr
import KE.KIntText
import HandS.ReplaceList
import PySem.Challenge.RW_oncemail_k38_plain_there_and_back
set_option Elab.async false
set_option linter.all false
set_option maxRecDepth 100000
section
set_option Elab.async false
set_option linter.all false
set_option maxRecDepth 100000
/-! M2: data, the store, what they stand for; a def's promise by a plain function. -/
namespace M2
open PySem PySem.Spec PyProof.Rows L2
set_option autoImplicit false
abbrev St := L2.St

/-- plain data; lists and dicts stand in the store -/
inductive D where
  | non | bl (b : Bool) | int (i : Int) | str (x : Str) | tup (ds : List D) | loc (n : Nat) | fn (x : Str) | ty (n : String)
  deriving Inhabited
inductive SO where
  | lst (w : Bool) (ds : List D)
  | dic (kvs : List (Key × D))
  /-- the table of code objects at P, all of the name q -/
  | tab (P : Addr) (q : Str)
  /-- an instance of the class c, its fields -/
  | obj (c : Str) (fs : List (Str × D))
  deriving Inhabited
abbrev Sto := List SO
abbrev Nv := List (Option D)
inductive Rs (α : Type) where
  | ok (d : α) (S : Sto)
  | exc (c : Str) (fs : List (Str × D)) (S : Sto)
  | stuck
  deriving Inhabited
abbrev Res := Rs D
inductive SRes where
  | nx (e : Nv) (S : Sto)
  | rt (d : D) (S : Sto)
  | bk (e : Nv) (S : Sto)
  | ct (e : Nv) (S : Sto)
  | exc (c : Str) (fs : List (Str × D)) (e : Nv) (S : Sto)
  | stuck
  deriving Inhabited
def SO.wr : SO → Bool
  | .lst w _ => w
  | .dic _ => true
  | .tab _ _ => true
  | .obj _ _ => true
def stab : HO → Bool
  | .lst _ => false
  | .dK _ => false
  | .dT _ => false
  | .set _ _ => false
  | .ins _ _ _ => false
  | .tbl _ => false
  | _ => true
/-- what does not change stands -/
def Keep (H H' : Hp) : Prop := ∀ a o, H a = some o → stab o = true → H' a = some o
theorem Keep.refl (H : Hp) : Keep H H := fun _ _ h _ => h
theorem Keep.trans {H H1 H2 : Hp} (a : Keep H H1) (b : Keep H1 H2) : Keep H H2 := fun x o h s => b x o (a x o h s) s
theorem Keep.new {H : Hp} {p : Addr} {o : HO} (h : H p = none) : Keep H (upd H p o) := fun a u e _ => by
  rw [upd_ne (ne_of_none e h)]; exact e
theorem Keep.mut {H : Hp} {p : Addr} {o u : HO} (h : H p = some u) (hs : stab u = false) : Keep H (upd H p o) := fun a v e s => by
  have : a ≠ p := fun q => by
    subst q
    rw [h] at e
    cases e
    rw [hs] at s
    cases s
  rw [upd_ne this]; exact e
/-- the addresses so far are as they were -/
def Pre (ρ ρ' : List Addr) : Prop := ∀ (n : Nat) (a : Addr), ρ[n]? = some a → ρ'[n]? = some a
theorem Pre.refl (ρ : List Addr) : Pre ρ ρ := fun _ _ h => h
theorem Pre.trans {a b c : List Addr} (h : Pre a b) (k : Pre b c) : Pre a c := fun n x e => k n x (h n x e)
theorem Pre.app (ρ τ : List Addr) : Pre ρ (ρ ++ τ) := fun n a h => by
  rw [List.getElem?_append_left (List.getElem?_eq_some_iff.mp h).1]; exact h

section
variable (K : PySem.W.Frag) (mg : Str → Option Value)
mutual
def RV (ρ : List Addr) (H : Hp) : D → V → Prop
  | .non, v => v = .non
  | .bl b, v => v = .bl b
  | .int i, v => v = .int i
  | .str x, v => v = .str x
  | .tup ds, v => ∃ a xs, v = .ref a ∧ SqT K H a xs ∧ RVs ρ H ds xs
  | .loc n, v => ∃ a, v = .ref a ∧ ρ[n]? = some a
  | .fn x, v => ∃ f, mg x = some (.ref f) ∧ v = .ref f
  | .ty n, v => v = .ty n
def RVs (ρ : List Addr) (H : Hp) : List D → List V → Prop
  | [], vs => vs = []
  | d :: ds, vs => ∃ x xs, vs = x :: xs ∧ RV ρ H d x ∧ RVs ρ H ds xs
end
def RKs (ρ : List Addr) (H : Hp) : List (Key × D) → List (Key × V) → Prop
  | [], vs => vs = []
  | d :: ds, vs => ∃ x xs, vs = (d.1, x) :: xs ∧ RV K mg ρ H d.2 x ∧ RKs ρ H ds xs
def RFs (ρ : List Addr) (H : Hp) : List (Str × D) → List (Str × V) → Prop
  | [], vs => vs = []
  | d :: ds, vs => ∃ x xs, vs = (d.1, x) :: xs ∧ RV K mg ρ H d.2 x ∧ RFs ρ H ds xs
/-- a list that nobody writes -/
def RdL (H : Hp) (a : Addr) (xs : List V) : Prop := (∃ o, H a = some (.frz o (.lst xs))) ∨
    ∃ (o : Obj) (its : Array Value) (n : Nat), K.lookup a = some o ∧ o.cls = .type "list" ∧ o.dict = none ∧ o.data = .seq its n ∧ its.size ≤ sizeLine ∧ Vals xs its.toList
def RO (ρ : List Addr) (H : Hp) (a : Addr) : SO → Prop
  | .lst true ds => ∃ xs, H a = some (.lst xs) ∧ RVs K mg ρ H ds xs
  | .lst false ds => ∃ xs, RdL K H a xs ∧ RVs K mg ρ H ds xs
  | .dic kvs => ∃ xs, H a = some (.dK xs) ∧ RKs K mg ρ H kvs xs
  | .tab P q => a = P ∧ LamX.TabS H P q
  | .obj c fs => ∃ C dx vs, mg c = some (.ref C) ∧ H a = some (.ins C dx vs) ∧ RFs K mg ρ H fs vs
structure RS (ρ : List Addr) (H : Hp) (S : Sto) : Prop where
  len : ρ.length = S.length
  at_ : ∀ (n : Nat) (a : Addr) (o : SO), ρ[n]? = some a → S[n]? = some o → RO K mg ρ H a o
  inj : ∀ (n m : Nat) (a : Addr) (o o' : SO), ρ[n]? = some a → ρ[m]? = some a → S[n]? = some o → S[m]? = some o' → o.wr = true → o'.wr = true → n = m
/-- the slots -/
structure RE (ρ : List Addr) (H : Hp) (e : Nv) (σ : St) : Prop where
  len : e.length = σ.length
  at_ : ∀ (i : Nat) (d : D), e[i]? = some (some d) → ∃ v, σ[i]? = some (some v) ∧ RV K mg ρ H d v
end
section
variable {K : PySem.W.Frag} {mg : Str → Option Value} {ρ ρ' : List Addr} {H H' : Hp}
theorem sqT_keep {a : Addr} {xs : List V} (k : Keep H H') (h : SqT K H a xs) : SqT K H' a xs := by
  rcases h with (h | ⟨o, h⟩) | h
  · exact .inl (.inl (k _ _ h rfl))
  · exact .inl (.inr ⟨o, k _ _ h rfl⟩)
  · exact .inr h
theorem rdL_keep {a : Addr} {xs : List V} (k : Keep H H') (h : RdL K H a xs) : RdL K H' a xs := by
  rcases h with ⟨o, h⟩ | h
  · exact .inl ⟨o, k _ _ h rfl⟩
  · exact .inr h
theorem rdL_sq {a : Addr} {xs : List V} (h : RdL K H a xs) : SqL K H a xs := by
  rcases h with ⟨o, h⟩ | h
  · exact .inl (.inr ⟨o, h⟩)
  · exact .inr h
mutual
theorem RV.mono (p : Pre ρ ρ') (k : Keep H H') : ∀ (d : D) (v : V), RV K mg ρ H d v → RV K mg ρ' H' d v
  | .non, v, h => h
  | .bl _, v, h => h
  | .int _, v, h => h
  | .str _, v, h => h
  | .tup ds, v, h => by
    obtain ⟨a, xs, e, hs, hv⟩ := h
    exact ⟨a, xs, e, sqT_keep k hs, RVs.mono p k ds xs hv⟩
  | .loc n, v, h => by
    obtain ⟨a, e, q⟩ := h
    exact ⟨a, e, p _ _ q⟩
  | .fn _, v, h => h
  | .ty _, v, h => h
theorem RVs.mono (p : Pre ρ ρ') (k : Keep H H') : ∀ (ds : List D) (vs : List V), RVs K mg ρ H ds vs → RVs K mg ρ' H' ds vs
  | [], vs, h => h
  | d :: ds, vs, h => by
    obtain ⟨x, xs, e, h1, h2⟩ := h
    exact ⟨x, xs, e, RV.mono p k d x h1, RVs.mono p k ds xs h2⟩
end
theorem RKs.mono (p : Pre ρ ρ') (k : Keep H H') : ∀ (ds : List (Key × D)) (vs : List (Key × V)), RKs K mg ρ H ds vs → RKs K mg ρ' H' ds vs
  | [], vs, h => h
  | d :: ds, vs, h => by
    obtain ⟨x, xs, e, h1, h2⟩ := h
    exact ⟨x, xs, e, RV.mono p k _ x h1, RKs.mono p k ds xs h2⟩
theorem RFs.mono (p : Pre ρ ρ') (k : Keep H H') : ∀ (ds : List (Str × D)) (vs : List (Str × V)), RFs K mg ρ H ds vs → RFs K mg ρ' H' ds vs
  | [], vs, h => h
  | d :: ds, vs, h => by
    obtain ⟨x, xs, e, h1, h2⟩ := h
    exact ⟨x, xs, e, RV.mono p k _ x h1, RFs.mono p k ds xs h2⟩
theorem RE.mono {e : Nv} {σ : St} (p : Pre ρ ρ') (k : Keep H H') (h : RE K mg ρ H e σ) : RE K mg ρ' H' e σ :=
  ⟨h.len, fun i d q => let ⟨v, e1, r⟩ := h.at_ i d q; ⟨v, e1, r.mono p k⟩⟩
theorem RVs.length : ∀ {ds : List D} {vs : List V}, RVs K mg ρ H ds vs → ds.length = vs.length
  | [], vs, h => by rw [show vs = [] from h]; rfl
  | d :: ds, vs, h => by
    obtain ⟨x, xs, e, h1, h2⟩ := h
    rw [e, List.length_cons, List.length_cons, RVs.length h2]
theorem RVs.get : ∀ {ds : List D} {vs : List V} {i : Nat} {d : D}, RVs K mg ρ H ds vs → ds[i]? = some d → ∃ v, vs[i]? = some v ∧ RV K mg ρ H d v
  | [], vs, i, d, h, q => by simp at q
  | c :: ds, vs, 0, d, h, q => by
    obtain ⟨x, xs, rfl, h1, h2⟩ := h
    simp at q; subst q
    exact ⟨x, rfl, h1⟩
  | c :: ds, vs, i + 1, d, h, q => by
    obtain ⟨x, xs, rfl, h1, h2⟩ := h
    obtain ⟨v, e, r⟩ := RVs.get (i := i) h2 (by simpa using q)
    exact ⟨v, by simpa using e, r⟩
theorem RVs.set : ∀ {ds : List D} {vs : List V} (i : Nat) {d : D} {v : V}, RVs K mg ρ H ds vs → RV K mg ρ H d v → RVs K mg ρ H (ds.set i d) (vs.set i v)
  | [], vs, i, d, v, h, r => by rw [show vs = [] from h]; exact rfl
  | c :: ds, vs, 0, d, v, h, r => by
    obtain ⟨x, xs, rfl, h1, h2⟩ := h
    exact ⟨v, xs, rfl, r, h2⟩
  | c :: ds, vs, i + 1, d, v, h, r => by
    obtain ⟨x, xs, rfl, h1, h2⟩ := h
    exact ⟨x, _, rfl, h1, RVs.set i h2 r⟩
theorem RVs.append : ∀ {ds es : List D} {vs ws : List V}, RVs K mg ρ H ds vs → RVs K mg ρ H es ws → RVs K mg ρ H (ds ++ es) (vs ++ ws)
  | [], es, vs, ws, h, k => by rw [show vs = [] from h]; exact k
  | d :: ds, es, vs, ws, h, k => by
    obtain ⟨x, xs, rfl, h1, h2⟩ := h
    exact ⟨x, _, rfl, h1, RVs.append h2 k⟩
theorem RVs.one {d : D} {v : V} (h : RV K mg ρ H d v) : RVs K mg ρ H [d] [v] := ⟨v, [], rfl, h, rfl⟩
theorem RVs.take : ∀ {ds : List D} {vs : List V} (n : Nat), RVs K mg ρ H ds vs → RVs K mg ρ H (ds.take n) (vs.take n)
  | [], vs, n, h => by rw [show vs = [] from h]; simp [RVs]
  | d :: ds, vs, 0, h => by simp [RVs]
  | d :: ds, vs, n + 1, h => by
    obtain ⟨x, xs, rfl, h1, h2⟩ := h
    exact ⟨x, _, rfl, h1, RVs.take n h2⟩
theorem RVs.drop : ∀ {ds : List D} {vs : List V} (n : Nat), RVs K mg ρ H ds vs → RVs K mg ρ H (ds.drop n) (vs.drop n)
  | [], vs, n, h => by rw [show vs = [] from h]; simp [RVs]
  | d :: ds, vs, 0, h => h
  | d :: ds, vs, n + 1, h => by
    obtain ⟨x, xs, rfl, h1, h2⟩ := h
    exact RVs.drop n h2
theorem RVs.reverse : ∀ {ds : List D} {vs : List V}, RVs K mg ρ H ds vs → RVs K mg ρ H ds.reverse vs.reverse
  | [], vs, h => by rw [show vs = [] from h]; simp [RVs]
  | d :: ds, vs, h => by
    obtain ⟨x, xs, rfl, h1, h2⟩ := h
    rw [List.reverse_cons, List.reverse_cons]
    exact RVs.append (RVs.reverse h2) (RVs.one h1)
theorem RO.mono {a : Addr} {o : SO} (p : Pre ρ ρ') (k : Keep H H') (h : RO K mg ρ H a o) (hw : o.wr = true → H' a = H a) : RO K mg ρ' H' a o := by
  cases o with
  | lst w ds =>
    cases w with
    | true =>
      obtain ⟨xs, e, r⟩ := h
      exact ⟨xs, (hw rfl).trans e, RVs.mono p k _ _ r⟩
    | false =>
      obtain ⟨xs, e, r⟩ := h
      exact ⟨xs, rdL_keep k e, RVs.mono p k _ _ r⟩
  | dic kvs =>
    obtain ⟨xs, e, r⟩ := h
    exact ⟨xs, (hw rfl).trans e, RKs.mono p k _ _ r⟩
  | tab P q =>
    obtain ⟨rfl, ps, e, t, r⟩ := h
    refine ⟨rfl, ps, (hw rfl).trans e, t, fun pos cv hc => ?_⟩
    obtain ⟨c, e1, e2⟩ := r pos cv hc
    exact ⟨c, e1, k _ _ e2 rfl⟩
  | obj c fs =>
    obtain ⟨C, dx, vs, e1, e2, r⟩ := h
    exact ⟨C, dx, vs, e1, (hw rfl).trans e2, RFs.mono p k _ _ r⟩
theorem RO.some_of {a : Addr} {o : SO} (h : RO K mg ρ H a o) (hw : o.wr = true) : ∃ u, H a = some u ∧ stab u = false := by
  cases o with
  | lst w ds =>
    cases w with
    | true =>
      obtain ⟨xs, e, r⟩ := h
      exact ⟨_, e, rfl⟩
    | false => cases hw
  | dic kvs =>
    obtain ⟨xs, e, r⟩ := h
    exact ⟨_, e, rfl⟩
  | tab P q =>
    obtain ⟨rfl, ps, e, _⟩ := h
    exact ⟨_, e, rfl⟩
  | obj c fs =>
    obtain ⟨C, dx, vs, _, e, _⟩ := h
    exact ⟨_, e, rfl⟩
/-- a new object in the store -/
theorem RS.alloc {S : Sto} {p : Addr} {ho : HO} {o : SO} (h : RS K mg ρ H S) (hp : H p = none) (ho_ : RO K mg (ρ ++ [p]) (upd H p ho) p o) : RS K mg (ρ ++ [p]) (upd H p ho) (S ++ [o]) := by
  have kp : Keep H (upd H p ho) := Keep.new hp
  refine ⟨by rw [List.length_append, List.length_append, h.len]; rfl, fun n a u e1 e2 => ?_, fun n m a u u' e1 e2 e3 e4 w1 w2 => ?_⟩
  · by_cases hn : n < S.length
    · rw [List.getElem?_append_left (by rw [h.len]; exact hn)] at e1
      rw [List.getElem?_append_left hn] at e2
      refine (h.at_ n a u e1 e2).mono (Pre.app _ _) kp fun w => ?_
      obtain ⟨z, e, _⟩ := (h.at_ n a u e1 e2).some_of w
      exact upd_ne (ne_of_none e hp)
    · rw [List.getElem?_append_right (by rw [h.len]; omega)] at e1
      rw [List.getElem?_append_right (by omega)] at e2
      rw [h.len] at e1
      have : n - S.length = 0 := by
        have := (List.getElem?_eq_some_iff.mp e2).1
        simp at this; omega
      rw [this] at e1 e2
      simp at e1 e2
      subst e1; subst e2
      exact ho_
  · have new : ∀ (n : Nat) (a : Addr) (u : SO), (ρ ++ [p])[n]? = some a → (S ++ [o])[n]? = some u → u.wr = true → (n < S.length ∧ ρ[n]? = some a ∧ S[n]? = some u ∧ a ≠ p) ∨ (n = S.length ∧ a = p) := by
      intro n a u e1 e2 w
      by_cases hn : n < S.length
      · rw [List.getElem?_append_left (by rw [h.len]; exact hn)] at e1
        rw [List.getElem?_append_left hn] at e2
        obtain ⟨z, e, _⟩ := (h.at_ n a u e1 e2).some_of w
        exact .inl ⟨hn, e1, e2, ne_of_none e hp⟩
      · rw [List.getElem?_append_right (by rw [h.len]; omega)] at e1
        rw [List.getElem?_append_right (by omega)] at e2
        rw [h.len] at e1
        have : n - S.length = 0 := by
          have := (List.getElem?_eq_some_iff.mp e2).1
          simp at this; omega
        rw [this] at e1
        simp at e1
        exact .inr ⟨by omega, e1.symm⟩
    rcases new n a u e1 e3 w1 with ⟨a1, a2, a3, a4⟩ | ⟨a1, a2⟩ <;> rcases new m a u' e2 e4 w2 with ⟨b1, b2, b3, b4⟩ | ⟨b1, b2⟩
    · exact h.inj n m a u u' a2 b2 a3 b3 w1 w2
    · exact absurd b2 a4
    · exact absurd a2 b4
    · omega
/-- an object of the store changes -/
theorem RS.set {S : Sto} {n : Nat} {a : Addr} {ho : HO} {o o' : SO} (h : RS K mg ρ H S) (ha : ρ[n]? = some a) (hs : S[n]? = some o) (hw : o.wr = true) (hn : RO K mg ρ (upd H a ho) a o') (hw' : o'.wr = true) : RS K mg ρ (upd H a ho) (S.set n o') := by
  obtain ⟨z, ez, sz⟩ := (h.at_ n a o ha hs).some_of hw
  have kp : Keep H (upd H a ho) := Keep.mut ez sz
  have nl : n < S.length := (List.getElem?_eq_some_iff.mp hs).1
  refine ⟨by rw [List.length_set, h.len], fun m b u e1 e2 => ?_, fun m k b u u' e1 e2 e3 e4 w1 w2 => ?_⟩
  · by_cases hm : m = n
    · subst hm
      rw [List.getElem?_set_self nl] at e2
      rw [ha] at e1
      cases e1; cases e2
      exact hn
    · rw [List.getElem?_set_ne (Ne.symm hm)] at e2
      refine (h.at_ m b u e1 e2).mono (Pre.refl _) kp fun w => ?_
      refine upd_ne fun q => ?_
      subst q
      exact hm (h.inj m n b u o e1 ha e2 hs w hw)
  · have old : ∀ (m : Nat) (b : Addr) (u : SO), ρ[m]? = some b → (S.set n o')[m]? = some u → u.wr = true → ∃ u0, S[m]? = some u0 ∧ u0.wr = true := by
      intro m b u e1 e2 w
      by_cases hm : m = n
      · subst hm
        exact ⟨o, hs, hw⟩
      · rw [List.getElem?_set_ne (Ne.symm hm)] at e2
        exact ⟨u, e2, w⟩
    obtain ⟨u0, q1, q2⟩ := old m b u e1 e3 w1
    obtain ⟨u1, q3, q4⟩ := old k b u' e2 e4 w2
    exact h.inj m k b u0 u1 e1 e2 q1 q3 q2 q4
/-- the address of a place of the store -/
theorem RS.addr {S : Sto} {n : Nat} {o : SO} (h : RS K mg ρ H S) (hs : S[n]? = some o) : ∃ a, ρ[n]? = some a ∧ RO K mg ρ H a o := by
  have nl : n < ρ.length := by rw [h.len]; exact (List.getElem?_eq_some_iff.mp hs).1
  exact ⟨ρ[n], List.getElem?_eq_getElem nl, h.at_ n _ o (List.getElem?_eq_getElem nl) hs⟩
/-- a list of the store, to be read -/
theorem RS.list {S : Sto} {n : Nat} {w : Bool} {ds : List D} {a : Addr} (h : RS K mg ρ H S) (ha : ρ[n]? = some a) (hs : S[n]? = some (.lst w ds)) : ∃ xs, SqL K H a xs ∧ RVs K mg ρ H ds xs := by
  have q := h.at_ n a _ ha hs
  cases w with
  | true =>
    obtain ⟨xs, e, r⟩ := q
    exact ⟨xs, .inl (.inl e), r⟩
  | false =>
    obtain ⟨xs, e, r⟩ := q
    exact ⟨xs, rdL_sq e, r⟩
theorem RE.set {e : Nv} {σ : St} {d : D} {v : V} (h : RE K mg ρ H e σ) (i : Nat) (r : RV K mg ρ H d v) : RE K mg ρ H (e.set i (some d)) (σ.set i (some v)) := by
  refine ⟨by rw [List.length_set, List.length_set, h.len], fun j c q => ?_⟩
  by_cases hj : j = i
  · subst hj
    by_cases hl : j < e.length
    · rw [List.getElem?_set_self hl] at q
      cases q
      exact ⟨v, by rw [List.getElem?_set_self (by rw [← h.len]; exact hl)], r⟩
    · rw [List.getElem?_eq_none (by simpa using hl)] at q; cases q
  · rw [List.getElem?_set_ne (Ne.symm hj)] at q ⊢
    exact h.at_ j c q
theorem RE.drop {e : Nv} {σ : St} (h : RE K mg ρ H e σ) (i : Nat) : RE K mg ρ H (e.set i none) σ := by
  refine ⟨by rw [List.length_set, h.len], fun j c q => ?_⟩
  by_cases hj : j = i
  · subst hj
    by_cases hl : j < e.length
    · rw [List.getElem?_set_self hl] at q; cases q
    · rw [List.getElem?_eq_none (by simpa using hl)] at q; cases q
  · rw [List.getElem?_set_ne (Ne.symm hj)] at q
    exact h.at_ j c q
theorem RE.drop2 {e : Nv} {σ : St} (h : RE K mg ρ H e σ) (i : Nat) : RE K mg ρ H (e.set i none) (σ.set i none) := by
  refine ⟨by rw [List.length_set, List.length_set, h.len], fun j c q => ?_⟩
  by_cases hj : j = i
  · subst hj
    by_cases hl : j < e.length
    · rw [List.getElem?_set_self hl] at q; cases q
    · rw [List.getElem?_eq_none (by simpa using hl)] at q; cases q
  · rw [List.getElem?_set_ne (Ne.symm hj)] at q ⊢
    exact h.at_ j c q
end

/-! ### the judgements -/
section
variable (K : PySem.W.Frag) (mg : Str → Option Value) (W : WX)
section
variable {α β : Type} (rel : List Addr → Hp → α → β → Prop)
def GoodG (σ : St) (ρ : List Addr) (H : Hp) (r : Rs α) (Q : β → Hp → Prop) : Prop := match r with
  | .ok d S' => ∀ v H' ρ', Pre ρ ρ' → Keep H H' → RS K mg ρ' H' S' → rel ρ' H' d v → Q v H'
  | .exc c fs S' => ∀ C dd H' ρ' vs, mg c = some (.ref C) → Pre ρ ρ' → Keep H H' → RS K mg ρ' H' S' → H' dd = some (.xd vs) → RFs K mg ρ' H' fs vs → W (.ref C) (some dd) σ H'
  | .stuck => False
def tMG (m : Nv → Sto → Rs α) : St → Hp → (β → Hp → Prop) → Prop := fun σ H Q => ∃ ρ e S, RE K mg ρ H e σ ∧ RS K mg ρ H S ∧ GoodG K mg W rel σ ρ H (m e S) Q
end
abbrev Good (σ : St) (ρ : List Addr) (H : Hp) (r : Res) (Q : VK) : Prop := GoodG K mg W (RV K mg) σ ρ H r Q
/-- an expression's reading, by a function of the slots' data and the store -/
abbrev tM (m : Nv → Sto → Res) : TE := tMG K mg W (RV K mg) m
abbrev tMA (m : Nv → Sto → Rs (List D)) : TA := tMG K mg W (RVs K mg) m
def eqR {α : Type} : List Addr → Hp → α → α → Prop := fun _ _ a b => a = b
abbrev tMT (m : Nv → Sto → Rs Bool) : TT := tMG K mg W eqR m
abbrev tMO (m : Nv → Sto → Rs (Option Int)) : TO := tMG K mg W eqR m
def GoodS (ρ : List Addr) (H : Hp) (r : SRes) (Dn : Ends) : Prop := match r with
  | .nx e S' => ∀ σ' H' ρ', Pre ρ ρ' → Keep H H' → RS K mg ρ' H' S' → RE K mg ρ' H' e σ' → Dn.nx σ' H'
  | .rt d S' => ∀ v H' ρ', Pre ρ ρ' → Keep H H' → RS K mg ρ' H' S' → RV K mg ρ' H' d v → Dn.rt v H'
  | .bk e S' => ∀ σ' H' ρ', Pre ρ ρ' → Keep H H' → RS K mg ρ' H' S' → RE K mg ρ' H' e σ' → Dn.bk σ' H'
  | .ct e S' => ∀ σ' H' ρ', Pre ρ ρ' → Keep H H' → RS K mg ρ' H' S' → RE K mg ρ' H' e σ' → Dn.ct σ' H'
  | .exc c fs e S' => ∀ C dd σ' H' ρ' vs, mg c = some (.ref C) → Pre ρ ρ' → Keep H H' → RS K mg ρ' H' S' → RE K mg ρ' H' e σ' → H' dd = some (.xd vs) → RFs K mg ρ' H' fs vs → W (.ref C) (some dd) σ' H'
  | .stuck => False
def tMS (m : Nv → Sto → SRes) : TS := fun Dn σ H => ∃ ρ e S, RE K mg ρ H e σ ∧ RS K mg ρ H S ∧ GoodS K mg W ρ H (m e S) Dn
end
section
variable {K : PySem.W.Frag} {mg : Str → Option Value} {W : WX} {σ : St} {ρ ρ' : List Addr} {H H' : Hp}
section
variable {α β : Type} {rel : List Addr → Hp → α → β → Prop}
theorem GoodG.mono {r : Rs α} {Q : β → Hp → Prop} (h : GoodG K mg W rel σ ρ H r Q) (p : Pre ρ ρ') (k : Keep H H') : GoodG K mg W rel σ ρ' H' r Q := by
  cases r with
  | ok d S => exact fun v H2 ρ2 a b => h v H2 ρ2 (p.trans a) (k.trans b)
  | exc c fs S => exact fun C dd H2 ρ2 vs m a b => h C dd H2 ρ2 vs m (p.trans a) (k.trans b)
  | stuck => exact h
/-- what is had at once -/
theorem GoodG.ok {d : α} {v : β} {S : Sto} {Q : β → Hp → Prop} (h : GoodG K mg W rel σ ρ H (.ok d S) Q) (s : RS K mg ρ H S) (r : rel ρ H d v) : Q v H := h v H ρ (Pre.refl _) (Keep.refl _) s r
theorem GoodG.ok' {d : α} {v : β} {S : Sto} {Q : β → Hp → Prop} (h : GoodG K mg W rel σ ρ H (.ok d S) Q) (p : Pre ρ ρ') (k : Keep H H') (s : RS K mg ρ' H' S) (r : rel ρ' H' d v) : Q v H' := h v H' ρ' p k s r
end
theorem GoodS.mono {r : SRes} {Dn : Ends} (h : GoodS K mg W ρ H r Dn) (p : Pre ρ ρ') (k : Keep H H') : GoodS K mg W ρ' H' r Dn := by
  cases r with
  | nx e S => exact fun s2 H2 ρ2 a b => h s2 H2 ρ2 (p.trans a) (k.trans b)
  | rt d S => exact fun v H2 ρ2 a b => h v H2 ρ2 (p.trans a) (k.trans b)
  | bk e S => exact fun s2 H2 ρ2 a b => h s2 H2 ρ2 (p.trans a) (k.trans b)
  | ct e S => exact fun s2 H2 ρ2 a b => h s2 H2 ρ2 (p.trans a) (k.trans b)
  | exc c fs e S => exact fun C dd s2 H2 ρ2 vs m a b => h C dd s2 H2 ρ2 vs m (p.trans a) (k.trans b)
  | stuck => exact h
end
def Rs.bind {α β : Type} (r : Rs α) (f : α → Sto → Rs β) : Rs β := match r with
  | .ok d S => f d S
  | .exc c fs S => .exc c fs S
  | .stuck => .stuck
def Rs.bindS {α : Type} (r : Rs α) (e : Nv) (f : α → Sto → SRes) : SRes := match r with
  | .ok d S => f d S
  | .exc c fs S => .exc c fs e S
  | .stuck => .stuck
section
variable {K : PySem.W.Frag} {mg : Str → Option Value} {W : WX} {σ : St} {ρ ρ' : List Addr} {H H' : Hp} {α β γ δ : Type} {rel : List Addr → Hp → α → β → Prop} {rel2 : List Addr → Hp → γ → δ → Prop}
/-- first this, then that -/
theorem GoodG.bind {r : Rs α} {f : α → Sto → Rs γ} {Q : β → Hp → Prop} {Q2 : δ → Hp → Prop} (h : GoodG K mg W rel2 σ ρ H (r.bind f) Q2)
    (k : ∀ d S' v H' ρ', r = .ok d S' → Pre ρ ρ' → Keep H H' → RS K mg ρ' H' S' → rel ρ' H' d v → GoodG K mg W rel2 σ ρ' H' (f d S') Q2 → Q v H') : GoodG K mg W rel σ ρ H r Q := by
  cases r with
  | ok d S => exact fun v H2 ρ2 a b s q => k d S v H2 ρ2 rfl a b s q (GoodG.mono (r := f d S) h a b)
  | exc c fs S => exact h
  | stuck => exact h
theorem GoodG.bindS {r : Rs α} {f : α → Sto → SRes} {e : Nv} {Q : β → Hp → Prop} {Dn : Ends} (re : RE K mg ρ H e σ) (h : GoodS K mg W ρ H (r.bindS e f) Dn)
    (k : ∀ d S' v H' ρ', r = .ok d S' → Pre ρ ρ' → Keep H H' → RS K mg ρ' H' S' → rel ρ' H' d v → GoodS K mg W ρ' H' (f d S') Dn → Q v H') : GoodG K mg W rel σ ρ H r Q := by
  cases r with
  | ok d S => exact fun v H2 ρ2 a b s q => k d S v H2 ρ2 rfl a b s q (GoodS.mono (r := f d S) h a b)
  | exc c fs S => exact fun C dd H2 ρ2 vs m a b s hd hf => h C dd σ H2 ρ2 vs m a b s (re.mono a b) hd hf
  | stuck => exact h
end
theorem PE.imp {X : Cx} {e : Expr} {t t' : TE} (h : PE X e t) (k : ∀ σ H Q, t' σ H Q → t σ H Q) : PE X e t' := ⟨fun pins s σ H Q I q => h.run pins s σ H Q I (k _ _ _ q)⟩
theorem PT.imp {X : Cx} {e : Expr} {t t' : TT} (h : PT X e t) (k : ∀ σ H Q, t' σ H Q → t σ H Q) : PT X e t' := ⟨fun pins s σ H Q I q => h.run pins s σ H Q I (k _ _ _ q)⟩
theorem PW.imp {X : Cx} {e : Expr} {t t' : TT} (h : PW X e t) (k : ∀ σ H Q, t' σ H Q → t σ H Q) : PW X e t' := ⟨fun wh pins s σ H Q I q => h.run wh pins s σ H Q I (k _ _ _ q)⟩
theorem PA.imp {X : Cx} {e : List Expr} {t t' : TA} (h : PA X e t) (k : ∀ σ H Q, t' σ H Q → t σ H Q) : PA X e t' := ⟨fun p pins s σ H Q I q => h.run p pins s σ H Q I (k _ _ _ q)⟩
theorem PS.imp {X : Cx} {e : Stmt} {t t' : TS} (h : PS X e t) (k : ∀ D σ H, t' D σ H → t D σ H) : PS X e t' := ⟨fun pins s σ H D I q => h.run pins s σ H D I (k _ _ _ q)⟩
theorem PSs.imp {X : Cx} {e : List Stmt} {t t' : TS} (h : PSs X e t) (k : ∀ D σ H, t' D σ H → t D σ H) : PSs X e t' := ⟨fun pins s σ H D I q => h.run pins s σ H D I (k _ _ _ q)⟩
end M2
end

section
set_option Elab.async false
set_option linter.all false
set_option maxRecDepth 100000
/-! M2: operators by data. -/
namespace M2
open PySem PySem.Spec PyProof.Rows L2
set_option autoImplicit false
/-- what is reached: d at the store S -/
def Fin (K : PySem.W.Frag) (mg : Str → Option Value) (ρ : List Addr) (H : Hp) (d : D) (S : Sto) (Q : VK) : Prop := ∀ v H' ρ', Pre ρ ρ' → Keep H H' → RS K mg ρ' H' S → RV K mg ρ' H' d v → Q v H'
section
variable {K : PySem.W.Frag} {mg : Str → Option Value} {ρ ρ' : List Addr} {H H' : Hp} {d : D} {S : Sto} {Q : VK} {v : V}
theorem Fin.now (h : Fin K mg ρ H d S Q) (s : RS K mg ρ H S) (r : RV K mg ρ H d v) : Q v H := h v H ρ (Pre.refl _) (Keep.refl _) s r
/-- a new list -/
theorem Fin.lnew {ds : List D} {xs : List V} {S0 : Sto} (h : Fin K mg ρ H (.loc S0.length) (S0 ++ [.lst true ds]) Q) (s : RS K mg ρ H S0) (r : RVs K mg ρ H ds xs) {p : Addr} (hp : H p = none) : Q (.ref p) (upd H p (.lst xs)) := by
  have k := Keep.new (o := .lst xs) hp
  refine h _ _ (ρ ++ [p]) (Pre.app _ _) k (s.alloc hp ⟨xs, upd_same, RVs.mono (Pre.app _ _) k _ _ r⟩) ⟨p, rfl, ?_⟩
  rw [← s.len, List.getElem?_append_right (Nat.le_refl _)]; simp
/-- a new tuple -/
theorem Fin.tnew {ds : List D} {xs : List V} (h : Fin K mg ρ H (.tup ds) S Q) (s : RS K mg ρ H S) (r : RVs K mg ρ H ds xs) {p : Addr} (hp : H p = none) : Q (.ref p) (upd H p (.tup xs)) := by
  have k := Keep.new (o := .tup xs) hp
  refine h _ _ ρ (Pre.refl _) k ⟨s.len, fun n a o e1 e2 => (s.at_ n a o e1 e2).mono (Pre.refl _) k fun w => ?_, s.inj⟩ ⟨p, xs, rfl, .inl (.inl upd_same), RVs.mono (Pre.refl _) k _ _ r⟩
  obtain ⟨z, e, _⟩ := (s.at_ n a o e1 e2).some_of w
  exact upd_ne (ne_of_none e hp)
end
abbrev Op2 := D → D → Sto → Option (D × Sto)
abbrev Op1 := D → Sto → Option (D × Sto)
abbrev OpL := List D → Sto → Option (D × Sto)
abbrev OpM := D → List D → Sto → Option (D × Sto)
section
variable (K : PySem.W.Frag) (mg : Str → Option Value)
def rM2 (mo : Op2) : R2 := fun x y H Q => ∃ ρ S d1 d2 d3 S3, RS K mg ρ H S ∧ RV K mg ρ H d1 x ∧ RV K mg ρ H d2 y ∧ mo d1 d2 S = some (d3, S3) ∧ Fin K mg ρ H d3 S3 Q
def rM1 (mo : Op1) : V → Hp → VK → Prop := fun x H Q => ∃ ρ S d1 d3 S3, RS K mg ρ H S ∧ RV K mg ρ H d1 x ∧ mo d1 S = some (d3, S3) ∧ Fin K mg ρ H d3 S3 Q
def rML (mo : OpL) : List V → Hp → VK → Prop := fun xs H Q => ∃ ρ S ds d3 S3, RS K mg ρ H S ∧ RVs K mg ρ H ds xs ∧ mo ds S = some (d3, S3) ∧ Fin K mg ρ H d3 S3 Q
def rMM (mo : OpM) : V → List V → Hp → VK → Prop := fun x xs H Q => ∃ ρ S d ds d3 S3, RS K mg ρ H S ∧ RV K mg ρ H d x ∧ RVs K mg ρ H ds xs ∧ mo d ds S = some (d3, S3) ∧ Fin K mg ρ H d3 S3 Q
end

/-! ### + - * // % ** -/
def oAdd : Op2 := fun a b S => match a, b with
  | .int i, .int j => some (.int (i + j), S)
  | .str x, .str y => if x.length + y.length ≤ sizeLine then some (.str (x ++ y), S) else none
  | .tup xs, .tup ys => if xs.length + ys.length ≤ sizeLine then some (.tup (xs ++ ys), S) else none
  | .loc m, .loc n => match S[m]?, S[n]? with
    | some (.lst true xs), some (.lst true ys) => if xs.length + ys.length ≤ sizeLine then some (.loc S.length, S ++ [.lst true (xs ++ ys)]) else none
    | _, _ => none
  | _, _ => none
def oSub : Op2 := fun a b S => match a, b with
  | .int i, .int j => some (.int (i - j), S)
  | _, _ => none
def oMul : Op2 := fun a b S => match a, b with
  | .int i, .int j => if i.natAbs.log2 + j.natAbs.log2 < 4000000 then some (.int (i * j), S) else none
  | .str x, .int j => if 0 ≤ j ∧ j < 1000000000 ∧ x.length * j.toNat ≤ 100000 then some (.str (Txt.mul x j), S) else none
  | .loc m, .int k => match S[m]? with
    | some (.lst true xs) => if 0 ≤ k ∧ k < 1000000000 ∧ xs.length * k.toNat ≤ sizeLine then some (.loc S.length, S ++ [.lst true (List.replicate k.toNat xs).flatten]) else none
    | _ => none
  | _, _ => none
def oFdiv : Op2 := fun a b S => match a, b with
  | .int i, .int j => if 0 < j ∧ j.natAbs.log2 < 9000 then some (.int (i / j), S) else none
  | _, _ => none
def oMod : Op2 := fun a b S => match a, b with
  | .int i, .int j => if 0 < j then some (.int (i % j), S) else none
  | _, _ => none
def oPow : Op2 := fun a b S => match a, b with
  | .int i, .int j => if 0 ≤ j ∧ j ≤ 1000000 ∧ i.natAbs < 2 ^ 64 then some (.int (i ^ j.toNat), S) else none
  | _, _ => none
section
variable {X : Cx}
theorem om_add : OpR X (binaryOp .Add) (rM2 X.K X.mg oAdd) := by
  intro pins s σ H x y v u Q I rx ry ⟨ρ, S, d1, d2, d3, S3, rs, r1, r2, e, q⟩
  unfold oAdd at e
  split at e
  · cases r1; cases r2; cases e
    exact op_add pins s σ H _ _ v u Q I rx ry ⟨_, _, rfl, rfl, q.now rs rfl⟩
  · cases r1; cases r2
    split at e
    · rename_i h; cases e
      exact op_add_str pins s σ H _ _ v u Q I rx ry ⟨_, _, rfl, rfl, h, q.now rs rfl⟩
    · cases e
  · rename_i xs ys
    split at e
    · rename_i h; cases e
      obtain ⟨a, vs, rfl, sa, ra⟩ := r1
      obtain ⟨b, ws, rfl, sb, rb⟩ := r2
      have e1 := ra.length
      have e2 := rb.length
      refine op_catA pins s σ H _ _ v u Q I rx ry ⟨a, b, vs, ws, rfl, rfl, sa, sb, by omega, fun z => ?_, fun z1 z2 => ?_, fun z1 z2 p hp => q.tnew rs (ra.append rb) hp⟩
      · subst z
        have : xs = [] := List.length_eq_zero_iff.mp (by simpa using e1)
        subst this
        exact q.now rs ⟨b, ws, rfl, sb, rb⟩
      · subst z2
        have : ys = [] := List.length_eq_zero_iff.mp (by simpa using e2)
        subst this
        rw [List.append_nil] at q
        exact q.now rs ⟨a, vs, rfl, sa, ra⟩
    · cases e
  · split at e
    · rename_i h1 h2
      split at e
      · rename_i h; cases e
        obtain ⟨a, rfl, pa⟩ := r1
        obtain ⟨b, rfl, pb⟩ := r2
        obtain ⟨vs, ea, ra⟩ := rs.at_ _ _ _ pa h1
        obtain ⟨ws, eb, rb⟩ := rs.at_ _ _ _ pb h2
        have e1 := ra.length
        have e2 := rb.length
        exact op_cat pins s σ H _ _ v u Q I rx ry ⟨a, b, vs, ws, rfl, rfl, ea, eb, by omega, fun p hp => q.lnew rs (ra.append rb) hp⟩
      · cases e
    · cases e
  · cases e
theorem om_sub : OpR X (binaryOp .Sub) (rM2 X.K X.mg oSub) := by
  intro pins s σ H x y v u Q I rx ry ⟨ρ, S, d1, d2, d3, S3, rs, r1, r2, e, q⟩
  unfold oSub at e
  split at e
  · cases r1; cases r2; cases e
    exact op_sub pins s σ H _ _ v u Q I rx ry ⟨_, _, rfl, rfl, q.now rs rfl⟩
  · cases e
theorem om_fdiv : OpR X (binaryOp .FloorDiv) (rM2 X.K X.mg oFdiv) := by
  intro pins s σ H x y v u Q I rx ry ⟨ρ, S, d1, d2, d3, S3, rs, r1, r2, e, q⟩
  unfold oFdiv at e
  split at e
  · cases r1; cases r2
    split at e
    · rename_i h; cases e
      exact op_fdivW pins s σ H _ _ v u Q I rx ry ⟨_, _, rfl, rfl, h, q.now rs rfl⟩
    · cases e
  · cases e
theorem om_mod : OpR X (binaryOp .Mod) (rM2 X.K X.mg oMod) := by
  intro pins s σ H x y v u Q I rx ry ⟨ρ, S, d1, d2, d3, S3, rs, r1, r2, e, q⟩
  unfold oMod at e
  split at e
  · cases r1; cases r2
    split at e
    · rename_i h; cases e
      exact op_mod pins s σ H _ _ v u Q I rx ry ⟨_, _, rfl, rfl, h, q.now rs rfl⟩
    · cases e
  · cases e
theorem om_pow : OpR X (binaryOp .Pow) (rM2 X.K X.mg oPow) := by
  intro pins s σ H x y v u Q I rx ry ⟨ρ, S, d1, d2, d3, S3, rs, r1, r2, e, q⟩
  unfold oPow at e
  split at e
  · cases r1; cases r2
    split at e
    · rename_i h; cases e
      exact op_pow pins s σ H _ _ v u Q I rx ry ⟨_, _, rfl, rfl, h, q.now rs rfl⟩
    · cases e
  · cases e
end
end M2
end

section
set_option Elab.async false
set_option linter.all false
set_option maxRecDepth 100000
/-! M2: comparisons by data. -/
namespace M2
open PySem PySem.Spec PyProof.Rows L2
set_option autoImplicit false
/-- what data is, lists read from the store -/
def toP : Nat → Sto → D → Option PyData
  | 0, _, _ => none
  | n + 1, S, d => match d with
    | .non => some .none
    | .bl b => some (.bool b)
    | .int i => some (.int i)
    | .str x => some (.str x)
    | .tup ds => (ds.mapM (toP n S)).map .tuple
    | .loc k => match S[k]? with
      | some (.lst _ ds) => (ds.mapM (toP n S)).map .list
      | _ => none
    | _ => none
section
variable {K : PySem.W.Frag} {mg : Str → Option Value} {ρ : List Addr} {H : Hp} {S : Sto}
theorem dpAll_of {n : Nat} (ih : ∀ (d : D) (v : V) (p : PyData), RV K mg ρ H d v → toP n S d = some p → Dp K H v p) : ∀ (ds : List D) (vs : List V) (ps : List PyData), RVs K mg ρ H ds vs → ds.mapM (toP n S) = some ps → DpAll K H vs ps
  | [], vs, ps, h, e => by
    rw [show vs = [] from h]
    cases e
    exact .nil
  | d :: ds, vs, ps, h, e => by
    obtain ⟨x, xs, rfl, h1, h2⟩ := h
    rw [List.mapM_cons] at e
    cases e1 : toP n S d with
    | none => rw [e1] at e; cases e
    | some p =>
      rw [e1] at e
      cases e2 : ds.mapM (toP n S) with
      | none => rw [e2] at e; cases e
      | some ps' =>
        rw [e2] at e
        cases e
        exact .cons (ih d x p h1 e1) (dpAll_of ih ds xs ps' h2 e2)
theorem dp_of (rs : RS K mg ρ H S) : ∀ (n : Nat) (d : D) (v : V) (p : PyData), RV K mg ρ H d v → toP n S d = some p → Dp K H v p
  | 0, _, _, _, _, e => by cases e
  | n + 1, d, v, p, r, e => by
    have ih := dp_of rs n
    cases d with
    | non => cases r; cases e; exact .non
    | bl b => cases r; cases e; exact .bl b
    | int i => cases r; cases e; exact .int i
    | str x => cases r; cases e; exact .str x
    | tup ds =>
      obtain ⟨a, xs, rfl, hs, hv⟩ := r
      have e : (ds.mapM (toP n S)).map PyData.tuple = some p := e
      cases e1 : ds.mapM (toP n S) with
      | none => rw [e1] at e; cases e
      | some ps =>
        rw [e1] at e
        cases e
        exact .tup hs (dpAll_of ih ds xs ps hv e1)
    | loc k =>
      obtain ⟨a, rfl, pa⟩ := r
      have e : (match S[k]? with
        | some (.lst _ ds) => (ds.mapM (toP n S)).map PyData.list
        | _ => none) = some p := e
      cases e0 : S[k]? with
      | none => rw [e0] at e; cases e
      | some o =>
        cases o with
        | dic kvs => rw [e0] at e; cases e
        | tab P q => rw [e0] at e; cases e
        | obj c fs => rw [e0] at e; cases e
        | lst w ds =>
          rw [e0] at e
          have e : (ds.mapM (toP n S)).map PyData.list = some p := e
          cases e1 : ds.mapM (toP n S) with
          | none => rw [e1] at e; cases e
          | some ps =>
            rw [e1] at e
            cases e
            obtain ⟨xs, hx, hv⟩ := rs.list pa e0
            exact .lst hx (dpAll_of ih ds xs ps hv e1)
    | fn x => cases e
    | ty x => cases e
end
/-- a pair as data that can be compared -/
def eqD (S : Sto) (a b : D) : Option Bool := match a, b with
  | .int i, .int j => some (decide (i = j))
  | .str x, .str y => some (decide (x = y))
  | _, _ => match toP 65 S a, toP 65 S b with
    | some p, some q => if (SeqAt.shaped p && SeqAt.shaped q) = true then some (PyData.eqv p q) else none
    | _, _ => none
def oEq : Op2 := fun a b S => (eqD S a b).map fun k => (.bl k, S)
def oNe : Op2 := fun a b S => (eqD S a b).map fun k => (.bl !k, S)
/-- the items' data and the thing's -/
def inD (S : Sto) (a b : D) : Option Bool := match b with
  | .str y => match a with
    | .str x => some (!(Builtin.Str.occurrences y x 0 y.length 1).isEmpty)
    | _ => none
  | _ => match toP 65 S a, toP 65 S b with
    | some p, some (.list ds) => if (SeqAt.shaped p && SeqAt.shaped (.list ds)) = true then some (ds.any fun z => PyData.eqv z p) else none
    | some p, some (.tuple ds) => if (SeqAt.shaped p && SeqAt.shaped (.tuple ds)) = true then some (ds.any fun z => PyData.eqv z p) else none
    | _, _ => none
def oIn : Op2 := fun a b S => (inD S a b).map fun k => (.bl k, S)
def oNotIn : Op2 := fun a b S => (inD S a b).map fun k => (.bl !k, S)
def oLt : Op2 := fun a b S => match a, b with
  | .int i, .int j => some (.bl (decide (i < j)), S)
  | .str x, .str y => some (.bl (decide (x.cps.toList < y.cps.toList)), S)
  | _, _ => none
def oLe : Op2 := fun a b S => match a, b with
  | .int i, .int j => some (.bl (decide (i ≤ j)), S)
  | _, _ => none
def oGt : Op2 := fun a b S => match a, b with
  | .int i, .int j => some (.bl (decide (j < i)), S)
  | _, _ => none
def oGe : Op2 := fun a b S => match a, b with
  | .int i, .int j => some (.bl (decide (j ≤ i)), S)
  | _, _ => none
/-- is None, True, False, a type -/
def isD (a b : D) : Option Bool := match b with
  | .non => some (match a with | .non => true | _ => false)
  | .bl k => match a with
    | .bl j => some (decide (j = k))
    | .fn _ => none
    | .ty _ => none
    | _ => some false
  | .ty n => match a with
    | .ty m => some (decide (m = n))
    | _ => none
  | _ => none
def oIs : Op2 := fun a b S => (isD a b).map fun k => (.bl k, S)
def oIsNot : Op2 := fun a b S => (isD a b).map fun k => (.bl !k, S)
section
variable {X : Cx}
theorem map_some {α β : Type} {o : Option α} {f : α → β} {b : β} (h : o.map f = some b) : ∃ a, o = some a ∧ f a = b := by
  cases o with
  | none => cases h
  | some a => exact ⟨a, rfl, Option.some.inj h⟩
theorem om_eq (hu : X.A.units + 64 < cLine) : OpR X (compareOp .Eq) (rM2 X.K X.mg oEq) := by
  intro pins s σ H x y v u Q I rx ry ⟨ρ, S, d1, d2, d3, S3, rs, r1, r2, e, q⟩
  obtain ⟨k, e0, e3⟩ := map_some e
  clear e
  have e := e0
  clear e0
  cases e3
  unfold eqD at e
  split at e
  · cases r1; cases r2; cases e
    refine op_eq pins s σ H _ _ v u Q I rx ry ⟨rfl, ?_⟩
    have := q.now rs rfl
    simpa using this
  · cases r1; cases r2; cases e
    refine op_eq pins s σ H _ _ v u Q I rx ry ⟨rfl, ?_⟩
    have := q.now rs rfl
    simpa using this
  · split at e
    · rename_i p1 p2 h1 h2
      split at e
      · rename_i h; cases e
        rw [Bool.and_eq_true] at h
        exact op_eqD hu pins s σ H _ _ v u Q I rx ry ⟨p1, p2, dp_of rs _ _ _ _ r1 h1, dp_of rs _ _ _ _ r2 h2, h.1, h.2, q.now rs rfl⟩
      · cases e
    · cases e
theorem om_ne (hu : X.A.units + 64 < cLine) : OpR X (compareOp .NotEq) (rM2 X.K X.mg oNe) := by
  intro pins s σ H x y v u Q I rx ry ⟨ρ, S, d1, d2, d3, S3, rs, r1, r2, e, q⟩
  obtain ⟨k, e0, e3⟩ := map_some e
  clear e
  have e := e0
  clear e0
  cases e3
  unfold eqD at e
  split at e
  · cases r1; cases r2; cases e
    refine op_ne pins s σ H _ _ v u Q I rx ry ⟨rfl, ?_⟩
    have := q.now rs rfl
    simpa using this
  · cases r1; cases r2; cases e
    refine op_ne pins s σ H _ _ v u Q I rx ry ⟨rfl, ?_⟩
    have := q.now rs rfl
    simpa using this
  · split at e
    · rename_i p1 p2 h1 h2
      split at e
      · rename_i h; cases e
        rw [Bool.and_eq_true] at h
        exact op_neD hu pins s σ H _ _ v u Q I rx ry ⟨p1, p2, dp_of rs _ _ _ _ r1 h1, dp_of rs _ _ _ _ r2 h2, h.1, h.2, q.now rs rfl⟩
      · cases e
    · cases e
/-- x in t, t a tuple of data -/
theorem op_inDT (hu : X.A.units + 65 < cLine) {neg : Bool} : OpR X (compareOp (if neg then .NotIn else .In)) (fun x y H Q => ∃ d ds, Dp X.K H x d ∧ Dp X.K H y (.tuple ds) ∧ SeqAt.shaped d = true ∧ SeqAt.shaped (.tuple ds) = true ∧ Q (.bl (if neg then !ds.any fun z => PyData.eqv z d else ds.any fun z => PyData.eqv z d)) H) := by
  intro pins s σ H x y v u Q I rx ry h
  obtain ⟨d, ds, hd, he, sd, se, q⟩ := h
  obtain ⟨as, r1⟩ := Dp.reads I d x v hd rx
  have hxs : PyData.canLayAll0 ds = true := SeqAt.canLay_of_shaped se
  have hroom : X.A.units + 1 + min (PyData.depthAll ds) d.depth < cLine := by
    have h1 := SeqAt.depth_of_shaped sd
    have h2 : min (PyData.depthAll ds) d.depth ≤ d.depth := Nat.min_le_right _ _
    omega
  cases he with
  | tup hs ha =>
    cases ry
    obtain ⟨its, rv, pl, hlen⟩ := I.tuple hs
    obtain ⟨bs, h4⟩ := Dp.readsAll I ds _ its ha rv
    have hmap : its.map (SeqAt.readOf s.heap) = ds := SeqAt.readsAll_map ds its bs hxs h4
    have hany : its.toArray.any (fun u => PyData.eqv (SeqAt.readOf s.heap u) d) = ds.any fun z => PyData.eqv z d := by
      rw [← hmap, List.any_map]
      simp [Function.comp_def]
    have eqs := SeqAt.items_eqAt (vs := its.toArray) (A := X.A) (show ReadsAll s.heap its.toArray.toList ds bs from h4) r1 hxs (SeqAt.canLay_of_shaped sd) hroom
    cases neg with
    | true => exact SeqAt.notIn_tupleAt (fun u => PyData.eqv (SeqAt.readOf s.heap u) d) pl eqs ⟨.bl _, H, I, rfl, by rw [hany]; exact q⟩
    | false => exact SeqAt.in_tupleAt (fun u => PyData.eqv (SeqAt.readOf s.heap u) d) pl eqs ⟨.bl _, H, I, rfl, by rw [hany]; exact q⟩
theorem om_in (hu : X.A.units + 65 < cLine) : OpR X (compareOp .In) (rM2 X.K X.mg oIn) := by
  intro pins s σ H x y v u Q I rx ry ⟨ρ, S, d1, d2, d3, S3, rs, r1, r2, e, q⟩
  obtain ⟨k, e0, e3⟩ := map_some e
  clear e
  have e := e0
  clear e0
  cases e3
  unfold inD at e
  split at e
  · split at e
    · cases r1; cases r2; cases e
      exact op_in_str pins s σ H _ _ v u Q I rx ry ⟨_, _, rfl, rfl, q.now rs rfl⟩
    · cases e
  · split at e
    · rename_i h1 h2
      split at e
      · rename_i h; cases e
        rw [Bool.and_eq_true] at h
        exact op_inD hu pins s σ H _ _ v u Q I rx ry ⟨_, _, dp_of rs _ _ _ _ r1 h1, dp_of rs _ _ _ _ r2 h2, h.1, h.2, q.now rs rfl⟩
      · cases e
    · rename_i h1 h2
      split at e
      · rename_i h; cases e
        rw [Bool.and_eq_true] at h
        exact op_inDT (neg := false) hu pins s σ H _ _ v u Q I rx ry ⟨_, _, dp_of rs _ _ _ _ r1 h1, dp_of rs _ _ _ _ r2 h2, h.1, h.2, q.now rs rfl⟩
      · cases e
    · cases e
theorem om_notIn (hu : X.A.units + 65 < cLine) : OpR X (compareOp .NotIn) (rM2 X.K X.mg oNotIn) := by
  intro pins s σ H x y v u Q I rx ry ⟨ρ, S, d1, d2, d3, S3, rs, r1, r2, e, q⟩
  obtain ⟨k, e0, e3⟩ := map_some e
  clear e
  have e := e0
  clear e0
  cases e3
  unfold inD at e
  split at e
  · split at e
    · cases r1; cases r2; cases e
      exact op_notIn_str pins s σ H _ _ v u Q I rx ry ⟨_, _, rfl, rfl, q.now rs rfl⟩
    · cases e
  · split at e
    · rename_i h1 h2
      split at e
      · rename_i h; cases e
        rw [Bool.and_eq_true] at h
        exact op_notInD hu pins s σ H _ _ v u Q I rx ry ⟨_, _, dp_of rs _ _ _ _ r1 h1, dp_of rs _ _ _ _ r2 h2, h.1, h.2, q.now rs rfl⟩
      · cases e
    · rename_i h1 h2
      split at e
      · rename_i h; cases e
        rw [Bool.and_eq_true] at h
        exact op_inDT (neg := true) hu pins s σ H _ _ v u Q I rx ry ⟨_, _, dp_of rs _ _ _ _ r1 h1, dp_of rs _ _ _ _ r2 h2, h.1, h.2, q.now rs rfl⟩
      · cases e
    · cases e
theorem om_lt : OpR X (compareOp .Lt) (rM2 X.K X.mg oLt) := by
  intro pins s σ H x y v u Q I rx ry ⟨ρ, S, d1, d2, d3, S3, rs, r1, r2, e, q⟩
  unfold oLt at e
  split at e
  · cases r1; cases r2; cases e
    exact op_lt pins s σ H _ _ v u Q I rx ry ⟨_, _, rfl, rfl, q.now rs rfl⟩
  · cases r1; cases r2; cases e
    exact op_lt_str pins s σ H _ _ v u Q I rx ry ⟨_, _, rfl, rfl, q.now rs rfl⟩
  · cases e
theorem om_le : OpR X (compareOp .LtE) (rM2 X.K X.mg oLe) := by
  intro pins s σ H x y v u Q I rx ry ⟨ρ, S, d1, d2, d3, S3, rs, r1, r2, e, q⟩
  unfold oLe at e
  split at e
  · cases r1; cases r2; cases e
    exact op_le pins s σ H _ _ v u Q I rx ry ⟨_, _, rfl, rfl, q.now rs rfl⟩
  · cases e
theorem om_gt : OpR X (compareOp .Gt) (rM2 X.K X.mg oGt) := by
  intro pins s σ H x y v u Q I rx ry ⟨ρ, S, d1, d2, d3, S3, rs, r1, r2, e, q⟩
  unfold oGt at e
  split at e
  · cases r1; cases r2; cases e
    exact op_gt pins s σ H _ _ v u Q I rx ry ⟨_, _, rfl, rfl, q.now rs rfl⟩
  · cases e
theorem om_ge : OpR X (compareOp .GtE) (rM2 X.K X.mg oGe) := by
  intro pins s σ H x y v u Q I rx ry ⟨ρ, S, d1, d2, d3, S3, rs, r1, r2, e, q⟩
  unfold oGe at e
  split at e
  · cases r1; cases r2; cases e
    exact op_ge pins s σ H _ _ v u Q I rx ry ⟨_, _, rfl, rfl, q.now rs rfl⟩
  · cases e
theorem isD_run {neg : Bool} {s : Shared} {σ : St} {H : Hp} {pins : List (Addr × Obj)} {d1 d2 : D} {x y : V} {v u : Value} {ρ : List Addr} {Q : VK} {k : Bool} (I : Inv X pins σ H s) (rx : RelV x v) (ry : RelV y u)
    (r1 : RV X.K X.mg ρ H d1 x) (r2 : RV X.K X.mg ρ H d2 y) (e : isD d1 d2 = some k) (q : Q (.bl (if neg then !k else k)) H) : wpAny (model X.prog X.w) X.A (compareOp (if neg then .IsNot else .Is) v u) (EP X pins σ Q) X.xe s := by
  have go : ∀ {b : Bool}, plainIs v u = true → (v == u) = b → k = b → wpAny (model X.prog X.w) X.A (compareOp (if neg then .IsNot else .Is) v u) (EP X pins σ Q) X.xe s := fun {b} hp hb hk => by
    subst hk
    cases neg with
    | true => exact wpAny_isNot_plain hp ⟨.bl (!k), H, I, by rw [hb]; rfl, q⟩
    | false => exact wpAny_is_plain hp ⟨.bl k, H, I, by rw [hb]; rfl, q⟩
  have val : ∀ {z : Value}, (∀ b, z ≠ .bool b) → z ≠ .none → (∀ n, z ≠ .type n) → True := fun _ _ _ => trivial
  unfold isD at e
  cases d2 with
  | non =>
    cases r2; cases ry
    cases neg with
    | true =>
      refine isnot_none_gen ⟨.bl (!k), H, I, ?_, q⟩
      cases d1 <;> first
        | (cases r1; cases rx; cases e; rfl)
        | (cases r1; obtain ⟨t, rfl⟩ := rx; cases e; rfl)
        | (obtain ⟨a, xs, rfl, _⟩ := r1; cases rx; cases e; rfl)
        | (obtain ⟨a, rfl, _⟩ := r1; cases rx; cases e; rfl)
        | (obtain ⟨f, _, rfl⟩ := r1; cases rx; cases e; rfl)
    | false =>
      refine is_none_gen ⟨.bl k, H, I, ?_, q⟩
      cases d1 <;> first
        | (cases r1; cases rx; cases e; rfl)
        | (cases r1; obtain ⟨t, rfl⟩ := rx; cases e; rfl)
        | (obtain ⟨a, xs, rfl, _⟩ := r1; cases rx; cases e; rfl)
        | (obtain ⟨a, rfl, _⟩ := r1; cases rx; cases e; rfl)
        | (obtain ⟨f, _, rfl⟩ := r1; cases rx; cases e; rfl)
  | bl b =>
    cases r2; cases ry
    cases d1 <;> first
      | (cases r1; cases rx; cases e; rename_i j; exact go rfl rfl (by cases j <;> cases b <;> rfl))
      | (cases r1; cases rx; cases e; exact go rfl rfl rfl)
      | (cases r1; obtain ⟨t, rfl⟩ := rx; cases e; exact go rfl rfl rfl)
      | (obtain ⟨a, xs, rfl, _⟩ := r1; cases rx; cases e; exact go rfl rfl rfl)
      | (obtain ⟨a, rfl, _⟩ := r1; cases rx; cases e; exact go rfl rfl rfl)
      | cases e
  | ty n =>
    cases d1 <;> first
      | (cases r1; cases r2; cases rx; cases ry; cases e; exact go rfl (ty_beq _ _) rfl)
      | cases e
  | _ => cases e
theorem om_is : OpR X (compareOp .Is) (rM2 X.K X.mg oIs) := by
  intro pins s σ H x y v u Q I rx ry ⟨ρ, S, d1, d2, d3, S3, rs, r1, r2, e, q⟩
  obtain ⟨k, e0, e3⟩ := map_some e
  clear e
  have e := e0
  clear e0
  cases e3
  exact isD_run (neg := false) I rx ry r1 r2 e (q.now rs rfl)
theorem om_isNot : OpR X (compareOp .IsNot) (rM2 X.K X.mg oIsNot) := by
  intro pins s σ H x y v u Q I rx ry ⟨ρ, S, d1, d2, d3, S3, rs, r1, r2, e, q⟩
  obtain ⟨k, e0, e3⟩ := map_some e
  clear e
  have e := e0
  clear e0
  cases e3
  exact isD_run (neg := true) I rx ry r1 r2 e (q.now rs rfl)
end
end M2
end

section
set_option Elab.async false
set_option linter.all false
set_option maxRecDepth 100000
/-! M2: expressions, tests, calls. -/
namespace M2
open PySem PySem.Spec PyProof.Rows L2
set_option autoImplicit false
abbrev MV := Nv → Sto → Res
abbrev MA := Nv → Sto → Rs (List D)
abbrev MT := Nv → Sto → Rs Bool
def mVar (i : Nat) : MV := fun e S => match e[i]? with
  | some (some d) => .ok d S
  | _ => .stuck
def mC (d : D) : MV := fun _ S => .ok d S
def lift (o : Option (D × Sto)) : Res := match o with
  | some (d, S) => .ok d S
  | none => .stuck
def mBin (mo : Op2) (ma mb : MV) : MV := fun e S => (ma e S).bind fun a S1 => (mb e S1).bind fun b S2 => lift (mo a b S2)
def mUn (mo : Op1) (ma : MV) : MV := fun e S => (ma e S).bind fun a S1 => lift (mo a S1)
def aNil : MA := fun _ S => .ok [] S
def aCons (ma : MV) (mr : MA) : MA := fun e S => (ma e S).bind fun a S1 => (mr e S1).bind fun as S2 => .ok (a :: as) S2
def mL (mo : OpL) (m : MA) : MV := fun e S => (m e S).bind fun as S1 => lift (mo as S1)
def mM (mo : OpM) (mx : MV) (m : MA) : MV := fun e S => (mx e S).bind fun x S1 => (m e S1).bind fun as S2 => lift (mo x as S2)
def mTup (m : MA) : MV := fun e S => (m e S).bind fun as S1 => if as.length ≤ sizeLine then .ok (.tup as) S1 else .stuck
def mLst (m : MA) : MV := fun e S => (m e S).bind fun as S1 => if as.length ≤ sizeLine then .ok (.loc S1.length) (S1 ++ [.lst true as]) else .stuck
def mIf (t : MT) (ma mb : MV) : MV := fun e S => (t e S).bind fun k S1 => if k = true then ma e S1 else mb e S1
/-- a thing's truth -/
def truth (S : Sto) (d : D) : Option Bool := match d with
  | .non => some false
  | .bl b => some b
  | .int i => some (i != 0)
  | .str x => if x.length ≤ sizeLine then some ((x.length : Int) != 0) else none
  | .tup ds => some (!ds.isEmpty)
  | .loc n => match S[n]? with
    | some (.lst _ ds) => some (!ds.isEmpty)
    | some (.dic kvs) => some (!kvs.isEmpty)
    | _ => none
  | _ => none
def tVal (ma : MV) : MT := fun e S => (ma e S).bind fun d S1 => match truth S1 d with
  | some k => .ok k S1
  | none => .stuck
def tAnd2 (a b : MT) : MT := fun e S => (a e S).bind fun k S1 => if k = true then b e S1 else .ok false S1
def tOr2 (a b : MT) : MT := fun e S => (a e S).bind fun k S1 => if k = true then .ok true S1 else b e S1
def tNot2 (a : MT) : MT := fun e S => (a e S).bind fun k S1 => .ok (!k) S1
/-- and, or as values: the left one True or False -/
def mAnd2 (ma mb : MV) : MV := fun e S => (ma e S).bind fun a S1 => match a with
  | .bl true => mb e S1
  | .bl false => .ok (.bl false) S1
  | _ => .stuck
def mOr2 (ma mb : MV) : MV := fun e S => (ma e S).bind fun a S1 => match a with
  | .bl true => .ok (.bl true) S1
  | .bl false => mb e S1
  | _ => .stuck
def mNot (ma : MV) : MV := fun e S => (ma e S).bind fun a S1 => match a with
  | .bl k => .ok (.bl !k) S1
  | _ => .stuck
def mChain (mo mo' : Op2) (ma mb mc : MV) : MV := fun e S => (ma e S).bind fun a S1 => (mb e S1).bind fun b S2 => match mo a b S2 with
  | some (.bl true, S3) => (mc e S3).bind fun c S4 => lift (mo' b c S4)
  | some (.bl false, S3) => .ok (.bl false) S3
  | _ => .stuck
/-- a comparison's value as a test -/
def tBl (ma : MV) : MT := fun e S => (ma e S).bind fun d S1 => match d with
  | .bl k => .ok k S1
  | _ => .stuck

section
variable {X : Cx} {W : WX} {e a b c : Expr} {es : List Expr} {ma mb mc : MV} {mr : MA} {ta tb : MT} {pos : Pos}
theorem me_var {i : Nat} {x : Str} (hN : X.N[i]? = some x) (hv : Vis X.env.scope x := by first | exact Or.inl rfl | exact Or.inr (Or.inl rfl) | exact Or.inr (Or.inr rfl)) (hd : (x == ("__debug__" : Str)) = false := by decide)
    (hcd : (x == ("__classdict__" : Str)) = false := by decide) : PE X (.Name x pos) (tM X.K X.mg W (mVar i)) := by
  refine PE.imp (pe_var hN hv hd hcd) fun σ H Q ⟨ρ, e, S, re, rs, g⟩ => ?_
  unfold mVar at g
  split at g
  · rename_i d h
    obtain ⟨v, e1, r⟩ := re.at_ _ _ h
    exact ⟨v, e1, g.ok rs r⟩
  · exact g.elim
theorem me_c {t : TE} {d : D} {v : V} (h : PE X a t) (ht : t = tC v) (hr : ∀ ρ H, RV X.K X.mg ρ H d v) : PE X a (tM X.K X.mg W (mC d)) := by
  subst ht
  exact PE.imp h fun σ H Q ⟨ρ, e, S, re, rs, g⟩ => GoodG.ok g rs (hr ρ H)
theorem me_int {i : Int} {j : Nat} : PE X (.Constant (.int i) j pos) (tM X.K X.mg W (mC (.int i))) := me_c pe_int rfl fun _ _ => rfl
theorem me_str {i : Str} {j : Nat} : PE X (.Constant (.str i) j pos) (tM X.K X.mg W (mC (.str i))) := me_c pe_str rfl fun _ _ => rfl
theorem me_bl {i : Bool} {j : Nat} : PE X (.Constant (.bool i) j pos) (tM X.K X.mg W (mC (.bl i))) := me_c pe_bl rfl fun _ _ => rfl
theorem me_non {j : Nat} : PE X (.Constant .none j pos) (tM X.K X.mg W (mC .non)) := me_c pe_non rfl fun _ _ => rfl
/-- a module's def as a value; its text or number -/
theorem me_fn {x : Str} {f : Addr} (hg : Gl X x) (hm : X.mg x = some (.ref f)) (hd : (x == ("__debug__" : Str)) = false := by decide) : PE X (.Name x pos) (tM X.K X.mg W (mC (.fn x))) :=
  me_c (v := .ref f) (pe_glob (v := .ref f) hg hm rfl hd) rfl fun _ _ => ⟨f, hm, rfl⟩
theorem me_gstr {x : Str} {z : Str} {t : Tok} (hg : Gl X x) (hm : X.mg x = some (.str z t)) (hd : (x == ("__debug__" : Str)) = false := by decide) : PE X (.Name x pos) (tM X.K X.mg W (mC (.str z))) :=
  me_c (v := .str z) (pe_glob (v := .str z) hg hm ⟨t, rfl⟩ hd) rfl fun _ _ => rfl
theorem me_gint {x : Str} {z : Int} {t : Tok} (hg : Gl X x) (hm : X.mg x = some (.int z t)) (hd : (x == ("__debug__" : Str)) = false := by decide) : PE X (.Name x pos) (tM X.K X.mg W (mC (.int z))) :=
  me_c (v := .int z) (pe_glob (v := .int z) hg hm ⟨t, rfl⟩ hd) rfl fun _ _ => rfl
theorem me_ty {x : Str} {n : String} (hg : Gl X x) (hm : X.mg x = none) (hv : bootBuiltins x = some (.type n)) (hn : x ≠ "__name__" := by decide) (hd : (x == ("__debug__" : Str)) = false := by decide) : PE X (.Name x pos) (tM X.K X.mg W (mC (.ty n))) :=
  me_c (v := .ty n) (pe_bltn (v := .ty n) hg hm hv rfl hn hd) rfl fun _ _ => rfl

theorem tm_op {mo : Op2} (σ : St) (H : Hp) (Q : VK) (h : tM X.K X.mg W (mBin mo ma mb) σ H Q) : tOp (rM2 X.K X.mg mo) (tM X.K X.mg W ma) (tM X.K X.mg W mb) σ H Q := by
  obtain ⟨ρ, e, S, re, rs, g⟩ := h
  refine ⟨ρ, e, S, re, rs, GoodG.bind g fun d1 S1 x H1 ρ1 _ p1 k1 rs1 r1 g1 => ⟨ρ1, e, S1, re.mono p1 k1, rs1, GoodG.bind g1 fun d2 S2 y H2 ρ2 _ p2 k2 rs2 r2 g2 => ?_⟩⟩
  unfold lift at g2
  split at g2
  · rename_i d3 S3 e3
    exact ⟨ρ2, S2, d1, d2, d3, S3, rs2, r1.mono p2 k2, r2, e3, fun v H' ρ' p k s r => g2 v H' ρ' p k s r⟩
  · exact g2.elim
theorem me_bin {op : Operator} {mo : Op2} (ho : OpR X (binaryOp op) (rM2 X.K X.mg mo)) (ha : PE X a (tM X.K X.mg W ma)) (hb : PE X b (tM X.K X.mg W mb)) : PE X (.BinOp a op b pos) (tM X.K X.mg W (mBin mo ma mb)) := PE.imp (pe_op ho ha hb) tm_op
theorem me_cmp {op : CmpOp} {mo : Op2} (ho : OpR X (compareOp op) (rM2 X.K X.mg mo)) (ha : PE X a (tM X.K X.mg W ma)) (hb : PE X b (tM X.K X.mg W mb)) (hm : behindInMarks op b = false := by with_unfolding_all rfl) : PE X (.Compare a [op] [b] pos) (tM X.K X.mg W (mBin mo ma mb)) := PE.imp (pe_cmpR ho ha hb hm) tm_op
theorem tBl_ok {t : TE} {m : MV} (σ : St) (H : Hp) (Q : Bool → Hp → Prop) (k : ∀ Q, tM X.K X.mg W m σ H Q → t σ H Q) (h : tMT X.K X.mg W (tBl m) σ H Q) : tTest t σ H Q := by
  obtain ⟨ρ, e, S, re, rs, g⟩ := h
  refine k _ ⟨ρ, e, S, re, rs, GoodG.bind g fun d S' v H' ρ' _ p kk rs' r g' => ?_⟩
  cases d with
  | bl b =>
    cases r
    exact ⟨b, rfl, GoodG.ok g' rs' rfl⟩
  | _ => exact g'.elim
theorem mt_cmp {op : CmpOp} {mo : Op2} (ho : OpR X (compareOp op) (rM2 X.K X.mg mo)) (ha : PE X a (tM X.K X.mg W ma)) (hb : PE X b (tM X.K X.mg W mb)) (hm : behindInMarks op b = false := by with_unfolding_all rfl) : PT X (.Compare a [op] [b] pos) (tMT X.K X.mg W (tBl (mBin mo ma mb))) :=
  PT.imp (pt_cmpR ho ha hb hm) fun σ H Q h => tBl_ok σ H Q (fun Q => tm_op σ H Q) h
theorem tm_chain {mo mo' : Op2} (σ : St) (H : Hp) (Q : VK) (h : tM X.K X.mg W (mChain mo mo' ma mb mc) σ H Q) : tChain (rM2 X.K X.mg mo) (rM2 X.K X.mg mo') (tM X.K X.mg W ma) (tM X.K X.mg W mb) (tM X.K X.mg W mc) σ H Q := by
  obtain ⟨ρ, e, S, re, rs, g⟩ := h
  refine ⟨ρ, e, S, re, rs, GoodG.bind g fun d1 S1 x H1 ρ1 _ p1 k1 rs1 r1 g1 => ⟨ρ1, e, S1, re.mono p1 k1, rs1, GoodG.bind g1 fun d2 S2 y H2 ρ2 _ p2 k2 rs2 r2 g2 => ?_⟩⟩
  try dsimp only at g2
  split at g2
  · rename_i S3 e3
    refine ⟨ρ2, S2, d1, d2, _, S3, rs2, r1.mono p2 k2, r2, e3, fun v H3 ρ3 p3 k3 rs3 r3 => ?_⟩
    cases r3
    refine ⟨true, rfl, ?_⟩
    rw [if_pos rfl]
    refine ⟨ρ3, e, S3, (re.mono p1 k1).mono (p2.trans p3) (k2.trans k3), rs3, GoodG.bind (g2.mono p3 k3) fun d4 S4 w H4 ρ4 _ p4 k4 rs4 r4 g4 => ?_⟩
    unfold lift at g4
    split at g4
    · rename_i d5 S5 e5
      exact ⟨ρ4, S4, d2, d4, d5, S5, rs4, r2.mono (p3.trans p4) (k3.trans k4), r4, e5, fun v H' ρ' p k s r => g4 v H' ρ' p k s r⟩
    · exact g4.elim
  · rename_i S3 e3
    refine ⟨ρ2, S2, d1, d2, _, S3, rs2, r1.mono p2 k2, r2, e3, fun v H3 ρ3 p3 k3 rs3 r3 => ?_⟩
    cases r3
    refine ⟨false, rfl, ?_⟩
    rw [if_neg Bool.false_ne_true]
    exact GoodG.ok' g2 p3 k3 rs3 rfl
  · exact g2.elim
theorem me_chain {op op' : CmpOp} {mo mo' : Op2} (ho : OpR X (compareOp op) (rM2 X.K X.mg mo)) (ho' : OpR X (compareOp op') (rM2 X.K X.mg mo')) (ha : PE X a (tM X.K X.mg W ma)) (hb : PE X b (tM X.K X.mg W mb)) (hc : PE X c (tM X.K X.mg W mc))
    (hm : lastMarks [op, op'] [b, c] = false := by with_unfolding_all rfl) : PE X (.Compare a [op, op'] [b, c] pos) (tM X.K X.mg W (mChain mo mo' ma mb mc)) := PE.imp (pe_chain ho ho' ha hb hc hm) tm_chain
theorem mt_chain {op op' : CmpOp} {mo mo' : Op2} (ho : OpR X (compareOp op) (rM2 X.K X.mg mo)) (ho' : OpR X (compareOp op') (rM2 X.K X.mg mo')) (ha : PE X a (tM X.K X.mg W ma)) (hb : PE X b (tM X.K X.mg W mb)) (hc : PE X c (tM X.K X.mg W mc))
    (hm : lastMarks [op, op'] [b, c] = false := by with_unfolding_all rfl) : PT X (.Compare a [op, op'] [b, c] pos) (tMT X.K X.mg W (tBl (mChain mo mo' ma mb mc))) :=
  PT.imp (pt_chain ho ho' ha hb hc hm) fun σ H Q h => tBl_ok σ H Q (fun Q => tm_chain σ H Q) h
theorem me_un {op : UnaryOp} {mo : Op1} (ho : UnR X (unaryOp op) (rM1 X.K X.mg mo)) (ha : PE X a (tM X.K X.mg W ma)) : PE X (.UnaryOp op a pos) (tM X.K X.mg W (mUn mo ma)) :=
  PE.imp (pe_un ho ha) fun σ H Q ⟨ρ, e, S, re, rs, g⟩ => ⟨ρ, e, S, re, rs, GoodG.bind g fun d1 S1 x H1 ρ1 _ p1 k1 rs1 r1 g1 => by
    unfold lift at g1
    split at g1
    · rename_i d3 S3 e3
      exact ⟨ρ1, S1, d1, d3, S3, rs1, r1, e3, fun v H' ρ' p k s r => g1 v H' ρ' p k s r⟩
    · exact g1.elim⟩
def oNeg : Op1 := fun a S => match a with
  | .int i => some (.int (-i), S)
  | _ => none
theorem om_neg : UnR X (unaryOp .USub) (rM1 X.K X.mg oNeg) := by
  intro pins s σ H x v Q I rx ⟨ρ, S, d1, d3, S3, rs, r1, e, q⟩
  unfold oNeg at e
  split at e
  · cases r1; cases e
    exact un_neg pins s σ H _ v Q I rx ⟨_, rfl, q.now rs rfl⟩
  · cases e
/-! arguments, displays -/
theorem ma_nil : PA X [] (tMA X.K X.mg W aNil) := PA.imp pa_nil fun σ H Q ⟨ρ, e, S, re, rs, g⟩ => GoodG.ok g rs rfl
theorem ma_cons (ha : PE X e (tM X.K X.mg W ma)) (hr : PA X es (tMA X.K X.mg W mr)) (hs : starEach (e :: es) X.env = (false, eval e X.env) :: starEach es X.env := by rfl) : PA X (e :: es) (tMA X.K X.mg W (aCons ma mr)) :=
  PA.imp (pa_cons ha hr hs) fun σ H Q ⟨ρ, e, S, re, rs, g⟩ => ⟨ρ, e, S, re, rs, GoodG.bind g fun d1 S1 x H1 ρ1 _ p1 k1 rs1 r1 g1 => ⟨ρ1, e, S1, re.mono p1 k1, rs1, GoodG.bind g1 fun d2 S2 y H2 ρ2 _ p2 k2 rs2 r2 g2 =>
    GoodG.ok g2 rs2 ⟨x, y, rfl, r1.mono p2 k2, r2⟩⟩⟩
theorem me_tup {x1 : Nat} (h : PA X es (tMA X.K X.mg W mr)) : PE X (.Tuple es x1 pos) (tM X.K X.mg W (mTup mr)) :=
  PE.imp (pe_tup h) fun σ H Q ⟨ρ, e, S, re, rs, g⟩ => ⟨ρ, e, S, re, rs, GoodG.bind g fun ds S1 xs H1 ρ1 _ p1 k1 rs1 r1 g1 => by
    try dsimp only at g1
    split at g1
    · rename_i hz
      exact ⟨by rw [← r1.length]; exact hz, fun p hp => Fin.tnew (fun v H' ρ' p k s r => g1 v H' ρ' p k s r) rs1 r1 hp⟩
    · exact g1.elim⟩
theorem me_lst (h : PA X es (tMA X.K X.mg W mr)) : PE X (.List es pos) (tM X.K X.mg W (mLst mr)) :=
  PE.imp (pe_lst h) fun σ H Q ⟨ρ, e, S, re, rs, g⟩ => ⟨ρ, e, S, re, rs, GoodG.bind g fun ds S1 xs H1 ρ1 _ p1 k1 rs1 r1 g1 => by
    try dsimp only at g1
    split at g1
    · rename_i hz
      exact ⟨by rw [← r1.length]; exact hz, fun p hp => Fin.lnew (fun v H' ρ' p k s r => g1 v H' ρ' p k s r) rs1 r1 hp⟩
    · exact g1.elim⟩
/-! tests -/
theorem tru_of {ρ : List Addr} {H : Hp} {S : Sto} {d : D} {v : V} {k : Bool} (rs : RS X.K X.mg ρ H S) (r : RV X.K X.mg ρ H d v) (h : truth S d = some k) : TruV X.K v H k := by
  unfold truth at h
  cases d with
  | non => cases r; cases h; exact rfl
  | bl b => cases r; cases h; exact rfl
  | int i => cases r; cases h; exact rfl
  | str x =>
    cases r
    have h : (if x.length ≤ sizeLine then some ((x.length : Int) != 0) else none) = some k := h
    split at h
    · rename_i hz; cases h; exact ⟨hz, rfl⟩
    · cases h
  | tup ds =>
    obtain ⟨a, xs, rfl, hs, hv⟩ := r
    cases h
    have := hv.length
    refine .inr (.inl ⟨xs, hs, ?_⟩)
    cases ds <;> cases xs <;> simp at this ⊢
  | loc n =>
    obtain ⟨a, rfl, pa⟩ := r
    dsimp only at h
    split at h
    · rename_i w ds e0
      cases h
      obtain ⟨xs, hx, hv⟩ := rs.list pa e0
      have := hv.length
      refine .inl ⟨xs, hx, ?_⟩
      cases ds <;> cases xs <;> simp at this ⊢
    · rename_i kvs e0
      cases h
      obtain ⟨xs, hx, hv⟩ := rs.at_ _ _ _ pa e0
      refine .inr (.inr ⟨xs, hx, ?_⟩)
      cases kvs with
      | nil => rw [show xs = [] from hv]; rfl
      | cons c cs =>
        obtain ⟨y, ys, rfl, _⟩ := hv
        rfl
    · cases h
  | _ => cases h
theorem mt_val (ha : PE X a (tM X.K X.mg W ma)) (he : ∀ whole, isTrue a X.env whole = (do let v ← whole; standAt a.pos; holding [v] (truthy v)) := by exact fun _ => rfl) : PT X a (tMT X.K X.mg W (tVal ma)) :=
  PT.imp (pt_truth ha he) fun σ H Q ⟨ρ, e, S, re, rs, g⟩ => ⟨ρ, e, S, re, rs, GoodG.bind g fun d1 S1 x H1 ρ1 _ p1 k1 rs1 r1 g1 => by
    try dsimp only at g1
    split at g1
    · rename_i k hk
      exact ⟨k, tru_of rs1 r1 hk, GoodG.ok g1 rs1 rfl⟩
    · exact g1.elim⟩
variable {rest : List Expr}
theorem mw_and1 (ha : PT X a (tMT X.K X.mg W ta)) : PW X (.BoolOp .And [a] pos) (tMT X.K X.mg W ta) := pw_and1 ha
theorem mw_or1 (ha : PT X a (tMT X.K X.mg W ta)) : PW X (.BoolOp .Or [a] pos) (tMT X.K X.mg W ta) := pw_or1 ha
theorem mw_and (ha : PT X a (tMT X.K X.mg W ta)) (hb : PW X (.BoolOp .And (b :: rest) pos) (tMT X.K X.mg W tb)) : PW X (.BoolOp .And (a :: b :: rest) pos) (tMT X.K X.mg W (tAnd2 ta tb)) :=
  PW.imp (pw_and ha hb) fun σ H Q ⟨ρ, e, S, re, rs, g⟩ => ⟨ρ, e, S, re, rs, GoodG.bind g fun d1 S1 x H1 ρ1 _ p1 k1 rs1 r1 g1 => by
    cases r1
    try dsimp only at g1
    cases d1 with
    | true =>
      rw [if_pos rfl] at g1 ⊢
      exact ⟨ρ1, e, S1, re.mono p1 k1, rs1, g1⟩
    | false =>
      rw [if_neg Bool.false_ne_true] at g1 ⊢
      exact GoodG.ok g1 rs1 rfl⟩
theorem mw_or (ha : PT X a (tMT X.K X.mg W ta)) (hb : PW X (.BoolOp .Or (b :: rest) pos) (tMT X.K X.mg W tb)) : PW X (.BoolOp .Or (a :: b :: rest) pos) (tMT X.K X.mg W (tOr2 ta tb)) :=
  PW.imp (pw_or ha hb) fun σ H Q ⟨ρ, e, S, re, rs, g⟩ => ⟨ρ, e, S, re, rs, GoodG.bind g fun d1 S1 x H1 ρ1 _ p1 k1 rs1 r1 g1 => by
    cases r1
    try dsimp only at g1
    cases d1 with
    | true =>
      rw [if_pos rfl] at g1 ⊢
      exact GoodG.ok g1 rs1 rfl
    | false =>
      rw [if_neg Bool.false_ne_true] at g1 ⊢
      exact ⟨ρ1, e, S1, re.mono p1 k1, rs1, g1⟩⟩
theorem mt_w (h : PW X a (tMT X.K X.mg W ta)) : PT X a (tMT X.K X.mg W ta) := h.pt
theorem mt_not (ha : PT X a (tMT X.K X.mg W ta)) : PT X (.UnaryOp .Not a pos) (tMT X.K X.mg W (tNot2 ta)) :=
  PT.imp (pt_not ha) fun σ H Q ⟨ρ, e, S, re, rs, g⟩ => ⟨ρ, e, S, re, rs, GoodG.bind g fun d1 S1 x H1 ρ1 _ p1 k1 rs1 r1 g1 => by
    cases r1
    exact GoodG.ok g1 rs1 rfl⟩
theorem me_one {op : BoolOp} (h : PE X a (tM X.K X.mg W ma)) : PE X (.BoolOp op [a] pos) (tM X.K X.mg W ma) := pe_one h
theorem me_and (ha : PE X a (tM X.K X.mg W ma)) (hb : PE X (.BoolOp .And (b :: rest) pos) (tM X.K X.mg W mb)) : PE X (.BoolOp .And (a :: b :: rest) pos) (tM X.K X.mg W (mAnd2 ma mb)) :=
  PE.imp (pe_and ha hb) fun σ H Q ⟨ρ, e, S, re, rs, g⟩ => ⟨ρ, e, S, re, rs, GoodG.bind g fun d1 S1 x H1 ρ1 _ p1 k1 rs1 r1 g1 => by
    try dsimp only at g1
    split at g1
    · cases r1
      refine ⟨true, rfl, ?_⟩
      rw [if_pos rfl]
      exact ⟨ρ1, e, S1, re.mono p1 k1, rs1, g1⟩
    · cases r1
      refine ⟨false, rfl, ?_⟩
      rw [if_neg Bool.false_ne_true]
      exact GoodG.ok g1 rs1 rfl
    · exact g1.elim⟩
theorem me_or (ha : PE X a (tM X.K X.mg W ma)) (hb : PE X (.BoolOp .Or (b :: rest) pos) (tM X.K X.mg W mb)) : PE X (.BoolOp .Or (a :: b :: rest) pos) (tM X.K X.mg W (mOr2 ma mb)) :=
  PE.imp (pe_or ha hb) fun σ H Q ⟨ρ, e, S, re, rs, g⟩ => ⟨ρ, e, S, re, rs, GoodG.bind g fun d1 S1 x H1 ρ1 _ p1 k1 rs1 r1 g1 => by
    try dsimp only at g1
    split at g1
    · cases r1
      refine ⟨true, rfl, ?_⟩
      rw [if_pos rfl]
      exact GoodG.ok g1 rs1 rfl
    · cases r1
      refine ⟨false, rfl, ?_⟩
      rw [if_neg Bool.false_ne_true]
      exact ⟨ρ1, e, S1, re.mono p1 k1, rs1, g1⟩
    · exact g1.elim⟩
theorem me_not (ha : PE X a (tM X.K X.mg W ma)) : PE X (.UnaryOp .Not a pos) (tM X.K X.mg W (mNot ma)) :=
  PE.imp (pe_not ha) fun σ H Q ⟨ρ, e, S, re, rs, g⟩ => ⟨ρ, e, S, re, rs, GoodG.bind g fun d1 S1 x H1 ρ1 _ p1 k1 rs1 r1 g1 => by
    try dsimp only at g1
    split at g1
    · cases r1
      exact ⟨_, rfl, GoodG.ok g1 rs1 rfl⟩
    · exact g1.elim⟩
theorem me_if (hc : PT X c (tMT X.K X.mg W ta)) (ha : PE X a (tM X.K X.mg W ma)) (hb : PE X b (tM X.K X.mg W mb)) : PE X (.IfExp c a b pos) (tM X.K X.mg W (mIf ta ma mb)) :=
  PE.imp (pe_ifExp hc ha hb) fun σ H Q ⟨ρ, e, S, re, rs, g⟩ => ⟨ρ, e, S, re, rs, GoodG.bind g fun d1 S1 x H1 ρ1 _ p1 k1 rs1 r1 g1 => by
    cases r1
    try dsimp only at g1
    cases d1 with
    | true =>
      rw [if_pos rfl] at g1 ⊢
      exact ⟨ρ1, e, S1, re.mono p1 k1, rs1, g1⟩
    | false =>
      rw [if_neg Bool.false_ne_true] at g1 ⊢
      exact ⟨ρ1, e, S1, re.mono p1 k1, rs1, g1⟩⟩
/-! built-ins by values -/
theorem tm_L {mo : OpL} {m : MA} (σ : St) (H : Hp) (Q : VK) (h : tM X.K X.mg W (mL mo m) σ H Q) : tCB (rML X.K X.mg mo) (tMA X.K X.mg W m) σ H Q := by
  obtain ⟨ρ, e, S, re, rs, g⟩ := h
  refine ⟨ρ, e, S, re, rs, GoodG.bind g fun ds S1 xs H1 ρ1 _ p1 k1 rs1 r1 g1 => ?_⟩
  unfold lift at g1
  split at g1
  · rename_i d3 S3 e3
    exact ⟨ρ1, S1, ds, d3, S3, rs1, r1, e3, fun v H' ρ' p k s r => g1 v H' ρ' p k s r⟩
  · exact g1.elim
theorem me_callB {x : Str} {p : Pos} {id : String} {mo : OpL} (hc : CallR X (.builtin id) (rML X.K X.mg mo)) (hg : Gl X x) (hm : X.mg x = none) (hv : bootBuiltins x = some (.builtin id)) (ha : PA X (e :: es) (tMA X.K X.mg W mr)) (hn : x ≠ "__name__" := by decide) (hdb : (x == ("__debug__" : Str)) = false := by decide)
    (he : starEach (e :: es) X.env = (false, eval e X.env) :: starEach es X.env := by rfl) (hpl : (backTo pos (starEach es X.env)).any (·.1) = false := by rfl) : PE X (.Call (.Name x p) (e :: es) [] pos) (tM X.K X.mg W (mL mo mr)) :=
  PE.imp (pe_callB hc hg hm hv ha hn hdb he hpl) tm_L
theorem me_callTy {x : Str} {p : Pos} {T : String} {mo : OpL} (hc : CallR X (.type T) (rML X.K X.mg mo)) (hg : Gl X x) (hm : X.mg x = none) (hv : bootBuiltins x = some (.type T)) (ha : PA X (e :: es) (tMA X.K X.mg W mr)) (hn : x ≠ "__name__" := by decide) (hdb : (x == ("__debug__" : Str)) = false := by decide)
    (he : starEach (e :: es) X.env = (false, eval e X.env) :: starEach es X.env := by rfl) (hpl : (backTo pos (starEach es X.env)).any (·.1) = false := by rfl) : PE X (.Call (.Name x p) (e :: es) [] pos) (tM X.K X.mg W (mL mo mr)) :=
  PE.imp (pe_callTy hc hg hm hv ha hn hdb he hpl) tm_L
end

/-! ### own defs -/
abbrev MF := List D → Sto → Res
def E2W (E : XK) : WX := fun c d _ H => E c d H
/-- a def's promise by its function -/
def spM (K : PySem.W.Frag) (mg : Str → Option Value) (mf : MF) : Sp := fun vs H Q E => ∃ ρ S ds, RS K mg ρ H S ∧ RVs K mg ρ H ds vs ∧ Good K mg (E2W E) [] ρ H (mf ds S) Q
structure FnM (P : Program) (w : World) (K : PySem.W.Frag) (mg : Str → Option Value) (base : Heap) (x : Str) (k : Nat) (mf : MF) : Prop where
  ex : ∃ (f : Addr) (fd : FuncData) (ps : List Str), mg x = some (.ref f) ∧ PySem.W.keepIn K (.ref f) = true ∧ Binds K fd ps [] ∧ FnOk P w K mg base (L2N.CX P w) k f fd ps (spM K mg mf)
theorem FnM.mono {P : Program} {w : World} {K : PySem.W.Frag} {mg : Str → Option Value} {base : Heap} {x : Str} {j k : Nat} {mf : MF} (F : FnM P w K mg base x j mf) (h : j ≤ k) : FnM P w K mg base x k mf := by
  obtain ⟨f, fd, ps, a, b, c, d⟩ := F.ex
  exact ⟨f, fd, ps, a, b, c, d.mono h⟩
def mCall (mf : MF) (m : MA) : MV := fun e S => (m e S).bind fun ds S1 => mf ds S1
/-- a def that is called where nothing may be raised -/
def Rs.cold {α : Type} (r : Rs α) : Rs α := match r with
  | .exc _ _ _ => .stuck
  | r => r
section
variable {X : Cx} {W : WX} {e : Expr} {es : List Expr} {mr : MA} {p pos : Pos} {x : Str} {k : Nat} {mf : MF}
theorem good_E2W {σ : St} {ρ : List Addr} {H : Hp} {r : Res} {Q : VK} (g : Good X.K X.mg W σ ρ H r Q) : Good X.K X.mg (E2W (WE W σ)) [] ρ H r Q := by
  cases r with
  | ok d S => exact g
  | exc c fs S => exact g
  | stuck => exact g
theorem me_call (F : FnM X.prog X.w X.K X.mg X.base x k mf) (hr : Room k X.A) (hg : Gl X x) (tk : L2N.Takes X W) (ha : PA X (e :: es) (tMA X.K X.mg W mr)) (hdb : (x == ("__debug__" : Str)) = false := by decide) (he : starEach (e :: es) X.env = (false, eval e X.env) :: starEach es X.env := by rfl)
    (hpl : (backTo pos (starEach es X.env)).any (·.1) = false := by rfl) : PE X (.Call (.Name x p) (e :: es) [] pos) (tM X.K X.mg W (mCall mf mr)) := by
  obtain ⟨f, fd, ps, a, b, c, d⟩ := F.ex
  refine PE.imp (pe_callSD (E := WE W) d hr hg a b c .nil (fun σ => L2N.passAt tk σ) ha hdb he hpl) fun σ H Q ⟨ρ, e, S, re, rs, g⟩ => ⟨ρ, e, S, re, rs, GoodG.bind g fun ds S1 xs H1 ρ1 _ p1 k1 rs1 r1 g1 => ?_⟩
  exact ⟨ρ1, S1, ds, rs1, by rw [List.append_nil]; exact r1, good_E2W g1⟩
theorem good_cold {σ : St} {ρ : List Addr} {H : Hp} {r : Res} {Q : VK} {W' : WX} (g : Good X.K X.mg W σ ρ H r.cold Q) : Good X.K X.mg W' [] ρ H r Q := by
  cases r with
  | ok d S => exact g
  | exc c fs S => exact False.elim g
  | stuck => exact g
theorem passN {X : Cx} : Passes (L2N.CX X.prog X.w) X (fun _ _ _ => False) := fun _ _ _ _ _ _ _ h => by
  obtain ⟨_, _, _, _, _, _, _, _, _, _, _, _, z⟩ := h
  exact z.elim
/-- f() -/
theorem me_call0 (F : FnM X.prog X.w X.K X.mg X.base x k mf) (hr : Room k X.A) (hg : Gl X x) (hdb : (x == ("__debug__" : Str)) = false := by decide) : PE X (.Call (.Name x p) [] [] pos) (tM X.K X.mg W (fun _ S => (mf [] S).cold)) := by
  obtain ⟨f, fd, ps, a, b, c, d⟩ := F.ex
  refine PE.imp (pe_call0 d hr hg a b c .nil passN hdb) fun σ H Q ⟨ρ, e, S, re, rs, g⟩ => ?_
  exact ⟨ρ, S, [], rs, rfl, good_cold g⟩
/-- f(..) where nothing that is raised is taken -/
theorem me_callC (F : FnM X.prog X.w X.K X.mg X.base x k mf) (hr : Room k X.A) (hg : Gl X x) (ha : PA X (e :: es) (tMA X.K X.mg W mr)) (hdb : (x == ("__debug__" : Str)) = false := by decide) (he : starEach (e :: es) X.env = (false, eval e X.env) :: starEach es X.env := by rfl)
    (hpl : (backTo pos (starEach es X.env)).any (·.1) = false := by rfl) : PE X (.Call (.Name x p) (e :: es) [] pos) (tM X.K X.mg W (fun e S => (mr e S).bind fun ds S1 => (mf ds S1).cold)) := by
  obtain ⟨f, fd, ps, a, b, c, d⟩ := F.ex
  refine PE.imp (pe_call d hr hg a b c .nil passN ha hdb he hpl) fun σ H Q ⟨ρ, e, S, re, rs, g⟩ => ⟨ρ, e, S, re, rs, GoodG.bind g fun ds S1 xs H1 ρ1 _ p1 k1 rs1 r1 g1 => ?_⟩
  exact ⟨ρ1, S1, ds, rs1, by rw [List.append_nil]; exact r1, good_cold g1⟩
end
end M2
end

section
set_option Elab.async false
set_option linter.all false
set_option maxRecDepth 100000
/-! M2: statements, targets, loops, defs. -/
namespace M2
open PySem PySem.Spec PyProof.Rows L2
set_option autoImplicit false
abbrev MS := Nv → Sto → SRes
abbrev Tg := D → Nv → Option Nv
def sNx : MS := fun e S => .nx e S
def sSeq (a b : MS) : MS := fun e S => match a e S with
  | .nx e1 S1 => b e1 S1
  | r => r
def sExpr (ma : MV) : MS := fun e S => (ma e S).bindS e fun _ S1 => .nx e S1
def sRet (ma : MV) : MS := fun e S => (ma e S).bindS e fun d S1 => .rt d S1
def sRetN : MS := fun _ S => .rt .non S
def sBk : MS := fun e S => .bk e S
def sCt : MS := fun e S => .ct e S
def sIf (t : MT) (a b : MS) : MS := fun e S => (t e S).bindS e fun k S1 => if k = true then a e S1 else b e S1
def tgN (i : Nat) : Tg := fun d e => some (e.set i (some d))
def tgs : List Tg → List D → Nv → Option Nv
  | [], [], e => some e
  | t :: ts, d :: ds, e => (t d e).bind fun e1 => tgs ts ds e1
  | _, _, _ => none
def tgT (ts : List Tg) : Tg := fun d e => match d with
  | .tup ds => tgs ts ds e
  | _ => none
def sAsg (ma : MV) (tg : Tg) : MS := fun e S => (ma e S).bindS e fun d S1 => match tg d e with
  | some e1 => .nx e1 S1
  | none => .stuck
def sAug (i : Nat) (mo : Op2) (ma : MV) : MS := fun e S => match e[i]? with
  | some (some x) => (ma e S).bindS e fun d S1 => match mo x d S1 with
    | some (r, S2) => .nx (e.set i (some r)) S2
    | none => .stuck
  | _ => .stuck
def oAddI : Op2 := fun a b S => match a, b with
  | .int i, .int j => some (.int (i + j), S)
  | _, _ => none
/-- xs[i] = d -/
def oSet (o i d : D) (S : Sto) : Option Sto := match o, i with
  | .loc n, .int k => match S[n]? with
    | some (.lst true ds) => (ixN ds.length k).map fun j => S.set n (.lst true (ds.set j d))
    | _ => none
  | _, _ => none
/-- ma[mi] = mv -/
def sSub (mv mo_ mi : MV) : MS := fun e S => (mv e S).bindS e fun d S1 => (mo_ e S1).bindS e fun o S2 => (mi e S2).bindS e fun i S3 => match oSet o i d S3 with
  | some S4 => .nx e S4
  | none => .stuck
structure ItM where
  cnt : Nat
  at_ : Nat → Sto → Option (Option D)
def loopM (it : ItM) (tg : Tg) (body : MS) : Nat → Nat → Nv → Sto → SRes
  | 0, i, e, S => match it.at_ i S with
    | some none => .nx e S
    | _ => .stuck
  | m + 1, i, e, S => match it.at_ i S with
    | some none => .nx e S
    | some (some d) => match tg d e with
      | some e1 => match body e1 S with
        | .nx e2 S2 => loopM it tg body m (i + 1) e2 S2
        | .ct e2 S2 => loopM it tg body m (i + 1) e2 S2
        | .bk e2 S2 => .nx e2 S2
        | r => r
      | none => .stuck
    | none => .stuck
def sFor (mi : Nv → Sto → Rs ItM) (tg : Tg) (body : MS) : MS := fun e S => (mi e S).bindS e fun it S1 => loopM it tg body it.cnt 0 e S1
def whileM (t : MT) (body : MS) : Nat → Nv → Sto → SRes
  | 0, _, _ => .stuck
  | m + 1, e, S => (t e S).bindS e fun k S1 => if k = true then match body e S1 with
      | .nx e2 S2 => whileM t body m e2 S2
      | .ct e2 S2 => whileM t body m e2 S2
      | .bk e2 S2 => .nx e2 S2
      | r => r
    else .nx e S1
def sWhile (n : Nat) (t : MT) (body : MS) : MS := fun e S => whileM t body n e S
section
variable (K : PySem.W.Frag) (mg : Str → Option Value) (W : WX)
def tTg (tg : Tg) : TG := fun v σ H Q => ∃ ρ e S d e', RE K mg ρ H e σ ∧ RS K mg ρ H S ∧ RV K mg ρ H d v ∧ tg d e = some e' ∧ ∀ σ', RE K mg ρ H e' σ' → Q σ' H
def tTgs (ts : List Tg) : TGs := fun vs σ H Q => ∃ ρ e S ds e', RE K mg ρ H e σ ∧ RS K mg ρ H S ∧ RVs K mg ρ H ds vs ∧ tgs ts ds e = some e' ∧ ∀ σ', RE K mg ρ H e' σ' → Q σ' H
/-- the walk of the store stands for the walk of the heap -/
def ItOk (ρ0 : List Addr) (H0 : Hp) (it : ItM) (J : It) : Prop := ∀ i ρ H S, Pre ρ0 ρ → Keep H0 H → RS K mg ρ H S → match it.at_ i S with
  | none => True
  | some none => J.stop i H
  | some (some d) => J.go i H ∧ ∀ x H', J.yld i H x H' → Keep H H' ∧ RS K mg ρ H' S ∧ RV K mg ρ H' d x
def tMI (mi : Nv → Sto → Rs ItM) : TI := tMG K mg W (ItOk K mg) mi
end
section
variable {X : Cx} {W : WX} {a b : List Stmt} {st : Stmt} {e c : Expr} {ma mb mc : MV} {sa sb : MS} {ta : MT} {pos : Pos} {tg : Tg} {mi : Nv → Sto → Rs ItM}
theorem ms_nil : PSs X [] (tMS X.K X.mg W sNx) := PSs.imp pss_nil fun Dn σ H ⟨ρ, e, S, re, rs, g⟩ => g σ H ρ (Pre.refl _) (Keep.refl _) rs re
theorem ts_seq (Dn : Ends) (σ : St) (H : Hp) (h : tMS X.K X.mg W (sSeq sa sb) Dn σ H) : tSeq (tMS X.K X.mg W sa) (tMS X.K X.mg W sb) Dn σ H := by
  obtain ⟨ρ, e, S, re, rs, g⟩ := h
  refine ⟨ρ, e, S, re, rs, ?_⟩
  unfold sSeq at g
  cases h1 : sa e S with
  | nx e1 S1 =>
    rw [h1] at g
    exact fun s2 H2 ρ2 p k rs2 re2 => ⟨ρ2, e1, S1, re2, rs2, GoodS.mono (r := sb e1 S1) g p k⟩
  | rt d S1 => rw [h1] at g; exact g
  | bk e1 S1 => rw [h1] at g; exact g
  | ct e1 S1 => rw [h1] at g; exact g
  | exc c fs e1 S1 => rw [h1] at g; exact g
  | stuck => rw [h1] at g; exact g
theorem ms_cons (h1 : PS X st (tMS X.K X.mg W sa)) (h2 : PSs X a (tMS X.K X.mg W sb)) : PSs X (st :: a) (tMS X.K X.mg W (sSeq sa sb)) := PSs.imp (pss_cons h1 h2) ts_seq
theorem ms_one (h1 : PS X st (tMS X.K X.mg W sa)) : PSs X [st] (tMS X.K X.mg W sa) := pss_one h1
theorem ms_pass : PS X (.Pass pos) (tMS X.K X.mg W sNx) := PS.imp ps_pass fun Dn σ H ⟨ρ, e, S, re, rs, g⟩ => g σ H ρ (Pre.refl _) (Keep.refl _) rs re
theorem ms_break : PS X (.Break pos) (tMS X.K X.mg W sBk) := PS.imp ps_break fun Dn σ H ⟨ρ, e, S, re, rs, g⟩ => g σ H ρ (Pre.refl _) (Keep.refl _) rs re
theorem ms_continue : PS X (.Continue pos) (tMS X.K X.mg W sCt) := PS.imp ps_continue fun Dn σ H ⟨ρ, e, S, re, rs, g⟩ => g σ H ρ (Pre.refl _) (Keep.refl _) rs re
theorem ms_expr (he : PE X e (tM X.K X.mg W ma)) (hs : swapsWith e none pos.line X.env = pure false := by rfl) : PS X (.Expr e pos) (tMS X.K X.mg W (sExpr ma)) :=
  PS.imp (ps_expr he hs) fun Dn σ H ⟨ρ, e, S, re, rs, g⟩ => ⟨ρ, e, S, re, rs, GoodG.bindS re g fun d S1 v H1 ρ1 _ p1 k1 rs1 r1 g1 => g1 σ H1 ρ1 (Pre.refl _) (Keep.refl _) rs1 (re.mono p1 k1)⟩
theorem ms_ret (he : PE X e (tM X.K X.mg W ma)) : PS X (.Return (some e) pos) (tMS X.K X.mg W (sRet ma)) :=
  PS.imp (ps_ret he) fun Dn σ H ⟨ρ, e, S, re, rs, g⟩ => ⟨ρ, e, S, re, rs, GoodG.bindS re g fun d S1 v H1 ρ1 _ p1 k1 rs1 r1 g1 => g1 v H1 ρ1 (Pre.refl _) (Keep.refl _) rs1 r1⟩
theorem ms_retN : PS X (.Return none pos) (tMS X.K X.mg W sRetN) := PS.imp ps_retN fun Dn σ H ⟨ρ, e, S, re, rs, g⟩ => g _ H ρ (Pre.refl _) (Keep.refl _) rs rfl
theorem ms_if (hc : PT X c (tMT X.K X.mg W ta)) (ha : PSs X a (tMS X.K X.mg W sa)) (hb : PSs X b (tMS X.K X.mg W sb)) : PS X (.If c a b pos) (tMS X.K X.mg W (sIf ta sa sb)) :=
  PS.imp (ps_if hc ha hb) fun Dn σ H ⟨ρ, e, S, re, rs, g⟩ => ⟨ρ, e, S, re, rs, GoodG.bindS re g fun d1 S1 x H1 ρ1 _ p1 k1 rs1 r1 g1 => by
    cases r1
    try dsimp only at g1
    cases d1 with
    | true =>
      rw [if_pos rfl] at g1 ⊢
      exact ⟨ρ1, e, S1, re.mono p1 k1, rs1, g1⟩
    | false =>
      rw [if_neg Bool.false_ne_true] at g1 ⊢
      exact ⟨ρ1, e, S1, re.mono p1 k1, rs1, g1⟩⟩
/-! targets -/
theorem mg_name {i : Nat} {x : Str} (hN : X.N.Nodup) (hi : X.N[i]? = some x) (hx : Loc X.env.scope x) (hf : X.fn x = true ∨ X.env.scope.names.lookup x = some .local := by first | exact .inl rfl | exact .inr rfl | assumption) : PG X (.Name x pos) (tTg X.K X.mg (tgN i)) := by
  refine ⟨fun pins s σ H v u Q I r h => (pg_name (i := i) hN hi hx hf).run pins s σ H v u Q I r ?_⟩
  obtain ⟨ρ, e, S, d, e', re, rs, rv, h, q⟩ := h
  cases h
  exact q _ (re.set i rv)
theorem mgs_nil : PGs X [] (tTgs X.K X.mg []) := by
  refine ⟨fun pins s σ H vs us Q I r h => pgs_nil.run pins s σ H vs us Q I r ?_⟩
  obtain ⟨ρ, e, S, ds, e', re, rs, rv, h, q⟩ := h
  cases ds with
  | nil =>
    cases h
    exact ⟨rv, q _ re⟩
  | cons d ds => cases h
theorem mgs_cons {es : List Expr} {ts : List Tg} (h1 : PG X e (tTg X.K X.mg tg)) (h2 : PGs X es (tTgs X.K X.mg ts))
    (hs : (assignEach (e :: es) X.env).map (·.2) = assign e X.env :: (assignEach es X.env).map (·.2) := by rfl) : PGs X (e :: es) (tTgs X.K X.mg (tg :: ts)) := by
  refine ⟨fun pins s σ H vs us Q I r h => (pgs_cons h1 h2 hs).run pins s σ H vs us Q I r ?_⟩
  obtain ⟨ρ, e, S, ds, e', re, rs, rv, h, q⟩ := h
  cases ds with
  | nil => cases h
  | cons d ds =>
    obtain ⟨x, xs, rfl, r1, r2⟩ := rv
    have h : (tg d e).bind (fun e1 => tgs ts ds e1) = some e' := h
    cases h0 : tg d e with
    | none => rw [h0] at h; cases h
    | some e1 =>
      rw [h0] at h
      exact ⟨x, xs, rfl, ρ, e, S, d, e1, re, rs, r1, h0, fun σ1 re1 => ⟨ρ, e1, S, ds, e', re1, rs, r2, h, q⟩⟩
theorem mg_tup {es : List Expr} {k : Nat} {ts : List Tg} {n : Nat} (hc : X.calm = true) (h : PGs X es (tTgs X.K X.mg ts))
    (hn : (assignEach es X.env).length = n := by rfl) (hl : ts.length = n := by rfl) (hst : (assignEach es X.env).findIdx? (·.1) = none := by rfl) : PG X (.Tuple es k pos) (tTg X.K X.mg (tgT ts)) := by
  have tl : ∀ {ts : List Tg} {ds : List D} {e e' : Nv}, tgs ts ds e = some e' → ds.length = ts.length := by
    intro ts
    induction ts with
    | nil => intro ds e e' h; cases ds <;> first | rfl | cases h
    | cons t ts ih =>
      intro ds e e' h
      cases ds with
      | nil => cases h
      | cons d ds =>
        have h : (t d e).bind (fun e1 => tgs ts ds e1) = some e' := h
        cases h0 : t d e with
        | none => rw [h0] at h; cases h
        | some e1 =>
          rw [h0] at h
          rw [List.length_cons, List.length_cons, ih h]
  refine ⟨fun pins s σ H v u Q I r h0 => (pg_tup hc h hn hst).run pins s σ H v u Q I r ?_⟩
  obtain ⟨ρ, e, S, d, e', re, rs, rv, h1, q⟩ := h0
  unfold tgT at h1
  split at h1
  · rename_i ds
    obtain ⟨a, xs, rfl, sq, rv⟩ := rv
    exact ⟨a, xs, rfl, sq, by rw [← rv.length, tl h1, hl], ρ, e, S, ds, e', re, rs, rv, h1, q⟩
  · cases h1
theorem ms_asg {t : Expr} (he : PE X e (tM X.K X.mg W ma)) (hg : PG X t (tTg X.K X.mg tg)) (hs : swapsWithSole [t] e pos.line X.env = pure false := by rfl) (hw : swappedStores [t] e X.env = pure none := by rfl)
    (h1 : (assignEach [t] X.env).map (·.2) = [assign t X.env] := by rfl) : PS X (.Assign [t] e pos) (tMS X.K X.mg W (sAsg ma tg)) :=
  PS.imp (ps_asg he hg hs hw h1) fun Dn σ H ⟨ρ, e, S, re, rs, g⟩ => ⟨ρ, e, S, re, rs, GoodG.bindS re g fun d S1 v H1 ρ1 _ p1 k1 rs1 r1 g1 => by
    try dsimp only at g1
    split at g1
    · rename_i e1 h
      exact ⟨ρ1, e, S1, d, e1, re.mono p1 k1, rs1, r1, h, fun σ' re' => g1 σ' H1 ρ1 (Pre.refl _) (Keep.refl _) rs1 re'⟩
    · exact g1.elim⟩
theorem ms_set {i : Nat} {x : Str} {pos' : Pos} (hN : X.N.Nodup) (hi : X.N[i]? = some x) (hx : Loc X.env.scope x) (he : PE X e (tM X.K X.mg W ma)) (hs : swapsWith e (some (.Name x pos')) pos.line X.env = pure false := by rfl) (hf : X.fn x = true ∨ X.env.scope.names.lookup x = some .local := by first | exact .inl rfl | exact .inr rfl | assumption) :
    PS X (.Assign [.Name x pos'] e pos) (tMS X.K X.mg W (sAsg ma (tgN i))) :=
  PS.imp (ps_set (i := i) hN hi hx he hs hf) fun Dn σ H ⟨ρ, e, S, re, rs, g⟩ => ⟨ρ, e, S, re, rs, GoodG.bindS re g fun d S1 v H1 ρ1 _ p1 k1 rs1 r1 g1 =>
    g1 _ H1 ρ1 (Pre.refl _) (Keep.refl _) rs1 ((re.mono p1 k1).set i r1)⟩
theorem ms_sub {o i : Expr} {p2 : Pos} (he : PE X e (tM X.K X.mg W ma)) (ho : PE X o (tM X.K X.mg W mb)) (hi : PE X i (tM X.K X.mg W mc))
    (ha : ∀ v, assign (.Subscript o i p2) X.env v = (do
      let ov ← holding [v] (eval o X.env)
      let iv ← holding [v, ov] (eval i X.env)
      standAt p2
      holding [v, ov, iv] (setItem ov iv v)
      release [v, ov, iv] []) := by intro _; rfl) (hs : swapsWithSole [.Subscript o i p2] e pos.line X.env = pure false := by rfl) (hw : swappedStores [.Subscript o i p2] e X.env = pure none := by rfl)
    (h1 : (assignEach [.Subscript o i p2] X.env).map (·.2) = [assign (.Subscript o i p2) X.env] := by rfl) : PS X (.Assign [.Subscript o i p2] e pos) (tMS X.K X.mg W (sSub ma mb mc)) :=
  PS.imp (ps_asg he (pg_sub ho hi set_list ha) hs hw h1) fun Dn σ H ⟨ρ, e, S, re, rs, g⟩ => ⟨ρ, e, S, re, rs, GoodG.bindS re g fun d S1 v H1 ρ1 _ p1 k1 rs1 r1 g1 =>
    ⟨ρ1, e, S1, re.mono p1 k1, rs1, GoodG.bindS (re.mono p1 k1) g1 fun o S2 x H2 ρ2 _ p2 k2 rs2 r2 g2 =>
    ⟨ρ2, e, S2, (re.mono p1 k1).mono p2 k2, rs2, GoodG.bindS ((re.mono p1 k1).mono p2 k2) g2 fun i S3 y H3 ρ3 _ p3 k3 rs3 r3 g3 => by
      try dsimp only at g3
      have r1' := r1.mono (p2.trans p3) (k2.trans k3)
      have r2' := r2.mono p3 k3
      split at g3
      · rename_i S4 h
        unfold oSet at h
        split at h
        · rename_i n kz
          split at h
          · rename_i ds e0
            obtain ⟨j, hj, hS⟩ := map_some h
            subst hS
            obtain ⟨a, rfl, pa⟩ := r2'
            cases r3
            obtain ⟨xs, ea, ra⟩ := rs3.at_ _ _ _ pa e0
            have kp : Keep H3 (upd H3 a (.lst (xs.set j v))) := Keep.mut ea rfl
            refine ⟨a, xs, _, j, rfl, rfl, ea, by rw [← ra.length]; exact hj, ?_⟩
            exact g3 σ _ ρ3 (Pre.refl _) kp (rs3.set pa e0 rfl ⟨_, upd_same, RVs.mono (Pre.refl _) kp _ _ (ra.set j r1')⟩ rfl) (((re.mono p1 k1).mono (p2.trans p3) (k2.trans k3)).mono (Pre.refl _) kp)
          · cases h
        · cases h
      · exact g3.elim⟩⟩⟩
/-- op= by data -/
def PIpM (X : Cx) (op : Operator) (mo : Op2) : Prop := PIp X op (fun x y H Q => rM2 X.K X.mg mo x y H Q)
theorem ms_aug {i : Nat} {x : Str} {op : Operator} {mo : Op2} {pos' : Pos} (hN : X.N.Nodup) (hi : X.N[i]? = some x) (hx : Loc X.env.scope x) (he : PE X e (tM X.K X.mg W ma)) (ho : PIpM X op mo) (hf : X.fn x = true ∨ X.env.scope.names.lookup x = some .local := by first | exact .inl rfl | exact .inr rfl | assumption) :
    PS X (.AugAssign (.Name x pos') op e pos) (tMS X.K X.mg W (sAug i mo ma)) :=
  PS.imp (ps_aug hN hi hx he ho hf) fun Dn σ H ⟨ρ, e, S, re, rs, g⟩ => by
    unfold sAug at g
    split at g
    · rename_i d h
      obtain ⟨v, e1, r⟩ := re.at_ _ _ h
      refine ⟨v, e1, ρ, e, S, re, rs, GoodG.bindS re g fun d2 S1 v2 H1 ρ1 _ p1 k1 rs1 r1 g1 => ?_⟩
      try dsimp only at g1
      split at g1
      · rename_i d3 S2 h2
        exact ⟨ρ1, S1, d, d2, d3, S2, rs1, r.mono p1 k1, r1, h2, fun v' H' ρ' p k rs' r' => g1 _ H' ρ' p k rs' (((re.mono p1 k1).mono p k).set i r')⟩
      · exact g1.elim
    · exact g.elim
theorem ip_addM : PIpM X .Add oAddI := by
  intro pins s σ H x y v u Q I rx ry ⟨ρ, S, d1, d2, d3, S3, rs, r1, r2, e, q⟩
  unfold oAddI at e
  split at e
  · cases r1; cases r2; cases e
    exact ip_add pins s σ H _ _ v u Q I rx ry ⟨_, _, rfl, rfl, q.now rs rfl⟩
  · cases e
/-! loops -/
theorem ms_for {tgt iter : Expr} {body : List Stmt} (hp : PassesOwn (model X.prog X.w) X.A X.env X.xe) (hc : X.calm = true) (hi : PI X tgt iter (tMI X.K X.mg W mi)) (hg : PG X tgt (tTg X.K X.mg tg)) (hb : PSs X body (tMS X.K X.mg W sb)) (hs : ∀ x, foldedSetIterable iter X.env x = pure x := by intro _; rfl) :
    PS X (.For tgt iter body [] pos) (tMS X.K X.mg W (sFor mi tg sb)) := by
  refine PS.imp (ps_for hp hc hi hg hb hs) fun Dn σ H ⟨ρ, e, S, re, rs, g⟩ => ⟨ρ, e, S, re, rs, GoodG.bindS re g fun it S1 J H1 ρ1 _ p1 k1 rs1 r1 g1 => ?_⟩
  refine ⟨fun i m σ H => ∃ ρ e S, RE X.K X.mg ρ H e σ ∧ RS X.K X.mg ρ H S ∧ Pre ρ1 ρ ∧ Keep H1 H ∧ GoodS X.K X.mg W ρ H (loopM it tg sb m i e S) Dn, ⟨it.cnt, ρ1, e, S1, re.mono p1 k1, rs1, Pre.refl _, Keep.refl _, g1⟩, ?_⟩
  rintro i m σ2 H2 ⟨ρ2, e2, S2, re2, rs2, p2, k2, g2⟩
  have io := r1 i ρ2 H2 S2 p2 k2 rs2
  have stop : it.at_ i S2 = some none → GoodS X.K X.mg W ρ2 H2 (.nx e2 S2) Dn → J.stop i H2 ∧ Dn.nx σ2 H2 := fun h g => by
    rw [h] at io
    exact ⟨io, g σ2 H2 ρ2 (Pre.refl _) (Keep.refl _) rs2 re2⟩
  cases m with
  | zero =>
    unfold loopM at g2
    split at g2
    · rename_i h
      exact .inl (stop h g2)
    · exact g2.elim
  | succ m =>
    unfold loopM at g2
    split at g2
    · rename_i h
      exact .inl (stop h g2)
    · rename_i d h
      rw [h] at io
      obtain ⟨go, yl⟩ := io
      split at g2
      · rename_i e3 h3
        refine .inr ⟨go, fun σ' H' => ∃ ρ e S, RE X.K X.mg ρ H' e σ' ∧ RS X.K X.mg ρ H' S ∧ Pre ρ1 ρ ∧ Keep H1 H' ∧ GoodS X.K X.mg W ρ H' (loopM it tg sb m (i + 1) e S) Dn, fun σ' H' hN => ⟨m, Nat.lt_succ_self _, hN⟩, fun x H' y => ?_⟩
        obtain ⟨ky, rs3, rx⟩ := yl x H' y
        refine ⟨ρ2, e2, S2, d, e3, re2.mono (Pre.refl _) ky, rs3, rx, h3, fun σ3 re3 => ⟨ρ2, e3, S2, re3, rs3, ?_⟩⟩
        have g3 := GoodS.mono g2 (Pre.refl ρ2) ky
        cases h4 : sb e3 S2 with
        | nx e4 S4 =>
          rw [h4] at g3
          exact fun σ5 H5 ρ5 p5 k5 rs5 re5 => ⟨ρ5, e4, S4, re5, rs5, p2.trans p5, (k2.trans ky).trans k5, GoodS.mono (r := loopM it tg sb m (i + 1) e4 S4) g3 p5 k5⟩
        | ct e4 S4 =>
          rw [h4] at g3
          exact fun σ5 H5 ρ5 p5 k5 rs5 re5 => ⟨ρ5, e4, S4, re5, rs5, p2.trans p5, (k2.trans ky).trans k5, GoodS.mono (r := loopM it tg sb m (i + 1) e4 S4) g3 p5 k5⟩
        | bk e4 S4 => rw [h4] at g3; exact g3
        | rt d4 S4 => rw [h4] at g3; exact g3
        | exc c fs e4 S4 => rw [h4] at g3; exact g3
        | stuck => rw [h4] at g3; exact g3
      · exact g2.elim
    · exact g2.elim
theorem ms_while {body : List Stmt} {n : Nat} (hp : PassesOwn (model X.prog X.w) X.A X.env X.xe) (hc : PT X c (tMT X.K X.mg W ta)) (hb : PSs X body (tMS X.K X.mg W sb)) : PS X (.While c body [] pos) (tMS X.K X.mg W (sWhile n ta sb)) := by
  refine PS.imp (ps_while hp hc hb) fun Dn σ H ⟨ρ, e, S, re, rs, g⟩ => ?_
  refine ⟨fun m σ H => ∃ ρ e S, RE X.K X.mg ρ H e σ ∧ RS X.K X.mg ρ H S ∧ GoodS X.K X.mg W ρ H (whileM ta sb m e S) Dn, ⟨n, ρ, e, S, re, rs, g⟩, ?_⟩
  rintro m σ2 H2 ⟨ρ2, e2, S2, re2, rs2, g2⟩
  cases m with
  | zero => exact g2.elim
  | succ m =>
    refine ⟨ρ2, e2, S2, re2, rs2, GoodG.bindS re2 g2 fun k S3 b H3 ρ3 _ p3 k3 rs3 r3 g3 => ?_⟩
    cases r3
    try dsimp only at g3
    cases k with
    | false =>
      rw [if_neg Bool.false_ne_true] at g3 ⊢
      exact g3 σ2 H3 ρ3 (Pre.refl _) (Keep.refl _) rs3 (re2.mono p3 k3)
    | true =>
      rw [if_pos rfl] at g3 ⊢
      refine ⟨fun σ' H' => ∃ ρ e S, RE X.K X.mg ρ H' e σ' ∧ RS X.K X.mg ρ H' S ∧ GoodS X.K X.mg W ρ H' (whileM ta sb m e S) Dn, fun σ' H' hN => ⟨m, Nat.lt_succ_self _, hN⟩, ρ3, e2, S3, re2.mono p3 k3, rs3, ?_⟩
      cases h4 : sb e2 S3 with
      | nx e4 S4 =>
        rw [h4] at g3
        exact fun σ5 H5 ρ5 p5 k5 rs5 re5 => ⟨ρ5, e4, S4, re5, rs5, GoodS.mono (r := whileM ta sb m e4 S4) g3 p5 k5⟩
      | ct e4 S4 =>
        rw [h4] at g3
        exact fun σ5 H5 ρ5 p5 k5 rs5 re5 => ⟨ρ5, e4, S4, re5, rs5, GoodS.mono (r := whileM ta sb m e4 S4) g3 p5 k5⟩
      | bk e4 S4 => rw [h4] at g3; exact g3
      | rt d4 S4 => rw [h4] at g3; exact g3
      | exc c fs e4 S4 => rw [h4] at g3; exact g3
      | stuck => rw [h4] at g3; exact g3
/-! what is walked -/
def itL (n : Nat) (cnt : Nat) : ItM := ⟨cnt, fun i S => match S[n]? with
  | some (.lst _ ds) => some ds[i]?
  | _ => none⟩
def itD (ds : List D) : ItM := ⟨ds.length, fun i _ => some ds[i]?⟩
def itR (lo c : Int) (n : Nat) : ItM := ⟨n, fun i _ => if i < n then some (some (.int (lo + i * c))) else some none⟩
def itS (x : Str) : ItM := ⟨x.cps.size, fun i _ => some (x.cps[i]?.map fun c => .str ⟨#[c]⟩)⟩
/-- a list, a tuple or a text -/
def iAny (ma : MV) : Nv → Sto → Rs ItM := fun e S => (ma e S).bind fun d S1 => match d with
  | .loc n => match S1[n]? with
    | some (.lst _ ds) => .ok (itL n ds.length) S1
    | _ => .stuck
  | .tup ds => .ok (itD ds) S1
  | .str x => .ok (itS x) S1
  | _ => .stuck
theorem itL_ok {ρ : List Addr} {H : Hp} {n cnt : Nat} {a : Addr} (pa : ρ[n]? = some a) : ItOk X.K X.mg ρ H (itL n cnt) (Itl X.K a) := by
  intro i ρ' H' S p k rs
  show match (match S[n]? with
    | some (.lst _ ds) => some ds[i]?
    | _ => none) with
    | none => True
    | some none => (Itl X.K a).stop i H'
    | some (some d) => (Itl X.K a).go i H' ∧ ∀ x H'', (Itl X.K a).yld i H' x H'' → Keep H' H'' ∧ RS X.K X.mg ρ' H'' S ∧ RV X.K X.mg ρ' H'' d x
  cases e0 : S[n]? with
  | none => trivial
  | some o =>
    cases o with
    | dic _ => trivial
    | tab _ _ => trivial
    | obj _ _ => trivial
    | lst w ds =>
      obtain ⟨xs, hx, hv⟩ := rs.list (p _ _ pa) e0
      show match some ds[i]? with
        | none => True
        | some none => (Itl X.K a).stop i H'
        | some (some d) => (Itl X.K a).go i H' ∧ ∀ x H'', (Itl X.K a).yld i H' x H'' → Keep H' H'' ∧ RS X.K X.mg ρ' H'' S ∧ RV X.K X.mg ρ' H'' d x
      cases e1 : ds[i]? with
      | none => exact ⟨xs, hx, by rw [← hv.length]; exact List.getElem?_eq_none_iff.mp e1⟩
      | some d =>
        obtain ⟨v, ev, rv⟩ := hv.get e1
        refine ⟨⟨xs, v, hx, ev⟩, fun x H'' ⟨e, y⟩ => ?_⟩
        subst e
        have := (y xs hx).symm.trans ev
        cases this
        exact ⟨Keep.refl _, rs, rv⟩
theorem itD_ok {ρ : List Addr} {H : Hp} {ds : List D} {xs : List V} {a : Addr} (hx : SqT X.K H a xs) (hv : RVs X.K X.mg ρ H ds xs) : ItOk X.K X.mg ρ H (itD ds) (Itt X.K a) := by
  intro i ρ' H' S p k rs
  have hx' := sqT_keep k hx
  have hv' := RVs.mono p k _ _ hv
  show match some ds[i]? with
    | none => True
    | some none => (Itt X.K a).stop i H'
    | some (some d) => (Itt X.K a).go i H' ∧ ∀ x H'', (Itt X.K a).yld i H' x H'' → Keep H' H'' ∧ RS X.K X.mg ρ' H'' S ∧ RV X.K X.mg ρ' H'' d x
  cases e1 : ds[i]? with
  | none => exact ⟨xs, hx', by rw [← hv.length]; exact List.getElem?_eq_none_iff.mp e1⟩
  | some d =>
    obtain ⟨v, ev, rv⟩ := hv'.get e1
    refine ⟨⟨xs, v, hx', ev⟩, fun x H'' ⟨e, y⟩ => ?_⟩
    subst e
    have := (y xs hx').symm.trans ev
    cases this
    exact ⟨Keep.refl _, rs, rv⟩
theorem itR_ok {ρ : List Addr} {H : Hp} {lo c : Int} {n : Nat} : ItOk X.K X.mg ρ H (itR lo c n) (Itc lo c n) := by
  intro i ρ' H' S p k rs
  show match (if i < n then some (some (D.int (lo + i * c))) else some none) with
    | none => True
    | some none => (Itc lo c n).stop i H'
    | some (some d) => (Itc lo c n).go i H' ∧ ∀ x H'', (Itc lo c n).yld i H' x H'' → Keep H' H'' ∧ RS X.K X.mg ρ' H'' S ∧ RV X.K X.mg ρ' H'' d x
  by_cases h : i < n
  · rw [if_pos h]
    refine ⟨h, fun x H'' ⟨e, y⟩ => ?_⟩
    subst e
    exact ⟨Keep.refl _, rs, y⟩
  · rw [if_neg h]
    exact Nat.le_of_not_lt h
theorem itR1_ok {ρ : List Addr} {H : Hp} {lo : Int} {n : Nat} : ItOk X.K X.mg ρ H (itR lo 1 n) (Itr lo n) := by
  intro i ρ' H' S p k rs
  show match (if i < n then some (some (D.int (lo + i * 1))) else some none) with
    | none => True
    | some none => (Itr lo n).stop i H'
    | some (some d) => (Itr lo n).go i H' ∧ ∀ x H'', (Itr lo n).yld i H' x H'' → Keep H' H'' ∧ RS X.K X.mg ρ' H'' S ∧ RV X.K X.mg ρ' H'' d x
  by_cases h : i < n
  · rw [if_pos h]
    refine ⟨h, fun x H'' ⟨e, y⟩ => ?_⟩
    subst e
    exact ⟨Keep.refl _, rs, by rw [Int.mul_one]; exact y⟩
  · rw [if_neg h]
    exact Nat.le_of_not_lt h
theorem itS_ok {ρ : List Addr} {H : Hp} {x : Str} : ItOk X.K X.mg ρ H (itS x) (Its x) := by
  intro i ρ' H' S p k rs
  show match some (x.cps[i]?.map fun c => D.str ⟨#[c]⟩) with
    | none => True
    | some none => (Its x).stop i H'
    | some (some d) => (Its x).go i H' ∧ ∀ y H'', (Its x).yld i H' y H'' → Keep H' H'' ∧ RS X.K X.mg ρ' H'' S ∧ RV X.K X.mg ρ' H'' d y
  cases e1 : x.cps[i]? with
  | none => exact Array.getElem?_eq_none_iff.mp e1
  | some c =>
    refine ⟨(Array.getElem?_eq_some_iff.mp e1).1, fun y H'' ⟨e, c', ec, ey⟩ => ?_⟩
    subst e
    rw [e1] at ec
    cases ec
    exact ⟨Keep.refl _, rs, ey⟩
theorem mi_any {l t : Expr} (hl : PE X l (tM X.K X.mg W ma)) : PI X t l (tMI X.K X.mg W (iAny ma)) := by
  refine ⟨fun pins s σ H R I ⟨ρ, e, S, re, rs, g⟩ => ?_⟩
  refine thn (hl.run pins s σ H (fun v H' => (∃ a, v = .ref a ∧ (∃ xs, SqL X.K H' a xs) ∧ R (Itl X.K a) H') ∨ (∃ a, v = .ref a ∧ (∃ xs, SqT X.K H' a xs) ∧ R (Itt X.K a) H') ∨ ∃ x, v = .str x ∧ R (Its x) H') I
    ⟨ρ, e, S, re, rs, GoodG.bind g fun d S1 v H1 ρ1 _ p1 k1 rs1 r1 g1 => ?_⟩) fun v s1 ⟨x, H1, I1, r1, q1⟩ => ?_
  · try dsimp only at g1
    split at g1
    · rename_i n
      split at g1
      · rename_i w ds e0
        obtain ⟨a, rfl, pa⟩ := r1
        obtain ⟨xs, hx, hv⟩ := rs1.list pa e0
        exact .inl ⟨a, rfl, ⟨xs, hx⟩, GoodG.ok g1 rs1 (itL_ok pa)⟩
      · exact g1.elim
    · obtain ⟨a, xs, rfl, hx, hv⟩ := r1
      exact .inr (.inl ⟨a, rfl, ⟨xs, hx⟩, GoodG.ok g1 rs1 (itD_ok hx hv)⟩)
    · cases r1
      exact .inr (.inr ⟨_, rfl, GoodG.ok g1 rs1 itS_ok⟩)
    · exact g1.elim
  · rcases q1 with ⟨a, e, ⟨xs, hq⟩, q⟩ | ⟨a, e, ⟨xs, hq⟩, q⟩ | ⟨x, e, q⟩
    · subst e
      cases r1
      obtain ⟨its, rv, p, hz⟩ := I1.list hq
      refine wpAny_pyIter_list p.isList ?_
      exact pi_one (tk := s1.toks) I1 _ (turn_list a _) ⟨_, Heap.get?_push_size _ rfl, rfl, rfl⟩ q
    · subst e
      cases r1
      obtain ⟨its, rv, p, hz⟩ := I1.tuple hq
      refine wpAny_pyIter_tuple (show s1.heap.IsTuple a its.toArray from p) ?_
      exact pi_one (tk := s1.toks) I1 _ (turn_tuple a _) ⟨_, Heap.get?_push_size _ rfl, rfl, rfl⟩ q
    · subst e
      obtain ⟨t, rfl⟩ := r1
      cases ha : x.cps.all (· < 128)
      · exact wpAny_pyIter_wide ha (pi_one (tk := s1.toks) I1 _ (turn_str _ x t "str_iterator" (.inr rfl)) ⟨_, Heap.get?_push_size _ rfl, rfl, rfl⟩ q)
      · exact wpAny_pyIter_ascii ha (pi_one (tk := s1.toks) I1 _ (turn_str _ x t "str_ascii_iterator" (.inl rfl)) ⟨_, Heap.get?_push_size _ rfl, rfl, rfl⟩ q)
def iRg1 (m : MA) : Nv → Sto → Rs ItM := fun e S => (m e S).bind fun ds S1 => match ds with
  | [.int j] => if -1000000000000 ≤ j ∧ j < 1000000000000 then .ok (itR 0 1 j.toNat) S1 else .stuck
  | _ => .stuck
def iRg2 (m : MA) : Nv → Sto → Rs ItM := fun e S => (m e S).bind fun ds S1 => match ds with
  | [.int i, .int j] => if -1000000000000 ≤ i ∧ i < 1000000000000 ∧ -1000000000000 ≤ j ∧ j < 1000000000000 then .ok (itR i 1 (j - i).toNat) S1 else .stuck
  | _ => .stuck
theorem mi_range1 {a t : Expr} {m : MA} {p : Pos} (hg : Gl X "range") (hm : X.mg "range" = none) (ha : PA X [a] (tMA X.K X.mg W m)) (hs : starEach [a] X.env = [(false, eval a X.env)] := by rfl) : PI X t (.Call (.Name "range" p) [a] [] pos) (tMI X.K X.mg W (iRg1 m)) := by
  refine ⟨fun pins s σ H R I ⟨ρ, e, S, re, rs, g⟩ => (pi_range1 hg hm ha hs).run pins s σ H R I ⟨ρ, e, S, re, rs, GoodG.bind g fun ds S1 vs H1 ρ1 _ p1 k1 rs1 r1 g1 => ?_⟩⟩
  try dsimp only at g1
  split at g1
  · rename_i j
    split at g1
    · rename_i h
      obtain ⟨x, xs, rfl, r, r0⟩ := r1
      cases r; cases r0
      exact ⟨_, rfl, by omega, by omega, GoodG.ok g1 rs1 itR1_ok⟩
    · exact g1.elim
  · exact g1.elim
theorem mi_range2 {a b t : Expr} {m : MA} {p : Pos} (hg : Gl X "range") (hm : X.mg "range" = none) (ha : PA X [a, b] (tMA X.K X.mg W m)) (hs : starEach [a, b] X.env = [(false, eval a X.env), (false, eval b X.env)] := by rfl) (hs2 : starEach [b] X.env = [(false, eval b X.env)] := by rfl) :
    PI X t (.Call (.Name "range" p) [a, b] [] pos) (tMI X.K X.mg W (iRg2 m)) := by
  refine ⟨fun pins s σ H R I ⟨ρ, e, S, re, rs, g⟩ => (pi_range2 hg hm ha hs hs2).run pins s σ H R I ⟨ρ, e, S, re, rs, GoodG.bind g fun ds S1 vs H1 ρ1 _ p1 k1 rs1 r1 g1 => ?_⟩⟩
  try dsimp only at g1
  split at g1
  · rename_i i j
    split at g1
    · rename_i h
      obtain ⟨x, xs, rfl, r, y, ys, rfl, r', r0⟩ := r1
      cases r; cases r'; cases r0
      exact ⟨_, _, rfl, ⟨by omega, by omega, by omega, by omega⟩, GoodG.ok g1 rs1 itR1_ok⟩
    · exact g1.elim
  · exact g1.elim
end

/-! ### a def -/
def startE (n : Nat) (ds : List D) : Nv := ds.map some ++ List.replicate (n - ds.length) none
/-- a def's function: n names, k parameters -/
def mDef (n k : Nat) (body : MS) : MF := fun ds S => if ds.length = k then match body (startE n ds) S with
    | .nx _ S' => .ok .non S'
    | .rt d S' => .ok d S'
    | .exc c fs _ S' => .exc c fs S'
    | _ => .stuck
  else .stuck
theorem re_start {K : PySem.W.Frag} {mg : Str → Option Value} {ρ : List Addr} {H : Hp} {ds : List D} {vs : List V} {N : List Str} (r : RVs K mg ρ H ds vs) : RE K mg ρ H (startE N.length ds) (L2.start N vs) := by
  have hl := r.length
  refine ⟨by unfold startE L2.start; simp [hl], fun i d q => ?_⟩
  unfold startE at q
  by_cases hi : i < ds.length
  · rw [List.getElem?_append_left (by simpa using hi), List.getElem?_map] at q
    cases e : ds[i]? with
    | none => rw [e] at q; cases q
    | some d' =>
      rw [e] at q
      cases q
      obtain ⟨v, ev, rv⟩ := r.get e
      refine ⟨v, ?_, rv⟩
      unfold L2.start
      rw [List.getElem?_append_left (by simp; omega), List.getElem?_map, ev]
      rfl
  · rw [List.getElem?_append_right (by simpa using hi), List.getElem?_replicate] at q
    split at q <;> cases q
section
variable {P : Program} {w : World} {K : PySem.W.Frag} {mg : Str → Option Value} {base : Heap}
/-- the context of a def's body: what is asked of it -/
structure MX (X : Cx) (W : WX) (k : Nat) : Prop where
  calm : X.calm = true
  nd : X.N.Nodup
  tk : L2N.Takes X W
  po : PassesOwn (model X.prog X.w) X.A X.env X.xe
  hu : X.A.units + 64 < cLine
  hu5 : X.A.units + 65 < cLine
  room : Room k X.A
theorem un65 {k : Nat} {A : Around} (r : Room k A) : A.units + 65 < cLine := by have := r.un; omega
/-- THE RULE for a def -/
theorem FnM.of {x qual : Str} {st : Stmt} {f : Addr} {fd : FuncData} {N ps : List Str} {k : Nat} {body : MS} (F : Fun K x qual st f fd) (S : FnScope N ps (defScope st)) (hm : mg x = some (.ref f)) (hb : Binds K fd ps [])
    (h : ∀ (cdv : Value) (A : Around) (outer : List Env) (s : Shared) (H : Hp) (E : XK), MX (cxOf (L2N.CX P w) P w K mg base N qual (defScope st) f cdv A outer s H E) (E2W E) k →
      PSs (cxOf (L2N.CX P w) P w K mg base N qual (defScope st) f cdv A outer s H E) (defBody st) (tMS K mg (E2W E) body)) : FnM P w K mg base x (k + 1) (mDef N.length ps.length body) := by
  refine ⟨f, fd, ps, hm, F.kp, hb, ?_⟩
  obtain ⟨oc, od, kV, doc, pm, an, cdv, ct, osl, rfl, lk, hcd⟩ := F.ex
  refine fn_of lk hcd S (fun vs H Q E hsp => ?_) fun A outer s H vs Q E hr hsp => ?_
  · obtain ⟨ρ, S', ds, rs, rv, g⟩ := hsp
    rw [← rv.length]
    unfold mDef at g
    split at g
    · assumption
    · exact g.elim
  · refine ⟨_, h cdv A outer s H E ⟨rfl, S.nd, L2N.takes_of rfl rfl rfl rfl, passes_of rfl, hr.units, un65 hr, hr⟩, ?_⟩
    obtain ⟨ρ, S', ds, rs, rv, g⟩ := hsp
    refine ⟨ρ, startE N.length ds, S', re_start rv, rs, ?_⟩
    unfold mDef at g
    split at g
    · cases hb' : body (startE N.length ds) S' with
      | nx e S1 =>
        rw [hb'] at g
        exact fun σ' H' ρ' p kk rs' re' => g .non H' ρ' p kk rs' rfl
      | rt d S1 =>
        rw [hb'] at g
        exact fun v H' ρ' p kk rs' r' => g v H' ρ' p kk rs' r'
      | exc c fs e S1 =>
        rw [hb'] at g
        exact fun C dd σ' H' ρ' vs' hm p kk rs' re' hd hf => g C dd H' ρ' vs' hm p kk rs' hd hf
      | bk e S1 => rw [hb'] at g; exact g.elim
      | ct e S1 => rw [hb'] at g; exact g.elim
      | stuck => rw [hb'] at g; exact g.elim
    · exact g.elim
end
end M2
end

section
set_option Elab.async false
set_option linter.all false
set_option maxRecDepth 100000
/-! M2: subscripts, slices, built-ins, methods of texts and lists, f-strings, dicts. -/
namespace M2
open PySem PySem.Spec PyProof.Rows L2
set_option autoImplicit false
def strsOf : List D → Option (List Str)
  | [] => some []
  | .str x :: r => (strsOf r).map (x :: ·)
  | _ => none
def intsOf : List D → Option (List Int)
  | [] => some []
  | .int x :: r => (intsOf r).map (x :: ·)
  | _ => none
def bolsOf : List D → Option (List Bool)
  | [] => some []
  | .bl x :: r => (bolsOf r).map (x :: ·)
  | _ => none
/-- the items of a list or a tuple -/
def itemsOf (S : Sto) (d : D) : Option (List D) := match d with
  | .loc n => match S[n]? with
    | some (.lst _ ds) => some ds
    | _ => none
  | .tup ds => some ds
  | _ => none
def keyD : D → Option Key
  | .int i => some (.inl i)
  | .str x => some (.inr x)
  | _ => none
def getD' (kvs : List (Key × D)) (k : Key) : Option D := (kvs.find? fun kv => decide (kv.1 = k)).map (·.2)
def putD (kvs : List (Key × D)) (k : Key) (v : D) : List (Key × D) :=
  if (kvs.any fun kv => decide (kv.1 = k)) = true then kvs.map (fun kv => if kv.1 = k then (kv.1, v) else kv) else kvs ++ [(k, v)]
section
variable {K : PySem.W.Frag} {mg : Str → Option Value} {ρ : List Addr} {H : Hp} {S : Sto}
theorem rvs_strs : ∀ {ds : List D} {vs : List V} {ys : List Str}, RVs K mg ρ H ds vs → strsOf ds = some ys → vs = ys.map V.str
  | [], vs, ys, h, e => by cases e; rw [show vs = [] from h]; rfl
  | d :: ds, vs, ys, h, e => by
    obtain ⟨x, xs, rfl, h1, h2⟩ := h
    cases d with
    | str z =>
      obtain ⟨zs, e1, e2⟩ := map_some (show (strsOf ds).map (z :: ·) = some ys from e)
      subst e2
      cases h1
      rw [rvs_strs h2 e1]; rfl
    | _ => cases e
theorem rvs_ints : ∀ {ds : List D} {vs : List V} {ys : List Int}, RVs K mg ρ H ds vs → intsOf ds = some ys → vs = ys.map V.int
  | [], vs, ys, h, e => by cases e; rw [show vs = [] from h]; rfl
  | d :: ds, vs, ys, h, e => by
    obtain ⟨x, xs, rfl, h1, h2⟩ := h
    cases d with
    | int z =>
      obtain ⟨zs, e1, e2⟩ := map_some (show (intsOf ds).map (z :: ·) = some ys from e)
      subst e2
      cases h1
      rw [rvs_ints h2 e1]; rfl
    | _ => cases e
theorem rvs_bols : ∀ {ds : List D} {vs : List V} {ys : List Bool}, RVs K mg ρ H ds vs → bolsOf ds = some ys → vs = ys.map V.bl
  | [], vs, ys, h, e => by cases e; rw [show vs = [] from h]; rfl
  | d :: ds, vs, ys, h, e => by
    obtain ⟨x, xs, rfl, h1, h2⟩ := h
    cases d with
    | bl z =>
      obtain ⟨zs, e1, e2⟩ := map_some (show (bolsOf ds).map (z :: ·) = some ys from e)
      subst e2
      cases h1
      rw [rvs_bols h2 e1]; rfl
    | _ => cases e
theorem strs_rvs : ∀ (ys : List Str), RVs K mg ρ H (ys.map D.str) (ys.map V.str)
  | [] => rfl
  | y :: ys => ⟨_, _, rfl, rfl, strs_rvs ys⟩
theorem ints_rvs : ∀ (ys : List Int), RVs K mg ρ H (ys.map D.int) (ys.map V.int)
  | [] => rfl
  | y :: ys => ⟨_, _, rfl, rfl, ints_rvs ys⟩
theorem items_seq {d : D} {v : V} {ds : List D} (rs : RS K mg ρ H S) (r : RV K mg ρ H d v) (e : itemsOf S d = some ds) : ∃ a xs, v = .ref a ∧ (SqL K H a xs ∨ SqT K H a xs) ∧ RVs K mg ρ H ds xs := by
  cases d with
  | loc n =>
    obtain ⟨a, rfl, pa⟩ := r
    unfold itemsOf at e
    dsimp only at e
    split at e
    · rename_i w ds' e0
      cases e
      obtain ⟨xs, hx, hv⟩ := rs.list pa e0
      exact ⟨a, xs, rfl, .inl hx, hv⟩
    · cases e
  | tup ds' =>
    cases e
    obtain ⟨a, xs, rfl, hx, hv⟩ := r
    exact ⟨a, xs, rfl, .inr hx, hv⟩
  | _ => cases e
theorem keyD_V {d : D} {v : V} {k : Key} (r : RV K mg ρ H d v) (e : keyD d = some k) : v = kV k := by
  cases d with
  | int i => cases r; cases e; rfl
  | str x => cases r; cases e; rfl
  | _ => cases e
theorem rks_get : ∀ {kvs : List (Key × D)} {xs : List (Key × V)} (k : Key), RKs K mg ρ H kvs xs → match getD' kvs k with
    | some d => ∃ v, valV xs k = some v ∧ RV K mg ρ H d v
    | none => valV xs k = none
  | [], xs, k, h => by rw [show xs = [] from h]; rfl
  | (k0, d) :: kvs, xs, k, h => by
    obtain ⟨x, ys, rfl, h1, h2⟩ := h
    by_cases e : k0 = k
    · subst e
      have : getD' ((k0, d) :: kvs) k0 = some d := by simp [getD', List.find?_cons]
      rw [this]
      exact ⟨x, valV_pos rfl, h1⟩
    · have : getD' ((k0, d) :: kvs) k = getD' kvs k := by simp [getD', List.find?_cons, e]
      rw [this, valV_neg e]
      exact rks_get k h2
theorem rks_len : ∀ {kvs : List (Key × D)} {xs : List (Key × V)}, RKs K mg ρ H kvs xs → kvs.length = xs.length
  | [], xs, h => by rw [show xs = [] from h]; rfl
  | _ :: kvs, xs, h => by
    obtain ⟨x, ys, rfl, h1, h2⟩ := h
    rw [List.length_cons, List.length_cons, rks_len h2]
theorem rks_any : ∀ {kvs : List (Key × D)} {xs : List (Key × V)} (k : Key), RKs K mg ρ H kvs xs → (kvs.any fun kv => decide (kv.1 = k)) = xs.any fun kv => decide (kv.1 = k)
  | [], xs, k, h => by rw [show xs = [] from h]; rfl
  | _ :: kvs, xs, k, h => by
    obtain ⟨x, ys, rfl, h1, h2⟩ := h
    rw [List.any_cons, List.any_cons, rks_any k h2]
theorem rks_map : ∀ {kvs : List (Key × D)} {xs : List (Key × V)} {k : Key} {d : D} {v : V}, RKs K mg ρ H kvs xs → RV K mg ρ H d v → RKs K mg ρ H (kvs.map fun kv => if kv.1 = k then (kv.1, d) else kv) (xs.map fun kv => if kv.1 = k then (kv.1, v) else kv)
  | [], xs, k, d, v, h, r => by rw [show xs = [] from h]; exact rfl
  | (k0, d0) :: kvs, xs, k, d, v, h, r => by
    obtain ⟨x, ys, rfl, h1, h2⟩ := h
    have t := rks_map (k := k) h2 r
    rw [List.map_cons, List.map_cons]
    by_cases e : k0 = k
    · simp only [e, if_true]; exact ⟨v, _, rfl, r, t⟩
    · simp only [e, if_false]; exact ⟨x, _, rfl, h1, t⟩
theorem rks_app : ∀ {kvs : List (Key × D)} {xs : List (Key × V)} {k : Key} {d : D} {v : V}, RKs K mg ρ H kvs xs → RV K mg ρ H d v → RKs K mg ρ H (kvs ++ [(k, d)]) (xs ++ [(k, v)])
  | [], xs, k, d, v, h, r => by rw [show xs = [] from h]; exact ⟨v, [], rfl, r, rfl⟩
  | (k0, d0) :: kvs, xs, k, d, v, h, r => by
    obtain ⟨x, ys, rfl, h1, h2⟩ := h
    exact ⟨x, _, rfl, h1, rks_app h2 r⟩
theorem rks_put {kvs : List (Key × D)} {xs : List (Key × V)} {k : Key} {d : D} {v : V} (h : RKs K mg ρ H kvs xs) (r : RV K mg ρ H d v) : RKs K mg ρ H (putD kvs k d) (putK xs k v) := by
  unfold putD putK
  rw [rks_any k h]
  split
  · exact rks_map h r
  · exact rks_app h r
end
/-! ### subscripts -/
def oIx : Op2 := fun a b S => match a, b with
  | .str x, .int i => if x.length ≤ sizeLine then (atI x.cps.toList i).map fun c => (.str ⟨#[c]⟩, S) else none
  | .tup ds, .int i => (atI ds i).map fun d => (d, S)
  | .loc n, k => match S[n]? with
    | some (.lst _ ds) => match k with
      | .int i => (atI ds i).map fun d => (d, S)
      | _ => none
    | some (.dic kvs) => match keyD k with
      | some key => (getD' kvs key).map fun d => (d, S)
      | none => none
    | _ => none
  | _, _ => none
theorem rvs_atI {K : PySem.W.Frag} {mg : Str → Option Value} {ρ : List Addr} {H : Hp} {ds : List D} {xs : List V} {i : Int} {d : D} (r : RVs K mg ρ H ds xs) (e : atI ds i = some d) : ∃ v, atI xs i = some v ∧ RV K mg ρ H d v := by
  unfold atI at e ⊢
  rw [← r.length]
  cases h : ixN ds.length i with
  | none => rw [h] at e; cases e
  | some j =>
    rw [h] at e
    exact r.get (i := j) e
section
variable {X : Cx} {W : WX} {e a b c : Expr} {es : List Expr} {ma mb mc : MV} {mr : MA} {ta tb : MT} {pos : Pos}
theorem ixm (hu : X.A.units + 64 < cLine) : IxR X (rM2 X.K X.mg oIx) := by
  intro value slice pins s σ H x y v u Q I rx ry ⟨ρ, S, d1, d2, d3, S3, rs, r1, r2, e, q⟩ hs
  unfold oIx at e
  split at e
  · cases r1; cases r2
    split at e
    · rename_i hz
      obtain ⟨c, h, e⟩ := map_some e
      cases e
      exact ix_str value slice pins s σ H _ _ v u Q I rx ry ⟨_, _, c, rfl, rfl, hz, h, q.now rs rfl⟩ hs
    · cases e
  · cases r2
    obtain ⟨d, h, e⟩ := map_some e
    cases e
    obtain ⟨p, xs, rfl, hx, hv⟩ := r1
    obtain ⟨v', ev, rv⟩ := rvs_atI hv h
    exact ix_tup value slice pins s σ H _ _ v u Q I rx ry ⟨p, xs, _, v', rfl, rfl, hx, ev, q.now rs rv⟩ hs
  · rename_i n k
    obtain ⟨p, rfl, pa⟩ := r1
    split at e
    · rename_i w ds e0
      split at e
      · cases r2
        obtain ⟨d, h, e⟩ := map_some e
        cases e
        obtain ⟨xs, hx, hv⟩ := rs.list pa e0
        obtain ⟨v', ev, rv⟩ := rvs_atI hv h
        exact ix_list value slice pins s σ H _ _ v u Q I rx ry ⟨p, xs, _, v', rfl, rfl, hx, ev, q.now rs rv⟩ hs
      · cases e
    · rename_i kvs e0
      split at e
      · rename_i key hk
        obtain ⟨d, h, e⟩ := map_some e
        cases e
        obtain ⟨xs, hx, hv⟩ := rs.at_ _ _ _ pa e0
        have z := rks_get key hv
        rw [h] at z
        obtain ⟨v', ev, rv⟩ := z
        have g : DGet H p y (some v') := by
          rw [keyD_V r2 hk, ← ev]
          exact DGet.k hx
        cases rx
        exact tail_any (dict_typeIs I g) PySem.F.slot_dict_getitem.lookup (d_getItem (by omega) I g ry fun w' s3 I3 rw' => ⟨v', H, I3, rw', q.now rs rv⟩) hs
      · cases e
    · cases e
  · cases e
theorem me_ix (hu : X.A.units + 64 < cLine) (ha : PE X a (tM X.K X.mg W ma)) (hb : PE X b (tM X.K X.mg W mb)) (hs : PlainIx b := by exact fun _ _ => rfl) : PE X (.Subscript a b pos) (tM X.K X.mg W (mBin oIx ma mb)) := PE.imp (pe_ix (ixm hu) ha hb hs) tm_op
/-! slices -/
abbrev MO := Nv → Sto → Rs (Option Int)
def pNo : MO := fun _ S => .ok none S
def pAt (ma : MV) : MO := fun e S => (ma e S).bind fun d S1 => match d with
  | .int i => .ok (some i) S1
  | _ => .stuck
def cutD (xs : List D) (lo hi : Option Int) : List D := (xs.drop (HT.sIx xs.length 0 lo)).take (HT.sIx xs.length xs.length hi - HT.sIx xs.length 0 lo)
def oSl (d : D) (lo hi : Option Int) (S : Sto) : Option (D × Sto) := match d with
  | .str x => if x.length ≤ sizeLine then some (.str (cutS x lo hi), S) else none
  | .tup ds => some (.tup (cutD ds lo hi), S)
  | .loc n => match S[n]? with
    | some (.lst _ ds) => some (.loc S.length, S ++ [.lst true (cutD ds lo hi)])
    | _ => none
  | _ => none
def mSl (ma : MV) (lo hi : MO) : MV := fun e S => (ma e S).bind fun d S1 => (lo e S1).bind fun l S2 => (hi e S2).bind fun h S3 => lift (oSl d l h S3)
theorem mo_none : PO X none (tMO X.K X.mg W pNo) := by
  refine ⟨fun pins s σ H Q I ⟨ρ, e, S, re, rs, g⟩ => po_none.run pins s σ H Q I ?_⟩
  exact GoodG.ok g rs rfl
theorem mo_some (h : PE X e (tM X.K X.mg W ma)) : PO X (some e) (tMO X.K X.mg W (pAt ma)) := by
  refine ⟨fun pins s σ H Q I ⟨ρ, e, S, re, rs, g⟩ => (po_some h).run pins s σ H Q I ⟨ρ, e, S, re, rs, GoodG.bind g fun d S1 v H1 ρ1 _ p1 k1 rs1 r1 g1 => ?_⟩⟩
  try dsimp only at g1
  split at g1
  · cases r1
    exact ⟨_, rfl, GoodG.ok g1 rs1 rfl⟩
  · exact g1.elim
def rSlM (K : PySem.W.Frag) (mg : Str → Option Value) : V → Option Int → Option Int → Hp → VK → Prop := fun x lo hi H Q => ∃ ρ S d d3 S3, RS K mg ρ H S ∧ RV K mg ρ H d x ∧ oSl d lo hi S = some (d3, S3) ∧ Fin K mg ρ H d3 S3 Q
theorem rvs_cut {K : PySem.W.Frag} {mg : Str → Option Value} {ρ : List Addr} {H : Hp} {ds : List D} {xs : List V} (r : RVs K mg ρ H ds xs) (lo hi : Option Int) : RVs K mg ρ H (cutD ds lo hi) (cutV xs lo hi) := by
  unfold cutD cutV
  rw [r.length]
  exact (r.drop _).take _
theorem cut_whole (ds : List D) (lo hi : Option Int) (h : HT.sIx ds.length 0 lo = 0 ∧ HT.sIx ds.length ds.length hi = ds.length) : cutD ds lo hi = ds := by
  unfold cutD
  rw [h.1, h.2]
  simp
theorem slm : SlR X (rSlM X.K X.mg) := by
  intro pins s σ H x v vl vu lo hi sl Q I rx hs pl pu ⟨ρ, S, d, d3, S3, rs, r, e, q⟩
  unfold oSl at e
  cases d with
  | str z =>
    cases r
    have e : (if z.length ≤ sizeLine then some (D.str (cutS z lo hi), S) else none) = some (d3, S3) := e
    split at e
    · rename_i hz; cases e
      exact sl_str pins s σ H _ v vl vu lo hi sl Q I rx hs pl pu ⟨z, rfl, hz, q.now rs rfl⟩
    · cases e
  | tup ds =>
    cases e
    obtain ⟨a, xs, rfl, hx, hv⟩ := r
    refine sl_tupA pins s σ H _ v vl vu lo hi sl Q I rx hs pl pu ⟨a, xs, rfl, hx, fun hw => ?_, fun _ p hp => q.tnew rs (rvs_cut hv lo hi) hp⟩
    rw [← hv.length] at hw
    rw [cut_whole ds lo hi hw] at q
    exact q.now rs ⟨a, xs, rfl, hx, hv⟩
  | loc n =>
    obtain ⟨a, rfl, pa⟩ := r
    dsimp only at e
    split at e
    · rename_i w ds e0
      cases e
      obtain ⟨xs, hx, hv⟩ := rs.list pa e0
      exact sl_list pins s σ H _ v vl vu lo hi sl Q I rx hs pl pu ⟨a, xs, rfl, hx, fun p hp => q.lnew rs (rvs_cut hv lo hi) hp⟩
    · cases e
  | _ => cases e
theorem me_slice {lo hi : Option Expr} {ml mh : MO} {p2 : Pos} (he : PE X e (tM X.K X.mg W ma)) (hl : PO X lo (tMO X.K X.mg W ml)) (hh : PO X hi (tMO X.K X.mg W mh)) : PE X (.Subscript e (.Slice lo hi none p2) pos) (tM X.K X.mg W (mSl ma ml mh)) :=
  PE.imp (pe_slice slm he hl hh) fun σ H Q ⟨ρ, e, S, re, rs, g⟩ => ⟨ρ, e, S, re, rs, GoodG.bind g fun d1 S1 x H1 ρ1 _ p1 k1 rs1 r1 g1 => ⟨ρ1, e, S1, re.mono p1 k1, rs1, GoodG.bind g1 fun l S2 y H2 ρ2 _ p2 k2 rs2 r2 g2 =>
    ⟨ρ2, e, S2, (re.mono p1 k1).mono p2 k2, rs2, GoodG.bind g2 fun h S3 y3 H3 ρ3 _ p3 k3 rs3 r3 g3 => by
      cases r2; cases r3
      unfold lift at g3
      split at g3
      · rename_i d3 S4 e4
        exact ⟨ρ3, S3, d1, d3, S4, rs3, r1.mono (p2.trans p3) (k2.trans k3), e4, fun v H' ρ' p k s r => g3 v H' ρ' p k s r⟩
      · exact g3.elim⟩⟩⟩
/-! ### built-ins -/
def oLen : OpL := fun ds S => match ds with
  | [.str x] => if x.length ≤ sizeLine then some (.int x.length, S) else none
  | [d] => (itemsOf S d).map fun xs => (.int xs.length, S)
  | _ => none
theorem cm_len : CallR X (.builtin "len") (rML X.K X.mg oLen) := by
  intro pins s σ H xs us Q I r ⟨ρ, S, ds, d3, S3, rs, rv, e, q⟩
  unfold oLen at e
  split at e
  · obtain ⟨x, ys, rfl, r1, r0⟩ := rv
    cases r1; cases r0
    split at e
    · rename_i hz; cases e
      exact call_len_str pins s σ H _ us Q I r ⟨_, rfl, hz, q.now rs rfl⟩
    · cases e
  · obtain ⟨x, ys, rfl, r1, r0⟩ := rv
    cases r0
    obtain ⟨xs', h, e⟩ := map_some e
    cases e
    obtain ⟨a, zs, rfl, hx, hv⟩ := items_seq rs r1 h
    refine call_len_seq pins s σ H _ us Q I r ⟨a, zs, rfl, hx, ?_⟩
    rw [← hv.length]
    exact q.now rs rfl
  · cases e
def oTuple : OpL := fun ds S => match ds with
  | [d] => (itemsOf S d).map fun xs => (.tup xs, S)
  | _ => none
theorem cm_tuple : CallR X (.type "tuple") (rML X.K X.mg oTuple) := by
  intro pins s σ H xs us Q I r ⟨ρ, S, ds, d3, S3, rs, rv, e, q⟩
  unfold oTuple at e
  split at e
  · obtain ⟨x, ys, rfl, r1, r0⟩ := rv
    cases r0
    obtain ⟨xs', h, e⟩ := map_some e
    cases e
    obtain ⟨a, zs, rfl, hx, hv⟩ := items_seq rs r1 h
    rcases hx with hx | hx
    · exact call_tuple_of pins s σ H _ us Q I r ⟨a, zs, rfl, .inl ⟨hx, fun l hl => q.tnew rs hv hl⟩⟩
    · exact call_tuple_of pins s σ H _ us Q I r ⟨a, zs, rfl, .inr ⟨hx, q.now rs ⟨a, zs, rfl, hx, hv⟩⟩⟩
  · cases e
def oList : OpL := fun ds S => match ds with
  | [d] => (itemsOf S d).map fun xs => (.loc S.length, S ++ [.lst true xs])
  | _ => none
theorem cm_list : CallR X (.type "list") (rML X.K X.mg oList) := by
  intro pins s σ H xs us Q I r ⟨ρ, S, ds, d3, S3, rs, rv, e, q⟩
  unfold oList at e
  split at e
  · obtain ⟨x, ys, rfl, r1, r0⟩ := rv
    cases r0
    obtain ⟨xs', h, e⟩ := map_some e
    cases e
    obtain ⟨a, zs, rfl, hx, hv⟩ := items_seq rs r1 h
    exact call_list_of pins s σ H _ us Q I r ⟨a, zs, rfl, hx, fun l hl => q.lnew rs hv hl⟩
  · cases e
def oInt : OpL := fun ds S => match ds with
  | [.int i] => some (.int i, S)
  | [.bl k] => some (.int (if k then 1 else 0), S)
  | _ => none
theorem cm_int : CallR X (.type "int") (rML X.K X.mg oInt) := by
  intro pins s σ H xs us Q I r ⟨ρ, S, ds, d3, S3, rs, rv, e, q⟩
  unfold oInt at e
  split at e
  · obtain ⟨x, ys, rfl, r1, r0⟩ := rv
    cases r1; cases r0; cases e
    exact call_int1 pins s σ H _ us Q I r (.inl ⟨_, rfl, q.now rs rfl⟩)
  · obtain ⟨x, ys, rfl, r1, r0⟩ := rv
    cases r1; cases r0; cases e
    exact call_int1 pins s σ H _ us Q I r (.inr ⟨_, rfl, q.now rs rfl⟩)
  · cases e
def oStr : OpL := fun ds S => match ds with
  | [.int i] => if i.natAbs.log2 < 1920 then some (.str (toString i), S) else none
  | _ => none
theorem cm_str : CallR X (.type "str") (rML X.K X.mg oStr) := by
  intro pins s σ H xs us Q I r ⟨ρ, S, ds, d3, S3, rs, rv, e, q⟩
  unfold oStr at e
  split at e
  · obtain ⟨x, ys, rfl, r1, r0⟩ := rv
    cases r1; cases r0
    split at e
    · rename_i hz; cases e
      exact call_str_int pins s σ H _ us Q I r ⟨_, rfl, hz, q.now rs rfl⟩
    · cases e
  · cases e
def oMax : OpL := fun ds S => match ds with
  | [.int i, .int j] => some (.int (if j > i then j else i), S)
  | _ => none
def oMin : OpL := fun ds S => match ds with
  | [.int i, .int j] => some (.int (if j < i then j else i), S)
  | _ => none
theorem cm_max (hc : X.calm = true) : CallR X (.builtin "max") (rML X.K X.mg oMax) := by
  intro pins s σ H xs us Q I r ⟨ρ, S, ds, d3, S3, rs, rv, e, q⟩
  unfold oMax at e
  split at e
  · obtain ⟨x, ys, rfl, r1, y, ys2, rfl, r2, r0⟩ := rv
    cases r1; cases r2; cases r0; cases e
    exact call_max2 hc pins s σ H _ us Q I r ⟨_, _, rfl, q.now rs rfl⟩
  · cases e
theorem cm_min (hc : X.calm = true) : CallR X (.builtin "min") (rML X.K X.mg oMin) := by
  intro pins s σ H xs us Q I r ⟨ρ, S, ds, d3, S3, rs, rv, e, q⟩
  unfold oMin at e
  split at e
  · obtain ⟨x, ys, rfl, r1, y, ys2, rfl, r2, r0⟩ := rv
    cases r1; cases r2; cases r0; cases e
    exact call_min2 hc pins s σ H _ us Q I r ⟨_, _, rfl, q.now rs rfl⟩
  · cases e
def oDivmod : OpL := fun ds S => match ds with
  | [.int i, .int j] => if 0 < j ∧ j < 1073741824 then some (.tup [.int (i / j), .int (i % j)], S) else none
  | _ => none
theorem cm_divmod : CallR X (.builtin "divmod") (rML X.K X.mg oDivmod) := by
  intro pins s σ H xs us Q I r ⟨ρ, S, ds, d3, S3, rs, rv, e, q⟩
  unfold oDivmod at e
  split at e
  · obtain ⟨x, ys, rfl, r1, y, ys2, rfl, r2, r0⟩ := rv
    cases r1; cases r2; cases r0
    split at e
    · rename_i hz; cases e
      exact call_divmod pins s σ H _ us Q I r ⟨_, _, rfl, hz, fun p hp => q.tnew rs ⟨_, _, rfl, rfl, _, _, rfl, rfl, rfl⟩ hp⟩
    · cases e
  · cases e
def oSum : OpL := fun ds S => match ds with
  | [.loc n] => match S[n]? with
    | some (.lst _ xs) => (intsOf xs).map fun ns => (.int ns.sum, S)
    | _ => none
  | _ => none
theorem cm_sum (hc : X.calm = true) : CallR X (.builtin "sum") (rML X.K X.mg oSum) := by
  intro pins s σ H xs us Q I r ⟨ρ, S, ds, d3, S3, rs, rv, e, q⟩
  unfold oSum at e
  split at e
  · obtain ⟨x, ys, rfl, ⟨a, rfl, pa⟩, r0⟩ := rv
    cases r0
    split at e
    · rename_i w xs' e0
      obtain ⟨ns, h, e⟩ := map_some e
      cases e
      obtain ⟨zs, hx, hv⟩ := rs.list pa e0
      have := rvs_ints hv h
      subst this
      exact cr_sum hc pins s σ H _ us Q I r ⟨a, ns, rfl, hx, q.now rs rfl⟩
    · cases e
  · cases e
def oAll : OpL := fun ds S => match ds with
  | [.loc n] => match S[n]? with
    | some (.lst _ xs) => (bolsOf xs).map fun ns => (.bl (ns.all id), S)
    | _ => none
  | _ => none
def oAny : OpL := fun ds S => match ds with
  | [.loc n] => match S[n]? with
    | some (.lst _ xs) => (bolsOf xs).map fun ns => (.bl (ns.any id), S)
    | _ => none
  | _ => none
theorem cm_all (hc : X.calm = true) : CallR X (.builtin "all") (rML X.K X.mg oAll) := by
  intro pins s σ H xs us Q I r ⟨ρ, S, ds, d3, S3, rs, rv, e, q⟩
  unfold oAll at e
  split at e
  · obtain ⟨x, ys, rfl, ⟨a, rfl, pa⟩, r0⟩ := rv
    cases r0
    split at e
    · rename_i w xs' e0
      obtain ⟨ns, h, e⟩ := map_some e
      cases e
      obtain ⟨zs, hx, hv⟩ := rs.list pa e0
      have := rvs_bols hv h
      subst this
      exact cr_all hc pins s σ H _ us Q I r ⟨a, ns, rfl, hx, q.now rs rfl⟩
    · cases e
  · cases e
theorem cm_any (hc : X.calm = true) : CallR X (.builtin "any") (rML X.K X.mg oAny) := by
  intro pins s σ H xs us Q I r ⟨ρ, S, ds, d3, S3, rs, rv, e, q⟩
  unfold oAny at e
  split at e
  · obtain ⟨x, ys, rfl, ⟨a, rfl, pa⟩, r0⟩ := rv
    cases r0
    split at e
    · rename_i w xs' e0
      obtain ⟨ns, h, e⟩ := map_some e
      cases e
      obtain ⟨zs, hx, hv⟩ := rs.list pa e0
      have := rvs_bols hv h
      subst this
      exact cr_any hc pins s σ H _ us Q I r ⟨a, ns, rfl, hx, q.now rs rfl⟩
    · cases e
  · cases e
/-- the name of a thing's type -/
def tyD (S : Sto) (d : D) : Option String := match d with
  | .non => some "NoneType"
  | .bl _ => some "bool"
  | .int _ => some "int"
  | .str _ => some "str"
  | .tup _ => some "tuple"
  | .loc n => match S[n]? with
    | some (.lst _ _) => some "list"
    | some (.dic _) => some "dict"
    | _ => none
  | _ => none
def oType : OpL := fun ds S => match ds with
  | [d] => (tyD S d).map fun t => (.ty t, S)
  | _ => none
theorem cm_type : CallR X (.type "type") (rML X.K X.mg oType) := by
  intro pins s σ H xs us Q I r ⟨ρ, S, ds, d3, S3, rs, rv, e, q⟩
  unfold oType at e
  split at e
  · obtain ⟨x, ys, rfl, r1, r0⟩ := rv
    cases r0
    obtain ⟨t, h, e⟩ := map_some e
    cases e
    refine call_type1 pins s σ H _ us Q I r ⟨x, t, rfl, ?_, q.now rs rfl⟩
    rename_i d
    cases d with
    | non => cases r1; cases h; exact .non
    | bl b => cases r1; cases h; exact .bl b
    | int i => cases r1; cases h; exact .int i
    | str x => cases r1; cases h; exact .str x
    | tup ds => obtain ⟨a, zs, rfl, hx, hv⟩ := r1; cases h; exact .tup hx
    | loc n =>
      obtain ⟨a, rfl, pa⟩ := r1
      unfold tyD at h
      dsimp only at h
      split at h
      · rename_i w ds e0; cases h
        obtain ⟨zs, hx, hv⟩ := rs.list pa e0
        exact .lst hx
      · rename_i kvs e0; cases h
        obtain ⟨zs, hx, hv⟩ := rs.at_ _ _ _ pa e0
        exact .dK hx
      · cases h
    | _ => cases h
  · cases e
def oIsi : OpL := fun ds S => match ds with
  | [d, .ty n] => match tyD S d with
    | some t => (kitB t n).map fun b => (.bl b, S)
    | none => none
  | _ => none
theorem tyX_of {ρ : List Addr} {H : Hp} {S : Sto} {d : D} {x : V} {t : String} (rs : RS X.K X.mg ρ H S) (r1 : RV X.K X.mg ρ H d x) (h : tyD S d = some t) : TyX X.K H x (.type t) := by
  cases d with
  | non => cases r1; cases h; exact .base .non
  | bl b => cases r1; cases h; exact .base (.bl b)
  | int i => cases r1; cases h; exact .base (.int i)
  | str x => cases r1; cases h; exact .base (.str x)
  | tup ds =>
    obtain ⟨a, zs, rfl, hx, hv⟩ := r1; cases h
    rcases hx with (hx | ⟨o, hx⟩) | ⟨o, its, n, hk, hc, _⟩
    · exact .base (.tup hx)
    · exact .fTuple hx
    · exact .kTuple hk hc
  | loc n =>
    obtain ⟨a, rfl, pa⟩ := r1
    unfold tyD at h
    dsimp only at h
    split at h
    · rename_i w ds e0; cases h
      obtain ⟨zs, hx, hv⟩ := rs.list pa e0
      rcases hx with (hx | ⟨o, hx⟩) | ⟨o, its, n, hk, hc, _⟩
      · exact .base (.lst hx)
      · exact .base (.frz hx)
      · exact .kList hk hc
    · rename_i kvs e0; cases h
      obtain ⟨zs, hx, hv⟩ := rs.at_ _ _ _ pa e0
      exact .base (.dK hx)
    · cases h
  | _ => cases h
theorem cm_isi : CallR X (.builtin "isinstance") (rML X.K X.mg oIsi) := by
  intro pins s σ H xs us Q I r ⟨ρ, S, ds, d3, S3, rs, rv, e, q⟩
  unfold oIsi at e
  split at e
  · obtain ⟨x, ys, rfl, r1, y, ys2, rfl, r2, r0⟩ := rv
    cases r2; cases r0
    split at e
    · rename_i t h
      obtain ⟨b, hb, e⟩ := map_some e
      cases e
      exact call_isi pins s σ H _ us Q I r ⟨x, _, .type t, _, b, rfl, .ty _, tyX_of rs r1 h, kit_ty hb, q.now rs rfl⟩
    · cases e
  · cases e
/-! ### methods -/
/-- the built-in type of a receiver -/
def rcvD (S : Sto) (d : D) (T : String) : Bool := match d with
  | .str _ => decide (T = "str")
  | .loc n => match S[n]? with
    | some (.lst _ _) => decide (T = "list")
    | some (.dic _) => decide (T = "dict")
    | _ => false
  | _ => false
/-- T: the type that the receiver must have -/
def mMeth (T : String) (mo : OpM) (mx : MV) (m : MA) : MV := fun e S => (mx e S).bind fun x S1 => if rcvD S1 x T = true then (m e S1).bind fun as S2 => lift (mo x as S2) else .stuck
theorem rcv_ok {T : String} {ρ : List Addr} {H : Hp} {S : Sto} {d : D} {v : V} (rs : RS X.K X.mg ρ H S) (r : RV X.K X.mg ρ H d v) (h : rcvD S d T = true) : tyV X.K T v H := by
  cases d with
  | str x => cases r; exact (show T = "str" from of_decide_eq_true h)
  | loc n =>
    obtain ⟨a, rfl, pa⟩ := r
    unfold rcvD at h
    dsimp only at h
    split at h
    · rename_i w ds e0
      obtain ⟨xs, hx, hv⟩ := rs.list pa e0
      exact .inl ⟨of_decide_eq_true h, xs, hx⟩
    · rename_i kvs e0
      obtain ⟨xs, hx, hv⟩ := rs.at_ _ _ _ pa e0
      exact .inr (.inr (.inl ⟨of_decide_eq_true h, .inl ⟨xs, hx⟩⟩))
    · cases h
  | _ => cases h
theorem tm_bm {T : String} {mo : OpM} (σ : St) (H : Hp) (Q : VK) (h : tM X.K X.mg W (mMeth T mo ma mr) σ H Q) : tBM X.K T (rMM X.K X.mg mo) (tM X.K X.mg W ma) (tMA X.K X.mg W mr) σ H Q := by
  obtain ⟨ρ, e, S, re, rs, g⟩ := h
  refine ⟨ρ, e, S, re, rs, GoodG.bind g fun d1 S1 x H1 ρ1 _ p1 k1 rs1 r1 g1 => ?_⟩
  try dsimp only at g1
  split at g1
  · rename_i ht
    refine ⟨rcv_ok rs1 r1 ht, ρ1, e, S1, re.mono p1 k1, rs1, GoodG.bind g1 fun ds S2 xs H2 ρ2 _ p2 k2 rs2 r2 g2 => ?_⟩
    unfold lift at g2
    split at g2
    · rename_i d3 S3 e3
      exact ⟨ρ2, S2, d1, ds, d3, S3, rs2, r1.mono p2 k2, r2, e3, fun v H' ρ' p k s r => g2 v H' ρ' p k s r⟩
    · exact g2.elim
  · exact g1.elim
theorem me_bm {T id : String} {name : Str} {mo : OpM} {apos : Pos} (pa : PlainAttrs T) (slot : Slot T name id) (hty : typeOf (.builtin id) = pure (.type "method_descriptor")) (hm : MtR X id (rMM X.K X.mg mo)) (ho : PE X a (tM X.K X.mg W ma)) (ha : PA X (e :: es) (tMA X.K X.mg W mr))
    (hbase : attributeBase a name X.env (eval a X.env) = eval a X.env := by rfl)
    (hfew : ((backTo pos (starEach (e :: es) X.env)).all (fun x => !x.1) && (backToKw pos (keywordEach [] X.env)).all (fun x => x.1.isSome)
      && decide ((e :: es).length + ([] : List Keyword).length + (if ([] : List Keyword).isEmpty then 0 else 1) < 30)) = true := by rfl)
    (hline : (apos.endLine == pos.line) = true := by rfl) (hs : starEach (e :: es) X.env = (false, eval e X.env) :: starEach es X.env := by rfl) (hplain : (backTo pos (starEach es X.env)).any (·.1) = false := by rfl) :
    PE X (.Call (.Attribute a name apos) (e :: es) [] pos) (tM X.K X.mg W (mMeth T mo ma mr)) := PE.imp (pe_bm pa slot hty hm ho ha hbase hfew hline hs hplain) tm_bm
theorem me_bm0 {T id : String} {name : Str} {mo : OpM} {apos : Pos} (pa : PlainAttrs T) (slot : Slot T name id) (hty : typeOf (.builtin id) = pure (.type "method_descriptor")) (hm : MtR X id (rMM X.K X.mg mo)) (ho : PE X a (tM X.K X.mg W ma))
    (hbase : attributeBase a name X.env (eval a X.env) = eval a X.env := by rfl) (hline : (apos.endLine == pos.line) = true := by rfl) : PE X (.Call (.Attribute a name apos) [] [] pos) (tM X.K X.mg W (mMeth T mo ma aNil)) :=
  PE.imp (pe_bm0 pa slot hty hm ho hbase hline) fun σ H Q h => by
    obtain ⟨ρ, e, S, re, rs, g⟩ := h
    refine ⟨ρ, e, S, re, rs, GoodG.bind g fun d1 S1 x H1 ρ1 _ p1 k1 rs1 r1 g1 => ?_⟩
    try dsimp only at g1
    split at g1
    · rename_i ht
      refine ⟨rcv_ok rs1 r1 ht, ?_⟩
      have g2 : Good X.K X.mg W σ ρ1 H1 (lift (mo d1 [] S1)) Q := g1
      unfold lift at g2
      split at g2
      · rename_i d3 S3 e3
        exact ⟨ρ1, S1, d1, [], d3, S3, rs1, r1, rfl, e3, fun v H' ρ' p k s r => g2 v H' ρ' p k s r⟩
      · exact g2.elim
    · exact g1.elim
/-- a method of a text with no, with one argument -/
def oS0 (C : Str → Bool) (f : Str → D) : OpM := fun x as S => match x, as with
  | .str a, [] => if C a = true then some (f a, S) else none
  | _, _ => none
def oS1 (C : Str → Str → Bool) (f : Str → Str → D) : OpM := fun x as S => match x, as with
  | .str a, [.str b] => if C a b = true then some (f a b, S) else none
  | _, _ => none
theorem mm_S0 {id : String} {C : Str → Bool} {f : Str → D} {fv : Str → V} {P : Str → Prop} (h : MtR X id (fun x xs H Q => ∃ a, x = .str a ∧ xs = [] ∧ P a ∧ Q (fv a) H)) (hC : ∀ a, C a = true → P a) (hf : ∀ a ρ H, RV X.K X.mg ρ H (f a) (fv a)) : MtR X id (rMM X.K X.mg (oS0 C f)) := by
  intro pins s σ H x xs v us Q I rx rxs ⟨ρ, S, d, ds, d3, S3, rs, r1, r2, e, q⟩
  unfold oS0 at e
  split at e
  · cases r1; cases r2
    split at e
    · rename_i hc; cases e
      exact h pins s σ H _ _ v us Q I rx rxs ⟨_, rfl, rfl, hC _ hc, q.now rs (hf _ _ _)⟩
    · cases e
  · cases e
theorem mm_S1 {id : String} {C : Str → Str → Bool} {f : Str → Str → D} {fv : Str → Str → V} {P : Str → Str → Prop} (h : MtR X id (fun x xs H Q => ∃ a b, x = .str a ∧ xs = [.str b] ∧ P a b ∧ Q (fv a b) H)) (hC : ∀ a b, C a b = true → P a b) (hf : ∀ a b ρ H, RV X.K X.mg ρ H (f a b) (fv a b)) : MtR X id (rMM X.K X.mg (oS1 C f)) := by
  intro pins s σ H x xs v us Q I rx rxs ⟨ρ, S, d, ds, d3, S3, rs, r1, r2, e, q⟩
  unfold oS1 at e
  split at e
  · obtain ⟨y, ys, rfl, ry, r0⟩ := r2
    cases r1; cases ry; cases r0
    split at e
    · rename_i hc; cases e
      exact h pins s σ H _ _ v us Q I rx rxs ⟨_, _, rfl, rfl, hC _ _ hc, q.now rs (hf _ _ _ _)⟩
    · cases e
  · cases e
def okS (a : Str) : Bool := decide (a.length ≤ sizeLine)
def oStrip1 : OpM := oS1 (fun a _ => okS a) fun a b => .str (Txt.stripChars a b)
theorem mm_strip1 : MtR X "str.strip" (rMM X.K X.mg oStrip1) := mm_S1 mt_stripChars (fun _ _ h => of_decide_eq_true h) fun _ _ _ _ => rfl
def oRstrip1 : OpM := oS1 (fun a _ => okS a) fun a b => .str (Txt.rstripChars a b)
theorem mm_rstrip1 : MtR X "str.rstrip" (rMM X.K X.mg oRstrip1) := mm_S1 mt_rstripChars (fun _ _ h => of_decide_eq_true h) fun _ _ _ _ => rfl
theorem mt1T {id : String} {g : Str → Str → V} (h : MtR X id (fun x xs H Q => ∃ a b, x = .str a ∧ xs = [.str b] ∧ Q (g a b) H)) : MtR X id (fun x xs H Q => ∃ a b, x = .str a ∧ xs = [.str b] ∧ True ∧ Q (g a b) H) :=
  fun pins s σ H x xs v us Q I rx rxs ⟨a, b, e1, e2, _, q⟩ => h pins s σ H x xs v us Q I rx rxs ⟨a, b, e1, e2, q⟩
def oStartswith : OpM := oS1 (fun _ _ => true) fun a b => .bl (Txt.startswith a b)
theorem mm_startswith : MtR X "str.startswith" (rMM X.K X.mg oStartswith) := mm_S1 (mt1T mt_startswith) (fun _ _ _ => trivial) fun _ _ _ _ => rfl
def oEndswith : OpM := oS1 (fun _ _ => true) fun a b => .bl (Txt.endswith a b)
theorem mm_endswith : MtR X "str.endswith" (rMM X.K X.mg oEndswith) := mm_S1 (mt1T mt_endswith) (fun _ _ _ => trivial) fun _ _ _ _ => rfl
def oFind : OpM := oS1 (fun _ _ => true) fun a b => .int (Txt.find a b)
theorem mm_find : MtR X "str.find" (rMM X.K X.mg oFind) := mm_S1 (mt1T mt_find) (fun _ _ _ => trivial) fun _ _ _ _ => rfl
def oRfind : OpM := oS1 (fun _ _ => true) fun a b => .int (Txt.rfind a b)
theorem mm_rfind : MtR X "str.rfind" (rMM X.K X.mg oRfind) := mm_S1 (mt1T mt_rfind) (fun _ _ _ => trivial) fun _ _ _ _ => rfl
def oLower : OpM := oS0 (fun a => decide (a.length ≤ 5592405)) fun a => .str (Txt.lower a)
theorem mm_lower : MtR X "str.lower" (rMM X.K X.mg oLower) := mm_S0 mt_lower (fun _ h => of_decide_eq_true h) fun _ _ _ => rfl
def oUpper : OpM := oS0 (fun a => decide (a.length ≤ 5592405)) fun a => .str (Txt.upper a)
theorem mm_upper : MtR X "str.upper" (rMM X.K X.mg oUpper) := mm_S0 mt_upper (fun _ h => of_decide_eq_true h) fun _ _ _ => rfl
def oSplit : OpM := fun x as S => match x, as with
  | .str a, [.str b] => if (b.length == 0) = false ∧ a.length + 2 ≤ sizeLine then some (.loc S.length, S ++ [.lst true ((Txt.split a b).map D.str)]) else none
  | _, _ => none
theorem mm_split : MtR X "str.split" (rMM X.K X.mg oSplit) := by
  intro pins s σ H x xs v us Q I rx rxs ⟨ρ, S, d, ds, d3, S3, rs, r1, r2, e, q⟩
  unfold oSplit at e
  split at e
  · obtain ⟨y, ys, rfl, ry, r0⟩ := r2
    cases r1; cases ry; cases r0
    split at e
    · rename_i hc; cases e
      exact mt_split pins s σ H _ _ v us Q I rx rxs ⟨_, _, rfl, rfl, hc.1, hc.2, fun p hp => q.lnew rs (strs_rvs _) hp⟩
    · cases e
  · cases e
def oPartition : OpM := fun x as S => match x, as with
  | .str a, [.str b] => if (b.length == 0) = false ∧ a.length ≤ sizeLine then some (.tup [.str (Txt.partition a b).1, .str (Txt.partition a b).2.1, .str (Txt.partition a b).2.2], S) else none
  | _, _ => none
theorem mm_partition : MtR X "str.partition" (rMM X.K X.mg oPartition) := by
  intro pins s σ H x xs v us Q I rx rxs ⟨ρ, S, d, ds, d3, S3, rs, r1, r2, e, q⟩
  unfold oPartition at e
  split at e
  · obtain ⟨y, ys, rfl, ry, r0⟩ := r2
    cases r1; cases ry; cases r0
    split at e
    · rename_i hc; cases e
      exact mt_partition pins s σ H _ _ v us Q I rx rxs ⟨_, _, rfl, rfl, hc.1, hc.2, fun p hp => q.tnew rs ⟨_, _, rfl, rfl, _, _, rfl, rfl, _, _, rfl, rfl, rfl⟩ hp⟩
    · cases e
  · cases e
def oJoin : OpM := fun x as S => match x, as with
  | .str a, [d] => match itemsOf S d with
    | some ds => match strsOf ds with
      | some ys => if (ys.map (·.length)).sum + ys.length * a.length ≤ 16777216 then some (.str (Txt.join a ys), S) else none
      | none => none
    | none => none
  | _, _ => none
theorem mm_join : MtR X "str.join" (rMM X.K X.mg oJoin) := by
  intro pins s σ H x xs v us Q I rx rxs ⟨ρ, S, d, ds, d3, S3, rs, r1, r2, e, q⟩
  unfold oJoin at e
  split at e
  · obtain ⟨y, ys, rfl, ry, r0⟩ := r2
    cases r1; cases r0
    split at e
    · rename_i ds' hi
      split at e
      · rename_i zs hz
        split at e
        · rename_i hc; cases e
          obtain ⟨a, ws, rfl, hx, hv⟩ := items_seq rs ry hi
          have := rvs_strs hv hz
          subst this
          exact mt_join pins s σ H _ _ v us Q I rx rxs ⟨_, a, zs, rfl, rfl, hx, hc, q.now rs rfl⟩
        · cases e
      · cases e
    · cases e
  · cases e
def oSindex : OpM := fun x as S => match x, as with
  | .str a, [.str b] => match Builtin.Str.occurrences a b 0 a.length 1 with
    | i :: _ => some (.int (i : Nat), S)
    | [] => none
  | _, _ => none
/-- what a list's method leaves: the answer, and the list's new items -/
theorem Fin.lset {K : PySem.W.Frag} {mg : Str → Option Value} {ρ : List Addr} {H : Hp} {d : D} {v : V} {S : Sto} {Q : VK} {n : Nat} {a : Addr} {ds ds' : List D} {xs xs' : List V} (q : Fin K mg ρ H d (S.set n (.lst true ds')) Q) (rs : RS K mg ρ H S) (pa : ρ[n]? = some a) (e0 : S[n]? = some (.lst true ds)) (hx : H a = some (.lst xs))
    (hv : RVs K mg ρ H ds' xs') (hr : RV K mg ρ H d v) : Q v (upd H a (.lst xs')) := by
  have k : Keep H (upd H a (.lst xs')) := Keep.mut hx rfl
  exact q v _ ρ (Pre.refl _) k (rs.set pa e0 rfl ⟨xs', upd_same, RVs.mono (Pre.refl _) k _ _ hv⟩ rfl) (hr.mono (Pre.refl _) k)
def oAppend : OpM := fun x as S => match x, as with
  | .loc n, [d] => match S[n]? with
    | some (.lst true ds) => if ds.length < sizeLine then some (.non, S.set n (.lst true (ds ++ [d]))) else none
    | _ => none
  | _, _ => none
theorem mm_append : MtM X "list.append" (rMM X.K X.mg oAppend) := by
  intro pins s σ H x xs v us Q I rx rxs ⟨ρ, S, d, ds, d3, S3, rs, r1, r2, e, q⟩
  unfold oAppend at e
  split at e
  · obtain ⟨y, ys, rfl, ry, r0⟩ := r2
    cases r0
    obtain ⟨a, rfl, pa⟩ := r1
    split at e
    · rename_i ds' e0
      split at e
      · rename_i hc; cases e
        obtain ⟨zs, hx, hv⟩ := rs.at_ _ _ _ pa e0
        exact mt_append pins s σ H _ _ v us Q I rx rxs ⟨a, zs, y, rfl, rfl, hx, by rw [← hv.length]; exact hc, q.lset rs pa e0 hx (hv.append (RVs.one ry)) rfl⟩
      · cases e
    · cases e
  · cases e
def oExtend : OpM := fun x as S => match x, as with
  | .loc n, [.loc m] => match S[n]?, S[m]? with
    | some (.lst true ds), some (.lst true es) => if ds.length + es.length ≤ sizeLine then some (.non, S.set n (.lst true (ds ++ es))) else none
    | _, _ => none
  | _, _ => none
theorem mm_extend : MtM X "list.extend" (rMM X.K X.mg oExtend) := by
  intro pins s σ H x xs v us Q I rx rxs ⟨ρ, S, d, ds, d3, S3, rs, r1, r2, e, q⟩
  unfold oExtend at e
  split at e
  · obtain ⟨y, ys, rfl, ⟨b, rfl, pb⟩, r0⟩ := r2
    cases r0
    obtain ⟨a, rfl, pa⟩ := r1
    split at e
    · rename_i ds' es' e0 e1
      split at e
      · rename_i hc; cases e
        obtain ⟨zs, hx, hv⟩ := rs.at_ _ _ _ pa e0
        obtain ⟨ws, hy, hw⟩ := rs.at_ _ _ _ pb e1
        exact mt_extend pins s σ H _ _ v us Q I rx rxs ⟨a, b, zs, ws, rfl, rfl, hx, hy, by rw [← hv.length, ← hw.length]; exact hc, q.lset rs pa e0 hx (hv.append hw) rfl⟩
      · cases e
    · cases e
  · cases e
theorem RVs.dropLast {K : PySem.W.Frag} {mg : Str → Option Value} {ρ : List Addr} {H : Hp} {ds : List D} {xs : List V} (h : RVs K mg ρ H ds xs) : RVs K mg ρ H ds.dropLast xs.dropLast := by
  rw [List.dropLast_eq_take, List.dropLast_eq_take, h.length]
  exact h.take _
def oPop : OpM := fun x as S => match x, as with
  | .loc n, [] => match S[n]? with
    | some (.lst true ds) => match ds[ds.length - 1]? with
      | some d => some (d, S.set n (.lst true ds.dropLast))
      | none => none
    | _ => none
  | _, _ => none
theorem mm_pop : MtM X "list.pop" (rMM X.K X.mg oPop) := by
  intro pins s σ H x xs v us Q I rx rxs ⟨ρ, S, d, ds, d3, S3, rs, r1, r2, e, q⟩
  unfold oPop at e
  split at e
  · cases r2
    obtain ⟨a, rfl, pa⟩ := r1
    split at e
    · rename_i ds' e0
      split at e
      · rename_i d' hd; cases e
        obtain ⟨zs, hx, hv⟩ := rs.at_ _ _ _ pa e0
        obtain ⟨y, ey, ry⟩ := hv.get hd
        exact mt_pop pins s σ H _ _ v us Q I rx rxs ⟨a, zs, y, rfl, rfl, hx, by rw [← hv.length]; exact ey, q.lset rs pa e0 hx hv.dropLast ry⟩
      · cases e
    · cases e
  · cases e
/-! ### f-strings -/
def fmtD : D → Option Str
  | .str y => if y.length ≤ sizeLine then some y else none
  | .int i => if i.natAbs.log2 < 1920 then some (toString i) else none
  | _ => none
def mFmt (ma : MV) : MV := fun e S => (ma e S).bind fun d S1 => match fmtD d with
  | some y => .ok (.str y) S1
  | none => .stuck
theorem me_fmt (he : PE X e (tM X.K X.mg W ma)) : PE X (.FormattedValue e (-1) none pos) (tM X.K X.mg W (mFmt ma)) :=
  PE.imp (pe_fmt he) fun σ H Q ⟨ρ, e, S, re, rs, g⟩ => ⟨ρ, e, S, re, rs, GoodG.bind g fun d1 S1 x H1 ρ1 _ p1 k1 rs1 r1 g1 => by
    try dsimp only at g1
    split at g1
    · rename_i y hy
      unfold fmtD at hy
      split at hy
      · cases r1
        split at hy
        · rename_i hz; cases hy
          exact .inl ⟨_, rfl, hz, GoodG.ok g1 rs1 rfl⟩
        · cases hy
      · cases r1
        split at hy
        · rename_i hz; cases hy
          exact .inr ⟨_, rfl, hz, GoodG.ok g1 rs1 rfl⟩
        · cases hy
      · cases hy
    · exact g1.elim⟩
/-- the texts one behind the other -/
def mJs : List MV → Str → MV
  | [], acc => fun _ S => .ok (.str acc) S
  | m :: ms, acc => fun e S => (m e S).bind fun d S1 => match d with
    | .str y => if (acc ++ y).length ≤ sizeLine then mJs ms (acc ++ y) e S1 else .stuck
    | _ => .stuck
inductive MJ (X : Cx) (W : WX) : List Expr → List MV → Prop where
  | nil : MJ X W [] []
  | cons {e : Expr} {m : MV} {es : List Expr} {ms : List MV} (h : PE X e (tM X.K X.mg W m)) (r : MJ X W es ms) : MJ X W (e :: es) (m :: ms)
theorem MJ.pj {ms : List MV} (h : MJ X W es ms) : PJ X es (ms.map fun m => tM X.K X.mg W m) := by
  induction h with
  | nil => exact .nil
  | cons h r ih => exact .cons h ih
theorem tjs_of : ∀ (ms : List MV) (acc : Str) (σ : St) (H : Hp) (Q : VK), tM X.K X.mg W (mJs ms acc) σ H Q → tJs (ms.map fun m => tM X.K X.mg W m) acc σ H fun out H1 => Q (.str out) H1
  | [], acc, σ, H, Q, h => by
    obtain ⟨ρ, e, S, re, rs, g⟩ := h
    exact GoodG.ok g rs rfl
  | m :: ms, acc, σ, H, Q, h => by
    obtain ⟨ρ, e, S, re, rs, g⟩ := h
    refine ⟨ρ, e, S, re, rs, GoodG.bind (r := m e S) g fun d1 S1 x H1 ρ1 _ p1 k1 rs1 r1 g1 => ?_⟩
    try dsimp only at g1
    split at g1
    · cases r1
      split at g1
      · rename_i hz
        exact ⟨_, rfl, hz, tjs_of ms _ σ H1 Q ⟨ρ1, e, S1, re.mono p1 k1, rs1, g1⟩⟩
      · exact g1.elim
    · exact g1.elim
theorem me_joined {v1 v2 : Expr} {rest : List Expr} {ms : List MV} (h : MJ X W (v1 :: v2 :: rest) ms) : PE X (.JoinedStr (v1 :: v2 :: rest) pos) (tM X.K X.mg W (mJs ms Str.empty)) := PE.imp (pe_joined h.pj) (tjs_of ms _)
theorem me_joined1 (he : PE X e (tM X.K X.mg W ma)) : PE X (.JoinedStr [e] pos) (tM X.K X.mg W ma) := pe_joined1 he
end
end M2
end

section
set_option Elab.async false
set_option linter.all false
set_option maxRecDepth 100000
/-! M2: list comprehensions. -/
namespace M2
open PySem PySem.Spec PyProof.Rows L2
set_option autoImplicit false
def wipeE (e : Nv) : List Nat → Nv
  | [] => e
  | v :: vs => (wipeE e vs).set v none
section
variable (K : PySem.W.Frag) (mg : Str → Option Value)
/-- a target that changes the slots vs alone -/
def tTgW (vs : List Nat) (tg : Tg) : TG := fun v σ H Q => ∃ ρ e S d e', RE K mg ρ H e σ ∧ RS K mg ρ H S ∧ RV K mg ρ H d v ∧ tg d e = some e' ∧ ∀ σ', RE K mg ρ H e' σ' → wipe σ' vs = wipe σ vs → Q σ' H
def tTgsW (vs : List Nat) (ts : List Tg) : TGs := fun xs σ H Q => ∃ ρ e S ds e', RE K mg ρ H e σ ∧ RS K mg ρ H S ∧ RVs K mg ρ H ds xs ∧ tgs ts ds e = some e' ∧ ∀ σ', RE K mg ρ H e' σ' → wipe σ' vs = wipe σ vs → Q σ' H
end
theorem set_set_none (σ : St) (i j : Nat) (x : Option V) : ((σ.set i x).set j none) = if i = j then σ.set j none else (σ.set j none).set i x := by
  by_cases h : i = j
  · subst h; rw [if_pos rfl, List.set_set]
  · rw [if_neg h, List.set_comm _ _ h]
theorem wipe_set_out {σ : St} {i : Nat} {x : Option V} : ∀ {vs : List Nat}, i ∉ vs → wipe (σ.set i x) vs = (wipe σ vs).set i x
  | [], _ => rfl
  | v :: vs, h => by
    have h1 : i ≠ v := fun e => h (e ▸ List.mem_cons_self)
    have h2 : i ∉ vs := fun e => h (List.mem_cons_of_mem _ e)
    unfold wipe
    rw [wipe_set_out h2, List.set_comm _ _ h1]
theorem wipe_set {σ : St} {i : Nat} {x : Option V} : ∀ {vs : List Nat}, i ∈ vs → wipe (σ.set i x) vs = wipe σ vs
  | v :: vs, h => by
    unfold wipe
    by_cases hv : i ∈ vs
    · rw [wipe_set hv]
    · have e : i = v := by
        rcases List.mem_cons.mp h with e | e
        · exact e
        · exact absurd e hv
      rw [wipe_set_out hv, e, List.set_set]
theorem wipe_sub {σ : St} {vs : List Nat} : ∀ {us : List Nat}, (∀ u ∈ us, u ∈ vs) → wipe (wipe σ us) vs = wipe σ vs
  | [], _ => rfl
  | u :: us, h => by
    show wipe ((wipe σ us).set u none) vs = _
    rw [wipe_set (h u List.mem_cons_self), wipe_sub fun v hv => h v (List.mem_cons_of_mem _ hv)]
section
variable {K : PySem.W.Frag} {mg : Str → Option Value} {ρ : List Addr} {H : Hp}
theorem RE.wipe {e : Nv} {σ : St} (h : RE K mg ρ H e σ) : ∀ vs : List Nat, RE K mg ρ H (wipeE e vs) (L2.wipe σ vs)
  | [] => h
  | v :: vs => (RE.wipe h vs).drop2 v
end
section
variable {X : Cx} {W : WX} {e : Expr} {pos : Pos} {tg : Tg} {vs : List Nat}
theorem mw_name {i : Nat} {x : Str} (hv : i ∈ vs) (hN : X.N.Nodup) (hi : X.N[i]? = some x) (hx : Loc X.env.scope x) (hf : X.fn x = true ∨ X.env.scope.names.lookup x = some .local := by first | exact .inl rfl | exact .inr rfl | assumption) : PG X (.Name x pos) (tTgW X.K X.mg vs (tgN i)) := by
  refine ⟨fun pins s σ H v u Q I r h => (pg_name (i := i) hN hi hx hf).run pins s σ H v u Q I r ?_⟩
  obtain ⟨ρ, e, S, d, e', re, rs, rv, h, q⟩ := h
  cases h
  exact q _ (re.set i rv) (wipe_set hv)
theorem mws_nil : PGs X [] (tTgsW X.K X.mg vs []) := by
  refine ⟨fun pins s σ H xs us Q I r h => pgs_nil.run pins s σ H xs us Q I r ?_⟩
  obtain ⟨ρ, e, S, ds, e', re, rs, rv, h, q⟩ := h
  cases ds with
  | nil =>
    cases h
    exact ⟨rv, q _ re rfl⟩
  | cons d ds => cases h
theorem mws_cons {es : List Expr} {ts : List Tg} (h1 : PG X e (tTgW X.K X.mg vs tg)) (h2 : PGs X es (tTgsW X.K X.mg vs ts))
    (hs : (assignEach (e :: es) X.env).map (·.2) = assign e X.env :: (assignEach es X.env).map (·.2) := by rfl) : PGs X (e :: es) (tTgsW X.K X.mg vs (tg :: ts)) := by
  refine ⟨fun pins s σ H xs us Q I r h => (pgs_cons h1 h2 hs).run pins s σ H xs us Q I r ?_⟩
  obtain ⟨ρ, e, S, ds, e', re, rs, rv, h, q⟩ := h
  cases ds with
  | nil => cases h
  | cons d ds =>
    obtain ⟨x, xs, rfl, r1, r2⟩ := rv
    have h : (tg d e).bind (fun e1 => tgs ts ds e1) = some e' := h
    cases h0 : tg d e with
    | none => rw [h0] at h; cases h
    | some e1 =>
      rw [h0] at h
      exact ⟨x, xs, rfl, ρ, e, S, d, e1, re, rs, r1, h0, fun σ1 re1 w1 => ⟨ρ, e1, S, ds, e', re1, rs, r2, h, fun σ2 re2 w2 => q σ2 re2 (w2.trans w1)⟩⟩
theorem tgs_len : ∀ {ts : List Tg} {ds : List D} {e e' : Nv}, tgs ts ds e = some e' → ds.length = ts.length := by
  intro ts
  induction ts with
  | nil => intro ds e e' h; cases ds <;> first | rfl | cases h
  | cons t ts ih =>
    intro ds e e' h
    cases ds with
    | nil => cases h
    | cons d ds =>
      have h : (t d e).bind (fun e1 => tgs ts ds e1) = some e' := h
      cases h0 : t d e with
      | none => rw [h0] at h; cases h
      | some e1 =>
        rw [h0] at h
        rw [List.length_cons, List.length_cons, ih h]
theorem mw_tup {es : List Expr} {k : Nat} {ts : List Tg} {n : Nat} (hc : X.calm = true) (h : PGs X es (tTgsW X.K X.mg vs ts))
    (hn : (assignEach es X.env).length = n := by rfl) (hl : ts.length = n := by rfl) (hst : (assignEach es X.env).findIdx? (·.1) = none := by rfl) : PG X (.Tuple es k pos) (tTgW X.K X.mg vs (tgT ts)) := by
  refine ⟨fun pins s σ H v u Q I r h0 => (pg_tup hc h hn hst).run pins s σ H v u Q I r ?_⟩
  obtain ⟨ρ, e, S, d, e', re, rs, rv, h1, q⟩ := h0
  unfold tgT at h1
  split at h1
  · rename_i ds
    obtain ⟨a, xs, rfl, sq, rv⟩ := rv
    exact ⟨a, xs, rfl, sq, by rw [← rv.length, tgs_len h1, hl], ρ, e, S, ds, e', re, rs, rv, h1, q⟩
  · cases h1
/-! the tests of a clause -/
def tOk : MT := fun _ S => .ok true S
theorem mp_nil : PTs X [] (tMT X.K X.mg W tOk) := ⟨fun pins s σ H Q I ⟨ρ, e, S, re, rs, g⟩ => pts_nil.run pins s σ H Q I (GoodG.ok g rs rfl)⟩
theorem mp_one {c : Expr} {t : MT} (h : PT X c (tMT X.K X.mg W t)) : PTs X [c] (tMT X.K X.mg W t) := pts_one h
end
def loopC (it : ItM) (tg : Tg) (tt : MT) (me : MV) (n : Nat) (e : Nv) : Nat → Nat → Sto → Res
  | 0, i, S => match it.at_ i S with
    | some none => .ok (.loc n) S
    | _ => .stuck
  | m + 1, i, S => match it.at_ i S with
    | some none => .ok (.loc n) S
    | some (some d) => match tg d e with
      | some e1 => (tt e1 S).bind fun b S1 => if b = true then (me e1 S1).bind fun y S2 => match S2[n]? with
          | some (.lst true acc) => if acc.length < sizeLine then loopC it tg tt me n e m (i + 1) (S2.set n (.lst true (acc ++ [y]))) else .stuck
          | _ => .stuck
        else loopC it tg tt me n e m (i + 1) S1
      | none => .stuck
    | none => .stuck
def mLc (mi : Nv → Sto → Rs ItM) (tg : Tg) (tt : MT) (me : MV) (vs : List Nat) : MV := fun e S => (mi e S).bind fun it S1 =>
  loopC it tg tt me S1.length (wipeE e vs) it.cnt 0 (S1 ++ [.lst true []])
def Rs.cold' {α : Type} (r : Rs α) : Rs α := match r with
  | .exc _ _ _ => .stuck
  | r => r
/-- a comprehension in which nothing is raised -/
def mLcC (mi : Nv → Sto → Rs ItM) (tg : Tg) (tt : MT) (me : MV) (vs : List Nat) : MV := fun e S => (mi e S).bind fun it S1 =>
  (loopC it tg tt me S1.length (wipeE e vs) it.cnt 0 (S1 ++ [.lst true []])).cold
def wF : WX := fun _ _ _ _ => False
theorem GoodG.st {K : PySem.W.Frag} {mg : Str → Option Value} {α β : Type} {rel : List Addr → Hp → α → β → Prop} {σ σ' : St} {ρ : List Addr} {H : Hp} {r : Rs α} {Q : β → Hp → Prop} (g : GoodG K mg wF rel σ ρ H r Q) : GoodG K mg wF rel σ' ρ H r Q := by
  cases r with
  | ok d S => exact g
  | exc c fs S => exact g
  | stuck => exact g
section
variable {X : Cx} {W : WX} {ma mb mc : MV} {pos : Pos} {tg : Tg} {mi : Nv → Sto → Rs ItM} {tt : MT} {me : MV}
theorem tlc_of {vs : List Nat} (σ : St) (H : Hp) (Q : VK) (h : tM X.K X.mg W (mLcC mi tg tt me vs) σ H Q) : tLc (tMI X.K X.mg W mi) (tTgW X.K X.mg vs tg) (tMT X.K X.mg wF tt) (tM X.K X.mg wF me) vs σ H Q := by
  obtain ⟨ρ, e, S, re, rs, g⟩ := h
  refine ⟨ρ, e, S, re, rs, GoodG.bind g fun it S1 J H1 ρ1 _ p1 k1 rs1 r1 g1 => fun D hD => ?_⟩
  have g1 := good_cold (W' := wF) g1
  have kp : Keep H1 (upd H1 D (.lst [])) := Keep.new hD
  have rs2 : RS X.K X.mg (ρ1 ++ [D]) (upd H1 D (.lst [])) (S1 ++ [.lst true []]) := rs1.alloc hD ⟨[], upd_same, rfl⟩
  have nD : (ρ1 ++ [D])[S1.length]? = some D := by rw [← rs1.len]; simp
  have re2 : RE X.K X.mg (ρ1 ++ [D]) (upd H1 D (.lst [])) (wipeE e vs) (wipe σ vs) := ((re.mono p1 k1).mono (Pre.app _ _) kp).wipe vs
  generalize hn : S1.length = n at g1 nD
  generalize he : wipeE e vs = ew at g1 re2
  refine ⟨fun i m H => ∃ ρ2 S2, RS X.K X.mg ρ2 H S2 ∧ Pre (ρ1 ++ [D]) ρ2 ∧ Keep (upd H1 D (.lst [])) H ∧ GoodG X.K X.mg wF (RV X.K X.mg) [] ρ2 H (loopC it tg tt me n ew m i S2) Q,
    ⟨it.cnt, ρ1 ++ [D], _, rs2, Pre.refl _, Keep.refl _, GoodG.mono g1 (Pre.app _ _) kp⟩, ?_⟩
  rintro i m H2 ⟨ρ2, S2, rs2, p2, k2, g2⟩
  have io := r1 i ρ2 H2 S2 ((Pre.app _ _).trans p2) (kp.trans k2) rs2
  have stop : it.at_ i S2 = some none → GoodG X.K X.mg wF (RV X.K X.mg) [] ρ2 H2 (.ok (.loc n) S2) Q → J.stop i H2 ∧ Q (.ref D) H2 := fun h g => by
    rw [h] at io
    exact ⟨io, GoodG.ok g rs2 ⟨D, rfl, p2 _ _ nD⟩⟩
  cases m with
  | zero =>
    unfold loopC at g2
    split at g2
    · rename_i h
      exact .inl (stop h g2)
    · exact g2.elim
  | succ m =>
    unfold loopC at g2
    split at g2
    · rename_i h
      exact .inl (stop h g2)
    · rename_i d h
      rw [h] at io
      obtain ⟨go, yl⟩ := io
      split at g2
      · rename_i e3 h3
        refine .inr ⟨go, fun H' => ∃ ρ2 S2, RS X.K X.mg ρ2 H' S2 ∧ Pre (ρ1 ++ [D]) ρ2 ∧ Keep (upd H1 D (.lst [])) H' ∧ GoodG X.K X.mg wF (RV X.K X.mg) [] ρ2 H' (loopC it tg tt me n ew m (i + 1) S2) Q, fun H' hN => ⟨m, Nat.lt_succ_self _, hN⟩, fun x H' y => ?_⟩
        obtain ⟨ky, rs3, rx⟩ := yl x H' y
        refine ⟨ρ2, ew, S2, d, e3, re2.mono p2 (k2.trans ky), rs3, rx, h3, fun σ3 re3 w3 => ⟨?_, ρ2, e3, S2, re3, rs3, ?_⟩⟩
        · rw [w3, wipe_sub fun _ h => h]
        have g3 := GoodG.mono g2 (Pre.refl ρ2) ky
        refine GoodG.bind (GoodG.st g3) fun b S4 bb H4 ρ4 _ p4 k4 rs4 r4 g4 => ?_
        cases r4
        try dsimp only at g4
        cases b with
        | false =>
          rw [if_neg Bool.false_ne_true] at g4 ⊢
          exact ⟨ρ4, S4, rs4, p2.trans p4, (k2.trans ky).trans k4, GoodG.st g4⟩
        | true =>
          rw [if_pos rfl] at g4 ⊢
          refine ⟨ρ4, e3, S4, re3.mono p4 k4, rs4, GoodG.bind g4 fun yd S5 yv H5 ρ5 _ p5 k5 rs5 r5 g5 => ?_⟩
          try dsimp only at g5
          split at g5
          · rename_i acc ha
            split at g5
            · rename_i hz
              have pD := (p2.trans p4).trans p5 _ _ nD
              obtain ⟨xs, ex, rx⟩ := rs5.at_ _ _ _ pD ha
              have kq : Keep H5 (upd H5 D (.lst (xs ++ [yv]))) := Keep.mut ex rfl
              refine ⟨xs, ex, by rw [← rx.length]; exact hz, ρ5, _, rs5.set (o' := .lst true (acc ++ [yd])) pD ha rfl ⟨_, upd_same, RVs.mono (Pre.refl _) kq _ _ (rx.append (.one r5))⟩ rfl, (p2.trans p4).trans p5, ((k2.trans ky).trans k4).trans (k5.trans kq), GoodG.mono (GoodG.st g5) (Pre.refl _) kq⟩
            · exact g5.elim
          · exact g5.elim
      · exact g2.elim
    · exact g2.elim
variable {elt tgt iter : Expr} {ifs : List Expr} {scope : Scope} {own : List (Str × Nat)}
theorem me_lc (hc : X.calm = true) (hN : X.N.Nodup) (hi : PI X tgt iter (tMI X.K X.mg W mi)) (ok : BlkOk X.N X.env.scope scope own)
    (hg : ∀ (s : Shared) (H : Hp) (C : Addr) (cl : List (Str × Addr)) (fp : List Addr), PG (X.blk s H scope (compEnvC scope cl C X.env) fp) tgt (tTgW X.K X.mg (own.map (·.2)) tg)) (ht : ∀ (s : Shared) (H : Hp) (C : Addr) (cl : List (Str × Addr)) (fp : List Addr), PTs (X.blk s H scope (compEnvC scope cl C X.env) fp) ifs (tMT X.K X.mg wF tt))
    (he : ∀ (s : Shared) (H : Hp) (C : Addr) (cl : List (Str × Addr)) (fp : List Addr), PE (X.blk s H scope (compEnvC scope cl C X.env) fp) elt (tM X.K X.mg wF me)) (hs : ∀ x, foldedSetIterable iter X.env x = pure x := by intro _; rfl) :
    PE X (.ListComp elt [⟨tgt, iter, ifs, 0⟩] scope pos) (tM X.K X.mg W (mLcC mi tg tt me (own.map (·.2)))) := PE.imp (pe_lc hc hN hi ok hg ht he hs) tlc_of
theorem ms_setLc {i : Nat} {y : Str} {py spos : Pos} (hc : X.calm = true) (hN : X.N.Nodup) (hy : X.N[i]? = some y) (hyl : X.env.scope.names.lookup y = some .local)
    (hsw : swapsWith (.ListComp elt [⟨tgt, iter, ifs, 0⟩] scope pos) (some (.Name y py)) spos.line X.env = pure true) (hi : PI X tgt iter (tMI X.K X.mg W mi)) (ok : BlkOk X.N X.env.scope scope own)
    (hg : ∀ (s : Shared) (H : Hp) (C : Addr) (cl : List (Str × Addr)) (fp : List Addr), PG (X.blk s H scope (compEnvC scope cl C X.env) fp) tgt (tTgW X.K X.mg (own.map (·.2)) tg)) (ht : ∀ (s : Shared) (H : Hp) (C : Addr) (cl : List (Str × Addr)) (fp : List Addr), PTs (X.blk s H scope (compEnvC scope cl C X.env) fp) ifs (tMT X.K X.mg wF tt))
    (he : ∀ (s : Shared) (H : Hp) (C : Addr) (cl : List (Str × Addr)) (fp : List Addr), PE (X.blk s H scope (compEnvC scope cl C X.env) fp) elt (tM X.K X.mg wF me)) (hs : ∀ x, foldedSetIterable iter X.env x = pure x := by intro _; rfl) :
    PS X (.Assign [.Name y py] (.ListComp elt [⟨tgt, iter, ifs, 0⟩] scope pos) spos) (tMS X.K X.mg W (sAsg (mLcC mi tg tt me (own.map (·.2))) (tgN i))) :=
  PS.imp (ps_setLc (i := i) hc hN hy hyl hsw hi ok hg ht he hs) fun Dn σ H ⟨ρ, e, S, re, rs, g⟩ => tlc_of σ H _ ⟨ρ, e, S, re, rs, GoodG.bindS re g fun d S1 v H1 ρ1 _ p1 k1 rs1 r1 g1 =>
    g1 _ H1 ρ1 (Pre.refl _) (Keep.refl _) rs1 ((re.mono p1 k1).set i r1)⟩
end
end M2
end

section
set_option Elab.async false
set_option linter.all false
set_option maxRecDepth 100000
/-! M2: products, dicts, sorted, zip. -/
namespace M2
open PySem PySem.Spec PyProof.Rows L2
set_option autoImplicit false
section
variable {X : Cx} {W : WX}
theorem om_mul : OpR X (binaryOp .Mult) (rM2 X.K X.mg oMul) := by
  intro pins s σ H x y v u Q I rx ry ⟨ρ, S, d1, d2, d3, S3, rs, r1, r2, e, q⟩
  unfold oMul at e
  split at e
  · rename_i i j
    cases r1; cases r2
    split at e
    · rename_i h; cases e
      exact op_mulX pins s σ H _ _ v u Q I rx ry ⟨_, _, rfl, rfl, mulx_ok (a := i.natAbs.log2 + 1) (b := j.natAbs.log2 + 1) Nat.lt_log2_self Nat.lt_log2_self (by omega), q.now rs rfl⟩
    · cases e
  · rename_i x j
    cases r1; cases r2
    split at e
    · rename_i h; cases e
      obtain ⟨h0, h1, hl⟩ := h
      obtain ⟨t, rfl⟩ := rx
      obtain ⟨t2, rfl⟩ := ry
      refine SB.mul ⟨?_, fun g1 g2 => ?_, fun g1 g2 => ?_⟩ fun t' k => ⟨.str (Txt.mul x j), H, I.tok k, ⟨t', rfl⟩, q.now rs rfl⟩
      · rw [decide_eq_false (by omega), decide_eq_false (by omega)]; rfl
      · have a1 : (9000000000 : Int) ≤ (2 ^ 63 - 1) / j := by
          rw [Int.le_ediv_iff_mul_le (by omega)]
          omega
        have a2 : x.length ≤ x.length * j.toNat := Nat.le_mul_of_pos_right _ (by omega)
        omega
      · unfold Builtin.Str.tooLong
        rw [sizeLine_eq]
        exact decide_eq_false (by omega)
    · cases e
  · split at e
    · rename_i h1
      split at e
      · rename_i h; cases e
        obtain ⟨a, rfl, pa⟩ := r1
        cases r2
        obtain ⟨vs, ea, ra⟩ := rs.at_ _ _ _ pa h1
        have e1 := ra.length
        refine op_rep pins s σ H _ _ v u Q I rx ry ⟨a, _, vs, rfl, rfl, ea, by omega, by omega, by rw [← e1]; exact h.2.2, fun p hp => q.lnew rs ?_ hp⟩
        generalize Int.toNat _ = n
        induction n with
        | zero => exact rfl
        | succ n ih => rw [List.replicate_succ, List.replicate_succ, List.flatten_cons, List.flatten_cons]; exact ra.append ih
      · cases e
    · cases e
  · cases e
end
/-! ### dict displays -/
def mPairs : List (MV × MV) → Nv → Sto → Rs (List (D × D))
  | [], _, S => .ok [] S
  | p :: r, e, S => (p.1 e S).bind fun k S1 => (p.2 e S1).bind fun v S2 => (mPairs r e S2).bind fun ps S3 => .ok ((k, v) :: ps) S3
def keysD : List (D × D) → Option (List (Key × D))
  | [] => some []
  | p :: r => match keyD p.1 with
    | some k => (keysD r).map ((k, p.2) :: ·)
    | none => none
def mergeD (kvs more : List (Key × D)) : List (Key × D) := more.foldl (fun acc kv => putD acc kv.1 kv.2) kvs
def mDict (ps : List (MV × MV)) : MV := fun e S => (mPairs ps e (S ++ [.dic []])).bind fun kvs S1 => match S1[S.length]? with
  | some (.dic []) => match keysD kvs with
    | some kv => if kv.length ≤ 15 then .ok (.loc S.length) (S1.set S.length (.dic (mergeD [] kv))) else .stuck
    | none => .stuck
  | _ => .stuck
section
variable {K : PySem.W.Frag} {mg : Str → Option Value} {ρ ρ' : List Addr} {H H' : Hp}
def RPs (K : PySem.W.Frag) (mg : Str → Option Value) (ρ : List Addr) (H : Hp) : List (D × D) → List (V × V) → Prop
  | [], vs => vs = []
  | d :: ds, vs => ∃ x xs, vs = x :: xs ∧ RV K mg ρ H d.1 x.1 ∧ RV K mg ρ H d.2 x.2 ∧ RPs K mg ρ H ds xs
theorem rps_keys : ∀ {ds : List (D × D)} {vs : List (V × V)} {kv : List (Key × D)}, RPs K mg ρ H ds vs → keysD ds = some kv → ∃ kvs : List (Key × V), vs = kvs.map (fun kv => (kV kv.1, kv.2)) ∧ RKs K mg ρ H kv kvs
  | [], vs, kv, h, e => by cases e; exact ⟨[], h, rfl⟩
  | d :: ds, vs, kv, h, e => by
    obtain ⟨x, xs, rfl, h1, h2, h3⟩ := h
    unfold keysD at e
    split at e
    · rename_i k hk
      obtain ⟨kr, e1, e2⟩ := map_some e
      subst e2
      obtain ⟨kvs, rfl, hr⟩ := rps_keys h3 e1
      refine ⟨(k, x.2) :: kvs, ?_, x.2, kvs, rfl, h2, hr⟩
      rw [List.map_cons, ← keyD_V h1 hk]
    · cases e
theorem rks_merge : ∀ {more : List (Key × D)} {ms : List (Key × V)} {kvs : List (Key × D)} {xs : List (Key × V)}, RKs K mg ρ H more ms → RKs K mg ρ H kvs xs → RKs K mg ρ H (mergeD kvs more) (mergeK xs ms)
  | [], ms, kvs, xs, h, k => by rw [show ms = [] from h]; exact k
  | d :: more, ms, kvs, xs, h, k => by
    obtain ⟨x, ys, rfl, h1, h2⟩ := h
    exact rks_merge (more := more) (ms := ys) (kvs := putD kvs d.1 d.2) (xs := putK xs d.1 x) h2 (rks_put k h1)
end
section
variable {X : Cx} {W : WX} {pos : Pos}
theorem tpairs_of : ∀ (ps : List (MV × MV)) (σ : St) (H : Hp) (Q : List (V × V) → Hp → Prop), tMG X.K X.mg W (RPs X.K X.mg) (mPairs ps) σ H Q → tPairs (ps.map fun p => (tM X.K X.mg W p.1, tM X.K X.mg W p.2)) σ H Q
  | [], σ, H, Q, ⟨ρ, e, S, re, rs, g⟩ => GoodG.ok g rs rfl
  | p :: r, σ, H, Q, ⟨ρ, e, S, re, rs, g⟩ => ⟨ρ, e, S, re, rs, GoodG.bind g fun k S1 x H1 ρ1 _ p1 k1 rs1 r1 g1 => ⟨ρ1, e, S1, re.mono p1 k1, rs1, GoodG.bind g1 fun v S2 y H2 ρ2 _ p2 k2 rs2 r2 g2 =>
      tpairs_of r σ H2 _ ⟨ρ2, e, S2, (re.mono p1 k1).mono p2 k2, rs2, GoodG.bind g2 fun ds S3 vs H3 ρ3 _ p3 k3 rs3 r3 g3 => GoodG.ok g3 rs3 ⟨(x, y), vs, rfl, r1.mono (p2.trans p3) (k2.trans k3), r2.mono p3 k3, r3⟩⟩⟩⟩
theorem me_disp {keys : List (Option Expr)} {values : List Expr} {ps : List (MV × MV)} (h : PPs X pos keys values (ps.map fun p => (tM X.K X.mg W p.1, tM X.K X.mg W p.2))) (hall : keys.all (·.isSome) = true := by rfl) (hl : keys.length = values.length := by rfl) (h0 : keys ≠ [] := by exact List.cons_ne_nil _ _)
    (h15 : keys.length ≤ 15 := by decide) : PE X (.Dict keys values pos) (tM X.K X.mg W (mDict ps)) := by
  refine PE.imp (pe_disp h hall hl h0 h15) fun σ H Q ⟨ρ, e, S, re, rs, g⟩ p hp => ?_
  have kp : Keep H (upd H p (.dK [])) := Keep.new hp
  have rs1 : RS X.K X.mg (ρ ++ [p]) (upd H p (.dK [])) (S ++ [.dic []]) := rs.alloc hp ⟨[], upd_same, rfl⟩
  have nD : (ρ ++ [p])[S.length]? = some p := by rw [← rs.len]; simp
  refine tpairs_of ps σ _ _ ⟨ρ ++ [p], e, S ++ [.dic []], re.mono (Pre.app _ _) kp, rs1, GoodG.bind (GoodG.mono g (Pre.app _ _) kp) fun kvs S1 vs H1 ρ1 _ p1 k1 rs1 r1 g1 => ?_⟩
  try dsimp only at g1
  split at g1
  · rename_i e1
    have pD := p1 _ _ nD
    obtain ⟨xs, ex, rx⟩ := rs1.at_ _ _ _ pD e1
    have rx : xs = [] := rx
    subst rx
    split at g1
    · rename_i kv hk
      split at g1
      · rename_i hz
        obtain ⟨ms, rfl, hr⟩ := rps_keys r1 hk
        refine ⟨ex, ms, rfl, by rw [← rks_len hr]; exact hz, ?_⟩
        have kq : Keep H1 (upd H1 p (.dK (mergeK [] ms))) := Keep.mut ex rfl
        exact GoodG.ok' g1 (Pre.refl _) kq (rs1.set (o' := .dic (mergeD [] kv)) pD e1 rfl ⟨_, upd_same, RKs.mono (Pre.refl _) kq _ _ (rks_merge hr rfl)⟩ rfl) ⟨p, rfl, pD⟩
      · exact g1.elim
    · exact g1.elim
  · exact g1.elim
/-- {} -/
def mDnew : MV := fun _ S => .ok (.loc S.length) (S ++ [.dic []])
theorem me_dnew : PE X (.Dict [] [] pos) (tM X.K X.mg W mDnew) := PE.imp pe_dnewK fun σ H Q ⟨ρ, e, S, re, rs, g⟩ p hp => by
  have kp : Keep H (upd H p (.dK [])) := Keep.new hp
  exact GoodG.ok' g (Pre.app _ _) kp (rs.alloc hp ⟨[], upd_same, rfl⟩) ⟨p, rfl, by rw [← rs.len]; simp⟩
/-! o[i] = d of a list or a dict -/
def oPut (o i d : D) (S : Sto) : Option Sto := match o with
  | .loc n => match S[n]? with
    | some (.lst true ds) => match i with
      | .int k => (ixN ds.length k).map fun j => S.set n (.lst true (ds.set j d))
      | _ => none
    | some (.dic kvs) => match keyD i with
      | some k => if kvs.length < sizeLine then some (S.set n (.dic (putD kvs k d))) else none
      | none => none
    | _ => none
  | _ => none
def sPut (mv mo_ mi : MV) : MS := fun e S => (mv e S).bindS e fun d S1 => (mo_ e S1).bindS e fun o S2 => (mi e S2).bindS e fun i S3 => match oPut o i d S3 with
  | some S4 => .nx e S4
  | none => .stuck
def rSetA : TSet := fun o i v H Q => rSetL o i v H Q ∨ rSetD o i v H Q
theorem set_any (hu : X.A.units + 1 < cLine) : PSet X rSetA := fun pins s σ H o i v ov iv u Q I ro ri rv h => by
  rcases h with h | h
  · exact set_list pins s σ H o i v ov iv u Q I ro ri rv h
  · exact set_dict hu pins s σ H o i v ov iv u Q I ro ri rv h
variable {ma mb mc : MV}
theorem ms_put {e o i : Expr} {p2 : Pos} (hu : X.A.units + 1 < cLine) (he : PE X e (tM X.K X.mg W ma)) (ho : PE X o (tM X.K X.mg W mb)) (hi : PE X i (tM X.K X.mg W mc))
    (ha : ∀ v, assign (.Subscript o i p2) X.env v = (do
      let ov ← holding [v] (eval o X.env)
      let iv ← holding [v, ov] (eval i X.env)
      standAt p2
      holding [v, ov, iv] (setItem ov iv v)
      release [v, ov, iv] []) := by intro _; rfl) (hs : swapsWithSole [.Subscript o i p2] e pos.line X.env = pure false := by rfl) (hw : swappedStores [.Subscript o i p2] e X.env = pure none := by rfl)
    (h1 : (assignEach [.Subscript o i p2] X.env).map (·.2) = [assign (.Subscript o i p2) X.env] := by rfl) : PS X (.Assign [.Subscript o i p2] e pos) (tMS X.K X.mg W (sPut ma mb mc)) :=
  PS.imp (ps_asg he (pg_sub ho hi (set_any hu) ha) hs hw h1) fun Dn σ H ⟨ρ, e, S, re, rs, g⟩ => ⟨ρ, e, S, re, rs, GoodG.bindS re g fun d S1 v H1 ρ1 _ p1 k1 rs1 r1 g1 =>
    ⟨ρ1, e, S1, re.mono p1 k1, rs1, GoodG.bindS (re.mono p1 k1) g1 fun o S2 x H2 ρ2 _ p2 k2 rs2 r2 g2 =>
    ⟨ρ2, e, S2, (re.mono p1 k1).mono p2 k2, rs2, GoodG.bindS ((re.mono p1 k1).mono p2 k2) g2 fun i S3 y H3 ρ3 _ p3 k3 rs3 r3 g3 => by
      try dsimp only at g3
      have r1' := r1.mono (p2.trans p3) (k2.trans k3)
      have r2' := r2.mono p3 k3
      have re' := ((re.mono p1 k1).mono (p2.trans p3) (k2.trans k3))
      split at g3
      · rename_i S4 h
        unfold oPut at h
        split at h
        · rename_i n
          obtain ⟨a, rfl, pa⟩ := r2'
          split at h
          · rename_i ds e0
            split at h
            · obtain ⟨j, hj, hS⟩ := map_some h
              subst hS
              cases r3
              obtain ⟨xs, ea, ra⟩ := rs3.at_ _ _ _ pa e0
              have kp : Keep H3 (upd H3 a (.lst (xs.set j v))) := Keep.mut ea rfl
              refine .inl ⟨a, xs, _, j, rfl, rfl, ea, by rw [← ra.length]; exact hj, ?_⟩
              exact g3 σ _ ρ3 (Pre.refl _) kp (rs3.set pa e0 rfl ⟨_, upd_same, RVs.mono (Pre.refl _) kp _ _ (ra.set j r1')⟩ rfl) (re'.mono (Pre.refl _) kp)
            · cases h
          · rename_i kvs e0
            split at h
            · rename_i k hk
              split at h
              · rename_i hz
                cases h
                obtain ⟨xs, ea, ra⟩ := rs3.at_ _ _ _ pa e0
                have kp : Keep H3 (upd H3 a (.dK (putK xs k v))) := Keep.mut ea rfl
                have ek := keyD_V r3 hk
                subst ek
                refine .inr ⟨a, _, rfl, DPut.k ea (by rw [← rks_len ra]; exact hz), ?_⟩
                exact g3 σ _ ρ3 (Pre.refl _) kp (rs3.set pa e0 rfl ⟨_, upd_same, RKs.mono (Pre.refl _) kp _ _ (rks_put ra r1')⟩ rfl) (re'.mono (Pre.refl _) kp)
              · cases h
            · cases h
          · cases h
        · cases h
      · exact g3.elim⟩⟩⟩
/-- d.get(k, x), d.get(k) -/
def oGet : OpM := fun x as S => match x with
  | .loc n => match S[n]? with
    | some (.dic kvs) => match as with
      | [k, d] => match keyD k with
        | some k => some ((getD' kvs k).getD d, S)
        | none => none
      | [k] => match keyD k with
        | some k => some ((getD' kvs k).getD .non, S)
        | none => none
      | _ => none
    | _ => none
  | _ => none
theorem mm_get (hu : X.A.units + 1 < cLine) : MtR X "dict.get" (rMM X.K X.mg oGet) := by
  intro pins s σ H x xs v us Q I rx rxs ⟨ρ, S, d, ds, d3, S3, rs, r1, r2, e, q⟩
  unfold oGet at e
  split at e
  · obtain ⟨a, rfl, pa⟩ := r1
    cases rx
    split at e
    · rename_i kvs e0
      obtain ⟨zs, hx, hv⟩ := rs.at_ _ _ _ pa e0
      split at e
      · split at e
        · rename_i k d _ k' hk; cases e
          obtain ⟨y, ys, rfl, ry, y2, ys2, rfl, ry2, r0⟩ := r2
          cases r0
          cases rxs with
          | cons ra rb =>
          cases rb with
          | cons rc rd =>
          cases rd
          have ek := keyD_V ry hk
          subst ek
          refine d_get2 (A := X.A) hu I (DGet.k hx) ra rc fun w' s' I' rw' => ⟨_, H, I', rw', ?_⟩
          have g := rks_get k' hv
          split at g
          · rename_i dd h1
            obtain ⟨vv, h2, h3⟩ := g
            rw [h2]; rw [h1] at q
            exact q.now rs h3
          · rename_i h1
            rw [g]; rw [h1] at q
            exact q.now rs ry2
        · cases e
      · split at e
        · rename_i k _ k' hk; cases e
          obtain ⟨y, ys, rfl, ry, r0⟩ := r2
          cases r0
          cases rxs with
          | cons ra rb =>
          cases rb
          have ek := keyD_V ry hk
          subst ek
          refine d_get1 (A := X.A) hu I (DGet.k hx) ra fun w' s' I' rw' => ⟨_, H, I', rw', ?_⟩
          have g := rks_get k' hv
          split at g
          · rename_i dd h1
            obtain ⟨vv, h2, h3⟩ := g
            rw [h2]; rw [h1] at q
            exact q.now rs h3
          · rename_i h1
            rw [g]; rw [h1] at q
            exact q.now rs rfl
        · cases e
      · cases e
    · cases e
  · cases e
end
end M2
end

section
set_option Elab.async false
set_option linter.all false
set_option maxRecDepth 100000
/-! M2: sorted, zip, calls of a def in a local. -/
namespace M2
open PySem PySem.Spec PyProof.Rows L2
set_option autoImplicit false
/-! ### sorted -/
def leS (a b : Str) : Bool := !PySem.Spec.ltCps b.cps.toList a.cps.toList
theorem leS_trans {a b c : Str} (h : leS a b = true) (k : leS b c = true) : leS a c = true := by
  unfold leS at *
  rw [ltCps_eq] at *
  simp only [Bool.not_eq_true', decide_eq_false_iff_not, List.not_lt] at *
  exact List.le_trans h k
theorem leS_anti {a b : Str} (h : leS a b = true) (k : leS b a = true) : a = b := by
  unfold leS at *
  rw [ltCps_eq] at *
  simp only [Bool.not_eq_true', decide_eq_false_iff_not, List.not_lt] at *
  have := List.le_antisymm h k
  cases a; cases b
  simp only [Str.mk.injEq]
  exact Array.toList_inj.mp this
theorem leS_total (a b : Str) : (leS a b || leS b a) = true := by
  unfold leS
  rw [ltCps_eq, ltCps_eq]
  rcases List.le_total a.cps.toList b.cps.toList with h | h
  · have : ¬ b.cps.toList < a.cps.toList := List.not_lt.mpr h
    simp [this]
  · have : ¬ a.cps.toList < b.cps.toList := List.not_lt.mpr h
    simp [this]
theorem risingS_pw : ∀ (p : Str) (l : List Str), risingS p l = true → (p :: l).Pairwise (fun a b => leS a b = true)
  | p, [], _ => List.pairwise_singleton _ _
  | p, x :: r, h => by
    have h' : (!PySem.Spec.ltCps x.cps.toList p.cps.toList && risingS x r) = true := h
    rw [Bool.and_eq_true] at h'
    have ih := risingS_pw x r h'.2
    refine List.pairwise_cons.mpr ⟨fun y hy => ?_, ih⟩
    rcases List.mem_cons.mp hy with e | hy
    · subst e; exact h'.1
    · exact leS_trans h'.1 ((List.pairwise_cons.mp ih).1 y hy)
theorem sortedS_pw {l : List Str} (h : sortedS l = true) : l.Pairwise (fun a b => leS a b = true) := by
  cases l with
  | nil => exact List.Pairwise.nil
  | cons x r => exact risingS_pw x r h
theorem sortS_unique {xs ys : List Str} (p : ys.Perm xs) (h : sortedS ys = true) : ys = xs.mergeSort leS :=
  List.Perm.eq_of_pairwise (le := fun a b => leS a b = true) (fun a b _ _ h k => leS_anti h k) (sortedS_pw h) (List.pairwise_mergeSort (le := leS) (fun a b c h k => leS_trans h k) leS_total xs) (p.trans (List.mergeSort_perm xs leS).symm)
def leI (a b : Int) : Bool := decide (a ≤ b)
theorem sortI_unique {xs ys : List Int} (p : ys.Perm xs) (h : ys.Pairwise (· ≤ ·)) : ys = xs.mergeSort leI :=
  List.Perm.eq_of_pairwise (le := fun a b => a ≤ b) (fun a b _ _ h k => Int.le_antisymm h k) h
    ((List.pairwise_mergeSort (le := leI) (fun a b c h k => by unfold leI at *; simp only [decide_eq_true_eq] at *; omega) (fun a b => by unfold leI; simp only [Bool.or_eq_true, decide_eq_true_eq]; omega) xs).imp fun h => of_decide_eq_true h) (p.trans (List.mergeSort_perm xs leI).symm)
def oSorted : OpL := fun ds S => match ds with
  | [.loc n] => match S[n]? with
    | some (.lst _ xs) => match intsOf xs with
      | some is => some (.loc S.length, S ++ [.lst true ((is.mergeSort leI).map .int)])
      | none => match strsOf xs with
        | some ys => if ys.length < 64 then some (.loc S.length, S ++ [.lst true ((ys.mergeSort leS).map .str)]) else none
        | none => none
    | _ => none
  | _ => none
section
variable {X : Cx} {W : WX}
theorem cm_sorted : CallR X (.builtin "sorted") (rML X.K X.mg oSorted) := by
  intro pins s σ H vs us Q I r ⟨ρ, S, ds, d3, S3, rs, r1, e, q⟩
  unfold oSorted at e
  split at e
  · obtain ⟨y, ys, rfl, ry, r0⟩ := r1
    cases r0
    obtain ⟨a, rfl, pa⟩ := ry
    split at e
    · rename_i w xs e0
      obtain ⟨zs, hx, hv⟩ := rs.list pa e0
      split at e
      · rename_i is hi; cases e
        have := rvs_ints hv hi
        subst this
        refine cr_sortedI pins s σ H _ us Q I r ⟨a, is, rfl, hx, fun ns' p hp hs hn => ?_⟩
        rw [sortI_unique hp hs]
        refine q.lnew rs ?_ hn
        exact ints_rvs _
      · split at e
        · rename_i ys hs
          split at e
          · rename_i hz; cases e
            have := rvs_strs hv hs
            subst this
            refine cr_sortedS pins s σ H _ us Q I r ⟨a, ys, rfl, hx, hz, fun ns' p hp hs hn => ?_⟩
            rw [sortS_unique hp hs]
            refine q.lnew rs ?_ hn
            exact strs_rvs _
          · cases e
        · cases e
    · cases e
  · cases e
/-! ### zip -/
theorem RS.new {K : PySem.W.Frag} {mg : Str → Option Value} {ρ : List Addr} {H : Hp} {S : Sto} {p : Addr} {o : HO} (s : RS K mg ρ H S) (hp : H p = none) : RS K mg ρ (upd H p o) S :=
  ⟨s.len, fun n a o' e1 e2 => (s.at_ n a o' e1 e2).mono (Pre.refl _) (Keep.new hp) fun w => by
    obtain ⟨z, e, _⟩ := (s.at_ n a o' e1 e2).some_of w
    exact upd_ne (ne_of_none e hp), s.inj⟩
def zipAt (xs ys : List D) (i : Nat) : Option D := match xs[i]?, ys[i]? with
  | some x, some y => some (.tup [x, y])
  | _, _ => none
def itZL (n m cnt : Nat) : ItM := ⟨cnt, fun i S => match S[n]?, S[m]? with
  | some (.lst _ xs), some (.lst _ ys) => some (zipAt xs ys i)
  | _, _ => none⟩
def itZT (xs ys : List D) : ItM := ⟨min xs.length ys.length, fun i _ => some (zipAt xs ys i)⟩
theorem zip_step {ρ : List Addr} {H : Hp} {S : Sto} {xs ys : List D} {vs ws : List V} {i : Nat} {d : D} {x' y' : V} {T : Addr} (rs : RS X.K X.mg ρ H S) (rx : RVs X.K X.mg ρ H xs vs) (ry : RVs X.K X.mg ρ H ys ws) (h : zipAt xs ys i = some d)
    (hT : H T = none) (hx : vs[i]? = some x') (hy : ws[i]? = some y') : Keep H (upd H T (.tup [x', y'])) ∧ RS X.K X.mg ρ (upd H T (.tup [x', y'])) S ∧ RV X.K X.mg ρ (upd H T (.tup [x', y'])) d (.ref T) := by
  have kp : Keep H (upd H T (.tup [x', y'])) := Keep.new hT
  refine ⟨kp, rs.new hT, ?_⟩
  unfold zipAt at h
  split at h
  · rename_i x y e1 e2
    cases h
    obtain ⟨v, ev, rv⟩ := rx.get e1
    obtain ⟨w, ew, rw_⟩ := ry.get e2
    rw [hx] at ev; cases ev
    rw [hy] at ew; cases ew
    exact ⟨T, [x', y'], rfl, .inl (.inl upd_same), x', [y'], rfl, rv.mono (Pre.refl _) kp, y', [], rfl, rw_.mono (Pre.refl _) kp, rfl⟩
  · cases h
theorem zip_none {xs ys : List D} {i : Nat} (h : zipAt xs ys i = none) : xs.length ≤ i ∨ ys.length ≤ i := by
  unfold zipAt at h
  cases hx : xs[i]? with
  | none => exact .inl (List.getElem?_eq_none_iff.mp hx)
  | some x =>
    cases hy : ys[i]? with
    | none => exact .inr (List.getElem?_eq_none_iff.mp hy)
    | some y => rw [hx, hy] at h; cases h
theorem zip_go {ρ : List Addr} {H : Hp} {xs ys : List D} {vs ws : List V} {i : Nat} {d : D} (rx : RVs X.K X.mg ρ H xs vs) (ry : RVs X.K X.mg ρ H ys ws) (h : zipAt xs ys i = some d) : ∃ x y, vs[i]? = some x ∧ ws[i]? = some y := by
  unfold zipAt at h
  split at h
  · rename_i x y e1 e2
    obtain ⟨v, ev, _⟩ := rx.get e1
    obtain ⟨w, ew, _⟩ := ry.get e2
    exact ⟨v, w, ev, ew⟩
  · cases h
theorem itZL_ok {ρ : List Addr} {H : Hp} {n m cnt : Nat} {a b : Addr} (pa : ρ[n]? = some a) (pb : ρ[m]? = some b) : ItOk X.K X.mg ρ H (itZL n m cnt) (Itz X.K a b) := by
  intro i ρ' H' S p k rs
  show match (match S[n]?, S[m]? with
    | some (.lst _ xs), some (.lst _ ys) => some (zipAt xs ys i)
    | _, _ => none) with
    | none => True
    | some none => (Itz X.K a b).stop i H'
    | some (some d) => (Itz X.K a b).go i H' ∧ ∀ x H'', (Itz X.K a b).yld i H' x H'' → Keep H' H'' ∧ RS X.K X.mg ρ' H'' S ∧ RV X.K X.mg ρ' H'' d x
  split
  · trivial
  · rename_i hh
    split at hh
    · rename_i e1 e2
      obtain ⟨vs, hx, hv⟩ := rs.list (p _ _ pa) e1
      obtain ⟨ws, hy, hw⟩ := rs.list (p _ _ pb) e2
      have h0 := Option.some.inj hh
      exact ⟨vs, ws, hx, hy, by rw [← hv.length, ← hw.length]; exact zip_none h0⟩
    · cases hh
  · rename_i d hh
    split at hh
    · rename_i e1 e2
      obtain ⟨vs, hx, hv⟩ := rs.list (p _ _ pa) e1
      obtain ⟨ws, hy, hw⟩ := rs.list (p _ _ pb) e2
      have h0 := Option.some.inj hh
      obtain ⟨x, y, gx, gy⟩ := zip_go hv hw h0
      refine ⟨⟨vs, ws, x, y, hx, hy, gx, gy⟩, fun v H'' ⟨T, x', y', ev, hT, eH, f1, f2⟩ => ?_⟩
      subst ev; subst eH
      exact zip_step rs hv hw h0 hT (f1 vs hx) (f2 ws hy)
    · cases hh
theorem itZT_ok {ρ : List Addr} {H : Hp} {xs ys : List D} {vs ws : List V} {a b : Addr} (hx : SqT X.K H a vs) (hy : SqT X.K H b ws) (hv : RVs X.K X.mg ρ H xs vs) (hw : RVs X.K X.mg ρ H ys ws) : ItOk X.K X.mg ρ H (itZT xs ys) (RZ.ItzT X.K a b) := by
  intro i ρ' H' S p k rs
  have hx' := sqT_keep k hx
  have hy' := sqT_keep k hy
  have hv' := RVs.mono p k _ _ hv
  have hw' := RVs.mono p k _ _ hw
  show match some (zipAt xs ys i) with
    | none => True
    | some none => (RZ.ItzT X.K a b).stop i H'
    | some (some d) => (RZ.ItzT X.K a b).go i H' ∧ ∀ x H'', (RZ.ItzT X.K a b).yld i H' x H'' → Keep H' H'' ∧ RS X.K X.mg ρ' H'' S ∧ RV X.K X.mg ρ' H'' d x
  cases h0 : zipAt xs ys i with
  | none => exact ⟨vs, ws, hx', hy', by rw [← hv.length, ← hw.length]; exact zip_none h0⟩
  | some d =>
    obtain ⟨x, y, gx, gy⟩ := zip_go hv' hw' h0
    refine ⟨⟨vs, ws, x, y, hx', hy', gx, gy⟩, fun v H'' ⟨T, x', y', ev, hT, eH, f1, f2⟩ => ?_⟩
    subst ev; subst eH
    exact zip_step rs hv' hw' h0 hT (f1 vs hx') (f2 ws hy')
def iZip (m : MA) : Nv → Sto → Rs ItM := fun e S => (m e S).bind fun ds S1 => match ds with
  | [.loc n, .loc m] => match S1[n]?, S1[m]? with
    | some (.lst _ xs), some (.lst _ ys) => .ok (itZL n m (min xs.length ys.length)) S1
    | _, _ => .stuck
  | [.tup xs, .tup ys] => .ok (itZT xs ys) S1
  | _ => .stuck
theorem mi_zip {e e2 : Expr} {m : MA} {p pos tpos : Pos} {elts : List Expr} {kk : Nat} (hg : Gl X "zip") (hm : X.mg "zip" = none) (ha : PA X [e, e2] (tMA X.K X.mg W m))
    (hs : starEach [e, e2] X.env = (false, eval e X.env) :: starEach [e2] X.env := by rfl) (hpl : (backTo pos (starEach [e2] X.env)).any (·.1) = false := by rfl) :
    PI X (.Tuple elts kk tpos) (.Call (.Name "zip" p) [e, e2] [] pos) (tMI X.K X.mg W (iZip m)) := by
  refine ⟨fun pins s σ H R I ⟨ρ, e, S, re, rs, g⟩ => (RZ.pi_zipA hg hm ha hs hpl).run pins s σ H R I ⟨ρ, e, S, re, rs, GoodG.bind g fun ds S1 vs H1 ρ1 _ p1 k1 rs1 r1 g1 => ?_⟩⟩
  try dsimp only at g1
  split at g1
  · rename_i n m
    obtain ⟨x, xs, rfl, rx, y, ys, rfl, ry, r0⟩ := r1
    cases r0
    obtain ⟨a, rfl, pa⟩ := rx
    obtain ⟨b, rfl, pb⟩ := ry
    split at g1
    · rename_i e1 e2
      obtain ⟨vs, hx, hv⟩ := rs1.list pa e1
      obtain ⟨ws, hy, hw⟩ := rs1.list pb e2
      exact ⟨a, b, vs, ws, rfl, .inl ⟨hx, hy, GoodG.ok g1 rs1 (itZL_ok pa pb)⟩⟩
    · exact g1.elim
  · obtain ⟨x, xs, rfl, rx, y, ys, rfl, ry, r0⟩ := r1
    cases r0
    obtain ⟨a, vs, rfl, hx, hv⟩ := rx
    obtain ⟨b, ws, rfl, hy, hw⟩ := ry
    exact ⟨a, b, vs, ws, rfl, .inr ⟨hx, hy, GoodG.ok g1 rs1 (itZT_ok hx hy hv hw)⟩⟩
  · exact g1.elim
/-! ### a call of a local that holds a def -/
def mCallV (i : Nat) (F : Str → Option MF) (m : MA) : MV := fun e S => match e[i]? with
  | some (some (.fn x)) => match F x with
    | some mf => (m e S).bind fun ds S1 => (mf ds S1).cold
    | none => .stuck
  | _ => .stuck
theorem me_callV {e : Expr} {es : List Expr} {mr : MA} {p pos : Pos} {x : Str} {k i : Nat} {F : Str → Option MF} (A : ∀ y mf, F y = some mf → FnM X.prog X.w X.K X.mg X.base y k mf) (hr : Room k X.A) (hN : X.N[i]? = some x) (ha : PA X (e :: es) (tMA X.K X.mg W mr))
    (hv : Vis X.env.scope x := by first | exact Or.inl rfl | exact Or.inr (Or.inl rfl) | exact Or.inr (Or.inr rfl)) (hdb : (x == ("__debug__" : Str)) = false := by decide) (hcd : (x == ("__classdict__" : Str)) = false := by decide)
    (he : starEach (e :: es) X.env = (false, eval e X.env) :: starEach es X.env := by rfl) (hpl : (backTo pos (starEach es X.env)).any (·.1) = false := by rfl) : PE X (.Call (.Name x p) (e :: es) [] pos) (tM X.K X.mg W (mCallV i F mr)) := by
  refine ⟨fun pins s σ H Q I ⟨ρ, en, S, re, rs, g⟩ => ?_⟩
  unfold mCallV at g
  split at g
  · rename_i y h
    split at g
    · rename_i mf hF
      obtain ⟨f, fd, ps, a, b, c, d⟩ := (A y mf hF).ex
      obtain ⟨v, e1, fa, e2, rfl⟩ := re.at_ _ _ h
      rw [a] at e2
      cases e2
      refine (pe_callL (i := i) (f := f) (dvs := []) (E := fun _ _ _ => False) d hr hN hv b c .nil passN ha hdb hcd he hpl).run pins s σ H Q I ⟨e1, ρ, en, S, re, rs, GoodG.bind g fun ds S1 xs H1 ρ1 _ p1 k1 rs1 r1 g1 => ?_⟩
      exact ⟨ρ1, S1, ds, rs1, by rw [List.append_nil]; exact r1, good_cold g1⟩
    · exact g.elim
  · exact g.elim
end
end M2
end

section
set_option Elab.async false
set_option linter.all false
set_option maxRecDepth 100000
/-! M2: what the printed texts use. -/
namespace M2
open PySem PySem.Spec PyProof.Rows L2
set_option autoImplicit false
theorem bt_len : bootBuiltins "len" = some (.builtin "len") := by decide +kernel
theorem bt_isinstance : bootBuiltins "isinstance" = some (.builtin "isinstance") := by decide +kernel
theorem bt_sorted : bootBuiltins "sorted" = some (.builtin "sorted") := by decide +kernel
theorem bt_all : bootBuiltins "all" = some (.builtin "all") := by decide +kernel
theorem bt_any : bootBuiltins "any" = some (.builtin "any") := by decide +kernel
theorem bt_max : bootBuiltins "max" = some (.builtin "max") := by decide +kernel
theorem bt_min : bootBuiltins "min" = some (.builtin "min") := by decide +kernel
theorem bt_sum : bootBuiltins "sum" = some (.builtin "sum") := by decide +kernel
theorem bt_divmod : bootBuiltins "divmod" = some (.builtin "divmod") := by decide +kernel
theorem bt_int : bootBuiltins "int" = some (.type "int") := by decide +kernel
theorem bt_str : bootBuiltins "str" = some (.type "str") := by decide +kernel
theorem bt_tuple : bootBuiltins "tuple" = some (.type "tuple") := by decide +kernel
theorem bt_list : bootBuiltins "list" = some (.type "list") := by decide +kernel
theorem bt_type : bootBuiltins "type" = some (.type "type") := by decide +kernel
theorem bt_bool : bootBuiltins "bool" = some (.type "bool") := by decide +kernel
theorem bt_dict : bootBuiltins "dict" = some (.type "dict") := by decide +kernel
theorem bt_set : bootBuiltins "set" = some (.type "set") := by decide +kernel
theorem MX.hu1 {X : Cx} {W : WX} {k : Nat} (h : MX X W k) : X.A.units + 1 < cLine := by have := h.hu; omega
def mCallC (mf : MF) (m : MA) : MV := fun e S => (m e S).bind fun ds S1 => (mf ds S1).cold
def mCall0 (mf : MF) : MV := fun _ S => (mf [] S).cold
section
variable {X : Cx} {W : WX} {e : Expr} {es : List Expr} {mr : MA} {p pos : Pos} {x : Str} {k : Nat} {mf : MF}
theorem me_callK (F : FnM X.prog X.w X.K X.mg X.base x k mf) (hr : Room k X.A) (hg : Gl X x) (ha : PA X (e :: es) (tMA X.K X.mg W mr)) (hdb : (x == ("__debug__" : Str)) = false := by decide) (he : starEach (e :: es) X.env = (false, eval e X.env) :: starEach es X.env := by rfl)
    (hpl : (backTo pos (starEach es X.env)).any (·.1) = false := by rfl) : PE X (.Call (.Name x p) (e :: es) [] pos) (tM X.K X.mg W (mCallC mf mr)) := me_callC F hr hg ha hdb he hpl
theorem me_callK0 (F : FnM X.prog X.w X.K X.mg X.base x k mf) (hr : Room k X.A) (hg : Gl X x) (hdb : (x == ("__debug__" : Str)) = false := by decide) : PE X (.Call (.Name x p) [] [] pos) (tM X.K X.mg W (mCall0 mf)) := me_call0 F hr hg hdb
theorem me_gstrE {z : Str} (hg : Gl X x) (h : ∃ t, X.mg x = some (.str z t)) (hd : (x == ("__debug__" : Str)) = false := by decide) : PE X (.Name x pos) (tM X.K X.mg W (mC (.str z))) := by
  obtain ⟨t, hm⟩ := h
  exact me_gstr hg hm hd
theorem me_gintE {z : Int} (hg : Gl X x) (h : ∃ t, X.mg x = some (.int z t)) (hd : (x == ("__debug__" : Str)) = false := by decide) : PE X (.Name x pos) (tM X.K X.mg W (mC (.int z))) := by
  obtain ⟨t, hm⟩ := h
  exact me_gint hg hm hd
/-- a module's tuple -/
theorem me_gtupE {d : D} (hg : Gl X x) (h : ∃ a, X.mg x = some (.ref a) ∧ ∀ ρ H, RV X.K X.mg ρ H d (.ref a)) (hd : (x == ("__debug__" : Str)) = false := by decide) : PE X (.Name x pos) (tM X.K X.mg W (mC d)) := by
  obtain ⟨a, hm, hr⟩ := h
  exact me_c (v := .ref a) (pe_glob (v := .ref a) hg hm rfl hd) rfl hr
theorem me_fnE (hg : Gl X x) (h : ∃ f, X.mg x = some (.ref f)) (hd : (x == ("__debug__" : Str)) = false := by decide) : PE X (.Name x pos) (tM X.K X.mg W (mC (.fn x))) := by
  obtain ⟨f, hm⟩ := h
  exact me_fn hg hm hd
end
/-! ### defs as the texts name them -/
structure HasF (K : PySem.W.Frag) (mg : Str → Option Value) (x qual : Str) (st : Stmt) (ps : List Str) : Prop where
  ex : ∃ (f : Addr) (fd : FuncData), Fun K x qual st f fd ∧ mg x = some (.ref f) ∧ Binds K fd ps []
section
variable {P : Program} {w : World} {K : PySem.W.Frag} {mg : Str → Option Value} {base : Heap}
theorem HasF.at_ {x qual : Str} {st : Stmt} {ps : List Str} (T : HasF K mg x qual st ps) : ∃ f, mg x = some (.ref f) := by
  obtain ⟨f, fd, F, hm, hb⟩ := T.ex
  exact ⟨f, hm⟩
theorem FnM.ofH {x qual : Str} {st : Stmt} {N ps : List Str} {k : Nat} {body : MS} (T : HasF K mg x qual st ps) (S : FnScope N ps (defScope st))
    (h : ∀ (f : Addr) (cdv : Value) (A : Around) (outer : List Env) (s : Shared) (H : Hp) (E : XK), MX (cxOf (L2N.CX P w) P w K mg base N qual (defScope st) f cdv A outer s H E) (E2W E) k →
      PSs (cxOf (L2N.CX P w) P w K mg base N qual (defScope st) f cdv A outer s H E) (defBody st) (tMS K mg (E2W E) body)) : FnM P w K mg base x (k + 1) (mDef N.length ps.length body) := by
  obtain ⟨f, fd, F, hm, hb⟩ := T.ex
  exact FnM.of F S hm hb (h f)
/-- at the end of the depth -/
theorem FnM.bot {x qual : Str} {st : Stmt} {N ps : List Str} {k : Nat} (T : HasF K mg x qual st ps) (S : FnScope N ps (defScope st)) : FnM P w K mg base x (k + 1) (fun _ _ => .stuck) := by
  obtain ⟨f, fd, F, hm, hb⟩ := T.ex
  refine ⟨f, fd, ps, hm, F.kp, hb, ?_⟩
  obtain ⟨oc, od, kV, doc, pm, an, cdv, ct, osl, rfl, lk, hcd⟩ := F.ex
  refine fn_of lk hcd S (fun vs H Q E hsp => ?_) fun A outer s H vs Q E hr hsp => ?_
  · obtain ⟨ρ, S', ds, rs, rv, g⟩ := hsp
    exact g.elim
  · obtain ⟨ρ, S', ds, rs, rv, g⟩ := hsp
    exact g.elim
end
end M2
end

section
set_option Elab.async false
set_option linter.all false
set_option maxRecDepth 100000
set_option maxHeartbeats 2000000
/-! M2: sets of keys, made of a list or a tuple; sorted of them. -/
namespace M2
open PySem PySem.Spec PyProof.Rows L2
set_option autoImplicit false
def addU {α : Type} [DecidableEq α] (L : List α) (x : α) : List α := if x ∈ L then L else L ++ [x]
def uniq {α : Type} [DecidableEq α] (xs : List α) : List α := xs.foldl addU []
theorem addU_map {α β : Type} [DecidableEq α] [DecidableEq β] (f : α → β) (hf : ∀ a b, f a = f b → a = b) (L : List α) (x : α) : addU (L.map f) (f x) = (addU L x).map f := by
  unfold addU
  by_cases h : x ∈ L
  · rw [if_pos h, if_pos (List.mem_map.mpr ⟨x, h, rfl⟩)]
  · rw [if_neg h, if_neg fun z => ?_, List.map_append]
    · rfl
    · obtain ⟨y, hy, e⟩ := List.mem_map.mp z
      rw [hf _ _ e] at hy
      exact h hy
theorem uniq_map {α β : Type} [DecidableEq α] [DecidableEq β] (f : α → β) (hf : ∀ a b, f a = f b → a = b) (xs : List α) : uniq (xs.map f) = (uniq xs).map f := by
  have key : ∀ (xs L : List α), (xs.map f).foldl addU (L.map f) = (xs.foldl addU L).map f := by
    intro xs
    induction xs with
    | nil => intro L; rfl
    | cons x xs ih => intro L; rw [List.map_cons, List.foldl_cons, List.foldl_cons, addU_map f hf, ih]
  exact key xs []
theorem uniq_next {α : Type} [DecidableEq α] {xs : List α} {i : Nat} {x : α} (h : xs[i]? = some x) : uniq (xs.take (i + 1)) = addU (uniq (xs.take i)) x := by
  unfold uniq
  rw [take_next h, List.foldl_append]
  rfl
theorem addU_len {α : Type} [DecidableEq α] (L : List α) (x : α) : (addU L x).length ≤ L.length + 1 := by
  unfold addU
  split
  · omega
  · simp
theorem uniq_len {α : Type} [DecidableEq α] (xs : List α) : (uniq xs).length ≤ xs.length := by
  have key : ∀ (xs L : List α), (xs.foldl addU L).length ≤ L.length + xs.length := by
    intro xs
    induction xs with
    | nil => intro L; simp
    | cons x xs ih => intro L; have := ih (addU L x); have := addU_len L x; rw [List.foldl_cons, List.length_cons]; omega
  have := key xs []
  rw [List.length_nil, Nat.zero_add] at this
  exact this
def kOf : Value → Key
  | .int i _ => .inl i
  | .str x _ => .inr x
  | _ => .inl 0
def GoodQ (P : Program) (w : World) (e : Int × Value) : Prop := ∃ k, (mixKind P w).is k e.2 = true ∧ e.1 = (mixKind P w).hash k ∧ kOf e.2 = k ∧ e.2.scannable = true
/-- the set of the keys L at a -/
def SetQ (P : Program) (w : World) (h : Heap) (a : Addr) (L : List Key) : Prop :=
  ∃ o es ep t, h.get? a = some o ∧ o.ExactSet ∧ o.data = .set es ep t ∧ (∀ e ∈ es.toList, GoodQ P w e) ∧ (es.toList.map fun e => kOf e.2).Nodup ∧ (es.toList.map fun e => kOf e.2).Perm L ∧
    es.size < scanBound ∧ t.fits es.size = true ∧ Ris t.place.toList ∧ (w.params.followText "set-order" = true ∨ t.led = true)
section
variable {P : Program} {w : World} {A : Around} {E : Value → Shared → Prop} {s : Shared} {a : Addr} {L : List Key}
theorem goodQ_elems {l : List (Int × Value)} (g : ∀ e ∈ l, GoodQ P w e) : ElemsOf (mixKind P w) l := fun e he => by
  obtain ⟨k, h1, h2, _, h4⟩ := g e he
  exact ⟨⟨k, h1, h2⟩, h4⟩
theorem goodQ_is {e : Int × Value} (g : GoodQ P w e) (k : Key) : (mixKind P w).is k e.2 = true ↔ kOf e.2 = k := by
  obtain ⟨k0, h1, _, h3, _⟩ := g
  constructor
  · intro h
    rw [h3]
    exact (mixKind P w).inj _ _ _ h1 h
  · intro h
    rw [← h, h3]
    exact h1
theorem kOf_is {k : Key} {u : Value} (h : RelV (kV k) u) : kOf u = k := by
  cases k with
  | inl i => obtain ⟨t, rfl⟩ := h; rfl
  | inr x => obtain ⟨t, rfl⟩ := h; rfl
theorem setQ_tail {g : Bool → Sem Unit} (hg : ∀ (b : Bool) (s₁ : Shared) (Q' : Unit → Shared → Prop), Q' () s₁ → wpAny (model P w) A (g b) Q' E s₁)
    {o : Obj} {es : Array (Int × Value)} {ep : Nat} {t : SetTable} (ho : s.heap.get? a = some o) (hex : o.ExactSet) (hd : o.data = .set es ep t)
    {es1 : Array (Int × Value)} {t2 : SetTable} (g1 : ∀ e ∈ es1.toList, GoodQ P w e) (nd1 : (es1.toList.map fun e => kOf e.2).Nodup) (m1 : (es1.toList.map fun e => kOf e.2).Perm L)
    (hb1 : es1.size < scanBound) (hf2 : t2.fits es1.size = true) (hr : Ris t2.place.toList) (hl : w.params.followText "set-order" = true ∨ t2.led = true) {wasDummy : Bool} {R : Option Bool → Shared → Prop}
    (hR : ∀ h', Heap.SameBut a s.heap h' → SetQ P w h' a L → R (some true) { s with heap := h' }) :
    wpAny (model P w) A (do
        storeSet a es1 t2
        if (!wasDummy && t2.tooFull) = true then do
            g (relayAll t2 es1 (SetTable.grown es1.size)).2.2
            storeSet a (relayAll t2 es1 (SetTable.grown es1.size)).1 (relayAll t2 es1 (SetTable.grown es1.size)).2.1
            pure (some true)
          else pure (some true)) R E s := by
  refine wpAny_bind (wpAny_storeSet_of ho hd ?_ (fits_of_scanBound hb1))
  have ho1 := store_at (es' := es1) (t' := t2) ho hd
  have sb1 := Heap.SameBut.update s.heap a (Obj.putSet es1 t2)
  split
  · have pm := relayAll_perm t2 es1 (SetTable.grown es1.size)
    have hf3 := relayAll_fits t2 es1 (SetTable.grown es1.size)
    have hr3 := relayAll_ris t2 es1 (SetTable.grown es1.size)
    have hl3 := relayAll_led t2 es1 (SetTable.grown es1.size)
    generalize relayAll t2 es1 (SetTable.grown es1.size) = Z at pm hf3 hr3 hl3 ⊢
    obtain ⟨es2, t3, gave⟩ := Z
    dsimp only at pm hf3 hr3 hl3 ⊢
    have hsz : es2.size = es1.size := by rw [← Array.length_toList, pm.length_eq, Array.length_toList]
    have hb2 : es2.size < scanBound := by rw [hsz]; exact hb1
    refine wpAny_bind (hg _ _ _ ?_)
    refine wpAny_bind (wpAny_storeSet_of ho1 rfl ?_ (fits_of_scanBound hb2))
    have ho2 := store_at (es' := es2) (t' := t3) ho1 rfl
    refine wpAny_pure (hR _ (sb1.trans (Heap.SameBut.update _ a _)) ?_)
    exact ⟨_, es2, _, t3, ho2, hex, rfl, fun e he => g1 e (pm.mem_iff.mp he), (pm.map _).nodup_iff.mpr nd1, (pm.map _).trans m1, hb2, hf3, hr3,
      hl.imp id fun z => by rw [hl3]; exact z⟩
  · exact wpAny_pure (hR _ sb1 ⟨_, es1, _, t2, ho1, hex, rfl, g1, nd1, m1, hb1, hf2, hr, hl⟩)
theorem setQ_add {k : Key} {u : Value} {Q : Bool → Shared → Prop} (R : SetQ P w s.heap a L) (ru : RelV (kV k) u) (room : L.length + 1 < scanBound)
    (hQ : ∀ b h', Heap.SameBut a s.heap h' → SetQ P w h' a (addU L k) → Q b { s with heap := h' }) :
    wpAny (model P w) A (setAddHashed a u ((mixKind P w).hash k)) Q E s := by
  obtain ⟨o, es, ep, t, ho, hex, hd, g, nd, hm, hb, hf, hr, hl⟩ := R
  have hkey : (mixKind P w).is k u = true := kV_is ru
  have hsc : u.scannable = true := key_scan ru
  have hel : ElemsOf (mixKind P w) es.toList := goodQ_elems g
  unfold setAddHashed setAddHashedIn
  refine wpAny_holding (wpAny_bind (wpAny_setState_of ho hd hf ?_))
  dsimp only
  rw [byScan_of hsc hb hel]
  simp only [↓reduceIte]
  unfold setAddByScan
  refine wpAny_bind ?_
  refine wpAny_bind (wpAny_rule ?_)
  refine wpAny_bind (wpAny_setScan_of hkey ho hd hf hel ?_)
  have hmem : k ∈ L ↔ ∃ e ∈ es.toList, (mixKind P w).is k e.2 = true := by
    rw [← hm.mem_iff, List.mem_map]
    exact ⟨fun ⟨e, he, q⟩ => ⟨e, he, (goodQ_is (g e he) k).2 q⟩, fun ⟨e, he, q⟩ => ⟨e, he, (goodQ_is (g e he) k).1 q⟩⟩
  cases hfi : List.findIdx? (fun e => (mixKind P w).is k e.2) es.toList with
  | some j =>
    dsimp only
    obtain ⟨hj, pj, _⟩ := List.findIdx?_eq_some_iff_getElem.mp hfi
    have hk : k ∈ L := hmem.2 ⟨es.toList[j], List.getElem_mem hj, pj⟩
    refine wpAny_pure (wpAny_pure ?_)
    refine hQ _ s.heap (Heap.SameBut.refl a s.heap) ?_
    unfold addU
    rw [if_pos hk]
    exact ⟨o, es, ep, t, ho, hex, hd, g, nd, hm, hb, hf, hr, hl⟩
  | none =>
    dsimp only
    have hnk : k ∉ L := fun z => by
      obtain ⟨e, he, q⟩ := hmem.1 z
      have c := List.findIdx?_eq_none_iff.mp hfi e he
      rw [q] at c
      cases c
    have hnk' : k ∉ es.toList.map fun e => kOf e.2 := fun z => hnk (hm.mem_iff.mp z)
    have hgw : ∀ (b : Bool) {s₁ : Shared} {Q' : Unit → Shared → Prop}, Q' () s₁ → wpAny (model P w) A (match b with | true => rule "set.scan.the-table-gave-way" | false => pure ()) Q' E s₁ :=
      fun b s₁ Q' q => by cases b <;> first | exact wpAny_pure q | exact wpAny_rule q
    have pm := layNew_perm t es ((mixKind P w).hash k) u
    have hf1 := layNew_fits t es ((mixKind P w).hash k) u
    have hr1 := layNew_ris t es ((mixKind P w).hash k) u hr
    have hl1 := layNew_led t es ((mixKind P w).hash k) u
    generalize layNew t es ((mixKind P w).hash k) u = Z at pm hf1 hr1 hl1 ⊢
    obtain ⟨es1, t1, wasDummy, gave⟩ := Z
    dsimp only at pm hf1 hr1 hl1 ⊢
    rw [Array.toList_push] at pm
    have pc : es1.toList.Perm (((mixKind P w).hash k, u) :: es.toList) := pm.trans (List.perm_append_singleton _ _)
    have pk : (es1.toList.map fun e => kOf e.2).Perm (k :: es.toList.map fun e => kOf e.2) := by
      have q := pc.map fun e : Int × Value => kOf e.2
      rw [List.map_cons, show kOf ((mixKind P w).hash k, u).2 = k from kOf_is ru] at q
      exact q
    have g1 : ∀ e ∈ es1.toList, GoodQ P w e := fun e he => by
      rcases List.mem_cons.mp (pc.mem_iff.mp he) with z | z
      · rw [z]; exact ⟨k, hkey, rfl, kOf_is ru, hsc⟩
      · exact g e z
    have nd1 : (es1.toList.map fun e => kOf e.2).Nodup := pk.nodup_iff.mpr (List.nodup_cons.mpr ⟨hnk', nd⟩)
    have m1 : (es1.toList.map fun e => kOf e.2).Perm (addU L k) := by
      unfold addU
      rw [if_neg hnk]
      exact (pk.trans (hm.cons k)).trans (List.perm_append_singleton k L).symm
    have hsz : es1.size = L.length + 1 := by
      have e1 : es.size = L.length := by rw [← Array.length_toList, ← hm.length_eq, List.length_map]
      rw [← Array.length_toList, pc.length_eq, List.length_cons, Array.length_toList, e1]
    have hb1 : es1.size < scanBound := by rw [hsz]; exact room
    have hled : w.params.followText "set-order" = true ∨ t1.led = true := hl.imp id fun z => by rw [hl1]; exact z
    refine wpAny_bind (hgw _ ?_)
    split
    · refine wpAny_bind ?_
      rw [hashByValue_scannable 8 hsc]
      refine wpAny_pure ?_
      refine setQ_tail (L := addU L k) ?_ ho hex hd g1 nd1 m1 hb1 ?_ ?_ ?_ ?_
      · intro b s₁ Q' q; cases b <;> first | exact wpAny_pure q | exact wpAny_rule q
      · first | (split <;> first | exact hf1 | exact SetTable.fits_plain_off hf1) | exact hf1
      · first | (split <;> exact hr1) | exact hr1
      · first | (split <;> exact hled) | exact hled
      · intro h' sb r; dsimp only; exact wpAny_pure (hQ _ h' sb r)
    · refine wpAny_bind (wpAny_pure ?_)
      simp only [↓reduceIte]
      refine setQ_tail (L := addU L k) ?_ ho hex hd g1 nd1 m1 hb1 hf1 hr1 hled ?_
      · intro b s₁ Q' q; cases b <;> first | exact wpAny_pure q | exact wpAny_rule q
      · intro h' sb r; dsimp only; exact wpAny_pure (hQ _ h' sb r)
theorem SetQ.at {h h' : Heap} (R : SetQ P w h a L) (k : ∀ o, h.get? a = some o → h'.get? a = some o) : SetQ P w h' a L := by
  obtain ⟨o, es, ep, t, ho, r⟩ := R
  exact ⟨o, es, ep, t, k o ho, r⟩
theorem setQ_fresh {h : Heap} (ho : h.get? a = some { cls := .type "set", dict := none, data := .set #[] 0 (.fresh 0 0 (!w.params.followText "set-order")) }) : SetQ P w h a [] := by
  refine ⟨_, #[], 0, _, ho, ⟨rfl, rfl, rfl⟩, rfl, fun e he => by simp at he, by simp, by simp, by decide, by rfl, ?_, ?_⟩
  · exact List.Pairwise.nil
  · cases hb : w.params.followText "set-order" with
    | true => exact .inl rfl
    | false => exact .inr rfl
theorem set_update_keys {I : Addr} {fp wr : List Addr} {G : Array GenState → Array GenState → Prop} {n : Nat} {Pv : Nat → Value → Prop} {St : Nat → Shared → Prop} {R : Result → Shared → Prop}
    (W : WalksS P w A.in1 I fp wr G n Pv St) (S : Addr) (hSf : S ∉ fp) (ks : List Key) (hn : n = ks.length) (hfew : ks.length + 1 < scanBound) (hval : ∀ i v, Pv i v → ∃ k, ks[i]? = some k ∧ RelV (kV k) v)
    (h0 : Heap) (hS0 : h0.get? S = none) (hw0 : ∀ b ∈ wr, h0.get? b = none) :
    ∀ (k i : Nat) (s : Shared), n - i = k → i ≤ n → St i s → (∀ b o, h0.get? b = some o → s.heap.get? b = some o) → SetQ P w s.heap S (uniq (ks.take i)) →
      (∀ s', Moved (S :: wr) G s s' → SetQ P w s'.heap S (uniq ks) → (∀ b o, h0.get? b = some o → s'.heap.get? b = some o) → R (.ok (.ret .none)) s') →
      codeAny (model P w) A (.builtin "set.update.loop" ⟨[.ref S, .ref I], []⟩) R s := by
  have hSw : S ∉ wr := fun h => hSf (W.sub _ h)
  have hsub : ∀ b ∈ wr, b ∈ S :: wr := fun b hb => List.mem_cons_of_mem _ hb
  have keepM : ∀ {s s' : Shared}, Moved wr G s s' → (∀ b o, h0.get? b = some o → s.heap.get? b = some o) → ∀ b o, h0.get? b = some o → s'.heap.get? b = some o := fun hm hkp b o e =>
    hm.heap b o (fun hb => by rw [hw0 b hb] at e; cases e) (hkp b o e)
  intro k
  induction k with
  | zero =>
    intro i s hk' hi hst hkp hS hR
    have hin : i = n := by omega
    subst hin
    refine codeAny_builtin F.entry_set_update_loop ?_
    rw [Around.under_plainId F.plain_set_update_loop _]
    show wpAny _ A.in1 (pyNext (.ref I) >>= _) _ _ s
    refine wpAny_bind (W.done s _ _ hst fun s' hm => ?_)
    show wpAny _ A.in1 (ret Value.none) _ _ s'
    have hkp' := keepM hm hkp
    rw [hn, List.take_length] at hS
    exact wpAny_pure (hR s' (hm.mono hsub) (hS.at fun o e => hm.heap S o hSw e) hkp')
  | succ k ih =>
    intro i s hk' hi hst hkp hS hR
    have hlt : i < n := by omega
    refine codeAny_builtin F.entry_set_update_loop ?_
    rw [Around.under_plainId F.plain_set_update_loop _]
    show wpAny _ A.in1 (pyNext (.ref I) >>= _) _ _ s
    refine wpAny_bind (W.item i s _ _ hlt hst fun v s' hP hst' hm => ?_)
    obtain ⟨kk, hp, rv⟩ := hval i v hP
    have hkp' := keepM hm hkp
    have hS' : SetQ P w s'.heap S (uniq (ks.take i)) := hS.at fun o e => hm.heap S o hSw e
    show wpAny _ A.in1 (holding [v] (setAdd S v) >>= _) _ _ s'
    refine wpAny_bind (wpAny_holding ?_)
    unfold setAdd
    refine wpAny_holding ?_
    refine wpAny_bind ((mixKind P w).pyHash (kV_is rv) ?_)
    have hlen : (uniq (ks.take i)).length ≤ ks.length := Nat.le_trans (uniq_len _) (by rw [List.length_take]; omega)
    refine setQ_add (s := { s' with toks := s'.toks + 1 }) hS' rv (by omega) fun b h' hsb hS2 => ?_
    have hkp2 : ∀ b o, h0.get? b = some o → h'.get? b = some o := fun b o e => (hsb.2 b (fun z => by rw [z, hS0] at e; cases e)).trans (hkp' b o e)
    refine wpAny_pure ⟨plainId_quiet F.plain_set_update_loop _, ih (i + 1) _ (by omega) hlt (W.frame _ s' _ _ hst' (Nat.le_add_right _ _) fun b hb o e => ?_) hkp2 (by rw [uniq_next hp]; exact hS2) fun s'' hm'' hS'' hkp'' => ?_⟩
    · rw [hsb.2 b (fun h : b = S => hSf (by rw [← h]; exact hb))]; exact e
    · refine hR s'' (Moved.trans W.gtrans ((hm.mono hsub).then_heap (Nat.le_add_right _ _) fun b o hb e => ?_) hm'') hS'' hkp''
      rw [hsb.2 b (fun h : b = S => hb (by rw [h]; exact List.mem_cons_self))]; exact e

/-- set(xs) of a list -/
theorem call_setQL {l : Addr} {items : Array Value} (ks : List Key) {Q : Value → Shared → Prop} (hh : A.handled = none) (hl : s.heap.IsList l items) (hit : Vals (ks.map kV) items.toList) (hfew : ks.length + 1 < scanBound)
    (h : ∀ (h' : Heap) (tk : Nat), SetQ P w h' s.heap.objs.size (uniq ks) → (∀ b o, s.heap.get? b = some o → h'.get? b = some o) → Q (.ref s.heap.objs.size) { s with heap := h', toks := tk }) :
    wpAny (model P w) A (call (.type "set") [.ref l]) Q E s := by
  have hisz : items.size = ks.length := by
    have q := hit.length
    simp only [List.length_map, Array.length_toList] at q
    exact q.symm
  obtain ⟨c, tl, hmro⟩ := PySem.F.called_set.mro
  have hmade := PySem.F.called_set.made
  have hsub := PySem.F.called_set.sub
  refine wpAny_call (codeAny_of_tree ?_)
  show wpAny _ _ (callAny (.type "set") _) _ _ _
  refine wpAny_pure ⟨Code.quiet_builtin _ (by decide +kernel), codeAny_builtin PySem.F.entry_type_call ?_⟩
  rw [Around.under_plain (weight_type_call_type "set" [.ref l] []) rfl]
  have h1 := PySem.F.called_set.notType
  have h2 := PySem.F.called_set.canCreate
  have hct := PySem.F.typeCall_set_1 (.ref l)
  repeat (any_goals (first | assumption | wp_step))

  refine codeAny_mono (code_set_led1 (.ref l) (E := E) (Q₁ := fun obj s₁ => obj = .ref s.heap.objs.size ∧ s₁ = { s with heap := s.heap.push { cls := .type "set", dict := none, data := .set #[] 0 (.fresh 0 0 (!w.params.followText "set-order")) } }) ⟨rfl, rfl⟩) fun r s₁ hr => ?_
  cases r with
  | error e => exact hr
  | ok fl =>
    cases fl with
    | ret obj =>
      obtain ⟨rfl, rfl⟩ := hr
      have hS : (s.heap.push { cls := .type "set", dict := none, data := .set #[] 0 (.fresh 0 0 (!w.params.followText "set-order")) }).get? s.heap.objs.size = some { cls := .type "set", dict := none, data := .set #[] 0 (.fresh 0 0 (!w.params.followText "set-order")) } := Heap.get?_push_size _ rfl
      have hT : Shared.TypeIs { s with heap := s.heap.push { cls := .type "set", dict := none, data := .set #[] 0 (.fresh 0 0 (!w.params.followText "set-order")) } } (.ref s.heap.objs.size) "set" := ⟨_, hS, rfl⟩
      have hli := PySem.F.called_set.init.lookup
      have hbi := PySem.F.called_set.init.bind (.ref s.heap.objs.size)
      repeat (any_goals (first | assumption | wp_step))

      refine codeAny_mono (codeAny_call_builtin (R := wants (fun r s₂ => r = .none ∧ ∃ h' tk, s₂ = { s with heap := h', toks := tk } ∧ SetQ P w h' s.heap.objs.size (uniq ks) ∧
          (∀ b o, s.heap.get? b = some o → h'.get? b = some o)) E) PySem.F.called_set.init.plain PySem.F.entry_set_init (check_set_init_1 hT ?_)) fun r₂ s₂ hr₂ => ?_
      · obtain ⟨ol, hol, hcl, nl, hdl⟩ := hl
        obtain ⟨ocls, odict, odata, oslots⟩ := ol
        simp only at hcl hdl
        subst hcl; subst hdl
        have hol' : (s.heap.push { cls := .type "set", dict := none, data := .set #[] 0 (.fresh 0 0 (!w.params.followText "set-order")) }).get? l = some { cls := .type "list", dict := odict, data := .seq items nl, slots := oslots } := Heap.get?_push_of_some _ hol
        have hsls := PySem.F.sub_list_set
        have hslf := PySem.F.sub_list_frozenset
        have hne : (Value.type "list" == Value.type "dict") = false := by decide
        have hl1 : (s.heap.push { cls := .type "set", dict := none, data := .set #[] 0 (.fresh 0 0 (!w.params.followText "set-order")) }).IsList l items := ⟨_, hol', rfl, nl, rfl⟩
        unfold Builtin.«set.__init__» noKeywords Builtin.Frozenset.updateFrom
        generalize hPI : pyIter = PI
        wp_walk
        subst hPI

        refine wpAny_pyIter_list hl1 ?_
        refine wpAny_bind (wpAny_runValue ?_)
        have hlS : l < s.heap.objs.size := Heap.lt_size hol
        have hh3 : A.in1.in1.in1.handled = none := by simp [hh]
        have hneI : l ≠ (s.heap.push { cls := .type "set", dict := none, data := .set #[] 0 (.fresh 0 0 (!w.params.followText "set-order")) }).objs.size := by
          rw [Heap.size_push]; exact Nat.ne_of_lt (Nat.lt_succ_of_lt hlS)
        have hSf : s.heap.objs.size ∉ [(s.heap.push { cls := .type "set", dict := none, data := .set #[] 0 (.fresh 0 0 (!w.params.followText "set-order")) }).objs.size, l] := by
          rw [Heap.size_push]; simp only [List.mem_cons, List.mem_singleton, List.not_mem_nil, or_false, not_or]
          exact ⟨Nat.ne_of_lt (Nat.lt_succ_self _), Nat.ne_of_gt hlS⟩
        have hval : ∀ (i : Nat) (v : Value), items[i]? = some v → ∃ k, ks[i]? = some k ∧ RelV (kV k) v := fun i v hv => by
          have hi : i < items.size := (Array.getElem?_eq_some_iff.mp hv).1
          have hk : ks[i]? = some ks[i] := List.getElem?_eq_getElem (by rw [← hisz]; exact hi)
          obtain ⟨u, hu, ru⟩ := hit.get (i := i) (x := kV ks[i]) (by rw [List.getElem?_map, hk]; rfl)
          rw [Array.getElem?_toList, hv] at hu
          cases hu
          exact ⟨_, hk, ru⟩
        have none_of : ∀ b, s.heap.objs.size ≤ b → s.heap.get? b = none := fun b hb => by
          cases q : s.heap.get? b with
          | none => rfl
          | some o => exact absurd (Nat.lt_of_lt_of_le (Heap.lt_size q) hb) (Nat.lt_irrefl _)
        refine set_update_keys ((Walks.list hh3 _ l hneI items).toS) s.heap.objs.size
          hSf ks hisz hfew hval s.heap (none_of _ (Nat.le_refl _)) (fun b hb => none_of b (by
            rw [List.mem_singleton.mp hb, Heap.size_push]
            exact Nat.le_succ _)) (items.size - 0) 0 _ (by omega) (Nat.zero_le _)
          ⟨⟨_, Heap.get?_push_size _ rfl, rfl, rfl⟩, (hl1.push _)⟩ (fun b o e => Heap.get?_push_of_some _ (Heap.get?_push_of_some _ e)) ?hS0 ?hR
        case hS0 =>
          have hget : ((s.heap.push { cls := .type "set", dict := none, data := .set #[] 0 (.fresh 0 0 (!w.params.followText "set-order")) }).push { cls := .type "list_iterator", data := .fields #[.ref l, .int 0 0] }).get? s.heap.objs.size
              = some { cls := .type "set", dict := none, data := .set #[] 0 (.fresh 0 0 (!w.params.followText "set-order")) } := Heap.get?_push_of_some _ hS
          exact setQ_fresh hget
        case hR =>
          intro s' hm hS' hkp
          obtain ⟨h', g2, d', tk', os'⟩ := s'
          have eg : g2 = s.gens := hm.gens
          have ed : d' = s.drawn := hm.drawn
          have eo : os' = s.os := hm.os
          subst eg; subst ed; subst eo
          show wpAny _ _ _ _ _ _
          refine wpAny_pure ?_
          show wpAny _ _ (ret Value.none) _ _ _
          exact wpAny_pure ⟨rfl, h', tk', rfl, hS', hkp⟩

      · cases r₂ with
        | error e => exact hr₂
        | ok fl₂ =>
          cases fl₂ with
          | ret r =>
            obtain ⟨rfl, h', tk, rfl, hS', hk'⟩ := hr₂
            repeat (any_goals (first | assumption | wp_step))
            exact h _ _ hS' hk'
          | _ => exact hr₂.elim
    | _ => exact hr.elim

/-- set(xs) of a tuple -/
theorem call_setQT {l : Addr} {items : Array Value} (ks : List Key) {Q : Value → Shared → Prop} (hh : A.handled = none) (hl : s.heap.IsTuple l items) (hit : Vals (ks.map kV) items.toList) (hfew : ks.length + 1 < scanBound)
    (h : ∀ (h' : Heap) (tk : Nat), SetQ P w h' s.heap.objs.size (uniq ks) → (∀ b o, s.heap.get? b = some o → h'.get? b = some o) → Q (.ref s.heap.objs.size) { s with heap := h', toks := tk }) :
    wpAny (model P w) A (call (.type "set") [.ref l]) Q E s := by
  have hisz : items.size = ks.length := by
    have q := hit.length
    simp only [List.length_map, Array.length_toList] at q
    exact q.symm
  obtain ⟨c, tl, hmro⟩ := PySem.F.called_set.mro
  have hmade := PySem.F.called_set.made
  have hsub := PySem.F.called_set.sub
  refine wpAny_call (codeAny_of_tree ?_)
  show wpAny _ _ (callAny (.type "set") _) _ _ _
  refine wpAny_pure ⟨Code.quiet_builtin _ (by decide +kernel), codeAny_builtin PySem.F.entry_type_call ?_⟩
  rw [Around.under_plain (weight_type_call_type "set" [.ref l] []) rfl]
  have h1 := PySem.F.called_set.notType
  have h2 := PySem.F.called_set.canCreate
  have hct := PySem.F.typeCall_set_1 (.ref l)
  repeat (any_goals (first | assumption | wp_step))

  refine codeAny_mono (code_set_led1 (.ref l) (E := E) (Q₁ := fun obj s₁ => obj = .ref s.heap.objs.size ∧ s₁ = { s with heap := s.heap.push { cls := .type "set", dict := none, data := .set #[] 0 (.fresh 0 0 (!w.params.followText "set-order")) } }) ⟨rfl, rfl⟩) fun r s₁ hr => ?_
  cases r with
  | error e => exact hr
  | ok fl =>
    cases fl with
    | ret obj =>
      obtain ⟨rfl, rfl⟩ := hr
      have hS : (s.heap.push { cls := .type "set", dict := none, data := .set #[] 0 (.fresh 0 0 (!w.params.followText "set-order")) }).get? s.heap.objs.size = some { cls := .type "set", dict := none, data := .set #[] 0 (.fresh 0 0 (!w.params.followText "set-order")) } := Heap.get?_push_size _ rfl
      have hT : Shared.TypeIs { s with heap := s.heap.push { cls := .type "set", dict := none, data := .set #[] 0 (.fresh 0 0 (!w.params.followText "set-order")) } } (.ref s.heap.objs.size) "set" := ⟨_, hS, rfl⟩
      have hli := PySem.F.called_set.init.lookup
      have hbi := PySem.F.called_set.init.bind (.ref s.heap.objs.size)
      repeat (any_goals (first | assumption | wp_step))

      refine codeAny_mono (codeAny_call_builtin (R := wants (fun r s₂ => r = .none ∧ ∃ h' tk, s₂ = { s with heap := h', toks := tk } ∧ SetQ P w h' s.heap.objs.size (uniq ks) ∧
          (∀ b o, s.heap.get? b = some o → h'.get? b = some o)) E) PySem.F.called_set.init.plain PySem.F.entry_set_init (check_set_init_1 hT ?_)) fun r₂ s₂ hr₂ => ?_
      · obtain ⟨ol, hol, hcl, nl, hdl⟩ := hl
        obtain ⟨ocls, odict, odata, oslots⟩ := ol
        simp only at hcl hdl
        subst hcl; subst hdl
        have hol' : (s.heap.push { cls := .type "set", dict := none, data := .set #[] 0 (.fresh 0 0 (!w.params.followText "set-order")) }).get? l = some { cls := .type "tuple", dict := odict, data := .seq items nl, slots := oslots } := Heap.get?_push_of_some _ hol
        have hsls := PySem.F.sub_tuple_set
        have hslf := PySem.F.sub_tuple_frozenset
        have hne : (Value.type "tuple" == Value.type "dict") = false := by decide
        have hl1 : (s.heap.push { cls := .type "set", dict := none, data := .set #[] 0 (.fresh 0 0 (!w.params.followText "set-order")) }).IsTuple l items := ⟨_, hol', rfl, nl, rfl⟩
        unfold Builtin.«set.__init__» noKeywords Builtin.Frozenset.updateFrom
        generalize hPI : pyIter = PI
        wp_walk
        subst hPI

        refine wpAny_pyIter_tuple hl1 ?_
        refine wpAny_bind (wpAny_runValue ?_)
        have hlS : l < s.heap.objs.size := Heap.lt_size hol
        have hh3 : A.in1.in1.in1.handled = none := by simp [hh]
        have hneI : l ≠ (s.heap.push { cls := .type "set", dict := none, data := .set #[] 0 (.fresh 0 0 (!w.params.followText "set-order")) }).objs.size := by
          rw [Heap.size_push]; exact Nat.ne_of_lt (Nat.lt_succ_of_lt hlS)
        have hSf : s.heap.objs.size ∉ [(s.heap.push { cls := .type "set", dict := none, data := .set #[] 0 (.fresh 0 0 (!w.params.followText "set-order")) }).objs.size, l] := by
          rw [Heap.size_push]; simp only [List.mem_cons, List.mem_singleton, List.not_mem_nil, or_false, not_or]
          exact ⟨Nat.ne_of_lt (Nat.lt_succ_self _), Nat.ne_of_gt hlS⟩
        have hval : ∀ (i : Nat) (v : Value), items[i]? = some v → ∃ k, ks[i]? = some k ∧ RelV (kV k) v := fun i v hv => by
          have hi : i < items.size := (Array.getElem?_eq_some_iff.mp hv).1
          have hk : ks[i]? = some ks[i] := List.getElem?_eq_getElem (by rw [← hisz]; exact hi)
          obtain ⟨u, hu, ru⟩ := hit.get (i := i) (x := kV ks[i]) (by rw [List.getElem?_map, hk]; rfl)
          rw [Array.getElem?_toList, hv] at hu
          cases hu
          exact ⟨_, hk, ru⟩
        have none_of : ∀ b, s.heap.objs.size ≤ b → s.heap.get? b = none := fun b hb => by
          cases q : s.heap.get? b with
          | none => rfl
          | some o => exact absurd (Nat.lt_of_lt_of_le (Heap.lt_size q) hb) (Nat.lt_irrefl _)
        refine set_update_keys ((Walks.tuple hh3 _ l hneI items).toS) s.heap.objs.size
          hSf ks hisz hfew hval s.heap (none_of _ (Nat.le_refl _)) (fun b hb => none_of b (by
            rw [List.mem_singleton.mp hb, Heap.size_push]
            exact Nat.le_succ _)) (items.size - 0) 0 _ (by omega) (Nat.zero_le _)
          ⟨⟨_, Heap.get?_push_size _ rfl, rfl, rfl⟩, (hl1.push _)⟩ (fun b o e => Heap.get?_push_of_some _ (Heap.get?_push_of_some _ e)) ?hS0 ?hR
        case hS0 =>
          have hget : ((s.heap.push { cls := .type "set", dict := none, data := .set #[] 0 (.fresh 0 0 (!w.params.followText "set-order")) }).push { cls := .type "tuple_iterator", data := .fields #[.ref l, .int 0 0] }).get? s.heap.objs.size
              = some { cls := .type "set", dict := none, data := .set #[] 0 (.fresh 0 0 (!w.params.followText "set-order")) } := Heap.get?_push_of_some _ hS
          exact setQ_fresh hget
        case hR =>
          intro s' hm hS' hkp
          obtain ⟨h', g2, d', tk', os'⟩ := s'
          have eg : g2 = s.gens := hm.gens
          have ed : d' = s.drawn := hm.drawn
          have eo : os' = s.os := hm.os
          subst eg; subst ed; subst eo
          show wpAny _ _ _ _ _ _
          refine wpAny_pure ?_
          show wpAny _ _ (ret Value.none) _ _ _
          exact wpAny_pure ⟨rfl, h', tk', rfl, hS', hkp⟩

      · cases r₂ with
        | error e => exact hr₂
        | ok fl₂ =>
          cases fl₂ with
          | ret r =>
            obtain ⟨rfl, h', tk, rfl, hS', hk'⟩ := hr₂
            repeat (any_goals (first | assumption | wp_step))
            exact h _ _ hS' hk'
          | _ => exact hr₂.elim
    | _ => exact hr.elim

/-! ### sorted of it -/
def getI : Key → Int
  | .inl i => i
  | .inr _ => 0
def getS : Key → Str
  | .inr x => x
  | .inl _ => Str.empty
theorem keyIs_int {e : Int × Value} {n : Int} (g : GoodQ P w e) (h : kOf e.2 = .inl n) : ∃ t, e.2 = .int n t := by
  obtain ⟨k, h1, _, h3, _⟩ := g
  rw [h] at h3
  subst h3
  rcases keyIs_shape (show L2.keyIs (Sum.inl n) e.2 = true from h1) with ⟨i, t, e1, e2⟩ | ⟨x, t, e1, e2⟩
  · cases e1
    exact ⟨t, e2⟩
  · cases e1
theorem keyIs_str {e : Int × Value} {n : Str} (g : GoodQ P w e) (h : kOf e.2 = .inr n) : ∃ t, e.2 = .str n t := by
  obtain ⟨k, h1, _, h3, _⟩ := g
  rw [h] at h3
  subst h3
  rcases keyIs_shape (show L2.keyIs (Sum.inr n) e.2 = true from h1) with ⟨i, t, e1, e2⟩ | ⟨x, t, e1, e2⟩
  · cases e1
  · cases e1
    exact ⟨t, e2⟩
theorem ints_have : ∀ (l : List Value), (∀ v ∈ l, ∃ k tk, v = Value.int k tk) → IntsAre l (l.map fun v => getI (kOf v))
  | [], _ => .nil
  | v :: l, h => by
    obtain ⟨k, tk, rfl⟩ := h v List.mem_cons_self
    exact .cons k tk (ints_have l fun u hu => h u (List.mem_cons_of_mem _ hu))
theorem strs_have : ∀ (l : List Value), (∀ v ∈ l, ∃ k tk, v = Value.str k tk) → StrsAre l (l.map fun v => getS (kOf v))
  | [], _ => .nil
  | v :: l, h => by
    obtain ⟨k, tk, rfl⟩ := h v List.mem_cons_self
    exact .cons k tk (strs_have l fun u hu => h u (List.mem_cons_of_mem _ hu))
theorem sortedQ_ints {ns : List Int} {Q : Value → Shared → Prop} (R : SetQ P w s.heap a (ns.map Sum.inl)) (hh : A.handled = none) (hz : ns.length ≤ sizeLine)
    (hQ : ∀ s' p (out : Array Value) (c : Nat) (ns' : List Int), (∀ b o, s.heap.get? b = some o → s'.heap.get? b = some o) → s'.gens = s.gens → s'.os = s.os → s.heap.objs.size ≤ p →
      s'.heap.get? p = some (seqObj "list" out c) → IntsAre out.toList ns' → ns'.Perm ns → ns'.Pairwise (· ≤ ·) → Q (.ref p) s') :
    wpAny (model P w) A (call (.builtin "sorted") [.ref a]) Q E s := by
  obtain ⟨o, es, ep, t, ho, hex, hd, g, nd, hm, hb, hf, hr, hl⟩ := R
  refine Calls.call_function_entry kind_sorted plain_sorted entry_sorted (args_sorted1 _) ?_
  unfold Builtin.«sorted»
  refine wpAny_bind (m := checkCount "sorted" 1 1 _) (wpAny_pure ?_)
  refine wpAny_bind (collect_set (A := A.in1) hh ⟨o, ho, hex.1, hd⟩ hf hb hr hl fun s1 vs k1 hz1 g1 o1 pm => ?_)
  have hall : ∀ v ∈ vs, ∃ k tk, v = Value.int k tk := fun v hv => by
    obtain ⟨e, he, q⟩ := List.mem_map.mp (pm.mem_iff.mp hv)
    obtain ⟨n, hn, e2⟩ := List.mem_map.mp (hm.mem_iff.mp (List.mem_map.mpr ⟨e, he, rfl⟩))
    obtain ⟨t, e3⟩ := keyIs_int (g e he) e2.symm
    exact ⟨n, t, q.symm.trans e3⟩
  have hI := ints_have vs hall
  have pk : (vs.map fun v => getI (kOf v)).Perm ns := by
    have q := pm.map fun v => getI (kOf v)
    rw [List.map_map] at q
    have q2 := hm.map getI
    rw [List.map_map, List.map_map] at q2
    have e : ns.map (getI ∘ Sum.inl) = ns := by
      rw [show (getI ∘ Sum.inl) = id from rfl, List.map_id]
    rw [e] at q2
    exact q.trans q2
  have hvl : vs.length ≤ sizeLine := by
    have := pk.length_eq
    rw [List.length_map] at this
    omega
  refine wpAny_bind (wpAny_newList ?_ hvl)
  have hoL : (s1.heap.push (seqObj "list" vs.toArray 0)).get? s1.heap.objs.size = some (seqObj "list" vs.toArray 0) := Heap.get?_push_size _ rfl
  refine wpAny_bind (wpAny_holding (wpAny_call_entry slot_list_sort ⟨_, hoL, rfl⟩ entry_list_sort (list_sort_treeAny hoL hI hvl fun out ns' a1 a2 a3 => ⟨_, rfl, ?_⟩) (args_list_sort _)))
  obtain ⟨c, hc⟩ := sortedHeap_at (vs := vs) (out := out) hoL
  refine wpAny_pure ⟨_, rfl, hQ _ s1.heap.objs.size out c ns' (fun b u e => ?_) g1 o1 hz1 hc a1 (a2.trans pk) a3⟩
  have q := k1 b u e
  have hlt := Heap.lt_size q
  show (sortedHeap (s1.heap.push (seqObj "list" vs.toArray 0)) s1.heap.objs.size vs out).get? b = some u
  rw [sortedHeap_old (Nat.ne_of_lt hlt) (by rw [size_push']; exact Nat.lt_succ_of_lt hlt)]
  exact Heap.get?_push_of_some _ q
theorem sortedQ_strs {ns : List Str} {Q : Value → Shared → Prop} (R : SetQ P w s.heap a (ns.map Sum.inr)) (hh : A.handled = none) (hz : ns.length ≤ sizeLine)
    (hQ : ∀ s' p (out : Array Value) (c : Nat) (ns' : List Str), (∀ b o, s.heap.get? b = some o → s'.heap.get? b = some o) → s'.gens = s.gens → s'.os = s.os → s.heap.objs.size ≤ p →
      s'.heap.get? p = some (seqObj "list" out c) → StrsAre out.toList ns' → ns'.Perm ns → sortedS ns' = true → Q (.ref p) s') :
    wpAny (model P w) A (call (.builtin "sorted") [.ref a]) Q E s := by
  obtain ⟨o, es, ep, t, ho, hex, hd, g, nd, hm, hb, hf, hr, hl⟩ := R
  refine Calls.call_function_entry kind_sorted plain_sorted entry_sorted (args_sorted1 _) ?_
  unfold Builtin.«sorted»
  refine wpAny_bind (m := checkCount "sorted" 1 1 _) (wpAny_pure ?_)
  refine wpAny_bind (collect_set (A := A.in1) hh ⟨o, ho, hex.1, hd⟩ hf hb hr hl fun s1 vs k1 hz1 g1 o1 pm => ?_)
  have hall : ∀ v ∈ vs, ∃ k tk, v = Value.str k tk := fun v hv => by
    obtain ⟨e, he, q⟩ := List.mem_map.mp (pm.mem_iff.mp hv)
    obtain ⟨n, hn, e2⟩ := List.mem_map.mp (hm.mem_iff.mp (List.mem_map.mpr ⟨e, he, rfl⟩))
    obtain ⟨t, e3⟩ := keyIs_str (g e he) e2.symm
    exact ⟨n, t, q.symm.trans e3⟩
  have hI := strs_have vs hall
  have pk : (vs.map fun v => getS (kOf v)).Perm ns := by
    have q := pm.map fun v => getS (kOf v)
    rw [List.map_map] at q
    have q2 := hm.map getS
    rw [List.map_map, List.map_map] at q2
    have e : ns.map (getS ∘ Sum.inr) = ns := by
      rw [show (getS ∘ Sum.inr) = id from rfl, List.map_id]
    rw [e] at q2
    exact q.trans q2
  have hvl : vs.length ≤ sizeLine := by
    have := pk.length_eq
    rw [List.length_map] at this
    omega
  refine wpAny_bind (wpAny_newList ?_ hvl)
  have hoL : (s1.heap.push (seqObj "list" vs.toArray 0)).get? s1.heap.objs.size = some (seqObj "list" vs.toArray 0) := Heap.get?_push_size _ rfl
  refine wpAny_bind (wpAny_holding (wpAny_call_entry slot_list_sort ⟨_, hoL, rfl⟩ entry_list_sort (list_sort_treeKAny PyProof.Rows.strKind_oneLt hoL hI.keysOf (fun v₁ v₂ rest e => keyKind_strs (by rw [← e]; exact hI)) hvl fun st' hp hs => ⟨_, rfl, ?_⟩) (args_list_sort _)))
  obtain ⟨ns', a1, a2, a3⟩ := sorted_out_str hI hp hs
  obtain ⟨c, hc⟩ := sortedHeap_at (vs := vs) (out := (arrOf st').map (·.2)) hoL
  refine wpAny_pure ⟨_, rfl, hQ _ s1.heap.objs.size _ c ns' (fun b u e => ?_) g1 o1 hz1 hc a1 (a2.trans pk) a3⟩
  have q := k1 b u e
  have hlt := Heap.lt_size q
  show (sortedHeap (s1.heap.push (seqObj "list" vs.toArray 0)) s1.heap.objs.size vs ((arrOf st').map (·.2))).get? b = some u
  rw [sortedHeap_old (Nat.ne_of_lt hlt) (by rw [size_push']; exact Nat.lt_succ_of_lt hlt)]
  exact Heap.get?_push_of_some _ q
end
/-! ### the rule -/
def sortedSet (d : D) (S : Sto) : Option (List D) := match itemsOf S d with
  | some xs => match intsOf xs with
    | some is => if is.length < 1000 then some (((uniq is).mergeSort leI).map .int) else none
    | none => match strsOf xs with
      | some ys => if ys.length < 1000 then some (((uniq ys).mergeSort leS).map .str) else none
      | none => none
  | none => none
def mSortedSet (ma : MV) : MV := fun e S => (ma e S).bind fun d S1 => match sortedSet d S1 with
  | some xs => .ok (.loc S1.length) (S1 ++ [.lst true xs])
  | none => .stuck
section
variable {X : Cx} {W : WX} {a : Expr} {ma : MV} {p p2 q pos : Pos}
theorem vals_ints_key {ns : List Int} {us : List Value} (r : Vals (ns.map V.int) us) : Vals ((ns.map Sum.inl).map kV) us := by
  rw [List.map_map]
  exact r
theorem vals_strs_key {ns : List Str} {us : List Value} (r : Vals (ns.map V.str) us) : Vals ((ns.map Sum.inr).map kV) us := by
  rw [List.map_map]
  exact r
/-- set(a) with the items' values told -/
theorem set_any_call {pins : List (Addr × Obj)} {σ : St} {H : Hp} {s : Shared} {l : Addr} {ks : List Key} {xs : List V} {Q : Value → Shared → Prop} {E : Value → Shared → Prop} {A : Around} (I : Inv X pins σ H s) (hh : A.handled = none)
    (hq : SqL X.K H l xs ∨ SqT X.K H l xs) (hx : xs = ks.map kV) (hz : ks.length < 1000) (h : ∀ s', Inv X pins σ H s' → SetQ X.prog X.w s'.heap s.heap.objs.size (uniq ks) → Q (.ref s.heap.objs.size) s') : wpAny (model X.prog X.w) A (call (.type "set") [.ref l]) Q E s := by
  subst hx
  have hb : ks.length + 1 < scanBound := by unfold scanBound; omega
  rcases hq with hq | hq
  · obtain ⟨its, r, pl, _⟩ := I.list hq
    exact call_setQL ks hh pl.isList (by simpa using r) hb fun h' tk hS hk => h _ (I.kept (t' := tk) hk) hS
  · obtain ⟨its, r, pl, _⟩ := I.tuple hq
    exact call_setQT ks hh (show s.heap.IsTuple l its.toArray from pl) (by simpa using r) hb fun h' tk hS hk => h _ (I.kept (t' := tk) hk) hS
theorem me_sortedSet (hc : X.calm = true) (hg : Gl X "sorted") (hm : X.mg "sorted" = none) (hg2 : Gl X "set") (hm2 : X.mg "set" = none) (ha : PE X a (tM X.K X.mg W ma))
    (na : starEach [a] X.env = (false, eval a X.env) :: starEach [] X.env := by rfl) : PE X (.Call (.Name "sorted" p) [.Call (.Name "set" p2) [a] [] q] [] pos) (tM X.K X.mg W (mSortedSet ma)) := by
  refine ⟨fun pins s σ H Q I ⟨ρ, e, S, re, rs, g⟩ => ?_⟩
  refine Call_ (ld_blt I hg hm boot_sorted ?_)
  refine PyProof.Rows.callWith_builtin1 (PyProof.Rows.args_cons ?_ rfl) rfl rfl
  refine Call_ (ld_blt I hg2 hm2 boot_set ?_)
  refine PyProof.Rows.callWith_type1 (PyProof.Rows.args_cons (thn (ha.run pins s σ H (fun v H1 => ∃ (l : Addr) (xs : List V) (ρ1 : List Addr) (S1 : Sto), v = .ref l ∧ (SqL X.K H1 l xs ∨ SqT X.K H1 l xs) ∧ RS X.K X.mg ρ1 H1 S1 ∧
      ((∃ is : List Int, xs = is.map V.int ∧ is.length < 1000 ∧ Fin X.K X.mg ρ1 H1 (.loc S1.length) (S1 ++ [.lst true (((uniq is).mergeSort leI).map .int)]) Q) ∨
        ∃ ys : List Str, xs = ys.map V.str ∧ ys.length < 1000 ∧ Fin X.K X.mg ρ1 H1 (.loc S1.length) (S1 ++ [.lst true (((uniq ys).mergeSort leS).map .str)]) Q)) I ⟨ρ, e, S, re, rs, GoodG.bind g fun d S1 v H1 ρ1 _ p1 k1 rs1 r1 g1 => ?_⟩) fun v s1 ⟨x, H1, I1, r1, l, xs, ρ1, S1, ex, hq, rs1, h1⟩ => PyProof.Rows.args_nil ?_) na) na rfl
  · try dsimp only at g1
    split at g1
    · rename_i xs hs
      unfold sortedSet at hs
      split at hs
      · rename_i xs' hi
        obtain ⟨l, vs, rfl, hq, hv⟩ := items_seq rs1 r1 hi
        split at hs
        · rename_i is he
          split at hs
          · rename_i hz; cases hs
            exact ⟨l, vs, ρ1, S1, rfl, hq, rs1, .inl ⟨is, rvs_ints hv he, hz, fun v H' ρ' p k s r => g1 v H' ρ' p k s r⟩⟩
          · cases hs
        · split at hs
          · rename_i ys he
            split at hs
            · rename_i hz; cases hs
              exact ⟨l, vs, ρ1, S1, rfl, hq, rs1, .inr ⟨ys, rvs_strs hv he, hz, fun v H' ρ' p k s r => g1 v H' ρ' p k s r⟩⟩
            · cases hs
          · cases hs
      · cases hs
    · exact g1.elim
  · subst ex
    cases r1
    have hd := I1.ok.hd hc
    rcases h1 with ⟨is, e1, hz, fq⟩ | ⟨ys, e1, hz, fq⟩
    · refine set_any_call (ks := is.map Sum.inl) I1 hd hq (by rw [e1, List.map_map]; rfl) (by rw [List.length_map]; exact hz) fun s2 I2 hS => PyProof.Rows.args_nil ?_
      rw [uniq_map _ (fun a b h => Sum.inl.inj h)] at hS
      have hz2 : (uniq is).length ≤ sizeLine := Nat.le_trans (uniq_len is) (by rw [sizeLine_eq]; omega)
      refine sortedQ_ints hS hd hz2 fun s' pp out c ns' k1 g1 o1 hp ho hI pm pw => ?_
      have hlen : (ns'.map V.int).length ≤ sizeLine := by rw [List.length_map, pm.length_eq]; exact hz2
      have e2 := sortI_unique pm pw
      subst e2
      have hn : H1 pp = none := I2.hok.fresh hp
      have J : Inv X pins σ (upd H1 pp (.lst (((uniq is).mergeSort leI).map V.int))) { s2 with heap := s'.heap, gens := s'.gens, drawn := s'.drawn, toks := s'.toks } :=
        I2.call (ch := []) (Un.laid k1 hp hn) (I2.hok.laid k1 hp ⟨hlen, out.toList, c, vals_of_ints hI, ho⟩) (by rw [g1]; exact I2.bare) (fun _ z => nomatch z)
      have e : s' = { s2 with heap := s'.heap, gens := s'.gens, drawn := s'.drawn, toks := s'.toks } := by
        cases s'
        cases s2
        cases o1
        rfl
      rw [e]
      exact ⟨.ref pp, _, J, rfl, fq.lnew rs1 (ints_rvs _) hn⟩
    · refine set_any_call (ks := ys.map Sum.inr) I1 hd hq (by rw [e1, List.map_map]; rfl) (by rw [List.length_map]; exact hz) fun s2 I2 hS => PyProof.Rows.args_nil ?_
      rw [uniq_map _ (fun a b h => Sum.inr.inj h)] at hS
      have hz2 : (uniq ys).length ≤ sizeLine := Nat.le_trans (uniq_len ys) (by rw [sizeLine_eq]; omega)
      refine sortedQ_strs hS hd hz2 fun s' pp out c ns' k1 g1 o1 hp ho hI pm pw => ?_
      have hlen : (ns'.map V.str).length ≤ sizeLine := by rw [List.length_map, pm.length_eq]; exact hz2
      have e2 := sortS_unique pm pw
      subst e2
      have hn : H1 pp = none := I2.hok.fresh hp
      have J : Inv X pins σ (upd H1 pp (.lst (((uniq ys).mergeSort leS).map V.str))) { s2 with heap := s'.heap, gens := s'.gens, drawn := s'.drawn, toks := s'.toks } :=
        I2.call (ch := []) (Un.laid k1 hp hn) (I2.hok.laid k1 hp ⟨hlen, out.toList, c, vals_of_strs hI, ho⟩) (by rw [g1]; exact I2.bare) (fun _ z => nomatch z)
      have e : s' = { s2 with heap := s'.heap, gens := s'.gens, drawn := s'.drawn, toks := s'.toks } := by
        cases s'
        cases s2
        cases o1
        rfl
      rw [e]
      exact ⟨.ref pp, _, J, rfl, fq.lnew rs1 (strs_rvs _) hn⟩
end
end M2
end

section
set_option Elab.async false
set_option linter.all false
set_option maxRecDepth 100000
/-! M2: a module's dict, read with get; in of dicts. -/
namespace M2
open PySem PySem.Spec PyProof.Rows L2
set_option autoImplicit false
def KEnt (K : PySem.W.Frag) (mg : Str → Option Value) : List DictEntry → List (Str × D) → Prop
  | [], [] => True
  | e :: es, t :: ts => (∃ tk, e.key = .str t.1 tk) ∧ (∃ v, RelV v e.val ∧ ∀ ρ H, RV K mg ρ H t.2 v) ∧ KEnt K mg es ts
  | _, _ => False
structure KTab (K : PySem.W.Frag) (w : World) (mg : Str → Option Value) (x : Str) (tb : List (Str × D)) : Prop where
  ex : ∃ (p : Addr) (es : Array DictEntry) (n : Nat), mg x = some (.ref p) ∧ KDict K w p es n ∧ KEnt K mg es.toList tb
def getT (tb : List (Str × D)) (z : Str) : Option D := (tb.find? fun t => decide (t.1 = z)).map (·.2)
theorem isStrOf_str {x z : Str} {tk : Tok} : Value.isStrOf z (.str x tk) = decide (x = z) := by
  by_cases h : x = z
  · subst h
    rw [decide_eq_true rfl]
    simp [Value.isStrOf]
  · rw [decide_eq_false h]
    simp [Value.isStrOf, h]
theorem kent_get {K : PySem.W.Frag} {mg : Str → Option Value} (z : Str) : ∀ {es : List DictEntry} {tb : List (Str × D)}, KEnt K mg es tb → match getT tb z with
    | some d => ∃ u v, (es.find? fun e => Value.isStrOf z e.key).map (·.val) = some u ∧ RelV v u ∧ ∀ ρ H, RV K mg ρ H d v
    | none => (es.find? fun e => Value.isStrOf z e.key).map (·.val) = none
  | [], [], _ => rfl
  | e :: es, t :: ts, h => by
    obtain ⟨⟨tk, hk⟩, ⟨v, rv, hr⟩, h2⟩ := h
    have ih := kent_get z h2
    by_cases e1 : t.1 = z
    · have e2 : getT (t :: ts) z = some t.2 := by simp [getT, List.find?_cons, e1]
      rw [e2]
      refine ⟨e.val, v, ?_, rv, hr⟩
      rw [List.find?_cons, hk, isStrOf_str, decide_eq_true e1]
      rfl
    · have e2 : getT (t :: ts) z = getT ts z := by simp [getT, List.find?_cons, e1]
      have e3 : ((e :: es).find? fun e => Value.isStrOf z e.key) = es.find? fun e => Value.isStrOf z e.key := by
        rw [List.find?_cons, hk, isStrOf_str, decide_eq_false e1]
      rw [e2, e3]
      exact ih
def mKget (tb : List (Str × D)) (ma : MV) : MV := fun e S => (ma e S).bind fun d S1 => match d with
  | .str z => .ok ((getT tb z).getD .non) S1
  | _ => .stuck
section
variable {X : Cx} {W : WX} {e : Expr} {ma : MV} {p apos cpos pos : Pos} {x : Str} {tb : List (Str × D)}
theorem me_kget {j : Nat} (T : KTab X.K X.w X.mg x tb) (hg : Gl X x) (he : PE X e (tM X.K X.mg W ma)) (hdb : (x == ("__debug__" : Str)) = false := by decide)
    (hbase : attributeBase (.Name x p) "get" X.env (eval (.Name x p) X.env) = eval (.Name x p) X.env := by rfl)
    (hfew : ((backTo cpos (starEach [e, .Constant .none j pos] X.env)).all (fun x => !x.1) && (backToKw cpos (keywordEach [] X.env)).all (fun x => x.1.isSome)
      && decide (([e, .Constant .none j pos] : List Expr).length + ([] : List Keyword).length + (if ([] : List Keyword).isEmpty then 0 else 1) < 30)) = true := by rfl)
    (hline : (apos.endLine == cpos.line) = true := by rfl) (ht : backTo cpos (starEach [e, .Constant .none j pos] X.env) = [(false, eval e X.env), (false, eval (.Constant .none j pos) X.env)] := by rfl) :
    PE X (.Call (.Attribute (.Name x p) "get" apos) [e, .Constant .none j pos] [] cpos) (tM X.K X.mg W (mKget tb ma)) := by
  obtain ⟨dd, es, n, hm, D, hE⟩ := T.ex
  refine ⟨fun pins s σ H Q I ⟨ρ, en, S, re, rs, g⟩ => ?_⟩
  refine wpAny_Call_method hbase hfew hline PySem.F.plainAttrs_dict PySem.F.slot_dict_get PySem.F.type_dict_get (ld_glob I hg hm ?_ hdb)
  have hm' := PySem.W.mapOf_K (prog := X.prog) (w := X.w) I.kIn D.at_ D.lit
  refine ⟨hm'.typeIs, fun b q => ?_, ?_⟩
  · cases q
    exact ⟨_, I.kIn _ _ D.at_, rfl⟩
  rw [ht]
  refine Calls.callWith_builtin rfl (Calls.evalArgs_plain (Calls.spliced_cons (thn (he.run pins s σ H (fun v H' => ∃ z, v = .str z ∧ ∃ v, (match getT tb z with
      | some d => ∃ u, (es.toList.find? fun e => Value.isStrOf z e.key).map (·.val) = some u ∧ RelV v u
      | none => (es.toList.find? fun e => Value.isStrOf z e.key).map (·.val) = none ∧ v = .non) ∧ Q v H') I ⟨ρ, en, S, re, rs, GoodG.bind g fun d S1 v H1 ρ1 _ p1 k1 rs1 r1 g1 => ?_⟩) fun iv s2 ⟨y, H2, I2, ry, z, ey, v, hz, q⟩ =>
    Calls.spliced_cons (thn (pe_non.run pins s2 σ H2 (fun v H' => v = .non ∧ H' = H2) I2 ⟨rfl, rfl⟩) fun fv s3 ⟨z3, H3, I3, rz, ez, eH⟩ => Calls.spliced_nil ?_))))
  · try dsimp only at g1
    split at g1
    · rename_i z hz0
      cases r1
      have hz := kent_get z hE
      cases hg : getT tb z with
      | some d =>
        rw [hg] at hz g1
        obtain ⟨u, v, e1, rv, hr⟩ := hz
        exact ⟨z, rfl, v, by rw [hg]; exact ⟨u, e1, rv⟩, GoodG.ok g1 rs1 (hr ρ1 H1)⟩
      | none =>
        rw [hg] at hz g1
        exact ⟨z, rfl, .non, by rw [hg]; exact ⟨hz, rfl⟩, GoodG.ok g1 rs1 rfl⟩
    · exact g1.elim
  · subst ey; subst ez; subst eH
    cases rz
    obtain ⟨t, rfl⟩ := ry
    have hm3 := PySem.W.mapOf_K (prog := X.prog) (w := X.w) I3.kIn D.at_ D.lit
    have hf : findBy Value.isStrOf es z = (es.toList.find? fun e => Value.isStrOf z e.key).map (·.val) := by
      unfold findBy
      obtain ⟨l⟩ := es
      rw [List.find?_toArray]
    refine call_meetsIn PySem.F.slot_dict_get hm3.typeIs PySem.F.entry_dict_get (PySem.F.args_dict_get_3 _ _ _) (meets_dict_get_default (strKind X.prog X.w) dd (strKind_is X.prog X.w z t) D.low .none) ⟨_, hm3, ?_⟩
    show EP X pins σ Q ((findBy Value.isStrOf es z).getD .none) _
    rw [hf]
    cases hg : getT tb z with
    | some d =>
      rw [hg] at hz
      obtain ⟨u, e1, rv⟩ := hz
      rw [e1]
      exact ⟨v, H3, I3.tok _, rv, q⟩
    | none =>
      rw [hg] at hz
      obtain ⟨e1, rfl⟩ := hz
      rw [e1]
      exact ⟨.non, H3, I3.tok _, rfl, q⟩
end
/-! ### in, not in, of dicts as well -/
def inD2 (S : Sto) (a b : D) : Option Bool := match b with
  | .loc n => match S[n]? with
    | some (.dic kvs) => (keyD a).map fun k => (getD' kvs k).isSome
    | _ => inD S a b
  | _ => inD S a b
def oIn2 : Op2 := fun a b S => (inD2 S a b).map fun k => (.bl k, S)
def oNotIn2 : Op2 := fun a b S => (inD2 S a b).map fun k => (.bl !k, S)
section
variable {X : Cx}
theorem in2_case {a b : D} {S : Sto} {k : Bool} (h : inD2 S a b = some k) : inD S a b = some k ∨ ∃ n kvs key, b = .loc n ∧ S[n]? = some (.dic kvs) ∧ keyD a = some key ∧ k = (getD' kvs key).isSome := by
  unfold inD2 at h
  split at h
  · split at h
    · rename_i kvs e0
      obtain ⟨key, e1, e2⟩ := map_some h
      exact .inr ⟨_, kvs, key, rfl, e0, e1, e2.symm⟩
    · exact .inl h
  · exact .inl h
theorem rks_is {K : PySem.W.Frag} {mg : Str → Option Value} {ρ : List Addr} {H : Hp} {kvs : List (Key × D)} {xs : List (Key × V)} (k : Key) (h : RKs K mg ρ H kvs xs) : (valV xs k).isSome = (getD' kvs k).isSome := by
  have g := rks_get k h
  split at g
  · rename_i d e
    obtain ⟨v, e2, _⟩ := g
    rw [e, e2]; rfl
  · rename_i e
    rw [e, g]
    rfl
theorem om_in2 (hu : X.A.units + 65 < cLine) : OpR X (compareOp .In) (rM2 X.K X.mg oIn2) := by
  intro pins s σ H x y v u Q I rx ry ⟨ρ, S, d1, d2, d3, S3, rs, r1, r2, e, q⟩
  obtain ⟨k, e0, e3⟩ := map_some e
  rcases in2_case e0 with e1 | ⟨n, kvs, key, eb, e1, e2, ek⟩
  · exact om_in hu pins s σ H x y v u Q I rx ry ⟨ρ, S, d1, d2, d3, S3, rs, r1, r2, by unfold oIn; rw [e1]; exact congrArg some e3, q⟩
  · subst eb
    obtain ⟨a, rfl, pa⟩ := r2
    obtain ⟨xs, hx, hv⟩ := rs.at_ _ _ _ pa e1
    cases ry
    have ey := keyD_V r1 e2
    subst ey
    cases e3
    refine d_in (by omega) I (DGet.k (k := key) hx) rx fun s3 I3 => ⟨.bl (valV xs key).isSome, H, I3, rfl, ?_⟩
    rw [rks_is key hv, ← ek]
    exact q.now rs rfl
theorem om_notIn2 (hu : X.A.units + 65 < cLine) : OpR X (compareOp .NotIn) (rM2 X.K X.mg oNotIn2) := by
  intro pins s σ H x y v u Q I rx ry ⟨ρ, S, d1, d2, d3, S3, rs, r1, r2, e, q⟩
  obtain ⟨k, e0, e3⟩ := map_some e
  rcases in2_case e0 with e1 | ⟨n, kvs, key, eb, e1, e2, ek⟩
  · exact om_notIn hu pins s σ H x y v u Q I rx ry ⟨ρ, S, d1, d2, d3, S3, rs, r1, r2, by unfold oNotIn; rw [e1]; exact congrArg some e3, q⟩
  · subst eb
    obtain ⟨a, rfl, pa⟩ := r2
    obtain ⟨xs, hx, hv⟩ := rs.at_ _ _ _ pa e1
    cases ry
    have ey := keyD_V r1 e2
    subst ey
    cases e3
    refine d_notIn (by omega) I (DGet.k (k := key) hx) rx fun s3 I3 => ⟨.bl (!(valV xs key).isSome), H, I3, rfl, ?_⟩
    rw [rks_is key hv, ← ek]
    exact q.now rs rfl
end
end M2
end

section
set_option Elab.async false
set_option linter.all false
set_option maxRecDepth 100000
/-! M2: the head and the end. -/
namespace M2
open PySem PySem.Spec PyProof.Rows L2
set_option autoImplicit false
section
variable {K : PySem.W.Frag} {mg : Str → Option Value} {h : Heap}
theorem hasF_mk {x qual : Str} {st : Stmt} {ps : List Str} {f : Addr} {oc : Value} {od an : Option Addr} {osl : Array (Option Value)} {kV doc pm cdv ct : Value} (X : K.In h) (G : h.Ns mainGlobals mg)
    (b : ∀ (kV doc pm : Value) (an : Option Addr) (cdv ct : Value) (us : List Value), us.length = ps.length → bindArgs (PySem.W.fnOf x qual (defArgs st) (defBody st) (defScope st) .none kV doc pm an cdv ct) ⟨us, []⟩ = pure (ps.zip us))
    (a : PySem.W.nsIn K mainGlobals x = some (some (.ref f))) (l : K.lookup f = some ⟨oc, od, .func (PySem.W.fnOf x qual (defArgs st) (defBody st) (defScope st) .none kV doc pm an cdv ct), osl⟩)
    (c : PySem.W.codeIn K cdv qual = true) (k : PySem.W.keepIn K (.ref f) = true) : HasF K mg x qual st ps := by
  have F := fun_mk (st := st) l c k
  exact ⟨f, _, F, PySem.W.mg_of X G a, F.binds (ps := ps) b⟩
theorem gstr_mk {x z : Str} {v : Value} (X : K.In h) (G : h.Ns mainGlobals mg) (a : PySem.W.nsIn K mainGlobals x = some (some v)) (e : ∃ t, v = .str z t) : ∃ t, mg x = some (.str z t) := by
  obtain ⟨t, rfl⟩ := e
  exact ⟨t, PySem.W.mg_of X G a⟩
theorem gint_mk {x : Str} {z : Int} {v : Value} (X : K.In h) (G : h.Ns mainGlobals mg) (a : PySem.W.nsIn K mainGlobals x = some (some v)) (e : ∃ t, v = .int z t) : ∃ t, mg x = some (.int z t) := by
  obtain ⟨t, rfl⟩ := e
  exact ⟨t, PySem.W.mg_of X G a⟩
/-- a module's tuple of plain things -/
theorem gtup_mk {x : Str} {a : Addr} {o : Obj} {its : Array Value} {n : Nat} {ds : List D} {vs : List V} (X : K.In h) (G : h.Ns mainGlobals mg) (e : PySem.W.nsIn K mainGlobals x = some (some (.ref a))) (l : K.lookup a = some o) (hc : o.cls = .type "tuple") (hd : o.data = .seq its n)
    (hz : its.size ≤ sizeLine) (hv : Vals vs its.toList) (hr : ∀ ρ H, RVs K mg ρ H ds vs) : ∃ a, mg x = some (.ref a) ∧ ∀ ρ H, RV K mg ρ H (.tup ds) (.ref a) :=
  ⟨a, PySem.W.mg_of X G e, fun ρ H => ⟨a, vs, rfl, .inr ⟨o, its, n, l, hc, hd, hz, hv⟩, hr ρ H⟩⟩
end
theorem ktab_mk {K : PySem.W.Frag} {mg : Str → Option Value} {h : Heap} {w : World} {x : Str} {p : Addr} {es : Array DictEntry} {n : Nat} {tb : List (Str × D)} (X : K.In h) (G : h.Ns mainGlobals mg) (e : PySem.W.nsIn K mainGlobals x = some (some (.ref p)))
    (l : K.lookup p = some ⟨.type "dict", none, .dict es n, #[]⟩) (lit : PySem.W.KeysLit w.params es.toList) (low : (p == sysModules) = false) (ent : KEnt K mg es.toList tb) : KTab K w mg x tb := ⟨p, es, n, PySem.W.mg_of X G e, ⟨l, lit, low⟩, ent⟩
/-- a written tuple -/
theorem ktup_mk {K : PySem.W.Frag} {mg : Str → Option Value} {a : Addr} {o : Obj} {its : Array Value} {n : Nat} {ds : List D} {vs : List V} (l : K.lookup a = some o) (hc : o.cls = .type "tuple") (hd : o.data = .seq its n)
    (hz : its.size ≤ sizeLine) (hv : Vals vs its.toList) (hr : ∀ ρ H, RVs K mg ρ H ds vs) : ∃ v, RelV v (.ref a) ∧ ∀ ρ H, RV K mg ρ H (.tup ds) v :=
  ⟨.ref a, rfl, fun ρ H => ⟨a, vs, rfl, .inr ⟨o, its, n, l, hc, hd, hz, hv⟩, hr ρ H⟩⟩
/-- the law's def, by the function that it keeps -/
def LawOk (mf : MF) : Prop := ∀ ns : List Int, ns.length ≤ 63 → (∀ z ∈ ns, Builtin.Int.intBits z ≤ 1048576) → ∃ S, mf [.loc 0] [.lst false (ns.map .int)] = .ok (.bl true) S
def spL (K : PySem.W.Frag) : Sp := fun vs H Q _ => ∃ (a : Addr) (ns : List Int), vs = [.ref a] ∧ ns.length ≤ 63 ∧ (∀ z ∈ ns, Builtin.Int.intBits z ≤ 1048576) ∧ Only H ∧ SqL K H a (ns.map V.int) ∧ ∀ H', Q (.bl true) H'
theorem spL_spM {K : PySem.W.Frag} {mg : Str → Option Value} {mf : MF} (L : LawOk mf) (vs : List V) (H : Hp) (Q : VK) (E : XK) (h : spL K vs H Q E) : spM K mg mf vs H Q E := by
  obtain ⟨a, ns, rfl, hl, hb, hO, hS, q⟩ := h
  obtain ⟨S, e⟩ := L ns hl hb
  have hd : RdL K H a (ns.map V.int) := by
    rcases hS with (z | z) | z
    · rcases hO a with o | ⟨o, xs, o'⟩
      · rw [o] at z; cases z
      · rw [o'] at z; cases z
    · exact .inl z
    · exact .inr z
  refine ⟨[a], [.lst false (ns.map .int)], [.loc 0], ⟨rfl, fun n b o e1 e2 => ?_, fun n m b o o' e1 e2 e3 e4 w1 w2 => ?_⟩, ⟨.ref a, [], rfl, ⟨a, rfl, rfl⟩, rfl⟩, ?_⟩
  · cases n with
    | zero =>
      cases e1; cases e2
      exact ⟨_, hd, ints_rvs ns⟩
    | succ n => cases e1
  · cases n with
    | zero =>
      cases e3
      cases w1
    | succ n => cases e3
  · show Good K mg (E2W E) [] [a] H (mf [.loc 0] [.lst false (ns.map .int)]) Q
    rw [e]
    exact fun v H' ρ' _ _ _ r => by
      cases r
      exact q H'
theorem walkM {l : PySem.W.OpenLaw} {k : Nat} {q : Program} {loose : List Str} {XP : (Str → Option Value) → Heap → Prop} {YP : World → Heap → Prop} {d : DefRec} {K : Params → PySem.W.Frag} {mf : MF} {qual : Str} {st : Stmt}
    (hn : l.most = some 63) (hdf : d.params.defaults = []) (hr : Room k callerA) (hY : ∀ (w : World) (h : Heap), YP w h → (K w.params).In h) (L : LawOk mf)
    (hb : ∀ (s : Shared) (u kV doc pm : Value) (an : Option Addr) (cdv ct : Value), BindsTo s (PySem.W.fnOf "law" qual (defArgs st) (defBody st) (defScope st) .none kV doc pm an cdv ct) ⟨[u], []⟩ [("script", u)])
    (F : ∀ (w : World) (mg : Str → Option Value) (fa : Addr) (h : Heap), (K w.params).In h → h.Ns mainGlobals mg → mg d.name = some (.ref fa) →
      ∃ fd : FuncData, Fun (K w.params) "law" qual st fa fd ∧ ∀ base : Heap, FnOk l.prog w (K w.params) mg base (L2N.CX l.prog w) k fa fd ["script"] (spM (K w.params) mg mf)) :
    PySem.W.WalkO q loose XP YP l.row.toRowW d [] (fun f vs => PySem.call f vs) := by
  refine walk_ofB (n := 63) (k := k) (x := "script") (CX := fun w => L2N.CX l.prog w) (sp := fun w => spL (K w.params)) hn (by decide) hdf hr hY (fun w mg fa h X G hmg => ?_) (fun w H a ns h1 h2 h3 h4 => ⟨a, ns, rfl, h1, h2, h3, h4, fun _ => rfl⟩) fun w H s e s' z => ?_
  · obtain ⟨fd, T, f⟩ := F w mg fa h X G hmg
    refine ⟨fd, fun s u => ?_, fun base _ _ => (f base).imp fun vs H Q E h => spL_spM L vs H Q E h⟩
    obtain ⟨oc, od, kV, doc, pm, an, cdv, ct, osl, rfl, lk, hcd⟩ := T.ex
    exact hb s u kV doc pm an cdv ct
  · obtain ⟨_, _, _, _, _, _, _, _, _, _, _, _, z⟩ := z
    exact z.elim
/-- the rule for a def, its promise with the address -/
theorem FnM.okOf {P : Program} {w : World} {K : PySem.W.Frag} {mg : Str → Option Value} {base : Heap} {x qual : Str} {st : Stmt} {f : Addr} {fd : FuncData} {N ps : List Str} {k : Nat} {body : MS} (F : Fun K x qual st f fd) (S : FnScope N ps (defScope st))
    (h : ∀ (cdv : Value) (A : Around) (outer : List Env) (s : Shared) (H : Hp) (E : XK), MX (cxOf (L2N.CX P w) P w K mg base N qual (defScope st) f cdv A outer s H E) (E2W E) k →
      PSs (cxOf (L2N.CX P w) P w K mg base N qual (defScope st) f cdv A outer s H E) (defBody st) (tMS K mg (E2W E) body)) : FnOk P w K mg base (L2N.CX P w) (k + 1) f fd ps (spM K mg (mDef N.length ps.length body)) := by
  obtain ⟨oc, od, kV, doc, pm, an, cdv, ct, osl, rfl, lk, hcd⟩ := F.ex
  refine fn_of lk hcd S (fun vs H Q E hsp => ?_) fun A outer s H vs Q E hr hsp => ?_
  · obtain ⟨ρ, S', ds, rs, rv, g⟩ := hsp
    rw [← rv.length]
    unfold mDef at g
    split at g
    · assumption
    · exact g.elim
  · refine ⟨_, h cdv A outer s H E ⟨rfl, S.nd, L2N.takes_of rfl rfl rfl rfl, passes_of rfl, hr.units, un65 hr, hr⟩, ?_⟩
    obtain ⟨ρ, S', ds, rs, rv, g⟩ := hsp
    refine ⟨ρ, startE N.length ds, S', re_start rv, rs, ?_⟩
    unfold mDef at g
    split at g
    · cases hb' : body (startE N.length ds) S' with
      | nx e S1 =>
        rw [hb'] at g
        exact fun σ' H' ρ' p kk rs' re' => g .non H' ρ' p kk rs' rfl
      | rt d S1 =>
        rw [hb'] at g
        exact fun v H' ρ' p kk rs' r' => g v H' ρ' p kk rs' r'
      | exc c fs e S1 =>
        rw [hb'] at g
        exact fun C dd σ' H' ρ' vs' hm p kk rs' re' hd hf => g C dd H' ρ' vs' hm p kk rs' hd hf
      | bk e S1 => rw [hb'] at g; exact g.elim
      | ct e S1 => rw [hb'] at g; exact g.elim
      | stuck => rw [hb'] at g; exact g.elim
    · exact g.elim
end M2
end

section
set_option Elab.async false
set_option linter.all false
set_option maxRecDepth 100000
set_option maxHeartbeats 2000000
/-! M2: dict comprehensions, starred items, max of a list. -/
namespace M2
open PySem PySem.Spec PyProof.Rows L2
set_option autoImplicit false
/-! ### *e in a display or a call -/
def aStar (ma : MV) (mr : MA) : MA := fun e S => (ma e S).bind fun d S1 => match itemsOf S1 d with
  | some xs => (mr e S1).bind fun ys S2 => .ok (xs ++ ys) S2
  | none => .stuck
section
variable {X : Cx} {W : WX} {e : Expr} {es : List Expr} {p : Pos} {ma : MV} {mr : MA}
theorem ma_star (ha : PE X e (tM X.K X.mg W ma)) (hr : PA X es (tMA X.K X.mg W mr)) (hs : starEach (.Starred e p :: es) X.env = (true, eval e X.env) :: starEach es X.env := by rfl) : PA X (.Starred e p :: es) (tMA X.K X.mg W (aStar ma mr)) :=
  PA.imp (StX.pa_star ha hr hs) fun σ H Q ⟨ρ, e, S, re, rs, g⟩ => ⟨ρ, e, S, re, rs, GoodG.bind g fun d1 S1 x H1 ρ1 _ p1 k1 rs1 r1 g1 => by
    try dsimp only at g1
    split at g1
    · rename_i xs hx
      obtain ⟨a, vs, rfl, hq, rv⟩ := items_seq rs1 r1 hx
      exact ⟨a, vs, rfl, hq.symm, ρ1, e, S1, re.mono p1 k1, rs1, GoodG.bind g1 fun d2 S2 y H2 ρ2 _ p2 k2 rs2 r2 g2 => GoodG.ok g2 rs2 ((RVs.mono p2 k2 _ _ rv).append r2)⟩
    · exact g1.elim⟩
end
/-! ### dict comprehensions -/
def loopD (it : ItM) (tg : Tg) (tt : MT) (mk mv : MV) (n : Nat) (e : Nv) : Nat → Nat → Sto → Res
  | 0, i, S => match it.at_ i S with
    | some none => .ok (.loc n) S
    | _ => .stuck
  | m + 1, i, S => match it.at_ i S with
    | some none => .ok (.loc n) S
    | some (some d) => match tg d e with
      | some e1 => (tt e1 S).bind fun b S1 => if b = true then (mk e1 S1).bind fun kd S2 => (mv e1 S2).bind fun y S3 => match keyD kd, S3[n]? with
          | some k, some (.dic acc) => if acc.length < sizeLine then loopD it tg tt mk mv n e m (i + 1) (S3.set n (.dic (putD acc k y))) else .stuck
          | _, _ => .stuck
        else loopD it tg tt mk mv n e m (i + 1) S1
      | none => .stuck
    | none => .stuck
/-- a dict comprehension in which nothing is raised -/
def mDcC (mi : Nv → Sto → Rs ItM) (tg : Tg) (tt : MT) (mk mv : MV) (vs : List Nat) : MV := fun e S => (mi e S).bind fun it S1 =>
  (loopD it tg tt mk mv S1.length (wipeE e vs) it.cnt 0 (S1 ++ [.dic []])).cold
section
variable {X : Cx} {W : WX} {pos : Pos} {tg : Tg} {mi : Nv → Sto → Rs ItM} {tt : MT} {mk mv : MV}
theorem tdc_of {vs : List Nat} (σ : St) (H : Hp) (Q : VK) (h : tM X.K X.mg W (mDcC mi tg tt mk mv vs) σ H Q) : tDc (tMI X.K X.mg W mi) (tTgW X.K X.mg vs tg) (tMT X.K X.mg wF tt) (tM X.K X.mg wF mk) (tM X.K X.mg wF mv) vs σ H Q := by
  obtain ⟨ρ, e, S, re, rs, g⟩ := h
  refine ⟨ρ, e, S, re, rs, GoodG.bind g fun it S1 J H1 ρ1 _ p1 k1 rs1 r1 g1 => fun D hD => ?_⟩
  have g1 := good_cold (W' := wF) g1
  have kp : Keep H1 (upd H1 D (.dK [])) := Keep.new hD
  have rs2 : RS X.K X.mg (ρ1 ++ [D]) (upd H1 D (.dK [])) (S1 ++ [.dic []]) := rs1.alloc hD ⟨[], upd_same, rfl⟩
  have nD : (ρ1 ++ [D])[S1.length]? = some D := by rw [← rs1.len]; simp
  have re2 : RE X.K X.mg (ρ1 ++ [D]) (upd H1 D (.dK [])) (wipeE e vs) (wipe σ vs) := ((re.mono p1 k1).mono (Pre.app _ _) kp).wipe vs
  generalize hn : S1.length = n at g1 nD
  generalize he : wipeE e vs = ew at g1 re2
  refine ⟨fun i m H => ∃ ρ2 S2, RS X.K X.mg ρ2 H S2 ∧ Pre (ρ1 ++ [D]) ρ2 ∧ Keep (upd H1 D (.dK [])) H ∧ GoodG X.K X.mg wF (RV X.K X.mg) [] ρ2 H (loopD it tg tt mk mv n ew m i S2) Q,
    ⟨it.cnt, ρ1 ++ [D], _, rs2, Pre.refl _, Keep.refl _, GoodG.mono g1 (Pre.app _ _) kp⟩, ?_⟩
  rintro i m H2 ⟨ρ2, S2, rs2, p2, k2, g2⟩
  have io := r1 i ρ2 H2 S2 ((Pre.app _ _).trans p2) (kp.trans k2) rs2
  have stop : it.at_ i S2 = some none → GoodG X.K X.mg wF (RV X.K X.mg) [] ρ2 H2 (.ok (.loc n) S2) Q → J.stop i H2 ∧ Q (.ref D) H2 := fun h g => by
    rw [h] at io
    exact ⟨io, GoodG.ok g rs2 ⟨D, rfl, p2 _ _ nD⟩⟩
  cases m with
  | zero =>
    unfold loopD at g2
    split at g2
    · rename_i h
      exact .inl (stop h g2)
    · exact g2.elim
  | succ m =>
    unfold loopD at g2
    split at g2
    · rename_i h
      exact .inl (stop h g2)
    · rename_i d h
      rw [h] at io
      obtain ⟨go, yl⟩ := io
      split at g2
      · rename_i e3 h3
        refine .inr ⟨go, fun H' => ∃ ρ2 S2, RS X.K X.mg ρ2 H' S2 ∧ Pre (ρ1 ++ [D]) ρ2 ∧ Keep (upd H1 D (.dK [])) H' ∧ GoodG X.K X.mg wF (RV X.K X.mg) [] ρ2 H' (loopD it tg tt mk mv n ew m (i + 1) S2) Q, fun H' hN => ⟨m, Nat.lt_succ_self _, hN⟩, fun x H' y => ?_⟩
        obtain ⟨ky, rs3, rx⟩ := yl x H' y
        refine ⟨ρ2, ew, S2, d, e3, re2.mono p2 (k2.trans ky), rs3, rx, h3, fun σ3 re3 w3 => ⟨?_, ρ2, e3, S2, re3, rs3, ?_⟩⟩
        · rw [w3, wipe_sub fun _ h => h]
        have g3 := GoodG.mono g2 (Pre.refl ρ2) ky
        refine GoodG.bind (GoodG.st g3) fun b S4 bb H4 ρ4 _ p4 k4 rs4 r4 g4 => ?_
        cases r4
        try dsimp only at g4
        cases b with
        | false =>
          rw [if_neg Bool.false_ne_true] at g4 ⊢
          exact ⟨ρ4, S4, rs4, p2.trans p4, (k2.trans ky).trans k4, GoodG.st g4⟩
        | true =>
          rw [if_pos rfl] at g4 ⊢
          refine ⟨ρ4, e3, S4, re3.mono p4 k4, rs4, GoodG.bind g4 fun kd S5 kvv H5 ρ5 _ p5 k5 rs5 r5 g5 => ⟨ρ5, e3, S5, (re3.mono p4 k4).mono p5 k5, rs5, GoodG.bind g5 fun yd S6 yv H6 ρ6 _ p6 k6 rs6 r6 g6 => ?_⟩⟩
          try dsimp only at g6
          split at g6
          · rename_i k acc hk ha
            split at g6
            · rename_i hz
              have pD := ((p2.trans p4).trans p5).trans p6 _ _ nD
              obtain ⟨xs, ex, rx⟩ := rs6.at_ _ _ _ pD ha
              have kq : Keep H6 (upd H6 D (.dK (putK xs k yv))) := Keep.mut ex rfl
              refine ⟨xs, k, keyD_V r5 hk, ex, by rw [← rks_len rx]; exact hz, ρ6, _, rs6.set (o' := .dic (putD acc k yd)) pD ha rfl ⟨_, upd_same, RKs.mono (Pre.refl _) kq _ _ (rks_put (k := k) rx r6)⟩ rfl, ((p2.trans p4).trans p5).trans p6, (((k2.trans ky).trans k4).trans k5).trans (k6.trans kq), GoodG.mono (GoodG.st g6) (Pre.refl _) kq⟩
            · exact g6.elim
          · exact g6.elim
      · exact g2.elim
    · exact g2.elim
variable {kx vx tgt iter : Expr} {ifs : List Expr} {scope : Scope} {own : List (Str × Nat)}
theorem me_dc (hc : X.calm = true) (hN : X.N.Nodup) (hi : PI X tgt iter (tMI X.K X.mg W mi)) (ok : BlkOk X.N X.env.scope scope own)
    (hg : ∀ (s : Shared) (H : Hp) (C : Addr) (cl : List (Str × Addr)) (fp : List Addr), PG (X.blk s H scope (compEnvC scope cl C X.env) fp) tgt (tTgW X.K X.mg (own.map (·.2)) tg)) (ht : ∀ (s : Shared) (H : Hp) (C : Addr) (cl : List (Str × Addr)) (fp : List Addr), PTs (X.blk s H scope (compEnvC scope cl C X.env) fp) ifs (tMT X.K X.mg wF tt))
    (hk : ∀ (s : Shared) (H : Hp) (C : Addr) (cl : List (Str × Addr)) (fp : List Addr), PE (X.blk s H scope (compEnvC scope cl C X.env) fp) kx (tM X.K X.mg wF mk))
    (he : ∀ (s : Shared) (H : Hp) (C : Addr) (cl : List (Str × Addr)) (fp : List Addr), PE (X.blk s H scope (compEnvC scope cl C X.env) fp) vx (tM X.K X.mg wF mv)) (hs : ∀ x, foldedSetIterable iter X.env x = pure x := by intro _; rfl) :
    PE X (.DictComp kx vx [⟨tgt, iter, ifs, 0⟩] scope pos) (tM X.K X.mg W (mDcC mi tg tt mk mv (own.map (·.2)))) := PE.imp (pe_dc hc hN hi ok hg ht hk he hs) tdc_of
end
/-! ### max of a list of numbers -/
def maxI : List Int → Option Int
  | [] => none
  | x :: xs => some (xs.foldl max x)
def oMaxL : OpL := fun ds S => match ds with
  | [.int i, .int j] => some (.int (if j > i then j else i), S)
  | [.loc n] => match S[n]? with
    | some (.lst _ xs) => match intsOf xs with
      | some (y :: ys) => some (.int (ys.foldl max y), S)
      | _ => none
    | _ => none
  | _ => none
theorem foldl_max_ge : ∀ (ys : List Int) (y : Int), y ≤ ys.foldl max y ∧ (∀ z ∈ ys, z ≤ ys.foldl max y) ∧ (ys.foldl max y = y ∨ ys.foldl max y ∈ ys)
  | [], y => ⟨Int.le_refl _, ⟨fun z hz => (List.not_mem_nil hz).elim, Or.inl rfl⟩⟩
  | a :: ys, y => by
    obtain ⟨h1, h2, h3⟩ := foldl_max_ge ys (max y a)
    refine ⟨by show y ≤ ys.foldl max (max y a); omega, fun z hz => ?_, ?_⟩
    · show z ≤ ys.foldl max (max y a)
      rcases List.mem_cons.mp hz with q | q
      · rw [q]; omega
      · exact h2 z q
    · show ys.foldl max (max y a) = y ∨ ys.foldl max (max y a) ∈ a :: ys
      rcases h3 with q | q
      · rw [q]
        by_cases h : a ≤ y
        · exact .inl (by omega)
        · exact .inr (by rw [show max y a = a by omega]; exact List.mem_cons_self)
      · exact .inr (List.mem_cons_of_mem _ q)
section
variable {X : Cx}
theorem cm_maxL (hc : X.calm = true) : CallR X (.builtin "max") (rML X.K X.mg oMaxL) := by
  intro pins s σ H xs us Q I r ⟨ρ, S, ds, d3, S3, rs, rv, e, q⟩
  unfold oMaxL at e
  split at e
  · obtain ⟨x, ys, rfl, r1, y, ys2, rfl, r2, r0⟩ := rv
    cases r1; cases r2; cases r0; cases e
    exact call_max2 hc pins s σ H _ us Q I r ⟨_, _, rfl, q.now rs rfl⟩
  · rename_i n
    obtain ⟨x, ys, rfl, r1, r0⟩ := rv
    cases r0
    split at e
    · rename_i w zs hz
      split at e
      · rename_i y ys hi
        cases e
        obtain ⟨a, rfl, pa⟩ := r1
        obtain ⟨vs, hq, hv⟩ := rs.list pa hz
        have ev := rvs_ints hv hi
        subst ev
        refine cr_max hc pins s σ H _ us Q I r ⟨a, y :: ys, rfl, hq, by simp, fun m hm hle => ?_⟩
        obtain ⟨h1, h2, h3⟩ := foldl_max_ge ys y
        have e1 : m = ys.foldl max y := by
          have l1 : m ≤ ys.foldl max y := by
            rcases List.mem_cons.mp hm with q | q
            · rw [q]; exact h1
            · exact h2 m q
          have l2 : ys.foldl max y ≤ m := by
            rcases h3 with q | q
            · rw [q]; exact hle y List.mem_cons_self
            · exact hle _ (List.mem_cons_of_mem _ q)
          omega
        rw [e1]
        exact q.now rs rfl
      · cases e
    · cases e
  · cases e
end
end M2
end

section
set_option Elab.async false
set_option linter.all false
set_option maxRecDepth 100000
set_option maxHeartbeats 4000000
/-! M2: own errors whose __init__ begins with super().__init__(..). -/
namespace M2
open PySem PySem.Spec PyProof.Rows L2
set_option autoImplicit false
/-- a frozen class's facts for super() in it -/
structure SupC (K : PySem.W.Frag) (P : Program) (mg : Str → Option Value) (C fI cc cda : Addr) (fd : FuncData) (slf : Str) : Prop where
  oex : OexC K C
  fn : ∃ oc od osl, K.lookup fI = some ⟨oc, od, .func fd, osl⟩
  hd : ∃ ar, (fd.params.posonlyargs ++ fd.params.args).head? = some ar ∧ ar.arg = slf
  cell : ∃ cl cld csl, K.lookup cc = some ⟨cl, cld, .cell (some (.ref C)), csl⟩
  code : ∃ ccl cdd vs ccs file tf, K.lookup cda = some ⟨ccl, cdd, .fields vs, ccs⟩ ∧ vs[2]? = some (.str file tf) ∧ ((P.main.file : Str) == file) = true
  top : (P.main.scope.names.lookup ("super" : Str)).isSome = false
  nosup : mg "super" = none
  sub : PySem.W.mroIn K C (.ref C) = some true
  subV : PySem.W.subIn K (.ref C) (.type "ValueError") = some true
  opq : PySem.W.nsIn K PySem.cStatics "thirdparty.any" = some none
  along : ∃ cd, PySem.W.clsIn K C = some cd ∧ PySem.W.alongIn K "__init__" ((cd.mro.dropWhile (· != .ref C)).drop 1) = some (some (.builtin "ValueError.__init__"))
section
variable {X : Cx} {pins : List (Addr × Obj)} {σ : St} {H : Hp} {s : Shared} {a C fI cc cda : Addr} {fd : FuncData} {slf : Str}
/-- the wrapper called: nothing of it is told -/
theorem mw_call {u : Addr} {rest : List Value} {A : Around} {E : Value → Shared → Prop} {Q : Value → Shared → Prop} (T : OexC X.K C) (I : Inv X ((u, PySem.W.kxs_mw "ValueError.__init__" a) :: pins) σ H s) (e : H a = some (exo a C none)) (hl : rest.length ≤ sizeLine) (h : ∀ s', Inv X pins σ H s' → Q .none s') :
    wpAny (model X.prog X.w) A (call (.ref u) rest) Q E s := by
  obtain ⟨nm, q, N, bs, bm, sn, sub, ab, col, dd, k0, k1, k2, k3, k5, hC, hbm⟩ := T.cls
  obtain ⟨t1, he⟩ := exo_at I.hok e
  obtain ⟨hu, _⟩ := I.pin (u, PySem.W.kxs_mw "ValueError.__init__" a) (List.mem_append_right _ List.mem_cons_self)
  have I0 : Inv X pins σ H s := I.pins_of fun p hp => I.pin p (List.mem_append_right _ (List.mem_cons_of_mem _ hp))
  have fin : ∀ h', (∀ b o, b ≠ a → s.heap.get? b = some o → h'.get? b = some o) → (∃ t2 : Addr, h'.get? a = some ({ cls := .ref C, dict := none, data := .fields #[.ref t2, .none, .none, .none, .bool false, .none] } : Obj)) → ∀ t', Q .none { s with heap := h', toks := t' } := fun h' k ⟨t2, hx⟩ t' => by
    have J := I0.write (t' := t') (x := a) (e := a) (o := exo a C none) (by rw [e]; exact True.intro) (.inl rfl) k ⟨_, hx⟩ (exo_ok hx)
    have eu : upd H a (exo a C none) = H := funext fun b => by
      by_cases hb : b = a
      · rw [hb, upd_same, e]
      · rw [upd_ne hb]
    rw [eu] at J
    exact h _ J
  obtain ⟨hp, g, d, t, os⟩ := s
  refine wpAny_call (codeAny_of_tree ?_)
  show wpAny _ A.in1 (callAny (.ref u) ⟨rest, []⟩) _ _ _
  simp only [callAny]
  refine wpAny_bind (wpAny_load hu ?_)
  have w1 : (Value.type "method-wrapper" == Value.type "method" || Value.type "method-wrapper" == Value.type "builtin_function_or_method" || Value.type "method-wrapper" == Value.type "method-wrapper") = true := by decide
  simp only [PySem.W.kxs_mw, w1, if_true]
  refine PySem.W.KFB.if_so (by decide) ?_
  refine wpAny_bind (PySem.W.check_bound_init F.excBase_ValueError.toExcCallFacts (I0.kIn _ _ hC) he rfl ?_)
  refine wpAny_bind (wpAny_pure (wpAny_pure ?_))
  refine ⟨plainId_quiet F.excBase_ValueError.init.plain _, codeAny_builtin F.excBase_ValueError.initEntry ?_⟩
  exact PySem.W.exc_init_tree (cls := .ref C) (t0 := t1) (dv := none) (c2 := .none) (c3 := .none) (b4 := .bool false) he hl fun h' k1 k2 _ => fin h' k1 ⟨_, k2⟩ t
/-- super().__init__(arg) as a statement of an __init__ -/
theorem sup_run {ta : TA} {arg : Expr} {p0 p1 p2 p3 p4 : Pos} {body : List Stmt} {pl : Sem Bool} {R : Hp → Prop} (T : SupC X.K X.prog X.mg C fI cc cda fd slf) (I : Inv X pins σ H s)
    (hks : X.env.kindOf "super" = some .globalImplicit) (hkc : X.env.kindOf "__class__" = some .free) (hkl : X.env.kindOf slf = some .local) (hfu : X.env.func = some fI) (hco : X.env.code = .ref cda) (hcl : X.env.cells.lookup ("__class__" : Str) = some cc) (hint : interactive X.env = false)
    (hN : X.N[0]? = some slf) (hσ : σ[0]? = some (some (.ref a))) (e : H a = some (exo a C none)) (hsw : swapsWith (.Call (.Attribute (.Call (.Name "super" p0) [] [] p1) "__init__" p2) [arg] [] p3) none p4.line X.env = pure false)
    (hev : eval (.Call (.Attribute (.Call (.Name "super" p0) [] [] p1) "__init__" p2) [arg] [] p3) X.env = (do
      let ov ← attributeBase (.Call (.Name "super" p0) [] [] p1) "__init__" X.env (eval (.Call (.Name "super" p0) [] [] p1) X.env)
      standAt p2.atName
      let (f, first) ← holding [ov] (getMethod ov "__init__" pl)
      callWith p3 f first (backTo p3 (starEach [arg] X.env)) []))
    (ha : PA X [arg] ta) (hs : starEach [arg] X.env = [(false, eval arg X.env)]) (h : ta σ H fun vs H1 => vs.length ≤ 1000 ∧ H1 a = some (exo a C none) ∧ R H1) :
    _root_.PySem.wpAt (model X.prog X.w) X.A (.func body X.env) (exec (.Expr (.Call (.Attribute (.Call (.Name "super" p0) [] [] p1) "__init__" p2) [arg] [] p3) p4) X.env) (fun fl s' => fl = .next ∧ ∃ H1, Inv X pins σ H1 s' ∧ R H1) X.xe s := by
  obtain ⟨oc, od, osl, lk⟩ := T.fn
  obtain ⟨ar, har, hslf⟩ := T.hd
  obtain ⟨cl, cld, csl, lcc⟩ := T.cell
  obtain ⟨ccl, cdd, vs0, ccs, file, tf, lcd, hvs, hfile⟩ := T.code
  obtain ⟨cd, hcd, hal⟩ := T.along
  obtain ⟨nm, q, N, bs, bm, sn, sub, ab, col, dd, k0, k1, k2, k3, k5, lC, hbm⟩ := T.oex.cls
  obtain ⟨t1, hx⟩ := exo_at I.hok e
  have KI := I.kIn
  have hD1 := KI _ _ lC
  have hac : a ≠ C := fun z => by
    rw [z, hD1] at hx
    cases hx
  have hI : ∀ {h' : Heap}, (∀ b o, s.heap.get? b = some o → h'.get? b = some o) → PySem.W.Looks (model X.prog X.w) h' (isInstance (.ref a) (.type "ValueError")) true := fun {h'} k =>
    (PySem.W.InstAt.type (C := C) (ox := { cls := .ref C, dict := none, data := .fields #[.ref t1, .none, .none, .none, .bool false, .none] }) (od := none) ⟨k _ _ hx, rfl, rfl, trivial⟩).andThen (PySem.W.looks_subIn (KI.keeps k) T.subV)
  refine PySem.ks_wpAt_Expr_any ?_ hint hsw
  refine PySem.ks_wpAt_MethodCall (pl := pl) ?_ hev
  refine PySem.ks_wpAt_super_base hks hkc (by decide) hfu (KI _ _ lk) rfl har hco (KI _ _ lcd) rfl hvs hfile T.top ?_
  obtain ⟨mb, b1, b2⟩ := I.mod.blt
  refine PySem.W.ks_loadName_global I.ok.kind hks (Calls.loadGlobal_builtin (by rw [I.ok.glob]; exact I.mod.glob.keeps I.bk) T.nosup (by rw [I.ok.blt]; exact b1.keeps I.bk) ((b2 "super" (by decide)).trans (by rfl : bootBuiltins "super" = some (.type "super"))) ⟨rfl, ?_⟩)
  refine wpAny_loadName_free I.ok.kind hkc hcl ⟨_, KI _ _ lcc, rfl⟩ ?_
  obtain ⟨m, hn, hl⟩ := I.loc
  obtain ⟨u, ru, look⟩ := hl 0 slf (.ref a) hN hσ (by left; exact hkl)
  obtain rfl : u = Value.ref a := ru
  have hv : m slf = some (.ref a) := by
    rcases look with ⟨_, z⟩ | ⟨z, _⟩
    · exact z
    · rcases z with z | z <;> rw [hkl] at z <;> cases z
  rw [hslf]
  refine wpAny_loadName_local I.ok.kind hkl hn hv ?_
  refine PySem.ks_wpAny_isType_cls hD1 rfl ⟨rfl, ?_⟩
  obtain ⟨hp, g, d, t, os⟩ := s
  refine PySem.ks_wpAny_call_super hD1 rfl hx rfl (fun c z => by cases z) (PySem.W.looks_mroIn KI T.sub) fun h' ho k => ?_
  refine PySem.W.kxs_getMethod PySem.W.kxs_ValueError ho (PySem.W.looks_opaque (KI.keeps k) T.opq) (l₀ := cd.mro) ?_ rfl (KI.keeps k) hal (hI k) hac (by decide) ?_
  · exact fun A Q E s k q => wpAny_bind ((PySem.W.looks_clsIn (KI.keeps ‹_›) hcd) A _ E s k (wpAny_pure q))
  · have kp : ∀ b o, hp.get? b = some o → (h'.push (PySem.W.kxs_mw "ValueError.__init__" a)).get? b = some o := fun b o z => Heap.get?_push_of_some _ (k b o z)
    have hsz : hp.objs.size ≤ h'.objs.size := Nat.le_of_lt (show hp.objs.size < h'.objs.size from Heap.lt_size ho)
    have I1 : Inv X pins σ H ⟨h'.push (PySem.W.kxs_mw "ValueError.__init__" a), g, d, t + 1, os⟩ := I.kept (t' := t + 1) kp
    have I2 : Inv X ((h'.objs.size, PySem.W.kxs_mw "ValueError.__init__" a) :: pins) σ H ⟨h'.push (PySem.W.kxs_mw "ValueError.__init__" a), g, d, t + 1, os⟩ := I1.pins_of fun p hp' => by
      rcases List.mem_cons.mp hp' with z | z
      · subst z
        refine ⟨Heap.get?_push_size _ rfl, I.hok.fresh hsz, fun z => ?_, I.nofs hsz, fun v z => by cases z⟩
        exact absurd (Nat.lt_of_lt_of_le (show X.env.locals < hp.objs.size from I.lt) (Nat.le_trans hsz (Nat.le_of_eq z))) (Nat.lt_irrefl _)
      · exact I1.pin p (List.mem_append_right _ z)
    show wpAny _ _ (callWith p3 (.ref h'.objs.size) [] (backTo p3 (starEach [arg] X.env)) []) _ _ _
    rw [hs]
    refine PySem.W.kxs_callWith (i := "ValueError.__init__") (x := a) (by rfl) ?_
    refine Calls.evalArgs_plain ?_
    have run := ha.run p3 ((h'.objs.size, PySem.W.kxs_mw "ValueError.__init__" a) :: pins) _ σ H _ I2 h
    rw [hs] at run
    refine thn run fun us s1 ⟨vs, H1, I3, r3, hlen, e3, hR⟩ => ⟨(I3.pin _ (List.mem_append_right _ List.mem_cons_self)).1, ?_⟩
    refine mw_call T.oex I3 e3 (by show us.length ≤ sizeLine; rw [← r3.length, sizeLine_eq]; omega) fun s' J => ⟨rfl, H1, J, hR⟩
end
end M2
end

section
set_option Elab.async false
set_option linter.all false
set_option maxRecDepth 100000
set_option maxHeartbeats 4000000
/-! M2: an own error's __init__ as a def. -/
namespace M2
open PySem PySem.Spec PyProof.Rows L2 NdefX
set_option autoImplicit false
section
variable {CX : CXT} {P : Program} {w : World} {K : PySem.W.Frag} {mg : Str → Option Value} {base : Heap} {N ps : List Str} {F : NF} {C fI cc : Addr} {k : Nat} {slf : Str} {doc pm ctv : Value}
abbrev IX (CX : CXT) (P : Program) (w : World) (K : PySem.W.Frag) (mg : Str → Option Value) (base : Heap) (N : List Str) (F : NF) (fI : Addr) (A : Around) (outer : List Env) (s : Shared) (H : Hp) (E : XK) : Cx := ncx CX P w K mg base N F fI A outer s H E
abbrev spI (ps N : List Str) (C : Addr) (ta : TA) (tr : TS) : Sp := fun vs H Q E => vs.length = ps.length ∧ ∃ a, vs[0]? = some (.ref a) ∧ H a = some (exo a C none) ∧
  ta (startF N vs [none]) H (fun us H1 => us.length ≤ 1000 ∧ H1 a = some (exo a C none) ∧ tr { nx := fun _ H' => Q .non H', rt := Q } (startF N vs [none]) H1)
theorem fn_init {arg : Expr} {p0 p1 p2 p3 p4 : Pos} {rest : List Stmt} {pl : Sem Bool} {ta : TA} {tr : TS} {oc : Value} {od : Option Addr} {osl : Array (Option Value)} (S : NScope N ps [("__class__" : Str)] F.scope) (lk : K.lookup fI = some ⟨oc, od, .func (F.fd doc pm ctv), osl⟩) (hcd : PySem.W.codeIn K (.ref F.c) F.qual = true)
    (hcl : F.cl = [(("__class__" : Str), cc)]) (T : SupC K P mg C fI cc F.c (F.fd doc pm ctv) slf) (hps : ps[0]? = some slf) (hN0 : N[0]? = some slf)
    (hb : F.body = .Expr (.Call (.Attribute (.Call (.Name "super" p0) [] [] p1) "__init__" p2) [arg] [] p3) p4 :: rest)
    (hks : F.scope.names.lookup ("super" : Str) = some .globalImplicit)
    (ctx : ∀ (A : Around) (outer : List Env) (s : Shared) (H : Hp) (E : XK), Room k (A.deeper (envF F fI s.heap.objs.size)) →
      interactive (IX CX P w K mg base N F fI A outer s H E).env = false ∧ swapsWith (.Call (.Attribute (.Call (.Name "super" p0) [] [] p1) "__init__" p2) [arg] [] p3) none p4.line (IX CX P w K mg base N F fI A outer s H E).env = pure false ∧
      (eval (.Call (.Attribute (.Call (.Name "super" p0) [] [] p1) "__init__" p2) [arg] [] p3) (IX CX P w K mg base N F fI A outer s H E).env = (do
        let ov ← attributeBase (.Call (.Name "super" p0) [] [] p1) "__init__" (IX CX P w K mg base N F fI A outer s H E).env (eval (.Call (.Name "super" p0) [] [] p1) (IX CX P w K mg base N F fI A outer s H E).env)
        standAt p2.atName
        let (f, first) ← holding [ov] (getMethod ov "__init__" pl)
        callWith p3 f first (backTo p3 (starEach [arg] (IX CX P w K mg base N F fI A outer s H E).env)) [])) ∧
      starEach [arg] (IX CX P w K mg base N F fI A outer s H E).env = [(false, eval arg (IX CX P w K mg base N F fI A outer s H E).env)] ∧
      PA (IX CX P w K mg base N F fI A outer s H E) [arg] ta ∧ PSs (IX CX P w K mg base N F fI A outer s H E) rest tr) :
    FnOk P w K mg base CX (k + 1) fI (F.fd doc pm ctv) ps (spI ps N C ta tr) := by
  refine ⟨fun vs H Q E h => h.1, fun A outer s H args us vs Q E hr e0 hbd r hsp => ?_⟩
  obtain ⟨hl, a, hv0, ea, hta⟩ := hsp
  have KX : K.In s.heap := e0.mod.kin.keeps fun b o e => (e0.bs b o e).1
  have lim : s.heap.NoLimit := e0.mod.nolimit.keeps fun b o e => (e0.bs b o e).1
  obtain ⟨cl, cld, csl, lcc⟩ := T.cell
  have Cs : CellsAt F.cl [("__class__" : Str)] [none] s.heap H := by
    rw [hcl]
    refine ⟨rfl, fun y c e => ?_, fun x y c e1 e2 => ?_, fun i y e => ?_⟩
    · have hc : c = cc := by
        by_cases q : y = ("__class__" : Str)
        · subst q
          simp [List.lookup] at e
          exact e.symm
        · have q2 : (y == ("__class__" : Str)) = false := by simpa using q
          simp [List.lookup, q2] at e
      subst hc
      exact ⟨(e0.bs _ _ (e0.mod.kin _ _ lcc)).2, _, _, (e0.bs _ _ (e0.mod.kin _ _ lcc)).1, rfl⟩
    · have key : ∀ z : Str, List.lookup z [(("__class__" : Str), cc)] = some c → z = ("__class__" : Str) := fun z e => by
        by_cases q : z = ("__class__" : Str)
        · exact q
        · have q2 : (z == ("__class__" : Str)) = false := by simpa using q
          simp [List.lookup, q2] at e
      rw [key x e1, key y e2]
    · have h0 : i = 0 := by
        have := (List.getElem?_eq_some_iff.mp e).1
        simp at this; omega
      subst h0
      cases e
      refine ⟨cc, by simp [List.lookup], fun v e => by cases e⟩
  refine PySem.ks_codeAny_call_defAt (fd := F.fd doc pm ctv) (body := F.body) (binds := ps.zip us) hr.depth (KX _ _ lk) rfl lim (PySem.W.codeRec_of KX hcd) rfl hbd S.nocell (fun ⟨n, _⟩ hy => S.par n (List.of_mem_zip hy).1) (fun h₀ hns kp => ?_) S.co S.gen S.kind
  have I : Inv (IX CX P w K mg base N F fI A outer s H E) [] (startF N vs [none]) H { s with heap := h₀, toks := s.toks + (ps.zip us).length } := inv_startN S hr.hd e0 hl r Cs hns kp
  obtain ⟨c1, c2, c3, c4, c5, c6⟩ := ctx A outer s H E (hr.deeper _)
  have hσ : (startF N vs [none])[0]? = some (some (.ref a)) := by
    unfold startF
    cases vs with
    | nil => cases hv0
    | cons x xs =>
      simp at hv0
      subst hv0
      rfl
  have hslf : slf ∈ ps := List.mem_of_getElem? hps
  show _root_.PySem.wpAt (model P w) (A.deeper (envF F fI s.heap.objs.size)) (.func F.body (envF F fI s.heap.objs.size)) (execs F.body (envF F fI s.heap.objs.size)) _ _ _
  have first := sup_run (body := F.body) (pl := pl) (p0 := p0) (p1 := p1) (p2 := p2) (p3 := p3) (p4 := p4) (X := IX CX P w K mg base N F fI A outer s H E) (ta := ta) (arg := arg) T I hks (S.frk _ List.mem_cons_self) (S.par _ hslf) rfl rfl (by
    show F.cl.lookup ("__class__" : Str) = some cc
    rw [hcl]; simp [List.lookup]) c1 hN0 hσ ea c2 c3 c5 c4 hta
  have fin : ∀ {σ' : L2.St} {H' : Hp} {s' : Shared} {v : V} {u : Value}, Inv (IX CX P w K mg base N F fI A outer s H E) [] σ' H' s' → L2.RelV v u → Q v H' → CE outer P w H s Q u s' :=
    fun {σ' H' s' v u} J rv q => ⟨v, H', J.os, J.bare, J.base, J.hok, rv, q⟩
  rw [show execs F.body (envF F fI s.heap.objs.size) = execs (.Expr (.Call (.Attribute (.Call (.Name "super" p0) [] [] p1) "__init__" p2) [arg] [] p3) p4 :: rest) (envF F fI s.heap.objs.size) by rw [hb]]
  refine PySem.ks_wpAt_execs_cons (PySem.ks_wpAt_mono first (fun fl s1 ⟨hfl, H1, J, hR⟩ => ?_) fun e s' h => h)
  subst hfl
  refine PySem.wpAt_of_wpAny ?_
  refine wpAny_mono (c6.run [] s1 (startF N vs [none]) H1 _ J hR) (fun fl s' hs => ?_) fun e s' hs => hs
  cases fl with
  | ret u =>
    obtain ⟨v, σ', H', J, rv, q⟩ := hs
    exact fin J rv q
  | next =>
    obtain ⟨σ', H', J, q⟩ := hs
    exact fin (v := V.non) (u := Value.none) J rfl q
  | brk =>
    obtain ⟨_, _, _, q⟩ := hs
    exact False.elim q
  | cont =>
    obtain ⟨_, _, _, q⟩ := hs
    exact False.elim q
end
end M2
end

section
set_option Elab.async false
set_option linter.all false
set_option maxRecDepth 100000
set_option maxHeartbeats 4000000
/-! M2: an own error made and raised. -/
namespace M2
open PySem PySem.Spec PyProof.Rows L2 NdefX
set_option autoImplicit false
section
variable {X : Cx} {C fI : Addr} {k : Nat} {fd : FuncData} {ps : List Str} {sp : Sp} {ta : TA} {x : Str} {e : Expr} {es : List Expr} {p pos : Pos}
/-- C(e, ..) where nothing is handled -/
theorem mk_ownN (T : OexC X.K C) (hini : PySem.W.findIn X.K (.ref C) "__init__" = some (some (.ref fI))) (hfun : PySem.W.typeIn X.K (.ref fI) = some (.type "function"))
    (F1 : FnOk X.prog X.w X.K X.mg X.base (L2N.CX X.prog X.w) k fI fd ps sp) (hr : Room (k + 1) X.A) (hbn : Binds X.K fd ps []) (hg : Gl X x) (hm : X.mg x = some (.ref C)) (ha : PA X (e :: es) ta)
    (hdb : (x == ("__debug__" : Str)) = false := by decide) (he : starEach (e :: es) X.env = (false, eval e X.env) :: starEach es X.env := by rfl) (hpl : (backTo pos (starEach es X.env)).any (·.1) = false := by rfl) :
    L2N.PMk X (.Call (.Name x p) (e :: es) [] pos) (tMkO C sp [] ta) := by
  intro pins s σ H Q I h
  obtain ⟨nm, q, N, bs, bm, sn, sub, ab, col, dd, k0, k1, k2, k3, k5, lC, hbm⟩ := T.cls
  refine wpAny_Call_Name_kw (ld_glob I hg hm ?_ hdb)
  refine PySem.W.callWith_K (h₀ := X.base) I.ok.mod.kin T.kC (thn (ha.run pos pins s σ H _ I h) fun us ⟨hp, g, dr, tk, os⟩ ⟨vs, H1, I1, r1, hz, q1⟩ => ⟨I1.kIn, ?_⟩) he hpl
  have hup : hp.objs.size ≤ hp.objs.size + 1 := by omega
  have q2 := q1 (hp.objs.size + 1) (I1.hok.fresh hup)
  rw [List.append_nil] at q2
  generalize hh2 : (hp.push (PySem.W.kdv_tup us)).push (PySem.HandSPX.excO C hp.objs.size) = hp2
  have kk : ∀ b o, hp.get? b = some o → hp2.get? b = some o := fun b o z => by
    rw [← hh2]; exact Heap.get?_push_of_some _ (Heap.get?_push_of_some _ z)
  have hat : hp2.get? (hp.objs.size + 1) = some (PySem.HandSPX.excO C hp.objs.size) := by
    rw [← hh2]; heap_get
  have I2 : Inv X pins σ (upd H1 (hp.objs.size + 1) (exo (hp.objs.size + 1) C none)) ⟨hp2, g, dr, tk, os⟩ := I1.laid (t' := tk) kk hup (exo_ok hat)
  have r2 : Vals (V.ref (hp.objs.size + 1) :: vs) (Value.ref (hp.objs.size + 1) :: us) := .cons rfl r1
  have hlen : (Value.ref (hp.objs.size + 1) :: us).length = ps.length := by rw [← r2.length]; exact F1.len _ _ _ _ q2
  have hus : us.length ≤ sizeLine := by
    rw [← r1.length, sizeLine_eq]; omega
  have hbind := hbn ⟨hp2, g, dr, tk, os⟩ (Value.ref (hp.objs.size + 1) :: us) I2.kIn (by rw [List.append_nil]; exact hlen)
  rw [List.append_nil] at hbind
  have run := F1.run _ X.stack _ _ ⟨Value.ref (hp.objs.size + 1) :: us, []⟩ _ _ _ (fun _ _ _ => False) (hr.make C us []) (I2.env0.make C us []) hbind r2 q2
  show wpAny _ _ (call (.ref C) us) _ _ _
  refine wpAny_call (PySem.HandSPX.call_own F.excBase_ValueError (fun Y => PySem.HandSPX.refsVE_contains Y bm hbm) (I1.kIn _ _ lC) (PySem.W.looks_findIn I1.kIn hini) (fun self => PySem.W.bind_fn I1.kIn self hfun) hus ?_)
  rw [hh2]
  refine codeAny_mono run fun r s' hq => ?_
  cases r with
  | error er => exact passN pins σ _ _ er s' I2 hq
  | ok fl =>
    cases fl with
    | next => exact False.elim hq
    | brk => exact False.elim hq
    | cont => exact False.elim hq
    | ret u =>
      obtain ⟨v, H2, os2, bare2, un2, hok2, rv, ev, d, fs, ea, ed, hd1, q3⟩ := hq
      subst ev
      obtain ⟨h2, g2, d2, t2, os'⟩ := s'
      obtain ⟨t0, G, J, kG, ge, hoe, na⟩ := mk_end0 (d2 := d2) (t2 := t2) I1 hup kk un2 hok2 os2 bare2 ea ed hd1
      refine ⟨rv, hp.objs.size + 1, _, _, ⟨G, g2, d2, t2, os'⟩, _, .ref C, some d, rfl, J, kG, ge, hoe, ⟨rfl, rfl, fun vs hvs => ?_⟩, rfl, rfl, na, rfl, bare2, raises_own T.exC T.tyC, q3⟩
      cases hvs
      rfl
end
end M2
end

section
set_option Elab.async false
set_option linter.all false
set_option maxRecDepth 100000
set_option maxHeartbeats 4000000
/-! M2: raise of an own error, by its fields. -/
namespace M2
open PySem PySem.Spec PyProof.Rows L2 NdefX
set_option autoImplicit false
/-- an own error's making, by its fields -/
structure ErrM (P : Program) (w : World) (K : PySem.W.Frag) (mg : Str → Option Value) (base : Heap) (x : Str) (k : Nat) (mk : List D → Option (List (Str × D))) : Prop where
  ex : ∃ (C fI : Addr) (fd : FuncData) (ps : List Str) (sp : Sp), mg x = some (.ref C) ∧ OexC K C ∧ PySem.W.findIn K (.ref C) "__init__" = some (some (.ref fI)) ∧ PySem.W.typeIn K (.ref fI) = some (.type "function") ∧ FnOk P w K mg base (L2N.CX P w) k fI fd ps sp ∧ Binds K fd ps [] ∧ (∀ ds fs, mk ds = some fs → ds.length ≤ 1000) ∧
    ∀ (ρ : List Addr) (H : Hp) (S : Sto) (ds : List D) (vs : List V) (fs : List (Str × D)) (a : Addr) (Q : VK), RS K mg ρ H S → RVs K mg ρ H ds vs → mk ds = some fs → H a = none →
      (∀ d xs, H d = none → d ≠ a → RFs K mg ρ H fs xs → Q .non (upd (upd H d (exd d xs)) a (exo a C (some d)))) → sp (.ref a :: vs) (upd H a (exo a C none)) Q (fun _ _ _ => False)
def sRaise (x : Str) (mk : List D → Option (List (Str × D))) (m : MA) : MS := fun e S => (m e S).bindS e fun ds S1 => match mk ds with
  | some fs => .exc x fs e S1
  | none => .stuck
section
variable {X : Cx} {W : WX} {k : Nat} {x : Str} {mk : List D → Option (List (Str × D))} {mr : MA} {e : Expr} {es : List Expr} {p pos pos2 : Pos}
theorem ms_raise (E : ErrM X.prog X.w X.K X.mg X.base x k mk) (hc : X.calm = true) (hr : Room (k + 1) X.A) (hg : Gl X x) (tk : L2N.Takes X W) (ha : PA X (e :: es) (tMA X.K X.mg W mr)) (hdb : (x == ("__debug__" : Str)) = false := by decide)
    (he : starEach (e :: es) X.env = (false, eval e X.env) :: starEach es X.env := by rfl) (hpl : (backTo pos (starEach es X.env)).any (·.1) = false := by rfl) :
    PS X (.Raise (some (.Call (.Name x p) (e :: es) [] pos)) none pos2) (tMS X.K X.mg W (sRaise x mk mr)) := by
  obtain ⟨C, fI, fd, ps, sp, hm, T, h1, h2, F1, hb, hps, hsp⟩ := E.ex
  refine PS.imp (L2N.ps_raise hc tk (mk_ownN T h1 h2 F1 hr hb hg hm ha hdb he hpl)) fun Dn σ H ⟨ρ, e, S, re, rs, g⟩ => ?_
  refine ⟨ρ, e, S, re, rs, GoodG.bindS re g fun ds S1 vs H1 ρ1 _ p1 k1 rs1 r1 g1 => ?_⟩
  try dsimp only at g1
  split at g1
  · rename_i fs hfs
    have key : ∀ a, H1 a = none → sp (.ref a :: vs) (upd H1 a (exo a C none)) (fun v H2 => v = .non ∧ ∃ (d : Addr) (ys : List (Str × V)), H2 a = some (exo a C (some d)) ∧ H2 d = some (exd d ys) ∧ H1 d = none ∧ W (.ref C) (some d) σ (upd (del H2 a) d (.xd ys))) (fun _ _ _ => False) := fun a na => by
      refine hsp ρ1 H1 S1 ds vs fs a _ rs1 r1 hfs na fun d xs nd hda rf => ⟨rfl, d, xs, upd_same, by rw [upd_ne hda, upd_same], nd, ?_⟩
      have eh : upd (del (upd (upd H1 d (exd d xs)) a (exo a C (some d))) a) d (.xd xs) = upd H1 d (.xd xs) := funext fun b => by
        by_cases hb : b = d
        · rw [hb, upd_same, upd_same]
        · rw [upd_ne hb, upd_ne hb]
          by_cases hba : b = a
          · rw [hba, del_same, na]
          · rw [del_ne hba, upd_ne hba, upd_ne hb]
      rw [eh]
      have kn : Keep H1 (upd H1 d (.xd xs)) := Keep.new nd
      exact g1 C d σ _ ρ1 xs hm (Pre.refl _) kn (rs1.new nd) ((re.mono p1 k1).mono (Pre.refl _) kn) upd_same (RFs.mono (Pre.refl _) kn _ _ rf)
    exact ⟨by rw [← r1.length]; exact hps _ _ hfs, fun a na => by rw [List.append_nil]; exact key a na⟩
  · exact g1.elim
end
end M2
end

section
set_option Elab.async false
set_option linter.all false
set_option maxRecDepth 100000
set_option maxHeartbeats 4000000
/-! M2: an own error's making, from its text. -/
namespace M2
open PySem PySem.Spec PyProof.Rows L2 NdefX
set_option autoImplicit false
section
variable {X : Cx} {slf f1 f2 y1 y2 : Str} {q1 q2 q3 q4 r1 r2 r3 r4 : Pos}
/-- what the stores leave of the exception at a -/
abbrev tInit (K : PySem.W.Frag) (fs : List (Str × Nat)) : TS := fun Dn σ H => ∃ (a C : Addr), σ[0]? = some (some (.ref a)) ∧ OexC K C ∧ (∀ p ∈ fs, PySem.W.findIn K (.ref C) p.1 = some none) ∧ H a = some (exo a C none) ∧
  ∃ ys : List (Str × V), (∀ (i : Nat) (p : Str × Nat), fs[i]? = some p → ∃ y, σ[p.2]? = some (some y) ∧ ys.reverse[i]? = some (p.1, y)) ∧ ys.length = fs.length ∧ ∀ dx, H dx = none → dx ≠ a → Dn.nx σ (upd (upd H dx (exd dx ys)) a (exo a C (some dx)))
theorem init1 (h0 : X.N[0]? = some slf) (v0 : Vis X.env.scope slf) (h1 : X.N[1]? = some y1) (v1 : Vis X.env.scope y1) (d0 : (slf == ("__debug__" : Str)) = false) (c0 : (slf == ("__classdict__" : Str)) = false) (d1 : (y1 == ("__debug__" : Str)) = false) (c1 : (y1 == ("__classdict__" : Str)) = false)
    (hs : swapsWith (.Name y1 q3) (some (.Attribute (.Name slf q1) f1 q2)) q4.line X.env = pure false) : PSs X [.Assign [.Attribute (.Name slf q1) f1 q2] (.Name y1 q3) q4] (tInit X.K [(f1, 1)]) := by
  refine PSs.imp (pss_one (ps_ost (pe_var (i := 0) h0 v0 d0 c0) (pe_var (i := 1) h1 v1 d1 c1) hs)) fun Dn σ H ⟨a, C, e0, T, hno, ea, ys, hy, hl, q⟩ => ?_
  obtain ⟨y, ey, el⟩ := hy 0 _ rfl
  obtain rfl : ys = [(f1, y)] := by
    match ys, hl, el with
    | [p], _, el => simp at el; rw [el]
  exact ⟨y, ey, _, e0, a, C, rfl, T, hno _ List.mem_cons_self, .inl ⟨ea, fun dx nd hd => q dx nd hd⟩⟩
theorem init2 (h0 : X.N[0]? = some slf) (v0 : Vis X.env.scope slf) (h1 : X.N[1]? = some y1) (v1 : Vis X.env.scope y1) (h2 : X.N[2]? = some y2) (v2 : Vis X.env.scope y2) (d0 : (slf == ("__debug__" : Str)) = false) (c0 : (slf == ("__classdict__" : Str)) = false) (d1 : (y1 == ("__debug__" : Str)) = false) (c1 : (y1 == ("__classdict__" : Str)) = false)
    (d2 : (y2 == ("__debug__" : Str)) = false) (c2 : (y2 == ("__classdict__" : Str)) = false)
    (hs : swapsWith (.Name y1 q3) (some (.Attribute (.Name slf q1) f1 q2)) q4.line X.env = pure false) (hs2 : swapsWith (.Name y2 r3) (some (.Attribute (.Name slf r1) f2 r2)) r4.line X.env = pure false) :
    PSs X [.Assign [.Attribute (.Name slf q1) f1 q2] (.Name y1 q3) q4, .Assign [.Attribute (.Name slf r1) f2 r2] (.Name y2 r3) r4] (tInit X.K [(f1, 1), (f2, 2)]) := by
  refine PSs.imp (pss_cons (ps_ost (pe_var (i := 0) h0 v0 d0 c0) (pe_var (i := 1) h1 v1 d1 c1) hs) (pss_one (ps_ost (pe_var (i := 0) h0 v0 d0 c0) (pe_var (i := 2) h2 v2 d2 c2) hs2))) fun Dn σ H ⟨a, C, e0, T, hno, ea, ys, hy, hl, q⟩ => ?_
  obtain ⟨y, ey, el⟩ := hy 0 _ rfl
  obtain ⟨z, ez, zl⟩ := hy 1 _ rfl
  obtain rfl : ys = [(f2, z), (f1, y)] := by
    match ys, hl, el, zl with
    | [p, p2], _, el, zl =>
      simp at el zl
      rw [el, zl]
  refine ⟨y, ey, _, e0, a, C, rfl, T, hno _ List.mem_cons_self, .inl ⟨ea, fun dx nd hd => ?_⟩⟩
  refine ⟨z, ez, _, e0, a, C, rfl, T, hno _ (List.mem_cons_of_mem _ List.mem_cons_self), .inr ⟨dx, [(f1, y)], upd_same, by rw [upd_ne hd, upd_same], by simp, ?_⟩⟩
  have eh : upd (upd (upd H dx (exd dx [(f1, y)])) a (exo a C (some dx))) dx (exd dx [(f2, z), (f1, y)]) = upd (upd H dx (exd dx [(f2, z), (f1, y)])) a (exo a C (some dx)) := funext fun b => by
    by_cases hb : b = dx
    · rw [hb, upd_same, upd_ne hd, upd_same]
    · rw [upd_ne hb]
      by_cases hba : b = a
      · rw [hba, upd_same, upd_same]
      · rw [upd_ne hba, upd_ne hba, upd_ne hb, upd_ne hb]
  rw [eh]
  exact q dx nd hd
end
end M2
end

section
set_option Elab.async false
set_option linter.all false
set_option maxRecDepth 100000
set_option maxHeartbeats 4000000
/-! M2: an own error's making, whole. -/
namespace M2
open PySem PySem.Spec PyProof.Rows L2 NdefX
set_option autoImplicit false
/-- a part of the message: a text of no great length, nothing changed -/
def Nice (σ : L2.St) (H : Hp) (t : TE) : Prop := ∃ y : Str, y.length ≤ 1000100 ∧ ∀ Q : VK, Q (.str y) H → t σ H Q
theorem sapp_len (a b : Str) : (a ++ b).length = a.length + b.length := by
  show (a.cps ++ b.cps).size = a.cps.size + b.cps.size
  exact Array.size_append
theorem nice_js {σ : L2.St} {H : Hp} {Q : Str → Hp → Prop} (hq : ∀ y, Q y H) : ∀ (ts : List TE) (acc : Str), (∀ t ∈ ts, Nice σ H t) → acc.length + ts.length * 1000100 ≤ sizeLine → tJs ts acc σ H Q
  | [], acc, _, _ => hq acc
  | t :: ts, acc, h, hl => by
    obtain ⟨y, hy, k⟩ := h t List.mem_cons_self
    rw [List.length_cons] at hl
    have h1 : (acc ++ y).length + ts.length * 1000100 ≤ sizeLine := by
      rw [sapp_len]
      have : (ts.length + 1) * 1000100 = ts.length * 1000100 + 1000100 := by rw [Nat.add_mul, Nat.one_mul]
      omega
    exact k _ ⟨y, rfl, by omega, nice_js hq ts (acc ++ y) (fun u hu => h u (List.mem_cons_of_mem _ hu)) h1⟩
theorem nice_lit {σ : L2.St} {H : Hp} {z : Str} (h : z.length ≤ 1000100) : Nice σ H (tC (.str z)) := ⟨z, h, fun Q q => q⟩
/-- the kinds of the arguments: numbers, texts -/
def okV (k : Bool) (v : V) : Prop := if k = true then ∃ i : Int, v = .int i ∧ i.natAbs.log2 < 1920 else ∃ z : Str, v = .str z ∧ z.length ≤ 1000000
def okD : Bool → D → Bool
  | true, .int i => decide (i.natAbs.log2 < 1920)
  | false, .str z => decide (z.length ≤ 1000000)
  | _, _ => false
theorem okD_V {K : PySem.W.Frag} {mg : Str → Option Value} {ρ : List Addr} {H : Hp} {k : Bool} {d : D} {v : V} (r : RV K mg ρ H d v) (h : okD k d = true) : okV k v := by
  unfold okV
  cases k with
  | true =>
    cases d with
    | int i => cases r; exact ⟨i, rfl, of_decide_eq_true h⟩
    | _ => cases h
  | false =>
    cases d with
    | str z => cases r; exact ⟨z, rfl, of_decide_eq_true h⟩
    | _ => cases h
theorem nice_fmt {σ : L2.St} {H : Hp} {i : Nat} {k : Bool} {v : V} (hv : σ[i]? = some (some v)) (h : okV k v) : Nice σ H (tFmt (tVar i)) := by
  unfold okV at h
  cases k with
  | true =>
    rw [if_pos rfl] at h
    obtain ⟨j, rfl, hj⟩ := h
    refine ⟨toString j, ?_, fun Q q => ⟨.int j, hv, .inr ⟨j, rfl, hj, q⟩⟩⟩
    have e := int_text_length_le (k := 1920) (by decide) hj
    have : (Str.ofString (toString j)).length ≤ 1000100 := by
      rw [PySem.ofString_length]; omega
    exact this
  | false =>
    rw [if_neg Bool.false_ne_true] at h
    obtain ⟨z, rfl, hz⟩ := h
    exact ⟨z, by omega, fun Q q => ⟨.str z, hv, .inl ⟨z, rfl, by rw [sizeLine_eq]; omega, q⟩⟩⟩
/-- the fields of such an error -/
def mkE (ks : List Bool) (fl : List Str) (ds : List D) : Option (List (Str × D)) :=
  if (decide (ds.length = fl.length) && (List.zip ks ds).all fun p => okD p.1 p.2) = true then some ((List.zip fl ds).reverse) else none
theorem rfs_zip {K : PySem.W.Frag} {mg : Str → Option Value} {ρ : List Addr} {H : Hp} : ∀ {fl : List Str} {ds : List D} {vs : List V}, RVs K mg ρ H ds vs → RFs K mg ρ H (List.zip fl ds) (List.zip fl vs)
  | [], _, _, _ => by rw [List.zip_nil_left, List.zip_nil_left]; rfl
  | f :: fl, [], vs, h => by rw [show vs = [] from h, List.zip_nil_right, List.zip_nil_right]; rfl
  | f :: fl, d :: ds, vs, h => by
    obtain ⟨x, xs, rfl, h1, h2⟩ := h
    exact ⟨x, _, rfl, h1, rfs_zip h2⟩
theorem RFs.app {K : PySem.W.Frag} {mg : Str → Option Value} {ρ : List Addr} {H : Hp} : ∀ {a b : List (Str × D)} {x y : List (Str × V)}, RFs K mg ρ H a x → RFs K mg ρ H b y → RFs K mg ρ H (a ++ b) (x ++ y)
  | [], b, x, y, h, k => by rw [show x = [] from h]; exact k
  | d :: a, b, x, y, h, k => by
    obtain ⟨v, xs, rfl, h1, h2⟩ := h
    exact ⟨v, _, rfl, h1, RFs.app h2 k⟩
theorem RFs.rev {K : PySem.W.Frag} {mg : Str → Option Value} {ρ : List Addr} {H : Hp} : ∀ {a : List (Str × D)} {x : List (Str × V)}, RFs K mg ρ H a x → RFs K mg ρ H a.reverse x.reverse
  | [], x, h => by rw [show x = [] from h]; exact rfl
  | d :: a, x, h => by
    obtain ⟨v, xs, rfl, h1, h2⟩ := h
    rw [List.reverse_cons, List.reverse_cons]
    exact RFs.app (RFs.rev h2) ⟨v, [], rfl, h1, rfl⟩
section
variable {P : Program} {w : World} {K : PySem.W.Frag} {mg : Str → Option Value} {base : Heap} {N ps fl : List Str} {F : NF} {C fI cc : Addr} {k : Nat} {x slf : Str} {doc pm ctv : Value} {ks : List Bool}
theorem errM_of {arg : Expr} {p0 p1 p2 p3 p4 : Pos} {rest : List Stmt} {pl : Sem Bool} {ta : TE} {oc : Value} {od : Option Addr} {osl : Array (Option Value)} (S : NScope N ps [("__class__" : Str)] F.scope) (lk : K.lookup fI = some ⟨oc, od, .func (F.fd doc pm ctv), osl⟩) (hcd : PySem.W.codeIn K (.ref F.c) F.qual = true)
    (hcl : F.cl = [(("__class__" : Str), cc)]) (T : SupC K P mg C fI cc F.c (F.fd doc pm ctv) slf) (hps : ps = slf :: fl) (hN : N = slf :: (fl ++ [("__class__" : Str)])) (hkl : ks.length = fl.length) (hfl : fl.length ≤ 900)
    (hb : F.body = .Expr (.Call (.Attribute (.Call (.Name "super" p0) [] [] p1) "__init__" p2) [arg] [] p3) p4 :: rest)
    (hks : F.scope.names.lookup ("super" : Str) = some .globalImplicit) (hm : mg x = some (.ref C)) (hini : PySem.W.findIn K (.ref C) "__init__" = some (some (.ref fI))) (hfun : PySem.W.typeIn K (.ref fI) = some (.type "function")) (hbn : Binds K (F.fd doc pm ctv) ps [])
    (noF : ∀ f ∈ fl, PySem.W.findIn K (.ref C) f = some none) (hta : ∀ (σ : L2.St) (H : Hp) (vs : List V), (∀ (i : Nat) (v : V), vs[i]? = some v → σ[i + 1]? = some (some v)) → vs.length = fl.length → (∀ p ∈ List.zip ks vs, okV p.1 p.2) → ∀ Q : VK, (∀ y, Q y H) → ta σ H Q)
    (ctx : ∀ (A : Around) (outer : List Env) (s : Shared) (H : Hp) (E : XK), Room k (A.deeper (envF F fI s.heap.objs.size)) →
      interactive (IX (L2N.CX P w) P w K mg base N F fI A outer s H E).env = false ∧ swapsWith (.Call (.Attribute (.Call (.Name "super" p0) [] [] p1) "__init__" p2) [arg] [] p3) none p4.line (IX (L2N.CX P w) P w K mg base N F fI A outer s H E).env = pure false ∧
      (eval (.Call (.Attribute (.Call (.Name "super" p0) [] [] p1) "__init__" p2) [arg] [] p3) (IX (L2N.CX P w) P w K mg base N F fI A outer s H E).env = (do
        let ov ← attributeBase (.Call (.Name "super" p0) [] [] p1) "__init__" (IX (L2N.CX P w) P w K mg base N F fI A outer s H E).env (eval (.Call (.Name "super" p0) [] [] p1) (IX (L2N.CX P w) P w K mg base N F fI A outer s H E).env)
        standAt p2.atName
        let (f, first) ← holding [ov] (getMethod ov "__init__" pl)
        callWith p3 f first (backTo p3 (starEach [arg] (IX (L2N.CX P w) P w K mg base N F fI A outer s H E).env)) [])) ∧
      starEach [arg] (IX (L2N.CX P w) P w K mg base N F fI A outer s H E).env = [(false, eval arg (IX (L2N.CX P w) P w K mg base N F fI A outer s H E).env)] ∧
      PE (IX (L2N.CX P w) P w K mg base N F fI A outer s H E) arg ta ∧ PSs (IX (L2N.CX P w) P w K mg base N F fI A outer s H E) rest (tInit K (fl.zipIdx 1))) :
    ErrM P w K mg base x (k + 1) (mkE ks fl) := by
  have F1 := fn_init (CX := L2N.CX P w) (base := base) (k := k) (w := w) (pl := pl) (ta := tCons ta tNil) (tr := tInit K (fl.zipIdx 1)) S lk hcd hcl T (slf := slf) (by rw [hps]; rfl) (by rw [hN]; rfl) hb hks fun A outer s H E hr => by
    obtain ⟨c1, c2, c3, c4, c5, c6⟩ := ctx A outer s H E hr
    exact ⟨c1, c2, c3, c4, pa_cons c5 pa_nil c4, c6⟩
  refine ⟨C, fI, _, ps, _, hm, T.oex, hini, hfun, F1, hbn, fun ds fs h => ?_, fun ρ H S0 ds vs fs a Q rs rv hmk na hq => ?_⟩
  · unfold mkE at h
    split at h
    · rename_i h1
      rw [Bool.and_eq_true, decide_eq_true_eq] at h1
      omega
    · cases h
  · unfold mkE at hmk
    split at hmk
    · rename_i h1
      cases hmk
      rw [Bool.and_eq_true, decide_eq_true_eq, List.all_eq_true] at h1
      obtain ⟨h1, h2⟩ := h1
      have hvl := rv.length
      have hσ : ∀ (i : Nat) (v : V), vs[i]? = some v → (startF N (.ref a :: vs) [none])[i + 1]? = some (some v) := fun i v hv => by
        have hi := (List.getElem?_eq_some_iff.mp hv).1
        unfold startF
        rw [List.getElem?_append_left (by simpa using hi), List.map_cons, List.getElem?_cons_succ, List.getElem?_map, hv]
        rfl
      have hok : ∀ p ∈ List.zip ks vs, okV p.1 p.2 := fun p hp => by
        obtain ⟨i, hi⟩ := List.mem_iff_getElem?.mp hp
        obtain ⟨e1, e2⟩ := List.getElem?_zip_eq_some.mp hi
        have hiv := (List.getElem?_eq_some_iff.mp e2).1
        have e3 : ds[i]? = some (ds[i]'(by omega)) := List.getElem?_eq_getElem (by omega)
        obtain ⟨v, e4, r4⟩ := rv.get e3
        rw [e2] at e4
        cases e4
        exact okD_V r4 (h2 (p.1, _) (List.mem_iff_getElem?.mpr ⟨i, List.getElem?_zip_eq_some.mpr ⟨e1, e3⟩⟩))
      refine ⟨by rw [hps, List.length_cons, List.length_cons]; omega, a, rfl, upd_same, ?_⟩
      refine hta _ _ vs hσ (by omega) hok _ fun y => ?_
      refine ⟨by simp, upd_same, a, C, rfl, T.oex, fun p hp => ?_, upd_same, (List.zip fl vs).reverse, fun i p hp => ?_, ?_, fun dx nd hda => ?_⟩
      · exact noF _ (List.fst_mem_of_mem_zipIdx hp)
      · rw [List.getElem?_zipIdx] at hp
        obtain ⟨f, hf, rfl⟩ := map_some hp
        have hi := (List.getElem?_eq_some_iff.mp hf).1
        have e3 : vs[i]? = some (vs[i]'(by omega)) := List.getElem?_eq_getElem (by omega)
        refine ⟨_, by rw [show 1 + i = i + 1 by omega]; exact hσ i _ e3, ?_⟩
        rw [List.reverse_reverse]
        exact List.getElem?_zip_eq_some.mpr ⟨hf, e3⟩
      · rw [List.length_reverse, List.length_zip, List.length_zipIdx]; omega
      · rw [upd_ne hda] at nd
        have q := hq dx (List.zip fl vs).reverse nd hda (RFs.rev (rfs_zip rv))
        have eh : upd (upd (upd H a (exo a C none)) dx (exd dx (List.zip fl vs).reverse)) a (exo a C (some dx)) = upd (upd H dx (exd dx (List.zip fl vs).reverse)) a (exo a C (some dx)) := funext fun b => by
          by_cases hba : b = a
          · rw [hba, upd_same, upd_same]
          · rw [upd_ne hba, upd_ne hba]
            by_cases hb2 : b = dx
            · rw [hb2, upd_same, upd_same]
            · rw [upd_ne hb2, upd_ne hb2, upd_ne hba]
        rw [eh]
        exact q
    · cases hmk
end
end M2
end

section
set_option Elab.async false
set_option linter.all false
set_option maxRecDepth 100000
set_option maxHeartbeats 4000000
/-! M2: try with several clauses, with names or without. -/
namespace M2
open PySem PySem.Spec PyProof.Rows L2
set_option autoImplicit false
abbrev Sui : Type := Addr → Value → Option Addr → TS
/-- behind a suite the name is gone -/
abbrev goneE (i : Nat) (Dn : Ends) : Ends := ⟨fun s h => Dn.nx (s.set i none) h, Dn.rt, fun s h => Dn.bk (s.set i none) h, fun s h => Dn.ct (s.set i none) h⟩
/-- what the clauses wish: a class, perhaps the name's slot, the suite -/
def wCl (K : PySem.W.Frag) (Wo : WX) (Dn : Ends) : List (Value × Option Nat × Sui) → WX
  | [] => Wo
  | (c, none, ts) :: r => fun cls d σ H => ∃ b, PySem.W.exmOne K cls c = some b ∧ (b = true → ∀ a, H a = none → ts a cls d Dn σ H) ∧ (b = false → wCl K Wo Dn r cls d σ H)
  | (c, some i, ts) :: r => fun cls d σ H => ∃ b, PySem.W.exmOne K cls c = some b ∧ (b = true → ∀ a, H a = none → ts a cls d (goneE i Dn) (σ.set i (some (.ref a))) H) ∧ (b = false → wCl K Wo Dn r cls d σ H)
inductive ClOk (X : Cx) : List ExceptHandler → List (Value × Option Nat × Sui) → Prop
  | nil : ClOk X [] []
  | plain {x : Str} {c : Value} {ts : Sui} {b₀ : Stmt} {more : List Stmt} {np po : Pos} {hs : List ExceptHandler} {l : List (Value × Option Nat × Sui)} (named : Names X x c)
      (run : ∀ a oe cls d pn, L2N.Zn cls d oe → (∃ vs, oe.data = .fields vs) → PSs (X.suite a ((a, oe) :: pn)) (b₀ :: more) (ts a cls d)) (r : ClOk X hs l) :
      ClOk X (.ExceptHandler (some (.Name x np)) none (b₀ :: more) po :: hs) ((c, none, ts) :: l)
  | as {x n : Str} {c : Value} {i : Nat} {ts : Sui} {b₀ : Stmt} {more : List Stmt} {np po : Pos} {hs : List ExceptHandler} {l : List (Value × Option Nat × Sui)} (named : Names X x c) (hi : X.N[i]? = some n) (hn : X.env.kindOf n = some .local)
      (run : ∀ a oe cls d pn, L2N.Zn cls d oe → (∃ vs, oe.data = .fields vs) → PSs (X.suite a ((a, oe) :: pn)) (b₀ :: more) (ts a cls d)) (r : ClOk X hs l) :
      ClOk X (.ExceptHandler (some (.Name x np)) (some n) (b₀ :: more) po :: hs) ((c, some i, ts) :: l)
section
variable {X : Cx} {body : List Stmt} {h0 : ExceptHandler} {hs : List ExceptHandler} {l : List (Value × Option Nat × Sui)} {pos : Pos} {tb : WX → TS} {Wo : WX}
theorem ps_tryC (hst : X.stack = X.env :: X.outer) (hfm : X.env.frame = some X.env.locals) (hnd : X.N.Nodup) (tk : L2N.Takes X Wo)
    (hb : ∀ (W : WX) (pn : List (Addr × Obj)) (xe : Value → Shared → Prop), L2N.Takes (X.tr pn xe) W → PassesOwn (model X.prog X.w) X.A X.env xe → PSs (X.tr pn xe) body (tb W)) (hh : ClOk X (h0 :: hs) l) :
    PS X (.Try body (h0 :: hs) [] [] pos) (fun Dn σ H => tb (wCl X.K Wo Dn l) Dn σ H) := by
  refine ⟨fun pins s σ H Dn I h => ?_⟩
  have ok := I.ok
  have fr0 : X.A.frames = some (X.env :: X.outer) := by rw [ok.frames, hst]
  generalize hw : wCl X.K Wo Dn l = Wb at h
  refine wpAny_Try_except ?_
  have Tk : L2N.Takes (X.tr (X.pn ++ pins) (fun e s₁ => wpAny (model X.prog X.w) X.A (noteFrame e X.env) (fun _ s₂ => wpAny (model X.prog X.w) X.A (setFlight e none) (fun _ s₃ =>
      wpAny (model X.prog X.w) X.A (handleBy e X.env (h0 :: hs)) (SP X pins Dn) X.xe s₃) X.xe s₂) X.xe s₁)) Wb := by
    rintro u s' ⟨a, B, sI, pins', σ1, H1, cls, d, rfl, J0, nb, up, sky, na, hos, ag, w⟩
    have J : Inv X pins σ1 H1 sI := J0.ofTry ok
    rw [hst] at sky
    show wpAny (model X.prog X.w) X.A (noteFrame (.ref a) X.env) _ _ _
    refine L2N.Sky.land L2N.Zn.steady fr0 hfm (show Sky B (X.env :: X.outer) a (L2N.Zn cls d) X.env.locals s'.heap from sky) fun g3 fl3 up3 => ?_
    have J3 : Inv X pins σ1 H1 { s' with heap := g3 } := J.landed nb fl3.1 (up.trans up3) hos ag
    obtain ⟨o3, w3, at3, z3, dat3⟩ := fl3.there
    have outside : a ∉ frs (X.env :: X.outer) := fun hm => by
      obtain ⟨_, o', e', nf⟩ := fl3.2.2.1.mem hm
      rw [at3] at e'
      cases e'
      exact nf _ dat3
    have neL : a ≠ X.env.locals := fun z => outside (List.mem_filterMap.mpr ⟨X.env, List.mem_cons_self, by rw [hfm, z]⟩)
    have neF : a ∉ X.fs := fun hm => by
      obtain ⟨e, m, q⟩ := List.mem_filterMap.mp hm
      exact outside (List.mem_filterMap.mpr ⟨e, List.mem_cons_of_mem _ m, q⟩)
    have S3 := J3.suite at3 dat3 na neL neF
    have kind : PySem.W.Looks (model X.prog X.w) g3 (typeOf (.ref a)) cls := fun A Q E s k q => wpAny_typeOf_ref (k _ _ at3) (by rw [z3.1]; exact q)
    have name : ∀ {x : Str} {c : Value} {np : Pos} {Q : Value → Shared → Prop} {E : Value → Shared → Prop}, Names X x c → Q c { s' with heap := g3 } → wpAny (model X.prog X.w) (X.A.mark (some (.ref a))) (eval (.Name x np) X.env) Q E { s' with heap := g3 } := by
      intro x c np Q E hc q
      obtain ⟨hg, hd, hm | ⟨hm, hv, hnn⟩⟩ := hc
      · exact ld_glob (X := X.suite a ((a, o3) :: (X.pn ++ pins))) S3 hg hm q hd
      · exact ld_blt (X := X.suite a ((a, o3) :: (X.pn ++ pins))) S3 hg hm hv q hnn hd
    have lit : ∀ {Qs : Shared → Prop}, (∀ g4 o4, L2N.Zn cls d o4 → (∃ vs, o4.data = .fields vs) → Inv (X.suite a ((a, o4) :: (X.pn ++ pins))) [] σ1 H1 { s' with heap := g4 } → Qs { s' with heap := g4 }) →
        ∀ g4, HandSPX.FlyingZ B (X.env :: X.outer) a (L2N.Zn cls d) g4 → g3.UpToSlots g4 → Qs { s' with heap := g4 } := by
      intro Qs hq g4 fl4 up4
      obtain ⟨o4, w4, at4, z4, dat4⟩ := fl4.there
      have J4 : Inv X pins σ1 H1 { s' with heap := g4 } := J.landed nb fl4.1 ((up.trans up3).trans up4) hos ag
      exact hq g4 o4 z4 ⟨_, dat4⟩ (J4.suite at4 dat4 na neL neF)
    have ends : ∀ {hs2 : List ExceptHandler} {l2 : List (Value × Option Nat × Sui)}, ClOk X hs2 l2 → wCl X.K Wo Dn l2 cls d σ1 H1 → wpAny (model X.prog X.w) X.A (handleBy (.ref a) X.env hs2) (SP X pins Dn) X.xe { s' with heap := g3 } := by
      intro hs2 l2 hk
      induction hk with
      | nil =>
        intro wv
        refine wpAny_handleBy_nil ?_
        have on : wpAny (model X.prog X.w) X.A (setFlight (.ref a) X.env.frame) (fun _ s4 => wpAny (model X.prog X.w) X.A (throw (.ref a) : Sem Flow) (SP X pins Dn) X.xe s4) X.xe { s' with heap := g3 } := by
          rw [hfm]
          refine HandSPX.setFlight_upZ fl3 fun g4 hold up4 => wpAny_throw (tk _ _ ⟨a, B, sI, pins, σ1, H1, cls, d, rfl, J, nb, (up.trans up3).trans up4, ?_, na, hos, ag, wv⟩)
          exact .inr (.inr (by rw [hst]; exact hold))
        obtain ⟨_, _, _, ob, fv, T, oT, tv, hb1, _, hb2, hb3, _⟩ := id fl3
        unfold PySem.passOn
        refine wpAny_bind (wpAny_field hb1 hb2 hb3 ?_)
        rw [if_neg (show ¬ ((Value.ref T == Value.none) = true) by simp)]
        first
          | exact wpAny_bind (wpAny_pure (wpAny_bind on))
          | exact wpAny_bind on
      | plain named run r ih =>
        rintro ⟨b, hb1, yes, no⟩
        refine wpAny_handleBy_cons (codeAny_handlers_test (name named ((PySem.W.exm_one (M := model X.prog X.w) J3.kIn kind hb1).here ?_))) (by intro q; cases q)
        cases b with
        | false => exact ih (no rfl)
        | true =>
          refine codeAny_handlers_suite (HandSPX.lands_againZ fl3 fun g4 fl4 up4 => ?_)
          refine lit (Qs := fun s4 => wpAny _ _ _ _ _ s4) (fun g4 o4 z4 dat4 S4 => ?_) g4 fl4 up4
          refine wpAny_mono ((run a o4 cls d (X.pn ++ pins) z4 dat4).run [] _ _ H1 _ S4 (yes rfl a na)) (fun f s6 done => ?_) (fun _ _ z => False.elim z)
          cases f with
          | next => exact done.elim fun σ6 ⟨H6, S6, q6⟩ => ⟨σ6, H6, S6.unsuite ok, q6⟩
          | brk => exact done.elim fun σ6 ⟨H6, S6, q6⟩ => ⟨σ6, H6, S6.unsuite ok, q6⟩
          | cont => exact done.elim fun σ6 ⟨H6, S6, q6⟩ => ⟨σ6, H6, S6.unsuite ok, q6⟩
          | ret u => exact done.elim fun v6 ⟨σ6, H6, S6, r6, q6⟩ => ⟨v6, σ6, H6, S6.unsuite ok, r6, q6⟩
      | @as x n c i ts b₀ more np po hs3 l3 named hi hn run r ih =>
        rintro ⟨b, hb1, yes, no⟩
        refine wpAny_handleBy_cons (codeAny_handlers_test (name named ((PySem.W.exm_one (M := model X.prog X.w) J3.kIn kind hb1).here ?_))) (by intro q; cases q)
        cases b with
        | false => exact ih (no rfl)
        | true =>
          refine codeAny_handlers_suite_as (HandSPX.lands_againZ fl3 fun g4 fl4 up4 => ?_)
          refine lit (Qs := fun s4 => wpAny _ _ _ _ _ s4) (fun g4 o4 z4 dat4 S4 => ?_) g4 fl4 up4
          refine store_ok (X := X.suite a ((a, o4) :: (X.pn ++ pins))) (v := .ref a) S4 hnd hi (.inl hn) rfl (fun s5 S5 => ?_) (.inr hn)
          have over : ∀ {σ6 : L2.St} {H6 : Hp} {s6 : Shared} {Qs : Shared → Prop}, Inv (X.suite a ((a, o4) :: (X.pn ++ pins))) [] σ6 H6 s6 → (∀ s7, Inv X pins (σ6.set i none) H6 s7 → Qs s7) →
              wpAny (model X.prog X.w) X.A (do bindName X.env n .none; unbindBehindTheSuite X.env n po) (fun _ s7 => Qs s7) X.xe s6 := by
            intro σ6 H6 s6 Qs S6 hq
            exact gone_ok (S6.unsuite ok) hnd hi hn hq
          refine wpAny_mono ((run a o4 cls d (X.pn ++ pins) z4 dat4).run [] s5 _ H1 _ S5 (yes rfl a na)) (fun f s6 done => ?_) (fun _ _ z => False.elim z)
          cases f with
          | next => exact done.elim fun σ6 ⟨H6, S6, q6⟩ => over S6 fun s7 J7 => ⟨_, _, J7, q6⟩
          | brk => exact done.elim fun σ6 ⟨H6, S6, q6⟩ => over S6 fun s7 J7 => ⟨_, _, J7, q6⟩
          | cont => exact done.elim fun σ6 ⟨H6, S6, q6⟩ => over S6 fun s7 J7 => ⟨_, _, J7, q6⟩
          | ret u => exact done.elim fun v6 ⟨σ6, H6, S6, r6, q6⟩ => over S6 fun s7 J7 => ⟨_, _, _, J7, r6, q6⟩
    rw [← hw] at w
    exact ends hh w
  refine wpAny_mono ((hb _ (X.pn ++ pins) _ Tk PassesOwn.looking).run [] s σ H Dn (I.toTry _) h) (fun f s1 hsp => ?_) (fun e s1 he => he)
  cases f with
  | next =>
    obtain ⟨σ2, H2, J2, q2⟩ := hsp
    exact wpAny_execs_nil ⟨σ2, H2, J2.ofTry ok, q2⟩
  | brk => exact hsp.elim fun σ2 ⟨H2, J2, q2⟩ => ⟨σ2, H2, J2.ofTry ok, q2⟩
  | cont => exact hsp.elim fun σ2 ⟨H2, J2, q2⟩ => ⟨σ2, H2, J2.ofTry ok, q2⟩
  | ret u => exact hsp.elim fun v ⟨σ2, H2, J2, r2, q2⟩ => ⟨v, σ2, H2, J2.ofTry ok, r2, q2⟩
end
end M2
end

section
set_option Elab.async false
set_option linter.all false
set_option maxRecDepth 100000
set_option maxHeartbeats 4000000
/-! M2: defs that are called while an exception is handled. -/
namespace M2
open PySem PySem.Spec PyProof.Rows L2
set_option autoImplicit false
/-- a def's promise by its function, an exception being handled -/
structure FnHM (P : Program) (w : World) (K : PySem.W.Frag) (mg : Str → Option Value) (base : Heap) (x : Str) (k : Nat) (mf : MF) : Prop where
  ex : ∃ (f : Addr) (fd : FuncData) (ps : List Str), mg x = some (.ref f) ∧ PySem.W.keepIn K (.ref f) = true ∧ Binds K fd ps [] ∧ L2H.FnH P w K mg base (L2N.CX P w) k f fd ps (spM K mg mf)
structure MXH (X : Cx) (W : WX) (k : Nat) : Prop where
  hot : L2H.HotC X
  nd : X.N.Nodup
  tk : L2N.Takes X W
  hu : X.A.units + 64 < cLine
  hu5 : X.A.units + 65 < cLine
  room : L2H.RoomH k X.A
section
variable {P : Program} {w : World} {K : PySem.W.Frag} {mg : Str → Option Value} {base : Heap}
theorem FnHM.ofH {x qual : Str} {st : Stmt} {N ps : List Str} {k : Nat} {body : MS} (T : HasF K mg x qual st ps) (S : FnScope N ps (defScope st))
    (h : ∀ (f : Addr) (cdv : Value) (A : Around) (outer : List Env) (s : Shared) (H : Hp) (E : XK) (p : Addr × Obj), MXH (L2H.cxH (L2N.CX P w) P w K mg base N qual (defScope st) f cdv A outer s H E p) (E2W E) k →
      PSs (L2H.cxH (L2N.CX P w) P w K mg base N qual (defScope st) f cdv A outer s H E p) (defBody st) (tMS K mg (E2W E) body)) : FnHM P w K mg base x (k + 1) (mDef N.length ps.length body) := by
  obtain ⟨f, fd, F, hm, hb⟩ := T.ex
  obtain ⟨oc, od, kV, doc, pm, an, cdv, ct, osl, rfl, lk, hcd⟩ := F.ex
  refine ⟨f, _, ps, hm, F.kp, hb, L2H.fn_ofH lk hcd S (fun vs H Q E hsp => ?_) fun A outer s H vs Q E p hot hr hsp => ?_⟩
  · obtain ⟨ρ, S', ds, rs, rv, g⟩ := hsp
    rw [← rv.length]
    unfold mDef at g
    split at g
    · assumption
    · exact g.elim
  · have hun := hr.un
    refine ⟨_, h f cdv A outer s H E p ⟨⟨p, hot, List.mem_cons_self⟩, S.nd, L2N.takes_of rfl rfl rfl rfl, by show (A.deeper _).units + 64 < _; omega, by show (A.deeper _).units + 65 < _; omega, hr⟩, ?_⟩
    obtain ⟨ρ, S', ds, rs, rv, g⟩ := hsp
    refine ⟨ρ, startE N.length ds, S', re_start rv, rs, ?_⟩
    unfold mDef at g
    split at g
    · cases hb' : body (startE N.length ds) S' with
      | nx e S1 => rw [hb'] at g; exact fun σ' H' ρ' p kk rs' re' => g .non H' ρ' p kk rs' rfl
      | rt d S1 => rw [hb'] at g; exact fun v H' ρ' p kk rs' r' => g v H' ρ' p kk rs' r'
      | exc c fs e S1 => rw [hb'] at g; exact fun C dd σ' H' ρ' vs' hm p kk rs' re' hd hf => g C dd H' ρ' vs' hm p kk rs' hd hf
      | bk e S1 => rw [hb'] at g; exact g.elim
      | ct e S1 => rw [hb'] at g; exact g.elim
      | stuck => rw [hb'] at g; exact g.elim
    · exact g.elim
end
section
variable {X : Cx} {W : WX} {e : Expr} {es : List Expr} {mr : MA} {p pos : Pos} {x : Str} {k : Nat} {mf : MF}
theorem me_callH (F : FnHM X.prog X.w X.K X.mg X.base x k mf) (hr : L2H.RoomH k X.A) (hot : L2H.HotC X) (hg : Gl X x) (tk : L2N.Takes X W) (ha : PA X (e :: es) (tMA X.K X.mg W mr)) (hdb : (x == ("__debug__" : Str)) = false := by decide)
    (he : starEach (e :: es) X.env = (false, eval e X.env) :: starEach es X.env := by rfl) (hpl : (backTo pos (starEach es X.env)).any (·.1) = false := by rfl) : PE X (.Call (.Name x p) (e :: es) [] pos) (tM X.K X.mg W (mCall mf mr)) := by
  obtain ⟨f, fd, ps, hm, hk, hb, F1⟩ := F.ex
  refine PE.imp (L2H.pe_callH (E := WE W) F1 hr hot hg hm hk hb (fun σ => L2N.passAt tk σ) ha hdb he hpl) fun σ H Q ⟨ρ, e, S, re, rs, g⟩ => ⟨ρ, e, S, re, rs, GoodG.bind g fun ds S1 xs H1 ρ1 _ p1 k1 rs1 r1 g1 => ?_⟩
  exact ⟨ρ1, S1, ds, rs1, r1, good_E2W g1⟩
end
end M2
end

section
set_option Elab.async false
set_option linter.all false
set_option maxRecDepth 100000
set_option maxHeartbeats 4000000
/-! M2: try, by functions. -/
namespace M2
open PySem PySem.Spec PyProof.Rows L2
set_option autoImplicit false
abbrev Flds : Type := List (Str × D)
/-- a clause: the class's name, the slot of its name, what its suite does with the fields -/
structure Cl where
  x : Str
  as_ : Option Nat
  h : Str → Flds → MS
/-- behind the suite -/
def afterE (as_ : Option Nat) (r : SRes) : SRes := match as_ with
  | none => r
  | some i => match r with
    | .nx e S => .nx (e.set i none) S
    | .bk e S => .bk (e.set i none) S
    | .ct e S => .ct (e.set i none) S
    | r => r
def atE (as_ : Option Nat) (e : Nv) : Nv := match as_ with
  | none => e
  | some i => e.set i none
def okAs (as_ : Option Nat) (e : Nv) : Bool := match as_ with
  | none => true
  | some i => decide (i < e.length)
/-- nothing is raised out of a suite -/
def SRes.coldS : SRes → SRes
  | .exc _ _ _ _ => .stuck
  | r => r
def clM (sub : Str → Str → Option Bool) : List Cl → Str → Flds → MS
  | [], c, fs => fun e S => .exc c fs e S
  | k :: r, c, fs => fun e S => match sub c k.x with
    | some true => if okAs k.as_ e = true then afterE k.as_ ((k.h c fs (atE k.as_ e) S).coldS) else .stuck
    | some false => clM sub r c fs e S
    | none => .stuck
def sTry (sub : Str → Str → Option Bool) (body : MS) (cls : List Cl) : MS := fun e S => match body e S with
  | .exc c fs e1 S1 => clM sub cls c fs e1 S1
  | r => r
/-- how the program's error classes stand to each other -/
def SubOk (K : PySem.W.Frag) (mg : Str → Option Value) (sub : Str → Str → Option Bool) : Prop := ∀ c x b C, sub c x = some b → mg c = some (.ref C) → ∃ X', mg x = some (.ref X') ∧ PySem.W.exmOne K (.ref C) (.ref X') = some b
section
variable {X : Cx} {W : WX} {k : Nat} {body : List Stmt} {h0 : ExceptHandler} {hs : List ExceptHandler} {pos : Pos} {sb : MS} {cls : List Cl} {sub : Str → Str → Option Bool}
/-- the suite's reading: the exception at a, its class, its dict -/
def tSui (K : PySem.W.Frag) (mg : Str → Option Value) (c : Cl) : Sui := fun a cv d Dn σ H => ∃ (ρ : List Addr) (e : Nv) (S : Sto) (fs : Flds) (dd : Addr) (vs : List (Str × V)), RE K mg ρ H e σ ∧ RS K mg ρ H S ∧ d = some dd ∧ H dd = some (.xd vs) ∧ RFs K mg ρ H fs vs ∧ (∀ i, c.as_ = some i → σ[i]? = some (some (.ref a))) ∧
  ∃ nm, mg nm = some cv ∧ GoodS K mg wF ρ H (c.h nm fs e S) Dn
/-- the clauses as they are walked -/
inductive MCl (X : Cx) : List ExceptHandler → List Cl → Prop
  | nil : MCl X [] []
  | plain {x : Str} {h : Str → Flds → MS} {b₀ : Stmt} {more : List Stmt} {np po : Pos} {hs : List ExceptHandler} {l : List Cl} (named : ∀ X', X.mg x = some (.ref X') → Names X x (.ref X'))
      (run : ∀ a oe cv d pn, L2N.Zn cv d oe → (∃ vs, oe.data = .fields vs) → PSs (X.suite a ((a, oe) :: pn)) (b₀ :: more) (tSui X.K X.mg ⟨x, none, h⟩ a cv d)) (r : MCl X hs l) :
      MCl X (.ExceptHandler (some (.Name x np)) none (b₀ :: more) po :: hs) (⟨x, none, h⟩ :: l)
  | as {x n : Str} {i : Nat} {h : Str → Flds → MS} {b₀ : Stmt} {more : List Stmt} {np po : Pos} {hs : List ExceptHandler} {l : List Cl} (named : ∀ X', X.mg x = some (.ref X') → Names X x (.ref X')) (hi : X.N[i]? = some n) (hn : X.env.kindOf n = some .local)
      (run : ∀ a oe cv d pn, L2N.Zn cv d oe → (∃ vs, oe.data = .fields vs) → PSs (X.suite a ((a, oe) :: pn)) (b₀ :: more) (tSui X.K X.mg ⟨x, some i, h⟩ a cv d)) (r : MCl X hs l) :
      MCl X (.ExceptHandler (some (.Name x np)) (some n) (b₀ :: more) po :: hs) (⟨x, some i, h⟩ :: l)
/-- the classes' values -/
def clV (K : PySem.W.Frag) (mg : Str → Option Value) : List Cl → List (Value × Option Nat × Sui)
  | [] => []
  | c :: r => ((mg c.x).getD .none, c.as_, tSui K mg c) :: clV K mg r
theorem MCl.ok {hs : List ExceptHandler} {cls : List Cl} (h : MCl X hs cls) (hc : ∀ c ∈ cls, ∃ X', X.mg c.x = some (.ref X')) : ClOk X hs (clV X.K X.mg cls) := by
  induction h with
  | nil => exact .nil
  | @plain x h b₀ more np po hs l named run r ih =>
    obtain ⟨X', hX⟩ := hc _ List.mem_cons_self
    refine .plain ?_ run (ih fun c m => hc c (List.mem_cons_of_mem _ m))
    show Names X x ((X.mg x).getD .none)
    rw [show X.mg x = some (.ref X') from hX]
    exact named X' hX
  | @as x n i h b₀ more np po hs l named hi hn run r ih =>
    obtain ⟨X', hX⟩ := hc _ List.mem_cons_self
    refine .as ?_ hi hn run (ih fun c m => hc c (List.mem_cons_of_mem _ m))
    show Names X x ((X.mg x).getD .none)
    rw [show X.mg x = some (.ref X') from hX]
    exact named X' hX
theorem good_wcl {K : PySem.W.Frag} {mg : Str → Option Value} {sub : Str → Str → Option Bool} (hsub : SubOk K mg sub) {W : WX} {Dn : Ends} {c : Str} {C dd : Addr} {fs : Flds} {vs : List (Str × V)} {ρ : List Addr} {e : Nv} {S : Sto} {σ : L2.St} {H : Hp} (hm : mg c = some (.ref C)) (re : RE K mg ρ H e σ) (rs : RS K mg ρ H S) (hd : H dd = some (.xd vs)) (hf : RFs K mg ρ H fs vs) :
    ∀ cls : List Cl, GoodS K mg W ρ H (clM sub cls c fs e S) Dn → wCl K W Dn (clV K mg cls) (.ref C) (some dd) σ H
  | [], g => g C dd σ H ρ vs hm (Pre.refl _) (Keep.refl _) rs re hd hf
  | k :: r, g => by
    unfold clM at g
    have ih := good_wcl hsub (W := W) (Dn := Dn) hm re rs hd hf r
    obtain ⟨x, as_, h⟩ := k
    cases hb : sub c x with
    | none => simp only [hb] at g; exact g.elim
    | some b =>
      obtain ⟨X', hX, hex⟩ := hsub c x b C hb hm
      simp only [hb] at g
      have hval : ((mg x).getD .none) = .ref X' := by rw [hX]; rfl
      cases as_ with
      | none =>
        show ∃ b, PySem.W.exmOne K (.ref C) ((mg x).getD .none) = some b ∧ _
        rw [hval]
        refine ⟨b, hex, fun e1 a na => ?_, fun e1 => ?_⟩
        · subst e1
          simp only [afterE, atE, okAs, if_true] at g
          refine ⟨ρ, e, S, fs, dd, vs, re, rs, rfl, hd, hf, (fun i hi => by cases hi), c, hm, ?_⟩
          show GoodS K mg wF ρ H (h c fs e S) Dn
          cases hh : h c fs e S with
          | exc _ _ _ _ => rw [hh] at g; exact False.elim g
          | nx e1 S1 => rw [hh] at g; exact g
          | rt d1 S1 => rw [hh] at g; exact g
          | bk e1 S1 => rw [hh] at g; exact g
          | ct e1 S1 => rw [hh] at g; exact g
          | stuck => rw [hh] at g; exact False.elim g
        · subst e1
          exact ih g
      | some i =>
        show ∃ b, PySem.W.exmOne K (.ref C) ((mg x).getD .none) = some b ∧ _
        rw [hval]
        refine ⟨b, hex, fun e1 a na => ?_, fun e1 => ?_⟩
        · subst e1
          simp only [afterE, atE, okAs] at g
          by_cases hie : i < e.length
          case neg =>
            simp only [decide_eq_false hie, Bool.false_eq_true, if_false] at g
            exact False.elim g
          simp only [decide_eq_true hie, if_true] at g
          have hi : i < σ.length := by rw [← re.len]; exact hie
          have re2 : RE K mg ρ H (e.set i none) (σ.set i (some (.ref a))) := by
            refine ⟨by rw [List.length_set, List.length_set]; exact re.len, fun j d q => ?_⟩
            by_cases hj : j = i
            · subst hj
              rw [List.getElem?_set_self (by rw [re.len]; exact hi)] at q
              cases q
            · rw [List.getElem?_set_ne (Ne.symm hj)] at q ⊢
              exact re.at_ j d q
          refine ⟨ρ, e.set i none, S, fs, dd, vs, re2, rs, rfl, hd, hf, (fun j hj => by cases hj; exact List.getElem?_set_self hi), c, hm, ?_⟩
          show GoodS K mg wF ρ H (h c fs (e.set i none) S) (goneE i Dn)
          cases hh : h c fs (e.set i none) S with
          | exc _ _ _ _ => rw [hh] at g; exact False.elim g
          | nx e1 S1 => rw [hh] at g; exact fun s2 H2 ρ2 p kk rs2 rr => g _ H2 ρ2 p kk rs2 (rr.drop2 i)
          | rt d1 S1 => rw [hh] at g; exact g
          | bk e1 S1 => rw [hh] at g; exact fun s2 H2 ρ2 p kk rs2 rr => g _ H2 ρ2 p kk rs2 (rr.drop2 i)
          | ct e1 S1 => rw [hh] at g; exact fun s2 H2 ρ2 p kk rs2 rr => g _ H2 ρ2 p kk rs2 (rr.drop2 i)
          | stuck => rw [hh] at g; exact False.elim g
        · subst e1
          exact ih g
theorem ms_try (hst : X.stack = X.env :: X.outer) (hfm : X.env.frame = some X.env.locals) (hnd : X.N.Nodup) (tk : L2N.Takes X W) (hsub : SubOk X.K X.mg sub) (hc : ∀ c ∈ cls, ∃ X', X.mg c.x = some (.ref X')) 
    (hb : ∀ (W : WX) (pn : List (Addr × Obj)) (xe : Value → Shared → Prop), L2N.Takes (X.tr pn xe) W → PassesOwn (model X.prog X.w) X.A X.env xe → PSs (X.tr pn xe) body (tMS X.K X.mg W sb)) (hh : MCl X (h0 :: hs) cls) :
    PS X (.Try body (h0 :: hs) [] [] pos) (tMS X.K X.mg W (sTry sub sb cls)) := by
  have base := ps_tryC (pos := pos) (Wo := W) hst hfm hnd tk hb (hh.ok hc)
  refine ⟨fun pins s σ H Dn I h => base.run pins s σ H Dn I ?_⟩
  obtain ⟨ρ, e, S, re, rs, g⟩ := h
  refine ⟨ρ, e, S, re, rs, ?_⟩
  unfold sTry at g
  cases hbd : sb e S with
  | exc c fs e1 S1 =>
    rw [hbd] at g
    intro C dd σ1 H1 ρ1 vs hm p kk rs1 re1 hd hf
    exact good_wcl hsub hm re1 rs1 hd hf cls (GoodS.mono (r := clM sub cls c fs e1 S1) g p kk)
  | nx e1 S1 => rw [hbd] at g; exact g
  | rt d1 S1 => rw [hbd] at g; exact g
  | bk e1 S1 => rw [hbd] at g; exact g
  | ct e1 S1 => rw [hbd] at g; exact g
  | stuck => rw [hbd] at g; exact g
end
end M2
end

section
set_option Elab.async false
set_option linter.all false
set_option maxRecDepth 100000
set_option maxHeartbeats 4000000
/-! M2: suites of except clauses; the classes' standing. -/
namespace M2
open PySem PySem.Spec PyProof.Rows L2
set_option autoImplicit false
theorem takesF {X : Cx} : L2N.Takes X wF := fun _ _ x => by
  obtain ⟨_, _, _, _, _, _, _, _, _, _, _, _, _, _, _, _, z⟩ := x
  exact z.elim
section
variable {X : Cx} {W W' : WX} {k : Nat}
theorem mx_tr (hx : MX X W k) {pn : List (Addr × Obj)} {xe : Value → Shared → Prop} (tk : L2N.Takes (X.tr pn xe) W') (po : PassesOwn (model X.prog X.w) X.A X.env xe) : MX (X.tr pn xe) W' k :=
  ⟨hx.calm, hx.nd, tk, po, hx.hu, hx.hu5, hx.room⟩
theorem mxh_suite (hx : MX X W k) {a : Addr} {oe : Obj} {cv : Value} {d : Option Addr} {pn : List (Addr × Obj)} (hz : L2N.Zn cv d oe) (hf : ∃ vs, oe.data = .fields vs) : MXH (X.suite a ((a, oe) :: pn)) wF k := by
  obtain ⟨vs, hd⟩ := hf
  exact ⟨⟨(a, oe), ⟨rfl, vs, hd, hz.2.2 vs hd⟩, List.mem_cons_self⟩, hx.nd, takesF, hx.hu, hx.hu5, ⟨hx.room.dp, hx.room.un⟩⟩
end
/-- what is known in a suite that names the exception -/
def tXG {α β : Type} (K : PySem.W.Frag) (mg : Str → Option Value) (W : WX) (rel : List Addr → Hp → α → β → Prop) (a : Addr) (cv : Value) (d : Option Addr) (i : Nat) (m : Str → Flds → Nv → Sto → Rs α) : L2.St → Hp → (β → Hp → Prop) → Prop := fun σ H Q =>
  ∃ (ρ : List Addr) (e : Nv) (S : Sto) (fs : Flds) (dd : Addr) (vs : List (Str × V)) (nm : Str), RE K mg ρ H e σ ∧ RS K mg ρ H S ∧ d = some dd ∧ H dd = some (.xd vs) ∧ RFs K mg ρ H fs vs ∧ σ[i]? = some (some (.ref a)) ∧ mg nm = some cv ∧ GoodG K mg W rel σ ρ H (m nm fs e S) Q
abbrev tX (K : PySem.W.Frag) (mg : Str → Option Value) (W : WX) (a : Addr) (cv : Value) (d : Option Addr) (i : Nat) (m : Str → Flds → MV) : TE := tXG K mg W (RV K mg) a cv d i m
abbrev tXA (K : PySem.W.Frag) (mg : Str → Option Value) (W : WX) (a : Addr) (cv : Value) (d : Option Addr) (i : Nat) (m : Str → Flds → MA) : TA := tXG K mg W (RVs K mg) a cv d i m
theorem RFs.look {K : PySem.W.Frag} {mg : Str → Option Value} {ρ : List Addr} {H : Hp} {f : Str} {d : D} : ∀ {fs : Flds} {vs : List (Str × V)}, RFs K mg ρ H fs vs → fs.lookup f = some d → ∃ v, vs.lookup f = some v ∧ RV K mg ρ H d v
  | [], _, _, h => by cases h
  | p :: fs, vs, r, h => by
    obtain ⟨y, n⟩ := p
    obtain ⟨x, xs, rfl, h1, h2⟩ := r
    rw [List.lookup_cons] at h ⊢
    by_cases q : (f == y) = true
    · simp only [q] at h ⊢
      cases h
      exact ⟨x, rfl, h1⟩
    · rw [Bool.not_eq_true] at q
      simp only [q] at h ⊢
      exact RFs.look h2 h
def mFld (cns : List Str) (f : Str) : Str → Flds → MV := fun cn fs _ S => if cn ∈ cns then match fs.lookup f with
  | some x => .ok x S
  | none => .stuck
  else .stuck
section
variable {X : Cx} {W : WX} {a : Addr} {cv : Value} {d : Option Addr} {i k : Nat} {e : Expr} {es : List Expr} {m : Str → Flds → MV} {mr : Str → Flds → MA} {pos p : Pos} {f n x : Str} {oe : Obj} {pn : List (Addr × Obj)} {cns : List Str} {mf : MF}
theorem xe_of {m : MV} (h : PE X e (tM X.K X.mg W m)) : PE X e (tX X.K X.mg W a cv d i fun _ _ => m) := PE.imp h fun σ H Q ⟨ρ, e, S, fs, dd, vs, nm, re, rs, _, _, _, _, _, g⟩ => ⟨ρ, e, S, re, rs, g⟩
theorem xe_field (hcn : ∀ cn ∈ cns, ∃ C, X.mg cn = some (.ref C) ∧ XfC X.K C ∧ PySem.W.findIn X.K (.ref C) f = some none) (hz : L2N.Zn cv d oe) (hf : ∃ vs, oe.data = .fields vs) (hN : X.N[i]? = some n)
    (hv : Vis X.env.scope n := by first | exact Or.inl rfl | exact Or.inr (Or.inl rfl) | exact Or.inr (Or.inr rfl)) (hd : (n == ("__debug__" : Str)) = false := by decide) (hcd : (n == ("__classdict__" : Str)) = false := by decide)
    (hb : attributeBase (.Name n p) f X.env (eval (.Name n p) X.env) = eval (.Name n p) X.env := by rfl) :
    PE (X.suite a ((a, oe) :: pn)) (.Attribute (.Name n p) f pos) (tX X.K X.mg W a cv d i (mFld cns f)) := by
  refine ⟨fun pins s σ H Q I ⟨ρ, e, S, fs, dd, vs, nm, re, rs, ed, hdd, rf, hσ, hm, g⟩ => ?_⟩
  unfold mFld at g
  split at g
  · rename_i hmem
    split at g
    · rename_i y hy
      obtain ⟨C, hC, T, hno⟩ := hcn _ hmem
      rw [hm] at hC
      cases hC
      obtain ⟨v, hv', rv⟩ := rf.look hy
      exact (pe_xf (pos := pos) (n := f) (X := X) (pn := pn) T hno hz.zc hf (pe_var (X := X.suite a ((a, oe) :: pn)) (i := i) hN hv hd hcd) hb).run pins s σ H Q I ⟨.ref a, hσ, rfl, rfl, dd, vs, v, ed, hdd, hv', g.ok rs rv⟩
    · exact g.elim
  · exact g.elim
theorem xa_nil : PA X [] (tXA X.K X.mg W a cv d i fun _ _ => aNil) := PA.imp ma_nil fun σ H Q ⟨ρ, e, S, fs, dd, vs, nm, re, rs, _, _, _, _, _, g⟩ => ⟨ρ, e, S, re, rs, g⟩
theorem xa_cons (ha : PE X e (tX X.K X.mg W a cv d i m)) (hr : PA X es (tXA X.K X.mg W a cv d i mr)) (hs : starEach (e :: es) X.env = (false, eval e X.env) :: starEach es X.env := by rfl) : PA X (e :: es) (tXA X.K X.mg W a cv d i fun c fs => aCons (m c fs) (mr c fs)) :=
  PA.imp (pa_cons ha hr hs) fun σ H Q ⟨ρ, e, S, fs, dd, vs, nm, re, rs, ed, hdd, rf, hσ, hm, g⟩ => ⟨ρ, e, S, fs, dd, vs, nm, re, rs, ed, hdd, rf, hσ, hm, GoodG.bind g fun d1 S1 x H1 ρ1 _ p1 k1 rs1 r1 g1 =>
    ⟨ρ1, e, S1, fs, dd, vs, nm, re.mono p1 k1, rs1, ed, k1 _ _ hdd rfl, RFs.mono p1 k1 _ _ rf, hσ, hm, GoodG.bind g1 fun d2 S2 y H2 ρ2 _ p2 k2 rs2 r2 g2 => GoodG.ok g2 rs2 ⟨x, y, rfl, r1.mono p2 k2, r2⟩⟩⟩
theorem xe_call (F : FnHM X.prog X.w X.K X.mg X.base x k mf) (hr : L2H.RoomH k X.A) (hot : L2H.HotC X) (hg : Gl X x) (tk : L2N.Takes X W) (ha : PA X (e :: es) (tXA X.K X.mg W a cv d i mr)) (hdb : (x == ("__debug__" : Str)) = false := by decide)
    (he : starEach (e :: es) X.env = (false, eval e X.env) :: starEach es X.env := by rfl) (hpl : (backTo pos (starEach es X.env)).any (·.1) = false := by rfl) : PE X (.Call (.Name x p) (e :: es) [] pos) (tX X.K X.mg W a cv d i fun c fs => mCall mf (mr c fs)) := by
  obtain ⟨f, fd, ps, hm, hk, hb, F1⟩ := F.ex
  refine PE.imp (L2H.pe_callH (E := WE W) F1 hr hot hg hm hk hb (fun σ => L2N.passAt tk σ) ha hdb he hpl) fun σ H Q ⟨ρ, e, S, fs, dd, vs, nm, re, rs, ed, hdd, rf, hσ, hmn, g⟩ => ⟨ρ, e, S, fs, dd, vs, nm, re, rs, ed, hdd, rf, hσ, hmn, GoodG.bind g fun ds S1 xs H1 ρ1 _ p1 k1 rs1 r1 g1 => ?_⟩
  exact ⟨ρ1, S1, ds, rs1, r1, good_E2W g1⟩
theorem xs_ret (he : PE X e (tX X.K X.mg wF a cv d i m)) : PSs X [.Return (some e) pos] (tSui X.K X.mg ⟨x, some i, fun c fs => sRet (m c fs)⟩ a cv d) :=
  PSs.imp (pss_one (ps_ret he)) fun Dn σ H ⟨ρ, e, S, fs, dd, vs, re, rs, ed, hdd, rf, hσ, nm, hm, g⟩ => ⟨ρ, e, S, fs, dd, vs, nm, re, rs, ed, hdd, rf, hσ i rfl, hm, GoodG.bindS re g fun d S1 v H1 ρ1 _ p1 k1 rs1 r1 g1 => g1 v H1 ρ1 (Pre.refl _) (Keep.refl _) rs1 r1⟩
theorem xs_of {o : Option Nat} {body : List Stmt} {m : MS} (h : PSs X body (tMS X.K X.mg wF m)) : PSs X body (tSui X.K X.mg ⟨x, o, fun _ _ => m⟩ a cv d) :=
  PSs.imp h fun Dn σ H ⟨ρ, e, S, fs, dd, vs, re, rs, ed, hdd, rf, hσ, nm, hm, g⟩ => ⟨ρ, e, S, re, rs, g⟩
end
/-- the classes' standing, from a list -/
def subL (l : List ((Str × Str) × Bool)) (c x : Str) : Option Bool := l.lookup (c, x)
theorem subOk_of {K : PySem.W.Frag} {mg : Str → Option Value} {l : List ((Str × Str) × Bool)} (h : ∀ p ∈ l, ∃ C X', mg p.1.1 = some (.ref C) ∧ mg p.1.2 = some (.ref X') ∧ PySem.W.exmOne K (.ref C) (.ref X') = some p.2) : SubOk K mg (subL l) := by
  intro c x b C hb hm
  have hmem : ((c, x), b) ∈ l := by
    unfold subL at hb
    obtain ⟨l1, l2, e, _⟩ := List.lookup_eq_some_iff.mp hb
    rw [e]; simp
  obtain ⟨C', X', h1, h2, h3⟩ := h _ hmem
  rw [show mg c = some (.ref C') from h1] at hm
  cases hm
  exact ⟨X', h2, h3⟩
theorem named_of {X : Cx} {x : Str} (hg : Gl X x) (hd : (x == ("__debug__" : Str)) = false := by decide) : ∀ X', X.mg x = some (.ref X') → Names X x (.ref X') := fun X' h => ⟨hg, hd, .inl h⟩
end M2
end

section
set_option Elab.async false
set_option linter.all false
set_option maxRecDepth 100000
set_option maxHeartbeats 4000000
/-! M2: an own error class's text and facts. -/
namespace M2
open PySem PySem.Spec PyProof.Rows L2 NdefX
set_option autoImplicit false
/-- the first statement of a class's body -/
def clsInit : Stmt → Stmt
  | .ClassDef _ _ _ (st :: _) _ _ _ _ _ _ _ => st
  | st => st
abbrev nfOf (st : Stmt) (qual : Str) (cc c : Addr) : NF := ⟨"__init__", qual, defArgs st, defBody st, defScope st, [(("__class__" : Str), cc)], c⟩
/-- what is known of an own error class -/
structure ErrF (P : Program) (K : PySem.W.Frag) (mg : Str → Option Value) (x qual : Str) (st : Stmt) (slf : Str) (fl : List Str) : Prop where
  ex : ∃ (C fI cc c : Addr) (doc pm ctv oc : Value) (od : Option Addr) (osl : Array (Option Value)), mg x = some (.ref C) ∧ K.lookup fI = some ⟨oc, od, .func ((nfOf st qual cc c).fd doc pm ctv), osl⟩ ∧ PySem.W.codeIn K (.ref c) qual = true ∧
    SupC K P mg C fI cc c ((nfOf st qual cc c).fd doc pm ctv) slf ∧ PySem.W.findIn K (.ref C) "__init__" = some (some (.ref fI)) ∧ PySem.W.typeIn K (.ref fI) = some (.type "function") ∧ Binds K ((nfOf st qual cc c).fd doc pm ctv) (slf :: fl) [] ∧ (∀ f ∈ fl, PySem.W.findIn K (.ref C) f = some none) ∧ XfC K C
theorem errF_mk {P : Program} {K : PySem.W.Frag} {mg : Str → Option Value} {h : Heap} {x qual slf : Str} {st : Stmt} {fl : List Str} {C fI cc c : Addr} {doc pm ctv oc : Value} {od : Option Addr} {osl : Array (Option Value)}
    {nm q N bs bm sn sub ab col dd k0 k1 k2 k3 k5} {cl : Value} {cld : Option Addr} {csl : Array (Option Value)} {ccl : Value} {cdd : Option Addr} {vs : Array Value} {ccs : Array (Option Value)} {cd cdB : ClassData} {B : Addr} {xB : Str} (KX : K.In h) (G : h.Ns mainGlobals mg)
    (a : PySem.W.nsIn K mainGlobals x = some (some (.ref C))) (lC : K.lookup C = some (excClassObj nm q C N bs bm true sn sub ab col dd k0 k1 k2 k3 k5 "ValueError.__new__")) (hbm : PySem.HandSPX.refsVE bm = true)
    (hini : PySem.W.findIn K (.ref C) "__init__" = some (some (.ref fI))) (lf : K.lookup fI = some ⟨oc, od, .func ((nfOf st qual cc c).fd doc pm ctv), osl⟩) (hcd : PySem.W.codeIn K (.ref c) qual = true) (lcc : K.lookup cc = some ⟨cl, cld, .cell (some (.ref C)), csl⟩)
    (lcd : K.lookup c = some ⟨ccl, cdd, .fields vs, ccs⟩) (hvs : ∃ file tf, vs[2]? = some (.str file tf) ∧ ((P.main.file : Str) == file) = true) (hd : ∃ ar, ((defArgs st).posonlyargs ++ (defArgs st).args).head? = some ar ∧ ar.arg = slf)
    (sa : PySem.W.findIn K (.ref C) "__setattr__" = some (some (.builtin "object.__setattr__"))) (exC : PySem.W.subIn K (.ref C) (.type "BaseException") = some true) (tyC : PySem.W.typeIn K (.ref C) = some (.type "type")) (kC : PySem.W.keepIn K (.ref C) = true)
    (top : (P.main.scope.names.lookup ("super" : Str)).isSome = false) (nosup : PySem.W.nsIn K mainGlobals "super" = some none) (smro : PySem.W.mroIn K C (.ref C) = some true) (subV : PySem.W.subIn K (.ref C) (.type "ValueError") = some true) (opq : PySem.W.nsIn K PySem.cStatics "thirdparty.any" = some none)
    (hcl : PySem.W.clsIn K C = some cd) (aB : PySem.W.nsIn K mainGlobals xB = some (some (.ref B))) (hB : PySem.W.clsIn K B = some cdB) (hBi : PySem.W.findIn K (.ref B) "__init__" = some (some (.builtin "ValueError.__init__"))) (hal : (cd.mro.dropWhile (· != .ref C)).drop 1 = cdB.mro) (hfun : PySem.W.typeIn K (.ref fI) = some (.type "function"))
    (hb : ∀ (doc pm ctv : Value) (us : List Value), us.length = (slf :: fl).length → bindArgs ((nfOf st qual cc c).fd doc pm ctv) ⟨us, []⟩ = pure ((slf :: fl).zip us))
    (noF : ∀ f ∈ fl, PySem.W.findIn K (.ref C) f = some none) (ga : PySem.W.findIn K (.ref C) "__getattribute__" = some (some (.builtin "BaseException.__getattribute__"))) (gg : PySem.W.findIn K (.ref C) "__getattr__" = some none) (hdC : PySem.W.hasDictIn K C = true) :
    ErrF P K mg x qual st slf fl := by
  obtain ⟨file, tf, h1, h2⟩ := hvs
  have hal2 : PySem.W.alongIn K "__init__" ((cd.mro.dropWhile (· != .ref C)).drop 1) = some (some (.builtin "ValueError.__init__")) := by
    rw [hal]
    unfold PySem.W.clsIn at hB
    split at hB
    · rename_i ho
      cases hB
      unfold PySem.W.findIn at hBi
      simp only [ho] at hBi
      exact hBi
    · cases hB
  exact ⟨C, fI, cc, c, doc, pm, ctv, oc, od, osl, PySem.W.mg_of KX G a, lf, hcd, ⟨⟨⟨nm, q, N, bs, bm, sn, sub, ab, col, dd, k0, k1, k2, k3, k5, lC, hbm⟩, sa, exC, tyC, kC⟩, ⟨oc, od, osl, lf⟩, hd, ⟨cl, cld, csl, lcc⟩, ⟨ccl, cdd, vs, ccs, file, tf, lcd, h1, h2⟩, top, PySem.W.mg_none_of KX G nosup, smro, subV, opq, ⟨cd, hcl, hal2⟩⟩, hini, hfun,
    .all (hb doc pm ctv), noF, ⟨ga, gg, exC, hdC⟩⟩
/-- the parts of an error's message -/
inductive Prt where
  | lit (z : Str)
  | fld (i : Nat)
def Prt.te : Prt → TE
  | .lit z => tC (.str z)
  | .fld i => tFmt (tVar (i + 1))
def Prt.ok (n : Nat) : Prt → Bool
  | .lit z => decide (z.length ≤ 1000100)
  | .fld i => decide (i < n)
theorem prt_nice {σ : L2.St} {H : Hp} {vs : List V} {ks : List Bool} (hσ : ∀ (i : Nat) (v : V), vs[i]? = some v → σ[i + 1]? = some (some v)) (hl : vs.length = ks.length) (hk : ∀ p ∈ List.zip ks vs, okV p.1 p.2) {p : Prt} (h : p.ok ks.length = true) : Nice σ H p.te := by
  cases p with
  | lit z => exact nice_lit (of_decide_eq_true h)
  | fld i =>
    have hi : i < ks.length := of_decide_eq_true h
    have e1 : vs[i]? = some (vs[i]'(by omega)) := List.getElem?_eq_getElem (by omega)
    have e2 : ks[i]? = some (ks[i]'hi) := List.getElem?_eq_getElem hi
    exact nice_fmt (hσ i _ e1) (hk (ks[i]'hi, _) (List.mem_iff_getElem?.mpr ⟨i, List.getElem?_zip_eq_some.mpr ⟨e2, e1⟩⟩))
/-- f'..' of several parts -/
abbrev tPrts (ts : List Prt) : TE := fun σ H Q => tJs (ts.map Prt.te) Str.empty σ H fun out H1 => Q (.str out) H1
theorem prts_ok (ts : List Prt) (ks : List Bool) (ht : (ts.all fun p => p.ok ks.length) = true) (hs : ts.length ≤ 12) (σ : L2.St) (H : Hp) (vs : List V) (hσ : ∀ (i : Nat) (v : V), vs[i]? = some v → σ[i + 1]? = some (some v)) (hl : vs.length = ks.length) (hk : ∀ p ∈ List.zip ks vs, okV p.1 p.2) (Q : VK) (q : ∀ y, Q y H) : tPrts ts σ H Q := by
  refine nice_js (Q := fun out H1 => Q (.str out) H1) (fun y => q _) (ts.map Prt.te) Str.empty (fun t h => ?_) ?_
  · obtain ⟨p, hp, rfl⟩ := List.mem_map.mp h
    exact prt_nice hσ hl hk (List.all_eq_true.mp ht p hp)
  · rw [List.length_map, sizeLine_eq]
    show 0 + ts.length * 1000100 ≤ _
    omega
theorem prt_ok (ks : List Bool) (p : Prt) (ht : p.ok ks.length = true) (σ : L2.St) (H : Hp) (vs : List V) (hσ : ∀ (i : Nat) (v : V), vs[i]? = some v → σ[i + 1]? = some (some v)) (hl : vs.length = ks.length) (hk : ∀ p ∈ List.zip ks vs, okV p.1 p.2) (Q : VK) (q : ∀ y, Q y H) : p.te σ H Q := by
  obtain ⟨y, _, k⟩ := prt_nice (H := H) hσ hl hk ht
  exact k Q (q _)
end M2
end

section
set_option Elab.async false
set_option linter.all false
set_option maxRecDepth 100000
set_option maxHeartbeats 4000000
/-! M2: range with a step, str.index, enumerate. -/
namespace M2
open PySem PySem.Spec PyProof.Rows L2
set_option autoImplicit false
section
variable {X : Cx} {W : WX} {pos : Pos}
def iRg3 (m : MA) : Nv → Sto → Rs ItM := fun e S => (m e S).bind fun ds S1 => match ds with
  | [.int i, .int j, .int c] => if c ≠ 0 ∧ c.natAbs < 1073741824 ∧ Builtin.Range.small i j c = true ∧ 0 ≤ Builtin.Range.rangeSize i j c then .ok (itR i c (Builtin.Range.rangeSize i j c).toNat) S1 else .stuck
  | _ => .stuck
theorem mi_range3 {a b c t : Expr} {m : MA} {p : Pos} (hg : Gl X "range") (hm : X.mg "range" = none) (ha : PA X [a, b, c] (tMA X.K X.mg W m)) (hs : starEach [a, b, c] X.env = (false, eval a X.env) :: starEach [b, c] X.env := by rfl) (hpl : (backTo pos (starEach [b, c] X.env)).any (·.1) = false := by rfl) :
    PI X t (.Call (.Name "range" p) [a, b, c] [] pos) (tMI X.K X.mg W (iRg3 m)) := by
  refine ⟨fun pins s σ H R I ⟨ρ, e, S, re, rs, g⟩ => (pi_range3 hg hm ha hs hpl).run pins s σ H R I ⟨ρ, e, S, re, rs, GoodG.bind g fun ds S1 vs H1 ρ1 _ p1 k1 rs1 r1 g1 => ?_⟩⟩
  try dsimp only at g1
  split at g1
  · rename_i i j c _
    split at g1
    · rename_i h
      obtain ⟨x, xs, rfl, r, y, ys, rfl, r', z, zs, rfl, r'', r0⟩ := r1
      cases r; cases r'; cases r''; cases r0
      exact ⟨i, j, c, _, rfl, ⟨h.1, h.2.1, h.2.2.1, (Int.toNat_of_nonneg h.2.2.2).symm⟩, GoodG.ok g1 rs1 itR_ok⟩
    · exact g1.elim
  · exact g1.elim
def oIndex : OpM := fun x as S => match x, as with
  | .str a, [.str b] => match Builtin.Str.occurrences a b 0 a.length 1 with
    | i :: _ => some (.int (i : Nat), S)
    | [] => none
  | _, _ => none
theorem mm_index : MtR X "str.index" (rMM X.K X.mg oIndex) := by
  intro pins s σ H x xs v us Q I rx rxs ⟨ρ, S, d, ds, d3, S3, rs, r1, r2, e, q⟩
  unfold oIndex at e
  split at e
  · obtain ⟨y, ys, rfl, ry, r0⟩ := r2
    cases r1; cases ry; cases r0
    split at e
    · rename_i i rest ho
      cases e
      exact mt_sindex pins s σ H _ _ v us Q I rx rxs ⟨_, _, i, rest, rfl, rfl, ho, q _ _ _ (Pre.refl _) (Keep.refl _) rs rfl⟩
    · cases e
  · cases e
end
/-! ### enumerate -/
theorem meets_enum1 {v : Value} {o : Obj} {H : Heap → Prop} (B : PySem.Begins v o H) :
    PySem.Meets (Builtin.«enumerate.__new__» ⟨[.type "enumerate", v], []⟩) (fun _ R s => H s.heap ∧
      R (.ok (.ret (.ref (s.heap.push o).objs.size))) { s with heap := (s.heap.push o).push { cls := .type "enumerate", data := .fields #[.none, .bool false, .ref s.heap.objs.size, rawInt 0, .none, .none] } }) :=
  .of_wp fun prog w A R s h => by
    obtain ⟨hp, g, d, tk, os⟩ := s; obtain ⟨h1, h⟩ := h
    have hsub := PySem.sub_enumerate
    have q1 : ∀ {A' : Around} {E : Value → Shared → Prop} {Q : Value → Shared → Prop}, Q (.ref hp.objs.size) ⟨hp.push o, g, d, tk, os⟩ → wpAny (model prog w) A' (pyIter v) Q E ⟨hp, g, d, tk, os⟩ :=
      fun q => B.iter prog w _ _ ⟨hp, g, d, tk, os⟩ _ h1 q
    wp_walk using q1
    refine wpAny_stack_any fun st => wpAny_pure ?_
    split
    · rename_i c _ _ _ _ _
      cases (c == Value.type "enumerate")
      · wp_walk using q1
        exact ⟨_, rfl, h⟩
      · wp_walk using q1
        exact ⟨_, rfl, h⟩
    · wp_walk using q1
      exact ⟨_, rfl, h⟩
theorem call_enum1 {prog : Program} {w : World} {A : Around} {E : Value → Shared → Prop} {s : Shared} {v : Value} {o : Obj} {H : Heap → Prop} {Q : Value → Shared → Prop} (B : PySem.Begins v o H) (h1 : H s.heap)
    (h : ∀ h', PySem.IsEnum h' (s.heap.objs.size + 1) s.heap.objs.size 0 .none → h'.get? s.heap.objs.size = some o → h'.objs.size = s.heap.objs.size + 2 →
      (∀ b o, s.heap.get? b = some o → h'.get? b = some o) → Q (.ref (s.heap.objs.size + 1)) { s with heap := h' }) :
    wpAny (model prog w) A (call (.type "enumerate") [v]) Q E s := by
  refine callType_new F.called_enumerate (by decide) (F.typeCall_enumerate_1 _) (F.newCall_enumerate_1 _) (fun obj => F.args_object_init_2 obj _) F.entry_enumerate_new
    (meets_enum1 B) ⟨h1, ?_⟩
  have hz : (s.heap.push o).objs.size = s.heap.objs.size + 1 := Heap.size_push ..
  show _ ∧ _
  rw [hz]
  have he : PySem.IsEnum ((s.heap.push o).push { cls := .type "enumerate", data := .fields #[.none, .bool false, .ref s.heap.objs.size, rawInt 0, .none, .none] }) (s.heap.objs.size + 1) s.heap.objs.size 0 .none := by
    have := Heap.get?_push_size (s.heap.push o) (o := { cls := .type "enumerate", data := .fields #[.none, .bool false, .ref s.heap.objs.size, rawInt 0, .none, .none] }) rfl
    rw [hz] at this; exact this
  refine ⟨⟨_, he, rfl⟩, h _ he (Heap.get?_push_of_some _ (Heap.get?_push_size _ B.free)) (by rw [Heap.size_push, hz]) fun b o x => Heap.get?_push_of_some _ (Heap.get?_push_of_some _ x)⟩
/-- the tuple at a (n items), each item in a new pair -/
def IteT (K : PySem.W.Frag) (a : Addr) (n : Nat) : It :=
  ⟨fun i H => i < n ∧ ∃ (xs : List V) (x : V), SqT K H a xs ∧ xs.length = n ∧ xs[i]? = some x, fun i H v H' => ∃ T x, v = .ref T ∧ H T = none ∧ H' = upd H T (.tup [.int (i : Nat), x]) ∧ ∀ xs, SqT K H a xs → xs[i]? = some x, fun i H => n ≤ i ∧ ∃ xs : List V, SqT K H a xs ∧ xs.length = n⟩
theorem turn_enumT {P : Program} {w : World} {K : PySem.W.Frag} {elts : List Expr} {kk : Nat} {tpos : Pos} (a e it : Addr) (n : Nat) :
    Turn P w K (.Tuple elts kk tpos) (IteT K a n) [e, it] e (fun i h => (∃ old, PySem.IsEnum h e it ((i : Nat) : Int) old) ∧ h.IsTupleIter it a i ∧ i ≤ n ∧ e ≠ it ∧ a ≠ it ∧ a ≠ e) where
  mem := by simp
  obj := fun i h st b hb => by
    obtain ⟨⟨old, he⟩, ⟨o, ho, hc, hd⟩, _⟩ := st
    have e' : b = e ∨ b = it := by simpa using hb
    rcases e' with z | z
    · rw [z]; exact ⟨_, he, fun v q => nomatch q⟩
    · rw [z]; exact ⟨o, ho, fun v q => by rw [hd] at q; cases q⟩
  keep := fun i h h' st k => let ⟨⟨old, he⟩, hi, hne⟩ := st; ⟨⟨old, k e (by simp) _ he⟩, hi.at fun o q => k it (by simp) o q, hne⟩
  item := by
    intro X hP hw hK hc i pins s σ H E I hf st hg
    subst hP hw hK
    obtain ⟨⟨old, he⟩, hit, hin, hne, hai, hae⟩ := st
    obtain ⟨hi, xs, x, hq, hxl, hx⟩ := hg
    obtain ⟨its, rv, p, hz⟩ := I.tuple hq
    obtain ⟨u, hu, ru⟩ := rv.get hx
    have hel : e < s.heap.objs.size := Heap.lt_size he
    have hil : it < s.heap.objs.size := by obtain ⟨_, q, _⟩ := hit; exact Heap.lt_size q
    have hsz2 : its.toArray.size = n := by rw [List.size_toArray, ← rv.length, hxl]
    have hh1 : X.A.in1.handled = none := I.ok.hd hc
    refine PySem.wpAny_pyNext_enum_itemD (PySem.Draws.tuple hh1 it a hai its.toArray) he ⟨hit, show s.heap.IsTuple a its.toArray from p⟩ (by rw [hsz2]; exact hi) hne (by simp [hne, Ne.symm hae]) fun x' h' tk hP ho hst' hT hsz hk => ?_
    have hx' : x' = u := by
      have q1 : its.toArray[i]? = some x' := hP
      have q2 : its.toArray[i]? = some u := by simpa using hu
      rw [q2] at q1
      exact (Option.some.inj q1).symm
    subst hx'
    obtain ⟨hit', _⟩ := hst'
    refine ⟨_, rfl, PySem.wpAny_letOwnedTupleGo_enum (s := { s with heap := h', toks := tk + 1 }) ho fun h'' he' sb => ?_⟩
    have hT2 : h''.get? s.heap.objs.size = some { cls := .type "tuple", data := .seq #[.int i tk, x'] } := (sb.2 _ (Nat.ne_of_gt hel)).trans hT
    have new : ObjOk X.prog X.w (upd H s.heap.objs.size (.tup [.int (i : Nat), x])) h'' s.heap.objs.size (.tup [.int (i : Nat), x]) :=
      ⟨by show 2 ≤ sizeLine; decide, [.int i tk, x'], .cons ⟨_, rfl⟩ (.cons ru .nil), ⟨_, hT2, rfl, _, rfl⟩⟩
    have I1 : Inv X pins σ (upd H s.heap.objs.size (.tup [.int (i : Nat), x])) { s with heap := h'', toks := tk + 1 } :=
      I.turnedNew (ch := [e, it]) (fun b ob hb q => (sb.2 b (fun z => hb (by simp [z]))).trans (hk b ob (fun z => hb (by simp [z])) (fun z => hb (by simp [z])) q)) hf (Nat.le_refl _) new
    refine ⟨.ref s.heap.objs.size, _, I1, rfl, ⟨_, x, rfl, I.hok.fresh (Nat.le_refl _), rfl, fun ys hy => by rw [I.tuple_inj hy hq]; exact hx⟩, ⟨⟨x', ?_⟩, hit'.at fun o q => (sb.2 it (Ne.symm hne)).trans q, hi, hne, hai, hae⟩, fun b hb => ?_⟩
    · have e1 : ((i + 1 : Nat) : Int) = (i : Int) + 1 := by omega
      rw [e1]; exact he'
    · have hb' : b < s.heap.objs.size := by
        have e' : b = e ∨ b = it := by simpa using hb
        rcases e' with z | z
        · rw [z]; exact hel
        · rw [z]; exact hil
      rw [upd_ne (Nat.ne_of_lt hb')]
      exact (hf b hb).1
  done := by
    intro X hP hw hK hc i pins s σ H E I hf st hg
    subst hP hw hK
    obtain ⟨⟨old, he⟩, hit, hin, hne, hai, hae⟩ := st
    obtain ⟨hni, xs, hq, hxl⟩ := hg
    obtain ⟨its, rv, p, hz⟩ := I.tuple hq
    obtain ⟨f0, f1, f2, f3, f4, f5⟩ := hf it (by simp)
    have hh1 : X.A.in1.handled = none := I.ok.hd hc
    have hi : i = its.toArray.size := by rw [List.size_toArray, ← rv.length, hxl]; omega
    subst hi
    exact PySem.wpAny_pyNext_enum_endD (PySem.Draws.tuple hh1 it a hai its.toArray) he ⟨hit, show s.heap.IsTuple a its.toArray from p⟩ fun h' eb => ⟨rfl, I.turned (t' := s.toks) (fun b o hb q => eb b o hb q) f0 f1 f3 f4 f5⟩
  self := fun A i s Q E st h => let ⟨⟨_, he⟩, _⟩ := st; PySem.wpAny_pyIter_enum he h
section
variable {X : Cx} {W : WX} {pos : Pos}
def enumAt (xs : List D) (i : Nat) : Option D := xs[i]?.map fun x => .tup [.int (i : Nat), x]
def itEL (n cnt : Nat) : ItM := ⟨cnt, fun i S => match S[n]? with
  | some (.lst _ xs) => some (enumAt xs i)
  | _ => none⟩
def itET (xs : List D) : ItM := ⟨xs.length, fun i _ => some (enumAt xs i)⟩
theorem enum_step {ρ : List Addr} {H : Hp} {S : Sto} {xs : List D} {vs : List V} {i : Nat} {d : D} {x' : V} {T : Addr} (rs : RS X.K X.mg ρ H S) (rx : RVs X.K X.mg ρ H xs vs) (h : enumAt xs i = some d)
    (hT : H T = none) (hx : vs[i]? = some x') : Keep H (upd H T (.tup [.int (i : Nat), x'])) ∧ RS X.K X.mg ρ (upd H T (.tup [.int (i : Nat), x'])) S ∧ RV X.K X.mg ρ (upd H T (.tup [.int (i : Nat), x'])) d (.ref T) := by
  have kp : Keep H (upd H T (.tup [.int (i : Nat), x'])) := Keep.new hT
  refine ⟨kp, rs.new hT, ?_⟩
  unfold enumAt at h
  obtain ⟨x, e1, rfl⟩ := map_some h
  obtain ⟨v, ev, rv⟩ := rx.get e1
  rw [hx] at ev; cases ev
  exact ⟨T, [.int (i : Nat), x'], rfl, .inl (.inl upd_same), .int (i : Nat), [x'], rfl, rfl, x', [], rfl, rv.mono (Pre.refl _) kp, rfl⟩
theorem itEL_ok {ρ : List Addr} {H : Hp} {n cnt : Nat} {a : Addr} (pa : ρ[n]? = some a) : ItOk X.K X.mg ρ H (itEL n cnt) (Ite X.K a) := by
  intro i ρ' H' S p k rs
  show match (match S[n]? with
    | some (.lst _ xs) => some (enumAt xs i)
    | _ => none) with
    | none => True
    | some none => (Ite X.K a).stop i H'
    | some (some d) => (Ite X.K a).go i H' ∧ ∀ x H'', (Ite X.K a).yld i H' x H'' → Keep H' H'' ∧ RS X.K X.mg ρ' H'' S ∧ RV X.K X.mg ρ' H'' d x
  split
  · trivial
  · rename_i hh
    split at hh
    · rename_i e1
      obtain ⟨vs, hx, hv⟩ := rs.list (p _ _ pa) e1
      have h0 := Option.some.inj hh
      unfold enumAt at h0
      exact ⟨vs, hx, by rw [← hv.length]; exact List.getElem?_eq_none_iff.mp (Option.map_eq_none_iff.mp h0)⟩
    · cases hh
  · rename_i d hh
    split at hh
    · rename_i e1
      obtain ⟨vs, hx, hv⟩ := rs.list (p _ _ pa) e1
      have h0 := Option.some.inj hh
      obtain ⟨x, ex, _⟩ := map_some h0
      obtain ⟨v, ev, _⟩ := hv.get ex
      refine ⟨⟨vs, v, hx, ev⟩, fun u H'' ⟨T, x', eu, hT, eH, f1⟩ => ?_⟩
      subst eu; subst eH
      exact enum_step rs hv h0 hT (f1 vs hx)
    · cases hh
theorem itET_ok {ρ : List Addr} {H : Hp} {xs : List D} {vs : List V} {a : Addr} (hx : SqT X.K H a vs) (hv : RVs X.K X.mg ρ H xs vs) : ItOk X.K X.mg ρ H (itET xs) (IteT X.K a vs.length) := by
  intro i ρ' H' S p k rs
  have hx' := sqT_keep k hx
  have hv' := RVs.mono p k _ _ hv
  show match some (enumAt xs i) with
    | none => True
    | some none => (IteT X.K a vs.length).stop i H'
    | some (some d) => (IteT X.K a vs.length).go i H' ∧ ∀ x H'', (IteT X.K a vs.length).yld i H' x H'' → Keep H' H'' ∧ RS X.K X.mg ρ' H'' S ∧ RV X.K X.mg ρ' H'' d x
  cases h0 : enumAt xs i with
  | none =>
    unfold enumAt at h0
    exact ⟨by rw [← hv.length]; exact List.getElem?_eq_none_iff.mp (Option.map_eq_none_iff.mp h0), vs, hx', rfl⟩
  | some d =>
    obtain ⟨x, ex, _⟩ := map_some h0
    obtain ⟨v, ev, _⟩ := hv'.get ex
    refine ⟨⟨(List.getElem?_eq_some_iff.mp ev).1, vs, v, hx', rfl, ev⟩, fun u H'' ⟨T, x', eu, hT, eH, f1⟩ => ?_⟩
    subst eu; subst eH
    exact enum_step rs hv' h0 hT (f1 vs hx')
def iEnumM (m : MA) : Nv → Sto → Rs ItM := fun e S => (m e S).bind fun ds S1 => match ds with
  | [.loc n] => match S1[n]? with
    | some (.lst _ xs) => .ok (itEL n xs.length) S1
    | _ => .stuck
  | [.tup xs] => .ok (itET xs) S1
  | _ => .stuck
theorem mi_enum {e : Expr} {m : MA} {p pos tpos : Pos} {elts : List Expr} {kk : Nat} (hg : Gl X "enumerate") (hm : X.mg "enumerate" = none) (ha : PA X [e] (tMA X.K X.mg W m)) (hs : starEach [e] X.env = [(false, eval e X.env)] := by rfl) :
    PI X (.Tuple elts kk tpos) (.Call (.Name "enumerate" p) [e] [] pos) (tMI X.K X.mg W (iEnumM m)) := by
  refine ⟨fun pins s σ H R I ⟨ρ, en, S, re, rs, g⟩ => ?_⟩
  refine Call_ (ld_blt I hg hm boot_enumerate (PyProof.Rows.callWith_type1 (thn (ha.run pos pins s σ H (fun vs H' => (∃ a xs, vs = [.ref a] ∧ SqL X.K H' a xs ∧ R (Ite X.K a) H') ∨ ∃ a xs, vs = [.ref a] ∧ SqT X.K H' a xs ∧ R (IteT X.K a xs.length) H') I
    ⟨ρ, en, S, re, rs, GoodG.bind g fun ds S1 vs H1 ρ1 _ p1 k1 rs1 r1 g1 => ?_⟩) fun us s1 ⟨vs, H1, I1, r1, q1⟩ => ?_) hs rfl))
  · try dsimp only at g1
    split at g1
    · rename_i n
      obtain ⟨x, xs, rfl, rx, r0⟩ := r1
      cases r0
      obtain ⟨a, rfl, pa⟩ := rx
      split at g1
      · rename_i e1
        obtain ⟨vs, hx, hv⟩ := rs1.list pa e1
        exact .inl ⟨a, vs, rfl, hx, GoodG.ok g1 rs1 (itEL_ok pa)⟩
      · exact g1.elim
    · obtain ⟨x, xs, rfl, rx, r0⟩ := r1
      cases r0
      obtain ⟨a, vs, rfl, hx, hv⟩ := rx
      exact .inr ⟨a, vs, rfl, hx, GoodG.ok g1 rs1 (itET_ok hx hv)⟩
    · exact g1.elim
  · rcases q1 with ⟨a, xs, ex, hq, q⟩ | ⟨a, xs, ex, hq, q⟩
    · subst ex
      cases r1 with
      | cons r rr =>
        cases rr
        cases r
        obtain ⟨its, rv, p', hz⟩ := I1.list hq
        refine call_enumerate_list p'.isList fun h' he hit hsz hk => wpAny_pyIter_enum he ?_
        have I2 : Inv X pins σ H1 { s1 with heap := h' } := I1.kept (t' := s1.toks) hk
        refine ⟨s1.heap.objs.size + 1, [s1.heap.objs.size + 1, s1.heap.objs.size], _, _, H1, rfl, I2, turn_enum a (s1.heap.objs.size + 1) s1.heap.objs.size, ⟨⟨.none, he⟩, hit, Nat.succ_ne_self _⟩, fun b hb => ?_, q⟩
        have e' : b = s1.heap.objs.size + 1 ∨ b = s1.heap.objs.size := by simpa using hb
        have hle : s1.heap.objs.size ≤ b := by
          rcases e' with z | z
          · rw [z]; exact Nat.le_add_right _ _
          · rw [z]; exact Nat.le_refl _
        exact I1.fpOk hle (I1.hok.fresh hle)
    · subst ex
      cases r1 with
      | cons r rr =>
        cases rr
        cases r
        obtain ⟨its, rv, p', hz⟩ := I1.tuple hq
        have hT : s1.heap.IsTuple a its.toArray := p'
        have hal : a < s1.heap.objs.size := by obtain ⟨_, q, _⟩ := hT; exact Heap.lt_size q
        refine call_enum1 (PySem.begins_tuple a its.toArray) hT fun h' he hit hsz hk => wpAny_pyIter_enum he ?_
        have I2 : Inv X pins σ H1 { s1 with heap := h' } := I1.kept (t' := s1.toks) hk
        refine ⟨s1.heap.objs.size + 1, [s1.heap.objs.size + 1, s1.heap.objs.size], _, _, H1, rfl, I2, turn_enumT a (s1.heap.objs.size + 1) s1.heap.objs.size xs.length, ⟨⟨.none, he⟩, ⟨_, hit, rfl, rfl⟩, Nat.zero_le _, Nat.succ_ne_self _, Nat.ne_of_lt hal, Nat.ne_of_lt (Nat.lt_succ_of_lt hal)⟩, fun b hb => ?_, q⟩
        have e' : b = s1.heap.objs.size + 1 ∨ b = s1.heap.objs.size := by simpa using hb
        have hle : s1.heap.objs.size ≤ b := by
          rcases e' with z | z
          · rw [z]; exact Nat.le_add_right _ _
          · rw [z]; exact Nat.le_refl _
        exact I1.fpOk hle (I1.hok.fresh hle)
end
end M2
end

section
set_option Elab.async false
set_option linter.all false
set_option maxRecDepth 100000
set_option maxHeartbeats 4000000
/-! M2: what the printed texts need of errors. -/
namespace M2
open PySem PySem.Spec PyProof.Rows L2
set_option autoImplicit false
theorem clC_nil {mg : Str → Option Value} : ∀ c ∈ ([] : List Cl), ∃ X', mg c.x = some (.ref X') := fun _ h => nomatch h
theorem clC_cons {mg : Str → Option Value} {x : Str} {o : Option Nat} {h : Str → Flds → MS} {l : List Cl} (hx : ∃ X', mg x = some (.ref X')) (hl : ∀ c ∈ l, ∃ X', mg c.x = some (.ref X')) : ∀ c ∈ (⟨x, o, h⟩ :: l : List Cl), ∃ X', mg c.x = some (.ref X') := fun c m => by
  rcases List.mem_cons.mp m with z | z
  · subst z; exact hx
  · exact hl c z
/-- a field of each of these classes -/
abbrev FldC (K : PySem.W.Frag) (mg : Str → Option Value) (f : Str) (l : List Str) : Prop := ∀ cn ∈ l, ∃ C, mg cn = some (.ref C) ∧ XfC K C ∧ PySem.W.findIn K (.ref C) f = some none
theorem fldC_nil {K : PySem.W.Frag} {mg : Str → Option Value} {f : Str} : FldC K mg f [] := fun _ h => nomatch h
theorem fldC_cons {P : Program} {K : PySem.W.Frag} {mg : Str → Option Value} {f x qual slf : Str} {st : Stmt} {fl l : List Str} (E : ErrF P K mg x qual st slf fl) (h : f ∈ fl) (r : FldC K mg f l) : FldC K mg f (x :: l) := fun cn m => by
  rcases List.mem_cons.mp m with z | z
  · subst z
    obtain ⟨C, fI, cc, c, doc, pm, ctv, oc, od, osl, hm, _, _, _, _, _, _, noF, xf⟩ := E.ex
    exact ⟨C, hm, xf, noF f h⟩
  · exact r cn z
def SubAll (K : PySem.W.Frag) (mg : Str → Option Value) : List ((Str × Str) × Bool) → Prop
  | [] => True
  | p :: r => (∃ C X', mg p.1.1 = some (.ref C) ∧ mg p.1.2 = some (.ref X') ∧ PySem.W.exmOne K (.ref C) (.ref X') = some p.2) ∧ SubAll K mg r
theorem SubAll.ok {K : PySem.W.Frag} {mg : Str → Option Value} {l : List ((Str × Str) × Bool)} (h : SubAll K mg l) : SubOk K mg (subL l) := by
  refine subOk_of ?_
  induction l with
  | nil => exact fun _ h => nomatch h
  | cons p r ih =>
    intro q hq
    rcases List.mem_cons.mp hq with z | z
    · subst z; exact h.1
    · exact ih h.2 q z
theorem sub_mk {K : PySem.W.Frag} {mg : Str → Option Value} {h : Heap} {c x : Str} {b : Bool} {C X' : Addr} {cd : ClassData} (KX : K.In h) (G : h.Ns mainGlobals mg) (a1 : PySem.W.nsIn K mainGlobals c = some (some (.ref C))) (a2 : PySem.W.nsIn K mainGlobals x = some (some (.ref X')))
    (a3 : PySem.W.subIn K (.ref X') (.type "BaseException") = some true) (a4 : PySem.W.clsIn K X' = some cd) (a5 : PySem.W.typeIn K (.ref X') = some (.type "type")) (a6 : PySem.W.subIn K (.ref C) (.ref X') = some b) :
    ∃ C X', mg c = some (.ref C) ∧ mg x = some (.ref X') ∧ PySem.W.exmOne K (.ref C) (.ref X') = some b := by
  refine ⟨C, X', PySem.W.mg_of KX G a1, PySem.W.mg_of KX G a2, ?_⟩
  unfold PySem.W.exmOne PySem.W.kitCls
  rw [if_pos (by rw [a3]; rfl)]
  show (if ((PySem.W.clsIn K X').isSome && PySem.W.typeIn K (.ref X') == some (.type "type")) = true then PySem.W.subIn K (.ref C) (.ref X') else none) = some b
  rw [if_pos (by rw [a4, a5]; rfl), a6]
theorem cls_mk {K : PySem.W.Frag} {mg : Str → Option Value} {h : Heap} {x : Str} {X' : Addr} (KX : K.In h) (G : h.Ns mainGlobals mg) (a : PySem.W.nsIn K mainGlobals x = some (some (.ref X'))) : ∃ X', mg x = some (.ref X') := ⟨X', PySem.W.mg_of KX G a⟩
end M2
end

section
set_option Elab.async false
set_option linter.all false
set_option maxRecDepth 100000
set_option maxHeartbeats 4000000
/-! M28: list(range(..)), tuple(range(..)), int of a text, str of a text. -/
namespace M2
open PySem PySem.Spec PyProof.Rows L2
set_option autoImplicit false
def rgD (a b : Int) : List D := (List.range (b - a).toNat).map fun i => D.int (a + (i : Nat))
def rgOk (a b : Int) : Bool := decide (-4611686018427387904 ≤ a) && decide (a < 4611686018427387904) && decide (-4611686018427387904 ≤ b) && decide (b < 4611686018427387904) && decide ((b - a).toNat ≤ 16777216)
theorem rgOk_ok {a b : Int} (h : rgOk a b = true) : L2.RgOk a b := by
  unfold rgOk at h
  simp only [Bool.and_eq_true, decide_eq_true_eq] at h
  obtain ⟨⟨⟨⟨h1, h2⟩, h3⟩, h4⟩, h5⟩ := h
  exact ⟨by simpa using h1, by simpa using h2, by simpa using h3, by simpa using h4, by simpa using h5⟩
/-- the bounds of a range -/
def mRg1 (ma : MV) : Nv → Sto → Rs (Int × Int) := fun e S => (ma e S).bind fun x S1 => match x with
  | .int n => .ok (0, n) S1
  | _ => .stuck
def mRg2 (ma mb : MV) : Nv → Sto → Rs (Int × Int) := fun e S => (ma e S).bind fun x S1 => (mb e S1).bind fun y S2 => match x, y with
  | .int i, .int j => .ok (i, j) S2
  | _, _ => .stuck
def mLrg (mr : Nv → Sto → Rs (Int × Int)) : MV := fun e S => (mr e S).bind fun p S1 => if rgOk p.1 p.2 = true then .ok (.loc S1.length) (S1 ++ [.lst true (rgD p.1 p.2)]) else .stuck
def mTrg (mr : Nv → Sto → Rs (Int × Int)) : MV := fun e S => (mr e S).bind fun p S1 => if rgOk p.1 p.2 = true then .ok (.tup (rgD p.1 p.2)) S1 else .stuck
section
variable {X : Cx} {W : WX} {a b e : Expr} {ma mb : MV} {mr : Nv → Sto → Rs (Int × Int)} {p pos : Pos}
def rgRel : List Addr → Hp → (Int × Int) → (Int × Int) → Prop := eqR
def tMR (m : Nv → Sto → Rs (Int × Int)) : St → Hp → (Int → Int → Hp → Prop) → Prop := fun σ H Q => tMG X.K X.mg W rgRel m σ H fun p H1 => Q p.1 p.2 H1
theorem PRg.imp {t t' : St → Hp → (Int → Int → Hp → Prop) → Prop} (h : PRg X e t) (k : ∀ σ H Q, t' σ H Q → t σ H Q) : PRg X e t' := fun pins s σ H Q I q => h pins s σ H Q I (k _ _ _ q)
theorem mrg_1 (hg : Gl X "range") (hm : X.mg "range" = none) (ha : PE X a (tM X.K X.mg W ma)) (na : starEach [a] X.env = (false, eval a X.env) :: starEach [] X.env := by rfl) : PRg X (.Call (.Name "range" p) [a] [] pos) (tMR (X := X) (W := W) (mRg1 ma)) :=
  PRg.imp (prg_1 hg hm ha na) fun σ H Q ⟨ρ, e, S, re, rs, g⟩ => ⟨ρ, e, S, re, rs, GoodG.bind g fun d S1 x H1 ρ1 _ p1 k1 rs1 r1 g1 => by
    try dsimp only at g1
    split at g1
    · cases r1
      exact ⟨_, rfl, GoodG.ok (rel := rgRel) (v := (0, _)) g1 rs1 rfl⟩
    · exact g1.elim⟩
theorem mrg_2 (hg : Gl X "range") (hm : X.mg "range" = none) (ha : PE X a (tM X.K X.mg W ma)) (hb : PE X b (tM X.K X.mg W mb)) (na : starEach [a, b] X.env = (false, eval a X.env) :: starEach [b] X.env := by rfl)
    (nb : starEach [b] X.env = (false, eval b X.env) :: starEach [] X.env := by rfl) (hp : (backTo pos (starEach [b] X.env)).any (·.1) = false := by rfl) : PRg X (.Call (.Name "range" p) [a, b] [] pos) (tMR (X := X) (W := W) (mRg2 ma mb)) :=
  PRg.imp (prg_2 hg hm ha hb na nb hp) fun σ H Q ⟨ρ, e, S, re, rs, g⟩ => ⟨ρ, e, S, re, rs, GoodG.bind g fun d S1 x H1 ρ1 _ p1 k1 rs1 r1 g1 => ⟨ρ1, e, S1, re.mono p1 k1, rs1, GoodG.bind g1 fun d2 S2 y H2 ρ2 _ p2 k2 rs2 r2 g2 => by
    try dsimp only at g2
    split at g2
    · cases r1; cases r2
      exact ⟨_, _, rfl, rfl, GoodG.ok (rel := rgRel) (v := (_, _)) g2 rs2 rfl⟩
    · exact g2.elim⟩⟩
theorem rgD_V {ρ : List Addr} {H : Hp} (a b : Int) : RVs X.K X.mg ρ H (rgD a b) (rgV a b) := by
  unfold rgD rgV
  generalize List.range (b - a).toNat = l
  induction l with
  | nil => exact rfl
  | cons i r ih => exact ⟨_, _, rfl, rfl, ih⟩
theorem me_listRg {p2 pos2 : Pos} (hc : X.calm = true) (hg : Gl X "list") (hm : X.mg "list" = none) (he : PRg X e (tMR (X := X) (W := W) mr)) (na : starEach [e] X.env = (false, eval e X.env) :: starEach [] X.env := by rfl) : PE X (.Call (.Name "list" p2) [e] [] pos2) (tM X.K X.mg W (mLrg mr)) :=
  PE.imp (pe_listRg hc hg hm he na) fun σ H Q ⟨ρ, e, S, re, rs, g⟩ => ⟨ρ, e, S, re, rs, GoodG.bind g fun d S1 x H1 ρ1 _ p1 k1 rs1 r1 g1 => by
    cases r1
    try dsimp only at g1
    split at g1
    · rename_i hk
      exact ⟨rgOk_ok hk, fun q hq => Fin.lnew (fun v H' ρ' p k s r => g1 v H' ρ' p k s r) rs1 (rgD_V _ _) hq⟩
    · exact g1.elim⟩
theorem me_tupRg {p2 pos2 : Pos} (hc : X.calm = true) (hg : Gl X "tuple") (hm : X.mg "tuple" = none) (he : PRg X e (tMR (X := X) (W := W) mr)) (na : starEach [e] X.env = (false, eval e X.env) :: starEach [] X.env := by rfl) : PE X (.Call (.Name "tuple" p2) [e] [] pos2) (tM X.K X.mg W (mTrg mr)) :=
  PE.imp (pe_tupRg hc hg hm he na) fun σ H Q ⟨ρ, e, S, re, rs, g⟩ => ⟨ρ, e, S, re, rs, GoodG.bind g fun d S1 x H1 ρ1 _ p1 k1 rs1 r1 g1 => by
    cases r1
    try dsimp only at g1
    split at g1
    · rename_i hk
      exact ⟨rgOk_ok hk, fun q hq => Fin.tnew (fun v H' ρ' p k s r => g1 v H' ρ' p k s r) rs1 (rgD_V _ _) hq⟩
    · exact g1.elim⟩
/-- int of an integer, True, False or a text of digits -/
def oIntA : OpL := fun ds S => match ds with
  | [.int i] => some (.int i, S)
  | [.bl k] => some (.int (if k then 1 else 0), S)
  | [.str a] => if a.length ≤ 640 then (PySem.intText? a).map fun n => (.int n, S) else none
  | _ => none
theorem cm_intA : CallR X (.type "int") (rML X.K X.mg oIntA) := by
  intro pins s σ H xs us Q I r ⟨ρ, S, ds, d3, S3, rs, rv, e, q⟩
  unfold oIntA at e
  split at e
  · exact cm_int pins s σ H xs us Q I r ⟨ρ, S, _, d3, S3, rs, rv, e, q⟩
  · exact cm_int pins s σ H xs us Q I r ⟨ρ, S, _, d3, S3, rs, rv, e, q⟩
  · obtain ⟨x, ys, rfl, r1, r0⟩ := rv
    cases r1; cases r0
    split at e
    · rename_i hl
      obtain ⟨n, hn, e'⟩ := Option.map_eq_some_iff.mp e
      cases e'
      exact call_int_str pins s σ H _ us Q I r ⟨_, _, rfl, hn, hl, q.now rs rfl⟩
    · cases e
  · cases e
/-- str of an integer or a text -/
def oStrA : OpL := fun ds S => match ds with
  | [.int i] => if i.natAbs.log2 < 1920 then some (.str (toString i), S) else none
  | [.str x] => some (.str x, S)
  | _ => none
theorem cm_strA : CallR X (.type "str") (rML X.K X.mg oStrA) := by
  intro pins s σ H xs us Q I r ⟨ρ, S, ds, d3, S3, rs, rv, e, q⟩
  unfold oStrA at e
  split at e
  · exact cm_str pins s σ H xs us Q I r ⟨ρ, S, _, d3, S3, rs, rv, e, q⟩
  · obtain ⟨x, ys, rfl, r1, r0⟩ := rv
    cases r1; cases r0; cases e
    exact SkE.call_str_str pins s σ H _ us Q I r ⟨_, rfl, q.now rs rfl⟩
  · cases e
end
end M2
end

section
set_option Elab.async false
set_option linter.all false
set_option maxRecDepth 100000
set_option maxHeartbeats 4000000
/-! M29: a module's dict, subscripted. -/
namespace M2
open PySem PySem.Spec PyProof.Rows L2
set_option autoImplicit false
theorem ix_kd {X : Cx} {d : Addr} {es : Array DictEntry} {n : Nat} (D : KDict X.K X.w d es n) : IxR X (fun x y H Q => ∃ (z : Str) (u0 : Value) (v0 : V), x = .ref d ∧ y = .str z ∧ PySem.W.nsIn X.K d z = some (some u0) ∧ RelV v0 u0 ∧ Q v0 H) := by
  intro value slice pins s σ H x y v u Q I rx ry h hs
  have h' := h
  obtain ⟨z, u0, v0, rfl, rfl, e, r, q⟩ := h
  cases rx
  exact tail_any (kd_type D I) slot_dict_getitem.lookup (op_item_kd D pins s σ H (.ref d) (.str z) _ u Q I rfl ry h') hs
def mKix (tb : List (Str × D)) (ma : MV) : MV := fun e S => (ma e S).bind fun d S1 => match d with
  | .str z => match getT tb z with
    | some d => .ok d S1
    | none => .stuck
  | _ => .stuck
theorem isStr_of : ∀ (v : Value) (z : Str), v.isStr z = Value.isStrOf z v := by
  intro v z
  cases v <;> rfl
theorem me_kix {X : Cx} {W : WX} {e : Expr} {ma : MV} {p pos : Pos} {x : Str} {tb : List (Str × D)} (T : KTab X.K X.w X.mg x tb) (hg : Gl X x) (he : PE X e (tM X.K X.mg W ma)) (hdb : (x == ("__debug__" : Str)) = false := by decide) (hs : PlainIx e := by exact fun _ _ => rfl) :
    PE X (.Subscript (.Name x p) e pos) (tM X.K X.mg W (mKix tb ma)) := by
  obtain ⟨dd, es, n, hm, D, hE⟩ := T.ex
  refine PE.imp (pe_ix (ix_kd D) (pe_glob (v := .ref dd) hg hm rfl hdb) he hs) fun σ H Q ⟨ρ, e, S, re, rs, g⟩ => ?_
  refine ⟨ρ, e, S, re, rs, GoodG.bind g fun d S1 v H1 ρ1 _ p1 k1 rs1 r1 g1 => ?_⟩
  try dsimp only at g1
  split at g1
  · rename_i z _
    split at g1
    · rename_i d' hd
      cases r1
      have hz := kent_get z hE
      rw [hd] at hz
      obtain ⟨u, v, e1, rv, hr⟩ := hz
      refine ⟨z, u, v, rfl, rfl, ?_, rv, GoodG.ok g1 rs1 (hr ρ1 H1)⟩
      unfold PySem.W.nsIn
      rw [D.at_]
      have e2 : es.toList.find? (fun e => e.key.isStr z) = es.toList.find? fun e => Value.isStrOf z e.key := by
        congr 1; funext e; exact isStr_of _ _
      show (match es.toList.find? (fun e => e.key.isStr z) with
        | some e => some (some e.val)
        | none => _) = _
      rw [e2]
      obtain ⟨en, h1, h2⟩ := Option.map_eq_some_iff.mp e1
      rw [h1]
      exact congrArg (fun z => some (some z)) h2
    · exact g1.elim
  · exact g1.elim
end M2
end

section
set_option Elab.async false
set_option linter.all false
set_option maxRecDepth 100000
/-! P0: plain lemmas on the functions that all laws share. -/
namespace P0
open PySem PySem.Spec M2
set_option autoImplicit false
abbrev d_draw : MF := mDef 3 2 (sSeq (sAsg (mBin oIx (mVar 0) (mC (.int 1))) (tgN 2)) (sSeq (sPut (mBin oAdd (mVar 2) (mC (.int 1))) (mVar 0) (mC (.int 1))) (sSeq (sIf (tBl (mBin oLt (mVar 2) (mL oLen (aCons (mBin oIx (mVar 0) (mC (.int 0))) aNil)))) (sRet (mBin oMod (mL oInt (aCons (mBin oIx (mBin oIx (mVar 0) (mC (.int 0))) (mVar 2)) aNil)) (mVar 1))) sNx) (sRet (mBin oMod (mL oInt (aCons (mBin oMul (mVar 2) (mC (.int 7))) aNil)) (mVar 1))))))
def drawV (ds : List Int) (k : Nat) (many : Int) : Int := (match ds[k]? with
  | some d => d
  | none => (k : Int) * 7) % many
theorem ixN_nat {n k : Nat} (h : k < n) : L2.ixN n (k : Int) = some k := by
  unfold L2.ixN
  rw [if_pos (Int.natCast_nonneg k), if_pos (by omega)]
  rfl

/-! ### operators at known places -/
theorem ix_lst {S : Sto} {n k : Nat} {w : Bool} {ds : List D} {d : D} (h : S[n]? = some (.lst w ds)) (hd : ds[k]? = some d) : oIx (.loc n) (.int (k : Int)) S = some (d, S) := by
  have hk : k < ds.length := (List.getElem?_eq_some_iff.mp hd).1
  unfold oIx
  simp only [h, L2.atI, ixN_nat hk, Option.bind_some, hd, Option.map_some]
theorem put_lst {S : Sto} {n k : Nat} {ds : List D} {d : D} (h : S[n]? = some (.lst true ds)) (hk : k < ds.length) : oPut (.loc n) (.int (k : Int)) d S = some (S.set n (.lst true (ds.set k d))) := by
  unfold oPut
  simp only [h, ixN_nat hk, Option.map_some]
theorem len_lst {S : Sto} {n : Nat} {w : Bool} {ds : List D} (h : S[n]? = some (.lst w ds)) : oLen [.loc n] S = some (.int ds.length, S) := by
  unfold oLen itemsOf
  simp only [h, Option.map_some]
theorem mul_ii {S : Sto} {i j : Int} (h : i.natAbs.log2 + j.natAbs.log2 < 4000000) : oMul (.int i) (.int j) S = some (.int (i * j), S) := by
  show (if i.natAbs.log2 + j.natAbs.log2 < 4000000 then some (D.int (i * j), S) else none) = _
  rw [if_pos h]
theorem log2_le {k n : Nat} (h : k < 2 ^ n) : k.log2 ≤ n := by
  by_cases h0 : k = 0
  · rw [h0]; exact Nat.zero_le _
  · exact Nat.le_of_lt ((Nat.log2_lt h0).mpr h)
theorem int_i {S : Sto} {i : Int} : oInt [.int i] S = some (.int i, S) := rfl
theorem add_ii {S : Sto} {i j : Int} : oAdd (.int i) (.int j) S = some (.int (i + j), S) := rfl
theorem sub_ii {S : Sto} {i j : Int} : oSub (.int i) (.int j) S = some (.int (i - j), S) := rfl
theorem lt_ii {S : Sto} {i j : Int} : oLt (.int i) (.int j) S = some (.bl (decide (i < j)), S) := rfl
theorem gt_ii {S : Sto} {i j : Int} : oGt (.int i) (.int j) S = some (.bl (decide (j < i)), S) := rfl
theorem ge_ii {S : Sto} {i j : Int} : oGe (.int i) (.int j) S = some (.bl (decide (j ≤ i)), S) := rfl
theorem le_ii {S : Sto} {i j : Int} : oLe (.int i) (.int j) S = some (.bl (decide (i ≤ j)), S) := rfl
theorem draw_eq {S : Sto} {b dl k : Nat} {ds : List Int} {many : Int} (hb : S[b]? = some (.lst true [.loc dl, .int k])) (hd : S[dl]? = some (.lst true (ds.map .int))) (hne : dl ≠ b) (hk : k < 2 ^ 200) (hm : 0 < many) :
    d_draw [.loc b, .int many] S = .ok (.int (drawV ds k many)) (S.set b (.lst true [.loc dl, .int (k + 1 : Nat)])) := by
  have hbl : b < S.length := (List.getElem?_eq_some_iff.mp hb).1
  have f1 : oIx (.loc b) (.int 1) S = some (.int k, S) := ix_lst (k := 1) hb rfl
  have f2 : oPut (.loc b) (.int 1) (.int (k + 1 : Nat)) S = some (S.set b (.lst true [.loc dl, .int (k + 1 : Nat)])) := put_lst (k := 1) hb (by simp)
  generalize hS' : S.set b (.lst true [.loc dl, .int (k + 1 : Nat)]) = S' at f2 ⊢
  have hb' : S'[b]? = some (.lst true [.loc dl, .int (k + 1 : Nat)]) := by rw [← hS', List.getElem?_set_self hbl]
  have hd' : S'[dl]? = some (.lst true (ds.map .int)) := by rw [← hS', List.getElem?_set_ne (Ne.symm hne), hd]
  have f3 : oIx (.loc b) (.int 0) S' = some (.loc dl, S') := ix_lst (k := 0) hb' rfl
  have f4 : oLen [.loc dl] S' = some (.int ds.length, S') := by rw [len_lst hd', List.length_map]
  have f0 : oAdd (.int (k : Int)) (.int 1) S = some (.int ((k + 1 : Nat) : Int), S) := rfl
  have f5 : oLt (.int (k : Int)) (.int (ds.length : Int)) S' = some (.bl (decide ((k : Int) < ds.length)), S') := rfl
  have f6 : ∀ i : Int, oInt [.int i] S' = some (.int i, S') := fun _ => rfl
  have f7 : ∀ i : Int, oMod (.int i) (.int many) S' = some (.int (i % many), S') := fun i => by unfold oMod; simp only [if_pos hm]
  unfold d_draw
  by_cases hlt : k < ds.length
  · have e1 : ds[k]? = some ds[k] := List.getElem?_eq_getElem hlt
    have f8 : oIx (.loc dl) (.int (k : Int)) S' = some (.int ds[k], S') := ix_lst hd' (by rw [List.getElem?_map, e1]; rfl)
    have hv : drawV ds k many = ds[k] % many := by unfold drawV; rw [e1]
    have hdec : decide ((k : Int) < (ds.length : Int)) = true := decide_eq_true (by omega)
    simp only [mDef, sRet, sSeq, sIf, sExpr, sAsg, sNx, sBk, sCt, sPut, tgN, mBin, mUn, mMeth, mL, mM, mC, mVar, aNil, aCons, mTup, mLst, mIf, mSl, mChain, mAnd2, mOr2, mNot, tBl, tVal, tAnd2, tOr2, tNot2, startE, Rs.bind, Rs.bindS, lift, mCall, mCallC, mCall0, Rs.cold, List.length_cons, List.length_nil, List.map_cons, List.map_nil, List.replicate, List.append_eq, List.cons_append, List.nil_append, List.getElem?_cons_zero, List.getElem?_cons_succ, List.getElem?_nil, List.set_cons_zero, List.set_cons_succ, Nat.sub_self, Nat.reduceSub, Nat.reduceAdd, if_true, if_false, decide_true, decide_false, Option.map_some, Option.map_none, ite_true, ite_false, reduceIte, beq_self_eq_true, Bool.false_eq_true, Nat.zero_add, int_i, add_ii, sub_ii, lt_ii, gt_ii, ge_ii, le_ii, f1, f0, f2, f3, f4, f5, hdec, f8, f6, f7, hv]
  · have e1 : ds[k]? = none := List.getElem?_eq_none_iff.mpr (by omega)
    have hv : drawV ds k many = ((k : Int) * 7) % many := by unfold drawV; rw [e1]
    have hdec : decide ((k : Int) < (ds.length : Int)) = false := decide_eq_false (by omega)
    have f8 : oMul (.int (k : Int)) (.int 7) S' = some (.int ((k : Int) * 7), S') := by
      refine mul_ii ?_
      have h1 := log2_le hk
      have h2 : (Int.natAbs 7).log2 = 2 := by decide
      rw [Int.natAbs_natCast]
      omega
    simp only [mDef, sRet, sSeq, sIf, sExpr, sAsg, sNx, sBk, sCt, sPut, tgN, mBin, mUn, mMeth, mL, mM, mC, mVar, aNil, aCons, mTup, mLst, mIf, mSl, mChain, mAnd2, mOr2, mNot, tBl, tVal, tAnd2, tOr2, tNot2, startE, Rs.bind, Rs.bindS, lift, mCall, mCallC, mCall0, Rs.cold, List.length_cons, List.length_nil, List.map_cons, List.map_nil, List.replicate, List.append_eq, List.cons_append, List.nil_append, List.getElem?_cons_zero, List.getElem?_cons_succ, List.getElem?_nil, List.set_cons_zero, List.set_cons_succ, Nat.sub_self, Nat.reduceSub, Nat.reduceAdd, if_true, if_false, decide_true, decide_false, Option.map_some, Option.map_none, ite_true, ite_false, reduceIte, beq_self_eq_true, Bool.false_eq_true, Nat.zero_add, int_i, add_ii, sub_ii, lt_ii, gt_ii, ge_ii, le_ii, f1, f0, f2, f3, f4, f5, hdec, f8, f6, f7, hv]

/-! ### loops over a range -/
theorem loop_r {lo : Int} {n j : Nat} {body : MS} {Post : SRes → Prop} (I : Nat → Nv → Sto → Prop)
    (hs : ∀ (i : Nat) (e : Nv) (S : Sto), i < n → I i e S → match body (e.set j (some (.int (lo + i)))) S with
      | .nx e2 S2 => I (i + 1) e2 S2
      | .ct e2 S2 => I (i + 1) e2 S2
      | .bk e2 S2 => Post (.nx e2 S2)
      | r => Post r) (he : ∀ e S, I n e S → Post (.nx e S)) (e : Nv) (S : Sto) (h0 : I 0 e S) : Post (loopM (itR lo 1 n) (tgN j) body n 0 e S) := by
  have key : ∀ (m i : Nat) (e : Nv) (S : Sto), i + m = n → I i e S → Post (loopM (itR lo 1 n) (tgN j) body m i e S) := by
    intro m
    induction m with
    | zero =>
      intro i e S hi h
      have e1 : i = n := by omega
      subst e1
      unfold loopM itR
      simp only [Nat.lt_irrefl, if_false]
      exact he e S h
    | succ m ih =>
      intro i e S hi h
      have hlt : i < n := by omega
      have q := hs i e S hlt h
      unfold loopM
      have e1 : (itR lo 1 n).at_ i S = some (some (.int (lo + i))) := by
        show (if i < n then some (some (D.int (lo + (i : Int) * 1))) else some none) = _
        rw [if_pos hlt, Int.mul_one]
      simp only [e1, tgN]
      cases hb : body (e.set j (some (.int (lo + i)))) S with
      | nx e2 S2 => rw [hb] at q; exact ih (i + 1) e2 S2 (by omega) q
      | ct e2 S2 => rw [hb] at q; exact ih (i + 1) e2 S2 (by omega) q
      | bk e2 S2 => rw [hb] at q; exact q
      | rt d S2 => rw [hb] at q; exact q
      | exc c fs e2 S2 => rw [hb] at q; exact q
      | stuck => rw [hb] at q; exact q
  exact key n 0 e S (by omega) h0
/-- the store with a new list of numbers at its end -/
def SD (S0 : Sto) (ds : List Int) : Sto := S0 ++ [.lst true (ds.map .int)]
theorem SD_get (S0 : Sto) (ds : List Int) : (SD S0 ds)[S0.length]? = some (.lst true (ds.map .int)) := by unfold SD; simp
theorem SD_set (S0 : Sto) (ds es : List Int) : (SD S0 ds).set S0.length (.lst true (es.map .int)) = SD S0 es := by unfold SD; simp
theorem SD_old {S0 : Sto} {ds : List Int} {n : Nat} {o : SO} (h : S0[n]? = some o) : (SD S0 ds)[n]? = some o := by
  unfold SD
  rw [List.getElem?_append_left (List.getElem?_eq_some_iff.mp h).1]
  exact h
theorem append_SD {S0 : Sto} {ds : List Int} {d : Int} (h : ds.length < 100000) : oAppend (.loc S0.length) [.int d] (SD S0 ds) = some (.non, SD S0 (ds ++ [d])) := by
  unfold oAppend
  simp only [SD_get]
  have hz : (ds.map D.int).length < sizeLine := by rw [List.length_map, sizeLine_eq]; omega
  rw [if_pos hz, ← SD_set S0 ds (ds ++ [d]), List.map_append]
  rfl
theorem rcv_SD {S0 : Sto} {ds : List Int} : rcvD (SD S0 ds) (.loc S0.length) "list" = true := by
  unfold rcvD
  simp only [SD_get]
  rfl
theorem len_SD {S0 : Sto} {ds : List Int} : oLen [.loc S0.length] (SD S0 ds) = some (.int ds.length, SD S0 ds) := by rw [len_lst (SD_get S0 ds), List.length_map]
theorem mod_ii {S : Sto} {i j : Int} (h : 0 < j) : oMod (.int i) (.int j) S = some (.int (i % j), S) := by unfold oMod; simp only [if_pos h]
theorem fdiv_ii {S : Sto} {i j : Int} (h : 0 < j) (h2 : j < 10 ^ 30) : oFdiv (.int i) (.int j) S = some (.int (i / j), S) := by
  show (if 0 < j ∧ j.natAbs.log2 < 9000 then some (D.int (i / j), S) else none) = _
  have h3 : j.natAbs < 2 ^ 200 := by
    have e : (10 : Int) ^ 30 = 1000000000000000000000000000000 := by decide
    have e2 : (1000000000000000000000000000000 : Nat) ≤ 2 ^ 100 := by decide
    have e3 : (2 : Nat) ^ 100 ≤ 2 ^ 200 := Nat.pow_le_pow_right (by decide) (by decide)
    omega
  have := log2_le h3
  rw [if_pos ⟨h, by omega⟩]
theorem mul_small {S : Sto} {i j : Int} (h1 : i.natAbs < 2 ^ 200) (h2 : j.natAbs < 2 ^ 200) : oMul (.int i) (.int j) S = some (.int (i * j), S) := mul_ii (by have := log2_le h1; have := log2_le h2; omega)
theorem ten18 {S : Sto} : oPow (.int 10) (.int 18) S = some (.int 1000000000000000000, S) := by rfl
abbrev bA : MS := (sIf (tBl (mBin oGt (mVar 5) (mC (.int 0)))) (sSeq (sExpr (mMeth "list" oAppend (mVar 3) (aCons (mBin oMod (mL oInt (aCons (mVar 5) aNil)) (mC (.int 1000))) aNil))) (sAsg (mBin oFdiv (mVar 5) (mC (.int 1000))) (tgN 5))) sNx)
theorem bA_eq {S0 : Sto} {ds : List Int} {c : Int} {x0 x1 x2 x4 x6 x7 : Option D} (h : ds.length < 100000) :
    bA [x0, x1, x2, some (.loc S0.length), x4, some (.int c), x6, x7] (SD S0 ds) = if 0 < c then .nx [x0, x1, x2, some (.loc S0.length), x4, some (.int (c / 1000)), x6, x7] (SD S0 (ds ++ [c % 1000]))
      else .nx [x0, x1, x2, some (.loc S0.length), x4, some (.int c), x6, x7] (SD S0 ds) := by
  unfold bA
  by_cases hc : 0 < c
  · simp only [mDef, sRet, sSeq, sIf, sExpr, sAsg, sNx, sBk, sCt, sPut, tgN, mBin, mUn, mMeth, mL, mM, mC, mVar, aNil, aCons, mTup, mLst, mIf, mSl, mChain, mAnd2, mOr2, mNot, tBl, tVal, tAnd2, tOr2, tNot2, startE, Rs.bind, Rs.bindS, lift, mCall, mCallC, mCall0, Rs.cold, List.length_cons, List.length_nil, List.map_cons, List.map_nil, List.replicate, List.append_eq, List.cons_append, List.nil_append, List.getElem?_cons_zero, List.getElem?_cons_succ, List.getElem?_nil, List.set_cons_zero, List.set_cons_succ, Nat.sub_self, Nat.reduceSub, Nat.reduceAdd, if_true, if_false, decide_true, decide_false, Option.map_some, Option.map_none, ite_true, ite_false, reduceIte, beq_self_eq_true, Bool.false_eq_true, Nat.zero_add, int_i, add_ii, sub_ii, lt_ii, gt_ii, ge_ii, le_ii, decide_eq_true hc, if_true, rcv_SD, int_i, mod_ii (show (0 : Int) < 1000 by decide), append_SD h, fdiv_ii (show (0 : Int) < 1000 by decide) (show (1000 : Int) < 10 ^ 30 by decide), if_pos hc, List.set_cons_succ, List.set_cons_zero]
  · simp only [mDef, sRet, sSeq, sIf, sExpr, sAsg, sNx, sBk, sCt, sPut, tgN, mBin, mUn, mMeth, mL, mM, mC, mVar, aNil, aCons, mTup, mLst, mIf, mSl, mChain, mAnd2, mOr2, mNot, tBl, tVal, tAnd2, tOr2, tNot2, startE, Rs.bind, Rs.bindS, lift, mCall, mCallC, mCall0, Rs.cold, List.length_cons, List.length_nil, List.map_cons, List.map_nil, List.replicate, List.append_eq, List.cons_append, List.nil_append, List.getElem?_cons_zero, List.getElem?_cons_succ, List.getElem?_nil, List.set_cons_zero, List.set_cons_succ, Nat.sub_self, Nat.reduceSub, Nat.reduceAdd, if_true, if_false, decide_true, decide_false, Option.map_some, Option.map_none, ite_true, ite_false, reduceIte, beq_self_eq_true, Bool.false_eq_true, Nat.zero_add, int_i, add_ii, sub_ii, lt_ii, gt_ii, ge_ii, le_ii, decide_eq_false hc, Bool.false_eq_true, if_false, if_neg hc]
abbrev bB : MS := (sSeq (sAsg (mBin oMod (mL oInt (aCons (mBin oAdd (mBin oAdd (mBin oMul (mVar 7) (mC (.int 16807))) (mBin oMul (mC (.int 7)) (mVar 6))) (mC (.int 1))) aNil)) (mC (.int 2147483647))) (tgN 7)) (sExpr (mMeth "list" oAppend (mVar 3) (aCons (mBin oMod (mL oInt (aCons (mBin oFdiv (mVar 7) (mC (.int 997))) aNil)) (mC (.int 1000))) aNil))))
theorem small_abs {z : Int} (h : 0 ≤ z) (h2 : z < 10 ^ 20) : z.natAbs < 2 ^ 200 := by
  have e : (10 : Int) ^ 20 = 100000000000000000000 := by decide
  have e2 : (100000000000000000000 : Nat) ≤ 2 ^ 100 := by decide
  have e3 : (2 : Nat) ^ 100 ≤ 2 ^ 200 := Nat.pow_le_pow_right (by decide) (by decide)
  omega
theorem bB_eq {S0 : Sto} {ds : List Int} {z t : Int} {x0 x1 x2 x4 x5 : Option D} (h : ds.length < 100000) (hz : 0 ≤ z ∧ z < 10 ^ 20) (ht : 0 ≤ t ∧ t < 10 ^ 20) :
    ∃ z' d, 0 ≤ z' ∧ z' < 10 ^ 20 ∧ 0 ≤ d ∧ d < 1000 ∧ bB [x0, x1, x2, some (.loc S0.length), x4, x5, some (.int t), some (.int z)] (SD S0 ds) = .nx [x0, x1, x2, some (.loc S0.length), x4, x5, some (.int t), some (.int z')] (SD S0 (ds ++ [d])) := by
  have m1 : ∀ S : Sto, oMul (.int z) (.int 16807) S = some (.int (z * 16807), S) := fun S => mul_small (small_abs hz.1 hz.2) (small_abs (by decide) (by decide))
  have m2 : ∀ S : Sto, oMul (.int 7) (.int t) S = some (.int (7 * t), S) := fun S => mul_small (small_abs (by decide) (by decide)) (small_abs ht.1 ht.2)
  have e : (10 : Int) ^ 20 = 100000000000000000000 := by decide
  refine ⟨(z * 16807 + 7 * t + 1) % 2147483647, ((z * 16807 + 7 * t + 1) % 2147483647 / 997) % 1000, by omega, by omega, by omega, by omega, ?_⟩
  unfold bB
  simp only [mDef, sRet, sSeq, sIf, sExpr, sAsg, sNx, sBk, sCt, sPut, tgN, mBin, mUn, mMeth, mL, mM, mC, mVar, aNil, aCons, mTup, mLst, mIf, mSl, mChain, mAnd2, mOr2, mNot, tBl, tVal, tAnd2, tOr2, tNot2, startE, Rs.bind, Rs.bindS, lift, mCall, mCallC, mCall0, Rs.cold, List.length_cons, List.length_nil, List.map_cons, List.map_nil, List.replicate, List.append_eq, List.cons_append, List.nil_append, List.getElem?_cons_zero, List.getElem?_cons_succ, List.getElem?_nil, List.set_cons_zero, List.set_cons_succ, Nat.sub_self, Nat.reduceSub, Nat.reduceAdd, if_true, if_false, decide_true, decide_false, Option.map_some, Option.map_none, ite_true, ite_false, reduceIte, beq_self_eq_true, Bool.false_eq_true, Nat.zero_add, int_i, add_ii, sub_ii, lt_ii, gt_ii, ge_ii, le_ii, m1, m2, add_ii, int_i, mod_ii (show (0 : Int) < 2147483647 by decide), rcv_SD, fdiv_ii (show (0 : Int) < 997 by decide) (show (997 : Int) < 10 ^ 30 by decide), mod_ii (show (0 : Int) < 1000 by decide), append_SD h, if_true, List.set_cons_succ, List.set_cons_zero, List.getElem?_cons_zero, List.getElem?_cons_succ]

theorem for_60 {tg : Tg} {body : MS} {e : Nv} {S : Sto} : sFor (iRg1 (aCons (mC (.int 60)) aNil)) tg body e S = loopM (itR 0 1 60) tg body 60 0 e S := by rfl
theorem for_12 {tg : Tg} {body : MS} {e : Nv} {S : Sto} : sFor (iRg1 (aCons (mC (.int 12)) aNil)) tg body e S = loopM (itR 0 1 12) tg body 12 0 e S := by rfl
abbrev d_cell : MF := mDef 2 2 (sSeq (sIf (tBl (mBin oLt (mVar 1) (mL oLen (aCons (mVar 0) aNil)))) (sRet (mBin oIx (mVar 0) (mVar 1))) sNx) (sRet (mC (.int 0))))
theorem cell_eq {S : Sto} {s k : Nat} {w : Bool} {ns : List Int} (h : S[s]? = some (.lst w (ns.map .int))) : d_cell [.loc s, .int (k : Int)] S = .ok (.int (ns[k]?.getD 0)) S := by
  have f1 : oLen [.loc s] S = some (.int ns.length, S) := by rw [len_lst h, List.length_map]
  unfold d_cell
  by_cases hk : k < ns.length
  · have e1 : ns[k]? = some ns[k] := List.getElem?_eq_getElem hk
    have f2 : oIx (.loc s) (.int (k : Int)) S = some (.int ns[k], S) := ix_lst h (by rw [List.getElem?_map, e1]; rfl)
    have f3 : decide ((k : Int) < (ns.length : Int)) = true := decide_eq_true (by omega)
    simp only [mDef, sRet, sSeq, sIf, sExpr, sAsg, sNx, sBk, sCt, sPut, tgN, mBin, mUn, mMeth, mL, mM, mC, mVar, aNil, aCons, mTup, mLst, mIf, mSl, mChain, mAnd2, mOr2, mNot, tBl, tVal, tAnd2, tOr2, tNot2, startE, Rs.bind, Rs.bindS, lift, mCall, mCallC, mCall0, Rs.cold, List.length_cons, List.length_nil, List.map_cons, List.map_nil, List.replicate, List.append_eq, List.cons_append, List.nil_append, List.getElem?_cons_zero, List.getElem?_cons_succ, List.getElem?_nil, List.set_cons_zero, List.set_cons_succ, Nat.sub_self, Nat.reduceSub, Nat.reduceAdd, if_true, if_false, decide_true, decide_false, Option.map_some, Option.map_none, ite_true, ite_false, reduceIte, beq_self_eq_true, Bool.false_eq_true, Nat.zero_add, int_i, add_ii, sub_ii, lt_ii, gt_ii, ge_ii, le_ii, f1, f2, f3, e1, Option.getD_some]
  · have e1 : ns[k]? = none := List.getElem?_eq_none_iff.mpr (by omega)
    have f3 : decide ((k : Int) < (ns.length : Int)) = false := decide_eq_false (by omega)
    simp only [mDef, sRet, sSeq, sIf, sExpr, sAsg, sNx, sBk, sCt, sPut, tgN, mBin, mUn, mMeth, mL, mM, mC, mVar, aNil, aCons, mTup, mLst, mIf, mSl, mChain, mAnd2, mOr2, mNot, tBl, tVal, tAnd2, tOr2, tNot2, startE, Rs.bind, Rs.bindS, lift, mCall, mCallC, mCall0, Rs.cold, List.length_cons, List.length_nil, List.map_cons, List.map_nil, List.replicate, List.append_eq, List.cons_append, List.nil_append, List.getElem?_cons_zero, List.getElem?_cons_succ, List.getElem?_nil, List.set_cons_zero, List.set_cons_succ, Nat.sub_self, Nat.reduceSub, Nat.reduceAdd, if_true, if_false, decide_true, decide_false, Option.map_some, Option.map_none, ite_true, ite_false, reduceIte, beq_self_eq_true, Bool.false_eq_true, Nat.zero_add, int_i, add_ii, sub_ii, lt_ii, gt_ii, ge_ii, le_ii, f1, f3, e1, Option.getD_none]
def Dig (ds : List Int) : Prop := ∀ d ∈ ds, 0 ≤ d ∧ d < 1000
theorem Dig.app {ds : List Int} {d : Int} (h : Dig ds) (h0 : 0 ≤ d) (h1 : d < 1000) : Dig (ds ++ [d]) := fun x hx => by
  rcases List.mem_append.mp hx with q | q
  · exact h x q
  · rw [List.mem_singleton.mp q]; exact ⟨h0, h1⟩
/-- how a stretch of the digits' loop ends -/
def DEnd (S0 : Sto) (s : Nat) (L : Nat) (r : SRes) : Prop := ∃ ds x1 x2 x4 x5 x6 x7, r = .nx [some (.loc s), x1, x2, some (.loc S0.length), x4, x5, x6, x7] (SD S0 ds) ∧ Dig ds ∧ ds.length ≤ L
theorem loopA {S0 : Sto} {s : Nat} {ds : List Int} {c : Int} {x1 x2 x4 x6 x7 : Option D} (hd : Dig ds) (hl : ds.length ≤ 1500) :
    DEnd S0 s 1560 (sFor (iRg1 (aCons (mC (.int 60)) aNil)) (tgN 6) bA [some (.loc s), x1, x2, some (.loc S0.length), x4, some (.int c), x6, x7] (SD S0 ds)) := by
  rw [for_60]
  refine loop_r (fun i e S => ∃ ds c x6, e = [some (.loc s), x1, x2, some (.loc S0.length), x4, some (.int c), x6, x7] ∧ S = SD S0 ds ∧ Dig ds ∧ ds.length ≤ 1500 + i) ?_ ?_ _ _ ⟨ds, c, x6, rfl, rfl, hd, hl⟩
  · rintro i e S hi ⟨ds, c, x6, rfl, rfl, hd, hl⟩
    simp only [List.set_cons_succ, List.set_cons_zero]
    rw [bA_eq (by omega)]
    by_cases hc : 0 < c
    · rw [if_pos hc]
      exact ⟨_, _, _, rfl, rfl, hd.app (by omega) (by omega), by rw [List.length_append, List.length_singleton]; omega⟩
    · rw [if_neg hc]
      exact ⟨_, _, _, rfl, rfl, hd, by omega⟩
  · rintro e S ⟨ds, c, x6, rfl, rfl, hd, hl⟩
    exact ⟨ds, _, _, _, _, _, _, rfl, hd, by omega⟩
theorem loopB {S0 : Sto} {s : Nat} {ds : List Int} {z : Int} {x1 x2 x4 x5 x6 : Option D} (hd : Dig ds) (hl : ds.length ≤ 1500) (hz : 0 ≤ z ∧ z < 10 ^ 20) :
    DEnd S0 s 1560 (sFor (iRg1 (aCons (mC (.int 12)) aNil)) (tgN 6) bB [some (.loc s), x1, x2, some (.loc S0.length), x4, x5, x6, some (.int z)] (SD S0 ds)) := by
  rw [for_12]
  refine loop_r (fun i e S => ∃ ds z x6, e = [some (.loc s), x1, x2, some (.loc S0.length), x4, x5, x6, some (.int z)] ∧ S = SD S0 ds ∧ Dig ds ∧ ds.length ≤ 1500 + i ∧ 0 ≤ z ∧ z < 10 ^ 20) ?_ ?_ _ _ ⟨ds, z, x6, rfl, rfl, hd, hl, hz⟩
  · rintro i e S hi ⟨ds, z, x6, rfl, rfl, hd, hl, hz⟩
    simp only [List.set_cons_succ, List.set_cons_zero]
    have e20 : (10 : Int) ^ 20 = 100000000000000000000 := by decide
    obtain ⟨z', d, h1, h2, h3, h4, h5⟩ := bB_eq (S0 := S0) (x0 := some (.loc s)) (x1 := x1) (x2 := x2) (x4 := x4) (x5 := x5) (ds := ds) (t := 0 + (i : Int)) (by omega) hz (by omega)
    rw [h5]
    exact ⟨_, _, _, rfl, rfl, hd.app h3 h4, by rw [List.length_append, List.length_singleton]; omega, h1, h2⟩
  · rintro e S ⟨ds, c, x6, rfl, rfl, hd, hl, hz⟩
    exact ⟨ds, _, _, _, _, _, _, rfl, hd, by omega⟩
abbrev bC : MS := (sIf (tBl (mBin oGe (mVar 5) (mBin oPow (mC (.int 10)) (mC (.int 18))))) (sFor (iRg1 (aCons (mC (.int 60)) aNil)) (tgN 6) bA) (sSeq (sAsg (mBin oMod (mL oInt (aCons (mBin oAdd (mBin oAdd (mBin oMul (mVar 5) (mC (.int 48271))) (mBin oMul (mVar 4) (mC (.int 69621)))) (mC (.int 11))) aNil)) (mC (.int 2147483647))) (tgN 7)) (sFor (iRg1 (aCons (mC (.int 12)) aNil)) (tgN 6) bB)))
theorem bC_ok {S0 : Sto} {s k : Nat} {ds : List Int} {c : Int} {x1 x2 x6 x7 : Option D} (hd : Dig ds) (hl : ds.length ≤ 1500) (hc : 0 ≤ c) (hk : k < 1000000) :
    DEnd S0 s 1560 (bC [some (.loc s), x1, x2, some (.loc S0.length), some (.int (k : Int)), some (.int c), x6, x7] (SD S0 ds)) := by
  have e18 : (10 : Int) ^ 20 = 100000000000000000000 := by decide
  have hA := loopA (S0 := S0) (s := s) (c := c) (x1 := x1) (x2 := x2) (x4 := some (.int (k : Int))) (x6 := x6) (x7 := x7) hd hl
  have hB : ∀ z : Int, 0 ≤ z ∧ z < 10 ^ 20 → _ := fun z hz => loopB (S0 := S0) (s := s) (z := z) (x1 := x1) (x2 := x2) (x4 := some (.int (k : Int))) (x5 := some (.int c)) (x6 := x6) hd hl hz
  unfold bC
  generalize hfA : sFor (iRg1 (aCons (mC (.int 60)) aNil)) (tgN 6) bA = fA at hA ⊢
  generalize hfB : sFor (iRg1 (aCons (mC (.int 12)) aNil)) (tgN 6) bB = fB at hB ⊢
  by_cases hg : (1000000000000000000 : Int) ≤ c
  · simp only [mDef, sRet, sSeq, sIf, sExpr, sAsg, sNx, sBk, sCt, sPut, tgN, mBin, mUn, mMeth, mL, mM, mC, mVar, aNil, aCons, mTup, mLst, mIf, mSl, mChain, mAnd2, mOr2, mNot, tBl, tVal, tAnd2, tOr2, tNot2, startE, Rs.bind, Rs.bindS, lift, mCall, mCallC, mCall0, Rs.cold, List.length_cons, List.length_nil, List.map_cons, List.map_nil, List.replicate, List.append_eq, List.cons_append, List.nil_append, List.getElem?_cons_zero, List.getElem?_cons_succ, List.getElem?_nil, List.set_cons_zero, List.set_cons_succ, Nat.sub_self, Nat.reduceSub, Nat.reduceAdd, if_true, if_false, decide_true, decide_false, Option.map_some, Option.map_none, ite_true, ite_false, reduceIte, beq_self_eq_true, Bool.false_eq_true, Nat.zero_add, int_i, add_ii, sub_ii, lt_ii, gt_ii, ge_ii, le_ii, ten18, decide_eq_true hg]
    exact hA
  · have m1 : oMul (.int c) (.int 48271) (SD S0 ds) = some (.int (c * 48271), SD S0 ds) := mul_small (small_abs hc (by omega)) (small_abs (by decide) (by decide))
    have m2 : oMul (.int (k : Int)) (.int 69621) (SD S0 ds) = some (.int (k * 69621), SD S0 ds) := mul_small (small_abs (by omega) (by omega)) (small_abs (by decide) (by decide))
    simp only [mDef, sRet, sSeq, sIf, sExpr, sAsg, sNx, sBk, sCt, sPut, tgN, mBin, mUn, mMeth, mL, mM, mC, mVar, aNil, aCons, mTup, mLst, mIf, mSl, mChain, mAnd2, mOr2, mNot, tBl, tVal, tAnd2, tOr2, tNot2, startE, Rs.bind, Rs.bindS, lift, mCall, mCallC, mCall0, Rs.cold, List.length_cons, List.length_nil, List.map_cons, List.map_nil, List.replicate, List.append_eq, List.cons_append, List.nil_append, List.getElem?_cons_zero, List.getElem?_cons_succ, List.getElem?_nil, List.set_cons_zero, List.set_cons_succ, Nat.sub_self, Nat.reduceSub, Nat.reduceAdd, if_true, if_false, decide_true, decide_false, Option.map_some, Option.map_none, ite_true, ite_false, reduceIte, beq_self_eq_true, Bool.false_eq_true, Nat.zero_add, int_i, add_ii, sub_ii, lt_ii, gt_ii, ge_ii, le_ii, ten18, decide_eq_false hg, m1, m2, mod_ii (show (0 : Int) < 2147483647 by decide)]
    exact hB _ (by omega)
abbrev bD : MS := (sSeq (sIf (tBl (mBin oGt (mL oLen (aCons (mVar 3) aNil)) (mC (.int 1500)))) sBk sNx) (sSeq (sAsg (mCall d_cell (aCons (mVar 0) (aCons (mVar 4) aNil))) (tgN 5)) (sSeq (sIf (tBl (mBin oLt (mVar 5) (mC (.int 0)))) (sAsg (mBin oSub (mC (.int 1)) (mBin oMul (mC (.int 2)) (mVar 5))) (tgN 5)) sNx) bC)))
theorem intBits_log {z : Int} (h : Builtin.Int.intBits z ≤ 1048576) : z.natAbs.log2 ≤ 1048576 := by
  unfold Builtin.Int.intBits at h
  split at h
  · rename_i h0
    have : z = 0 := by simpa using h0
    rw [this]; decide
  · omega
theorem bD_ok {S0 : Sto} {s k : Nat} {w : Bool} {ns ds : List Int} {x1 x2 x5 x6 x7 : Option D} (hs : S0[s]? = some (.lst w (ns.map .int))) (hb : ∀ z ∈ ns, Builtin.Int.intBits z ≤ 1048576) (hd : Dig ds) (hl : ds.length ≤ 1560) (hk : k < 1000000) :
    match bD [some (.loc s), x1, x2, some (.loc S0.length), some (.int (k : Int)), x5, x6, x7] (SD S0 ds) with
      | .nx e2 S2 => DEnd S0 s 1560 (.nx e2 S2)
      | .ct e2 S2 => DEnd S0 s 1560 (.nx e2 S2)
      | .bk e2 S2 => DEnd S0 s 1560 (.nx e2 S2)
      | r => False := by
  unfold bD
  by_cases hg : (1500 : Int) < ds.length
  · simp only [mDef, sRet, sSeq, sIf, sExpr, sAsg, sNx, sBk, sCt, sPut, tgN, mBin, mUn, mMeth, mL, mM, mC, mVar, aNil, aCons, mTup, mLst, mIf, mSl, mChain, mAnd2, mOr2, mNot, tBl, tVal, tAnd2, tOr2, tNot2, startE, Rs.bind, Rs.bindS, lift, mCall, mCallC, mCall0, Rs.cold, List.length_cons, List.length_nil, List.map_cons, List.map_nil, List.replicate, List.append_eq, List.cons_append, List.nil_append, List.getElem?_cons_zero, List.getElem?_cons_succ, List.getElem?_nil, List.set_cons_zero, List.set_cons_succ, Nat.sub_self, Nat.reduceSub, Nat.reduceAdd, if_true, if_false, decide_true, decide_false, Option.map_some, Option.map_none, ite_true, ite_false, reduceIte, beq_self_eq_true, Bool.false_eq_true, Nat.zero_add, int_i, add_ii, sub_ii, lt_ii, gt_ii, ge_ii, le_ii, len_SD, decide_eq_true hg]
    exact ⟨ds, _, _, _, _, _, _, rfl, hd, hl⟩
  · have f1 : d_cell [.loc s, .int (k : Int)] (SD S0 ds) = .ok (.int (ns[k]?.getD 0)) (SD S0 ds) := cell_eq (SD_old hs)
    have hc1 : (ns[k]?.getD 0).natAbs.log2 ≤ 1048576 := by
      cases e : ns[k]? with
      | none => rw [Option.getD_none]; decide
      | some z => rw [Option.getD_some]; exact intBits_log (hb z (List.mem_of_getElem? e))
    generalize ns[k]?.getD 0 = c at f1 hc1
    have hfin : ∀ (c : Int) (x5 : Option D), 0 ≤ c → match bC [some (.loc s), x1, x2, some (.loc S0.length), some (.int (k : Int)), some (.int c), x6, x7] (SD S0 ds) with
        | .nx e2 S2 => DEnd S0 s 1560 (.nx e2 S2)
        | .ct e2 S2 => DEnd S0 s 1560 (.nx e2 S2)
        | .bk e2 S2 => DEnd S0 s 1560 (.nx e2 S2)
        | r => False := fun c x5 hc => by
      have q := bC_ok (S0 := S0) (s := s) (k := k) (c := c) (x1 := x1) (x2 := x2) (x6 := x6) (x7 := x7) hd (by omega) hc hk
      obtain ⟨ds', a1, a2, a4, a5, a6, a7, e, r⟩ := q
      rw [e]
      exact ⟨ds', a1, a2, a4, a5, a6, a7, rfl, r⟩
    generalize hfC : bC = fC at hfin ⊢
    by_cases hn : c < 0
    · have m1 : oMul (.int 2) (.int c) (SD S0 ds) = some (.int (2 * c), SD S0 ds) := mul_ii (by have h2 : (Int.natAbs 2).log2 = 1 := by decide
                                                                                                omega)
      simp only [mDef, sRet, sSeq, sIf, sExpr, sAsg, sNx, sBk, sCt, sPut, tgN, mBin, mUn, mMeth, mL, mM, mC, mVar, aNil, aCons, mTup, mLst, mIf, mSl, mChain, mAnd2, mOr2, mNot, tBl, tVal, tAnd2, tOr2, tNot2, startE, Rs.bind, Rs.bindS, lift, mCall, mCallC, mCall0, Rs.cold, List.length_cons, List.length_nil, List.map_cons, List.map_nil, List.replicate, List.append_eq, List.cons_append, List.nil_append, List.getElem?_cons_zero, List.getElem?_cons_succ, List.getElem?_nil, List.set_cons_zero, List.set_cons_succ, Nat.sub_self, Nat.reduceSub, Nat.reduceAdd, if_true, if_false, decide_true, decide_false, Option.map_some, Option.map_none, ite_true, ite_false, reduceIte, beq_self_eq_true, Bool.false_eq_true, Nat.zero_add, int_i, add_ii, sub_ii, lt_ii, gt_ii, ge_ii, le_ii, len_SD, decide_eq_false hg, f1, decide_eq_true hn, m1]
      exact hfin (1 - 2 * c) x5 (by omega)
    · simp only [mDef, sRet, sSeq, sIf, sExpr, sAsg, sNx, sBk, sCt, sPut, tgN, mBin, mUn, mMeth, mL, mM, mC, mVar, aNil, aCons, mTup, mLst, mIf, mSl, mChain, mAnd2, mOr2, mNot, tBl, tVal, tAnd2, tOr2, tNot2, startE, Rs.bind, Rs.bindS, lift, mCall, mCallC, mCall0, Rs.cold, List.length_cons, List.length_nil, List.map_cons, List.map_nil, List.replicate, List.append_eq, List.cons_append, List.nil_append, List.getElem?_cons_zero, List.getElem?_cons_succ, List.getElem?_nil, List.set_cons_zero, List.set_cons_succ, Nat.sub_self, Nat.reduceSub, Nat.reduceAdd, if_true, if_false, decide_true, decide_false, Option.map_some, Option.map_none, ite_true, ite_false, reduceIte, beq_self_eq_true, Bool.false_eq_true, Nat.zero_add, int_i, add_ii, sub_ii, lt_ii, gt_ii, ge_ii, le_ii, len_SD, decide_eq_false hg, f1, decide_eq_false hn]
      exact hfin c x5 (by omega)

abbrev d_digits : MF := mDef 8 3 (sSeq (sAsg (mLst aNil) (tgN 3)) (sSeq (sFor (iRg2 (aCons (mVar 1) (aCons (mVar 2) aNil))) (tgN 4) bD) (sRet (mVar 3))))
theorem for_r2 {lo hi : Int} {tg : Tg} {body : MS} {e : Nv} {S : Sto} {i j : Nat} (h1 : e[i]? = some (some (.int lo))) (h2 : e[j]? = some (some (.int hi))) (b1 : -1000000000000 ≤ lo ∧ lo < 1000000000000 ∧ -1000000000000 ≤ hi ∧ hi < 1000000000000) :
    sFor (iRg2 (aCons (mVar i) (aCons (mVar j) aNil))) tg body e S = loopM (itR lo 1 (hi - lo).toNat) tg body (hi - lo).toNat 0 e S := by
  have f : (iRg2 (aCons (mVar i) (aCons (mVar j) aNil))) e S = .ok (itR lo 1 (hi - lo).toNat) S := by
    simp only [iRg2, aCons, aNil, mVar, Rs.bind, h1, h2]
    rw [if_pos b1]
  unfold sFor
  rw [f]
  rfl
theorem digits_ok {S0 : Sto} {s : Nat} {w : Bool} {ns : List Int} (hs : S0[s]? = some (.lst w (ns.map .int))) (hb : ∀ z ∈ ns, Builtin.Int.intBits z ≤ 1048576) :
    ∃ ds, Dig ds ∧ ds.length ≤ 1560 ∧ d_digits [.loc s, .int 0, .int 63] S0 = .ok (.loc S0.length) (SD S0 ds) := by
  have hloop : DEnd S0 s 1560 (sFor (iRg2 (aCons (mVar 1) (aCons (mVar 2) aNil))) (tgN 4) bD [some (.loc s), some (.int 0), some (.int 63), some (.loc S0.length), none, none, none, none] (SD S0 [])) := by
    rw [for_r2 (lo := 0) (hi := 63) rfl rfl (by decide)]
    refine loop_r (fun i e S => ∃ ds x1 x2 x4 x5 x6 x7, e = [some (.loc s), x1, x2, some (.loc S0.length), x4, x5, x6, x7] ∧ S = SD S0 ds ∧ Dig ds ∧ ds.length ≤ 1560) ?_ ?_ _ _ ⟨[], _, _, _, _, _, _, rfl, rfl, fun d hd => (by cases hd), Nat.zero_le _⟩
    · rintro i e S hi ⟨ds, x1, x2, x4, x5, x6, x7, rfl, rfl, hd, hl⟩
      simp only [List.set_cons_succ, List.set_cons_zero]
      have hi' : i < 63 := hi
      have q := bD_ok (S0 := S0) (s := s) (k := i) (x1 := x1) (x2 := x2) (x5 := x5) (x6 := x6) (x7 := x7) hs hb hd hl (by omega)
      rw [show (0 : Int) + (i : Int) = (i : Int) by omega]
      generalize bD _ _ = r at q ⊢
      cases r with
      | nx e2 S2 =>
        obtain ⟨ds', a1, a2, a4, a5, a6, a7, e, r1, r2⟩ := q
        cases e
        exact ⟨ds', _, _, _, _, _, _, rfl, rfl, r1, r2⟩
      | ct e2 S2 =>
        obtain ⟨ds', a1, a2, a4, a5, a6, a7, e, r1, r2⟩ := q
        cases e
        exact ⟨ds', _, _, _, _, _, _, rfl, rfl, r1, r2⟩
      | bk e2 S2 => exact q
      | rt d S2 => exact q.elim
      | exc c fs e2 S2 => exact q.elim
      | stuck => exact q.elim
    · rintro e S ⟨ds, x1, x2, x4, x5, x6, x7, rfl, rfl, hd, hl⟩
      exact ⟨ds, _, _, _, _, _, _, rfl, hd, hl⟩
  obtain ⟨ds, x1, x2, x4, x5, x6, x7, e, hd, hl⟩ := hloop
  refine ⟨ds, hd, hl, ?_⟩
  have f0 : (0 : Nat) ≤ sizeLine := Nat.zero_le _
  have fS : S0 ++ [SO.lst true []] = SD S0 [] := rfl
  unfold d_digits
  generalize hfF : sFor (iRg2 (aCons (mVar 1) (aCons (mVar 2) aNil))) (tgN 4) bD = fF at e ⊢
  simp only [mDef, sRet, sSeq, sIf, sExpr, sAsg, sNx, sBk, sCt, sPut, tgN, mBin, mUn, mMeth, mL, mM, mC, mVar, aNil, aCons, mTup, mLst, mIf, mSl, mChain, mAnd2, mOr2, mNot, tBl, tVal, tAnd2, tOr2, tNot2, startE, Rs.bind, Rs.bindS, lift, mCall, mCallC, mCall0, Rs.cold, List.length_cons, List.length_nil, List.map_cons, List.map_nil, List.replicate, List.append_eq, List.cons_append, List.nil_append, List.getElem?_cons_zero, List.getElem?_cons_succ, List.getElem?_nil, List.set_cons_zero, List.set_cons_succ, Nat.sub_self, Nat.reduceSub, Nat.reduceAdd, if_true, if_false, decide_true, decide_false, Option.map_some, Option.map_none, ite_true, ite_false, reduceIte, beq_self_eq_true, Bool.false_eq_true, Nat.zero_add, int_i, add_ii, sub_ii, lt_ii, gt_ii, ge_ii, le_ii, f0, fS, e]
/-! ### the box that is drawn from -/
def Box (S : Sto) (b k : Nat) : Prop := ∃ dl ds, S[b]? = some (.lst true [.loc dl, .int (k : Int)]) ∧ S[dl]? = some (.lst true (ds.map .int)) ∧ dl ≠ b ∧ Dig ds
def Ext (b : Nat) (S S' : Sto) : Prop := S.length ≤ S'.length ∧ ∀ n, n < S.length → n ≠ b → S'[n]? = S[n]?
theorem Ext.refl (b : Nat) (S : Sto) : Ext b S S := ⟨Nat.le_refl _, fun _ _ _ => rfl⟩
theorem Ext.trans {b : Nat} {S S1 S2 : Sto} (h : Ext b S S1) (k : Ext b S1 S2) : Ext b S S2 := ⟨Nat.le_trans h.1 k.1, fun n h1 h2 => (k.2 n (Nat.lt_of_lt_of_le h1 h.1) h2).trans (h.2 n h1 h2)⟩
theorem Ext.get {b n : Nat} {S S' : Sto} {o : SO} (h : Ext b S S') (e : S[n]? = some o) (hn : n ≠ b) : S'[n]? = some o := (h.2 n (List.getElem?_eq_some_iff.mp e).1 hn).trans e
theorem Ext.app (b : Nat) (S : Sto) (o : SO) : Ext b S (S ++ [o]) := ⟨by simp, fun n h _ => List.getElem?_append_left h⟩
theorem Ext.set {b : Nat} {S : Sto} {o : SO} : Ext b S (S.set b o) := ⟨by simp, fun n _ h2 => List.getElem?_set_ne (Ne.symm h2)⟩
/-- a place behind the old store may change -/
theorem Ext.set_new {b n : Nat} {S S' : Sto} {o : SO} (h : Ext b S S') (hn : S.length ≤ n) : Ext b S (S'.set n o) := ⟨by rw [List.length_set]; exact h.1, fun m h1 h2 => by
  rw [List.getElem?_set_ne (by omega)]; exact h.2 m h1 h2⟩
theorem Box.app {S : Sto} {b k : Nat} (h : Box S b k) (o : SO) : Box (S ++ [o]) b k := by
  obtain ⟨dl, ds, h1, h2, h3, h4⟩ := h
  exact ⟨dl, ds, by rw [List.getElem?_append_left (List.getElem?_eq_some_iff.mp h1).1]; exact h1, by rw [List.getElem?_append_left (List.getElem?_eq_some_iff.mp h2).1]; exact h2, h3, h4⟩
theorem Box.lt {S : Sto} {b k : Nat} (h : Box S b k) : b < S.length := by
  obtain ⟨dl, ds, h1, _⟩ := h
  exact (List.getElem?_eq_some_iff.mp h1).1
/-- a change at another place that holds no box and no digits of it: told by Ext and the box's own place -/
theorem Box.keep {S S' : Sto} {b k : Nat} (h : Box S b k) (e : ∀ n, n < S.length → S'[n]? = S[n]?) : Box S' b k := by
  obtain ⟨dl, ds, h1, h2, h3, h4⟩ := h
  exact ⟨dl, ds, by rw [e _ (List.getElem?_eq_some_iff.mp h1).1]; exact h1, by rw [e _ (List.getElem?_eq_some_iff.mp h2).1]; exact h2, h3, h4⟩
theorem drawV_range {ds : List Int} {k : Nat} {many : Int} (hm : 0 < many) : 0 ≤ drawV ds k many ∧ drawV ds k many < many := by
  unfold drawV
  exact ⟨Int.emod_nonneg _ (by omega), Int.emod_lt_of_pos _ hm⟩
theorem draw_ok {S : Sto} {b k : Nat} {many : Int} (B : Box S b k) (hk : k < 2 ^ 200) (hm : 0 < many) :
    ∃ r S', 0 ≤ r ∧ r < many ∧ d_draw [.loc b, .int many] S = .ok (.int r) S' ∧ Ext b S S' ∧ Box S' b (k + 1) ∧ S'.length = S.length := by
  obtain ⟨dl, ds, h1, h2, h3, h4⟩ := B
  obtain ⟨r1, r2⟩ := drawV_range (ds := ds) (k := k) hm
  refine ⟨_, _, r1, r2, draw_eq h1 h2 h3 hk hm, Ext.set, ⟨dl, ds, ?_, ?_, h3, h4⟩, by simp⟩
  · rw [List.getElem?_set_self (List.getElem?_eq_some_iff.mp h1).1]
  · rw [List.getElem?_set_ne (Ne.symm h3)]; exact h2
/-! ### comprehensions -/
/-- over a range, every item kept; the elements may draw -/
theorem lc_range {lo : Int} {cnt n j : Nat} {me : MV} {e : Nv} {P : D → Prop} (I : Nat → Sto → Prop) (hI : ∀ i S ys, I i S → I i (S.set n (.lst true ys)))
    (hs : ∀ i S, i < cnt → I i S → ∃ y S', me (e.set j (some (.int (lo + i)))) S = .ok y S' ∧ P y ∧ I (i + 1) S' ∧ S'[n]? = S[n]?) (hz : cnt ≤ sizeLine) (S : Sto) (h0 : I 0 S) (hn : S[n]? = some (.lst true [])) :
    ∃ ys S', loopC (itR lo 1 cnt) (tgN j) tOk me n e cnt 0 S = .ok (.loc n) S' ∧ S'[n]? = some (.lst true ys) ∧ ys.length = cnt ∧ (∀ y ∈ ys, P y) ∧ I cnt S' := by
  have key : ∀ (m i : Nat) (S : Sto) (acc : List D), i + m = cnt → I i S → S[n]? = some (.lst true acc) → acc.length = i → (∀ y ∈ acc, P y) →
      ∃ ys S', loopC (itR lo 1 cnt) (tgN j) tOk me n e m i S = .ok (.loc n) S' ∧ S'[n]? = some (.lst true ys) ∧ ys.length = cnt ∧ (∀ y ∈ ys, P y) ∧ I cnt S' := by
    intro m
    induction m with
    | zero =>
      intro i S acc hi h1 h2 h3 h4
      have e1 : i = cnt := by omega
      subst e1
      refine ⟨acc, S, ?_, h2, h3, h4, h1⟩
      unfold loopC itR
      simp only [Nat.lt_irrefl, if_false]
    | succ m ih =>
      intro i S acc hi h1 h2 h3 h4
      have hlt : i < cnt := by omega
      obtain ⟨y, S1, q1, q2, q3, q4⟩ := hs i S hlt h1
      have e1 : (itR lo 1 cnt).at_ i S = some (some (.int (lo + i))) := by
        show (if i < cnt then some (some (D.int (lo + (i : Int) * 1))) else some none) = _
        rw [if_pos hlt, Int.mul_one]
      have hnl : n < S1.length := by rw [h2] at q4; exact (List.getElem?_eq_some_iff.mp q4).1
      obtain ⟨ys, S', r1, r2⟩ := ih (i + 1) (S1.set n (.lst true (acc ++ [y]))) (acc ++ [y]) (by omega) (hI _ _ _ q3) (List.getElem?_set_self hnl) (by simp [h3]) (fun z hz => by
        rcases List.mem_append.mp hz with q | q
        · exact h4 z q
        · rw [List.mem_singleton.mp q]; exact q2)
      refine ⟨ys, S', ?_, r2⟩
      rw [← r1]
      have hz2 : acc.length < sizeLine := by omega
      rw [loopC]
      simp only [e1, tgN, tOk, Rs.bind, if_true, q1, q4, h2, if_pos hz2]
  exact key cnt 0 S [] (by omega) h0 hn rfl (fun y hy => by cases hy)
/-- over fixed items, nothing drawn: a filter -/
theorem lc_pure {it : ItM} {cnt n : Nat} {tg : Tg} {tt : MT} {me : MV} {e : Nv} {xs : List D} (t : D → Bool) (g : D → D) (hit : ∀ i S, it.at_ i S = some xs[i]?) (hc : cnt = xs.length) (hz : xs.length ≤ sizeLine) (S0 : Sto)
    (hs : ∀ x ∈ xs, ∀ acc, ∃ e1, tg x e = some e1 ∧ tt e1 (S0 ++ [.lst true acc]) = .ok (t x) (S0 ++ [.lst true acc]) ∧ (t x = true → me e1 (S0 ++ [.lst true acc]) = .ok (g x) (S0 ++ [.lst true acc]))) (hn : n = S0.length) :
    loopC it tg tt me n e cnt 0 (S0 ++ [.lst true []]) = .ok (.loc n) (S0 ++ [.lst true ((xs.filter t).map g)]) := by
  have key : ∀ (m i : Nat) (acc : List D), i + m = cnt → acc = ((xs.take i).filter t).map g → loopC it tg tt me n e m i (S0 ++ [.lst true acc]) = .ok (.loc n) (S0 ++ [.lst true ((xs.filter t).map g)]) := by
    intro m
    induction m with
    | zero =>
      intro i acc hi ha
      have e1 : i = xs.length := by omega
      have e2 : xs[i]? = none := List.getElem?_eq_none_iff.mpr (by omega)
      rw [loopC]
      simp only [hit, e2]
      rw [ha, e1, List.take_length]
    | succ m ih =>
      intro i acc hi ha
      have hlt : i < xs.length := by omega
      have e1 : xs[i]? = some xs[i] := List.getElem?_eq_getElem hlt
      obtain ⟨e2, h1, h2, h3⟩ := hs xs[i] (List.getElem_mem hlt) acc
      have tk : xs.take (i + 1) = xs.take i ++ [xs[i]] := by rw [List.take_add_one, e1]; rfl
      rw [loopC]
      simp only [hit, e1, h1, h2, Rs.bind]
      cases ht : t xs[i] with
      | false =>
        simp only [Bool.false_eq_true, if_false]
        refine ih (i + 1) acc (by omega) ?_
        rw [ha, tk, List.filter_append, List.filter_cons_of_neg (by simp [ht]), List.filter_nil, List.append_nil]
      | true =>
        have hl : acc.length < sizeLine := by
          have : acc.length ≤ i := by
            rw [ha, List.length_map]
            exact Nat.le_trans (List.length_filter_le _ _) (by rw [List.length_take]; omega)
          omega
        have e3 : (S0 ++ [SO.lst true acc])[n]? = some (.lst true acc) := by rw [hn]; simp
        have e4 : ∀ acc', (S0 ++ [SO.lst true acc]).set n (.lst true acc') = S0 ++ [.lst true acc'] := fun acc' => by rw [hn]; simp
        simp only [if_true, h3 ht, e3, if_pos hl, e4]
        refine ih (i + 1) _ (by omega) ?_
        rw [ha, tk, List.filter_append, List.filter_cons_of_pos ht, List.filter_nil, List.map_append]
        rfl
  exact key cnt 0 [] (by omega) rfl
end P0
end

section
set_option Elab.async false
set_option linter.all false
set_option maxRecDepth 100000
/-! P1: texts, plainly. -/
namespace P0
open PySem PySem.Spec M2 PyProof.Rows PySem.Builtin PySem.Builtin.Str
set_option autoImplicit false
theorem getD_mem {x : Str} {k : Nat} (h : k < x.length) : x.cps.getD k 0 ∈ x.cps.toList := by
  have h' : k < x.cps.size := h
  simp [Array.getD, h']
theorem strip_nil (goes : Nat → Bool) (x : Str) : Txt.stripBy goes true true x = Str.empty ↔ ∀ c ∈ x.cps.toList, goes c = true := by
  obtain ⟨l1, l2, l3⟩ := lo_facts goes x
  obtain ⟨h1, h2, h3, h4⟩ := hi_facts goes x _ l1
  rw [stripBy_eq]
  generalize stripLo goes true x = lo at *
  generalize stripHi goes true x lo = hi at *
  have hsz : (strSub x lo hi).cps.size = hi - lo := by
    unfold strSub
    have h2' : hi ≤ x.cps.size := h2
    simp only [Array.size_extract]
    omega
  constructor
  · intro e c hc
    rw [e] at hsz
    have hz : hi - lo = 0 := by rw [← hsz]; rfl
    have hlen : lo = x.length := by
      rcases l3 with q | q
      · exact q
      · by_cases hl : lo < x.length
        · rw [h3 lo (by omega) hl] at q
          cases q
        · omega
    obtain ⟨k, hk, rfl⟩ := List.mem_iff_getElem.mp hc
    have hk' : k < x.cps.size := by simpa using hk
    have := l2 k (by rw [hlen]; exact hk')
    simpa [Array.getD, hk'] using this
  · intro h
    have hlen : lo = x.length := by
      rcases l3 with q | q
      · exact q
      · by_cases hl : lo < x.length
        · rw [h _ (getD_mem hl)] at q
          cases q
        · omega
    have : (strSub x lo hi).cps.size = 0 := by omega
    have e := Array.size_eq_zero_iff.mp this
    show strSub x lo hi = ⟨#[]⟩
    cases hs : strSub x lo hi with
    | mk cps => rw [hs] at e; simp at e; rw [e]
theorem stripChars_nil (x y : Str) : decide (Txt.stripChars x y = Str.empty) = x.cps.toList.all fun c => decide (c ∈ y.cps.toList) := by
  have e : (Txt.stripChars x y = Str.empty) ↔ ∀ c ∈ x.cps.toList, c ∈ y.cps.toList := by
    unfold Txt.stripChars
    rw [strip_nil]
    exact ⟨fun h c hc => by simpa using h c hc, fun h c hc => by simpa using h c hc⟩
  rw [Bool.eq_iff_iff, decide_eq_true_eq, e, List.all_eq_true]
  simp
theorem in_one {S : Sto} {c : Nat} {z : Str} : oIn2 (.str ⟨#[c]⟩) (.str z) S = some (.bl (decide (c ∈ z.cps.toList)), S) := by
  show (some (!(Builtin.Str.occurrences z ⟨#[c]⟩ 0 z.length 1).isEmpty)).map (fun k => (D.bl k, S)) = _
  rw [PySem.StrLaws.found_one]
  rfl
theorem notIn_one {S : Sto} {c : Nat} {z : Str} : oNotIn2 (.str ⟨#[c]⟩) (.str z) S = some (.bl (!decide (c ∈ z.cps.toList)), S) := by
  show (some (!(Builtin.Str.occurrences z ⟨#[c]⟩ 0 z.length 1).isEmpty)).map (fun k => (D.bl !k, S)) = _
  rw [PySem.StrLaws.found_one]
  rfl
theorem eq_ss {S : Sto} {x y : Str} : oEq (.str x) (.str y) S = some (.bl (decide (x = y)), S) := rfl
theorem ne_ss {S : Sto} {x y : Str} : oNe (.str x) (.str y) S = some (.bl (!decide (x = y)), S) := rfl
theorem eq_ii {S : Sto} {x y : Int} : oEq (.int x) (.int y) S = some (.bl (decide (x = y)), S) := rfl
theorem ne_ii {S : Sto} {x y : Int} : oNe (.int x) (.int y) S = some (.bl (!decide (x = y)), S) := rfl
/-- is every sign of x one of y -/
def allIn (x y : Str) : Bool := x.cps.toList.all fun c => decide (c ∈ y.cps.toList)
abbrev d_consists : MF := mDef 2 2 (sRet (mBin oEq (mMeth "str" oStrip1 (mVar 0) (aCons (mVar 1) aNil)) (mC (.str ""))))
theorem consists_eq {S : Sto} {x y : Str} (h : x.length ≤ sizeLine) : d_consists [.str x, .str y] S = .ok (.bl (allIn x y)) S := by
  have f1 : oStrip1 (.str x) [.str y] S = some (.str (Txt.stripChars x y), S) := by
    show (if okS x = true then some (D.str (Txt.stripChars x y), S) else none) = _
    rw [if_pos (show okS x = true from decide_eq_true h)]
  have f2 : rcvD S (.str x) "str" = true := rfl
  have f3 : oEq (.str (Txt.stripChars x y)) (.str "") S = some (.bl (allIn x y), S) := by
    rw [eq_ss]
    have : decide (Txt.stripChars x y = "") = allIn x y := stripChars_nil x y
    rw [this]
  unfold d_consists
  simp only [mDef, sRet, sSeq, sIf, sExpr, sAsg, sNx, sBk, sCt, sPut, tgN, mBin, mUn, mMeth, mL, mM, mC, mVar, aNil, aCons, mTup, mLst, mIf, mSl, mChain, mAnd2, mOr2, mNot, tBl, tVal, tAnd2, tOr2, tNot2, startE, Rs.bind, Rs.bindS, lift, mCall, mCallC, mCall0, Rs.cold, List.length_cons, List.length_nil, List.map_cons, List.map_nil, List.replicate, List.append_eq, List.cons_append, List.nil_append, List.getElem?_cons_zero, List.getElem?_cons_succ, List.getElem?_nil, List.set_cons_zero, List.set_cons_succ, Nat.sub_self, Nat.reduceSub, Nat.reduceAdd, if_true, if_false, decide_true, decide_false, Option.map_some, Option.map_none, ite_true, ite_false, reduceIte, beq_self_eq_true, Bool.false_eq_true, Nat.zero_add, int_i, add_ii, sub_ii, lt_ii, gt_ii, ge_ii, le_ii, f2, f1, f3]

/-- the store has only grown -/
def Gr (S S' : Sto) : Prop := ∃ T, S' = S ++ T
theorem Gr.refl (S : Sto) : Gr S S := ⟨[], by simp⟩
theorem Gr.trans {S S1 S2 : Sto} (h : Gr S S1) (k : Gr S1 S2) : Gr S S2 := by
  obtain ⟨T, rfl⟩ := h
  obtain ⟨U, rfl⟩ := k
  exact ⟨T ++ U, by simp⟩
theorem Gr.one (S : Sto) (o : SO) : Gr S (S ++ [o]) := ⟨[o], rfl⟩
theorem Gr.get {S S' : Sto} {n : Nat} {o : SO} (h : Gr S S') (e : S[n]? = some o) : S'[n]? = some o := by
  obtain ⟨T, rfl⟩ := h
  rw [List.getElem?_append_left (List.getElem?_eq_some_iff.mp e).1]
  exact e
theorem Gr.box {S S' : Sto} {b k : Nat} (h : Gr S S') (B : Box S b k) : Box S' b k := by
  obtain ⟨T, rfl⟩ := h
  exact B.keep fun n hn => List.getElem?_append_left hn
theorem Gr.ext {S S' : Sto} (b : Nat) (h : Gr S S') : Ext b S S' := by
  obtain ⟨T, rfl⟩ := h
  exact ⟨by simp, fun n hn _ => List.getElem?_append_left hn⟩
/-- what a thing is -/
def NotStr (S : Sto) (d : D) : Prop := ∃ t, tyD S d = some t ∧ t ≠ "str"
theorem type_of {S : Sto} {d : D} {t : String} (h : tyD S d = some t) : oType [d] S = some (.ty t, S) := by
  show (tyD S d).map (fun t => (D.ty t, S)) = _
  rw [h]; rfl
theorem is_ty {S : Sto} {a b : String} : oIs (.ty a) (.ty b) S = some (.bl (decide (a = b)), S) := by rfl
theorem isNot_ty {S : Sto} {a b : String} : oIsNot (.ty a) (.ty b) S = some (.bl (!decide (a = b)), S) := by rfl
def smallB (x : Str) (most : Int) : Bool := decide (1 ≤ (x.length : Int)) && (decide ((x.length : Int) ≤ most) && allIn x "abcdefghijklmnopqrstuvwxyz")
abbrev d_small : MF := mDef 2 2 (sRet (mAnd2 (mBin oIs (mL oType (aCons (mVar 0) aNil)) (mC (.ty "str"))) (mAnd2 (mChain oLe oLe (mC (.int 1)) (mL oLen (aCons (mVar 0) aNil)) (mVar 1)) (mCall d_consists (aCons (mVar 0) (aCons (mC (.str "abcdefghijklmnopqrstuvwxyz")) aNil))))))
theorem len_s {S : Sto} {x : Str} (h : x.length ≤ sizeLine) : oLen [.str x] S = some (.int x.length, S) := by
  show (if x.length ≤ sizeLine then some (D.int x.length, S) else none) = _
  rw [if_pos h]
theorem small_str {S : Sto} {x : Str} {most : Int} (h : x.length ≤ sizeLine) : d_small [.str x, .int most] S = .ok (.bl (smallB x most)) S := by
  have f1 : oType [.str x] S = some (.ty "str", S) := rfl
  have f2 : oIs (.ty "str") (.ty "str") S = some (.bl true, S) := rfl
  have f3 := consists_eq (S := S) (y := "abcdefghijklmnopqrstuvwxyz") h
  unfold d_small smallB
  generalize hc : d_consists = dc at f3 ⊢
  cases h1 : decide (1 ≤ (x.length : Int)) with
  | false =>
    simp only [mDef, sRet, sSeq, sIf, sExpr, sAsg, sNx, sBk, sCt, sPut, tgN, mBin, mUn, mMeth, mL, mM, mC, mVar, aNil, aCons, mTup, mLst, mIf, mSl, mChain, mAnd2, mOr2, mNot, tBl, tVal, tAnd2, tOr2, tNot2, startE, Rs.bind, Rs.bindS, lift, mCall, mCallC, mCall0, Rs.cold, List.length_cons, List.length_nil, List.map_cons, List.map_nil, List.replicate, List.append_eq, List.cons_append, List.nil_append, List.getElem?_cons_zero, List.getElem?_cons_succ, List.getElem?_nil, List.set_cons_zero, List.set_cons_succ, Nat.sub_self, Nat.reduceSub, Nat.reduceAdd, if_true, if_false, decide_true, decide_false, Option.map_some, Option.map_none, ite_true, ite_false, reduceIte, beq_self_eq_true, Bool.false_eq_true, Nat.zero_add, int_i, add_ii, sub_ii, lt_ii, gt_ii, ge_ii, le_ii, f1, f2, len_s h, h1, Bool.false_and]
  | true =>
    cases h2 : decide ((x.length : Int) ≤ most) with
    | false =>
      simp only [mDef, sRet, sSeq, sIf, sExpr, sAsg, sNx, sBk, sCt, sPut, tgN, mBin, mUn, mMeth, mL, mM, mC, mVar, aNil, aCons, mTup, mLst, mIf, mSl, mChain, mAnd2, mOr2, mNot, tBl, tVal, tAnd2, tOr2, tNot2, startE, Rs.bind, Rs.bindS, lift, mCall, mCallC, mCall0, Rs.cold, List.length_cons, List.length_nil, List.map_cons, List.map_nil, List.replicate, List.append_eq, List.cons_append, List.nil_append, List.getElem?_cons_zero, List.getElem?_cons_succ, List.getElem?_nil, List.set_cons_zero, List.set_cons_succ, Nat.sub_self, Nat.reduceSub, Nat.reduceAdd, if_true, if_false, decide_true, decide_false, Option.map_some, Option.map_none, ite_true, ite_false, reduceIte, beq_self_eq_true, Bool.false_eq_true, Nat.zero_add, int_i, add_ii, sub_ii, lt_ii, gt_ii, ge_ii, le_ii, f1, f2, len_s h, h1, h2, Bool.false_and, Bool.true_and]
    | true =>
      simp only [mDef, sRet, sSeq, sIf, sExpr, sAsg, sNx, sBk, sCt, sPut, tgN, mBin, mUn, mMeth, mL, mM, mC, mVar, aNil, aCons, mTup, mLst, mIf, mSl, mChain, mAnd2, mOr2, mNot, tBl, tVal, tAnd2, tOr2, tNot2, startE, Rs.bind, Rs.bindS, lift, mCall, mCallC, mCall0, Rs.cold, List.length_cons, List.length_nil, List.map_cons, List.map_nil, List.replicate, List.append_eq, List.cons_append, List.nil_append, List.getElem?_cons_zero, List.getElem?_cons_succ, List.getElem?_nil, List.set_cons_zero, List.set_cons_succ, Nat.sub_self, Nat.reduceSub, Nat.reduceAdd, if_true, if_false, decide_true, decide_false, Option.map_some, Option.map_none, ite_true, ite_false, reduceIte, beq_self_eq_true, Bool.false_eq_true, Nat.zero_add, int_i, add_ii, sub_ii, lt_ii, gt_ii, ge_ii, le_ii, f1, f2, len_s h, h1, h2, f3, Bool.true_and]
theorem small_not {S : Sto} {d : D} {most : Int} (h : NotStr S d) : d_small [d, .int most] S = .ok (.bl false) S := by
  obtain ⟨t, h1, h2⟩ := h
  have f1 := type_of h1
  have f2 : oIs (.ty t) (.ty "str") S = some (.bl false, S) := by rw [is_ty, decide_eq_false h2]
  unfold d_small
  generalize d_consists = dc
  simp only [mDef, sRet, sSeq, sIf, sExpr, sAsg, sNx, sBk, sCt, sPut, tgN, mBin, mUn, mMeth, mL, mM, mC, mVar, aNil, aCons, mTup, mLst, mIf, mSl, mChain, mAnd2, mOr2, mNot, tBl, tVal, tAnd2, tOr2, tNot2, startE, Rs.bind, Rs.bindS, lift, mCall, mCallC, mCall0, Rs.cold, List.length_cons, List.length_nil, List.map_cons, List.map_nil, List.replicate, List.append_eq, List.cons_append, List.nil_append, List.getElem?_cons_zero, List.getElem?_cons_succ, List.getElem?_nil, List.set_cons_zero, List.set_cons_succ, Nat.sub_self, Nat.reduceSub, Nat.reduceAdd, if_true, if_false, decide_true, decide_false, Option.map_some, Option.map_none, ite_true, ite_false, reduceIte, beq_self_eq_true, Bool.false_eq_true, Nat.zero_add, int_i, add_ii, sub_ii, lt_ii, gt_ii, ge_ii, le_ii, f1, f2]

/-! ### filters whose tests may lay new lists -/
theorem Gr.set_new {S0 S : Sto} {n : Nat} {o : SO} (h : Gr S0 S) (hn : S0.length ≤ n) : Gr S0 (S.set n o) := by
  obtain ⟨T, rfl⟩ := h
  refine ⟨T.set (n - S0.length) o, ?_⟩
  rw [List.set_append_right _ _ hn]
theorem lc_gr {it : ItM} {cnt n : Nat} {tg : Tg} {tt : MT} {me : MV} {e : Nv} {xs : List D} (t : D → Bool) (g : D → D) (S0 : Sto) (hit : ∀ i S, Gr S0 S → it.at_ i S = some xs[i]?) (hc : cnt = xs.length) (hz : xs.length ≤ sizeLine)
    (hs : ∀ x ∈ xs, ∀ S, Gr S0 S → ∃ e1 S1, tg x e = some e1 ∧ tt e1 S = .ok (t x) S1 ∧ Gr S S1 ∧ (t x = true → me e1 S1 = .ok (g x) S1)) (hn : n = S0.length) :
    ∃ S', loopC it tg tt me n e cnt 0 (S0 ++ [.lst true []]) = .ok (.loc n) S' ∧ Gr S0 S' ∧ S'[n]? = some (.lst true ((xs.filter t).map g)) ∧ n < S'.length := by
  have key : ∀ (m i : Nat) (acc : List D) (S : Sto), i + m = cnt → acc = ((xs.take i).filter t).map g → Gr S0 S → S[n]? = some (.lst true acc) →
      ∃ S', loopC it tg tt me n e m i S = .ok (.loc n) S' ∧ Gr S0 S' ∧ S'[n]? = some (.lst true ((xs.filter t).map g)) ∧ n < S'.length := by
    intro m
    induction m with
    | zero =>
      intro i acc S hi ha hg hS
      have e1 : i = xs.length := by omega
      have e2 : xs[i]? = none := List.getElem?_eq_none_iff.mpr (by omega)
      rw [loopC]
      simp only [hit i S hg, e2]
      refine ⟨S, rfl, hg, ?_, (List.getElem?_eq_some_iff.mp hS).1⟩
      rw [hS, ha, e1, List.take_length]
    | succ m ih =>
      intro i acc S hi ha hg hS
      have hlt : i < xs.length := by omega
      have e1 : xs[i]? = some xs[i] := List.getElem?_eq_getElem hlt
      obtain ⟨e2, S1, h1, h2, h3, h4⟩ := hs xs[i] (List.getElem_mem hlt) S hg
      have tk : xs.take (i + 1) = xs.take i ++ [xs[i]] := by rw [List.take_add_one, e1]; rfl
      rw [loopC]
      simp only [hit i S hg, e1, h1, h2, Rs.bind]
      have hS1 := h3.get hS
      cases ht : t xs[i] with
      | false =>
        simp only [Bool.false_eq_true, if_false]
        refine ih (i + 1) acc S1 (by omega) ?_ (hg.trans h3) hS1
        rw [ha, tk, List.filter_append, List.filter_cons_of_neg (by simp [ht]), List.filter_nil, List.append_nil]
      | true =>
        have hl : acc.length < sizeLine := by
          have : acc.length ≤ i := by
            rw [ha, List.length_map]
            exact Nat.le_trans (List.length_filter_le _ _) (by rw [List.length_take]; omega)
          omega
        simp only [if_true, h4 ht, hS1, if_pos hl]
        refine ih (i + 1) (acc ++ [g xs[i]]) _ (by omega) ?_ ((hg.trans h3).set_new (by omega)) (List.getElem?_set_self (List.getElem?_eq_some_iff.mp hS1).1)
        rw [ha, tk, List.filter_append, List.filter_cons_of_pos ht, List.filter_nil, List.map_append]
        rfl
  exact key cnt 0 [] (S0 ++ [.lst true []]) (by omega) rfl (Gr.one _ _) (by rw [hn]; simp)
/-- the signs of a text -/
def chars (x : Str) : List D := x.cps.toList.map fun c => .str ⟨#[c]⟩
theorem itS_at {x : Str} {i : Nat} {S : Sto} : (itS x).at_ i S = some (chars x)[i]? := by
  show some (x.cps[i]?.map fun c => D.str ⟨#[c]⟩) = _
  unfold chars
  rw [List.getElem?_map, Array.getElem?_toList]
/-- [sign for sign in x if sign not in z] -/
theorem comp_signs {e : Nv} {S : Sto} {x z : Str} {i j : Nat} {mz : MV} (hx : e[i]? = some (some (.str x))) (hj : j < e.length) (hij : i ≠ j) (hlen : x.length ≤ sizeLine) (hz : ∀ (d : D) (S1 : Sto), mz ((wipeE e [j]).set j (some d)) S1 = .ok (.str z) S1) :
    ∃ S', mLcC (iAny (mVar i)) (tgN j) (tBl (mBin oNotIn2 (mVar j) mz)) (mVar j) [j] e S = .ok (.loc S.length) S' ∧ Gr S S' ∧ S'[S.length]? = some (.lst true ((x.cps.toList.filter fun c => !decide (c ∈ z.cps.toList)).map fun c => .str ⟨#[c]⟩)) ∧ S.length < S'.length := by
  have hI : iAny (mVar i) e S = .ok (itS x) S := by
    simp only [iAny, mVar, hx, Rs.bind]
  have hjw : j < (wipeE e [j]).length := by simp [wipeE, hj]
  obtain ⟨S', h1, h2, h3, h4⟩ := lc_gr (it := itS x) (cnt := (itS x).cnt) (n := S.length) (tg := tgN j) (tt := tBl (mBin oNotIn2 (mVar j) mz)) (me := mVar j) (e := wipeE e [j]) (xs := chars x)
    (fun d => match d with | .str ⟨a⟩ => (match a.toList with | [c] => !decide (c ∈ z.cps.toList) | _ => false) | _ => false) id S (fun i S _ => itS_at) (by
      show x.cps.size = _
      unfold chars; simp) (by unfold chars; rw [List.length_map, Array.length_toList]; exact hlen) (fun d hd S1 hg => by
      obtain ⟨c, hc, rfl⟩ := List.mem_map.mp hd
      have e1 : ((wipeE e [j]).set j (some (.str ⟨#[c]⟩)))[j]? = some (some (.str ⟨#[c]⟩)) := List.getElem?_set_self hjw
      refine ⟨_, S1, rfl, ?_, Gr.refl _, fun _ => ?_⟩
      · have hz' := hz (.str ⟨#[c]⟩) S1
        simp only [tBl, mBin, mVar, e1, hz', Rs.bind, lift, notIn_one]
      · simp only [mVar, e1]
        rfl) rfl
  refine ⟨S', ?_, h2, ?_, h4⟩
  · unfold mLcC
    rw [hI]
    simp only [Rs.bind]
    rw [h1]
    rfl
  · rw [h3]
    congr 2
    unfold chars
    rw [List.filter_map, List.map_map]
    rfl

/-! ### plain data -/
def PD (S : Sto) (d : D) : Prop := ∃ p, toP 40 S d = some p ∧ p.canLay0 = true ∧ p.depth ≤ 40
theorem mapM_some_of {α β : Type} {f g : α → Option β} : ∀ {xs : List α} {ys : List β}, xs.mapM f = some ys → (∀ x y, x ∈ xs → f x = some y → g x = some y) → xs.mapM g = some ys
  | [], ys, h, _ => h
  | x :: xs, ys, h, k => by
    rw [List.mapM_cons] at h ⊢
    cases hx : f x with
    | none => rw [hx] at h; cases h
    | some y =>
      rw [hx] at h
      cases hr : xs.mapM f with
      | none => rw [hr] at h; cases h
      | some zs =>
        rw [hr] at h
        rw [k x y List.mem_cons_self hx, mapM_some_of hr fun a b ha hb => k a b (List.mem_cons_of_mem _ ha) hb]
        exact h
theorem toP_mono : ∀ {n : Nat} {S : Sto} {d : D} {p : PyData}, toP n S d = some p → ∀ {m : Nat} {S' : Sto}, n ≤ m → Gr S S' → toP m S' d = some p
  | 0, _, _, _, h, _, _, _, _ => by cases h
  | n + 1, S, d, p, h, 0, _, hm, _ => by omega
  | n + 1, S, d, p, h, m + 1, S', hm, hg => by
    cases d with
    | non => exact h
    | bl b => exact h
    | int i => exact h
    | str x => exact h
    | tup ds =>
      have h : (ds.mapM (toP n S)).map PyData.tuple = some p := h
      show (ds.mapM (toP m S')).map PyData.tuple = some p
      cases e : ds.mapM (toP n S) with
      | none => rw [e] at h; cases h
      | some ps =>
        rw [e] at h
        rw [mapM_some_of e fun x y _ hx => toP_mono hx (by omega) hg]
        exact h
    | loc k =>
      have h : (match S[k]? with
        | some (.lst _ ds) => (ds.mapM (toP n S)).map PyData.list
        | _ => none) = some p := h
      show (match S'[k]? with
        | some (.lst _ ds) => (ds.mapM (toP m S')).map PyData.list
        | _ => none) = some p
      cases e0 : S[k]? with
      | none => rw [e0] at h; cases h
      | some o =>
        cases o with
        | dic kvs => rw [e0] at h; cases h
        | tab _ _ => rw [e0] at h; cases h
        | obj _ _ => rw [e0] at h; cases h
        | lst w ds =>
          rw [hg.get e0]
          rw [e0] at h
          have h : (ds.mapM (toP n S)).map PyData.list = some p := h
          show (ds.mapM (toP m S')).map PyData.list = some p
          cases e : ds.mapM (toP n S) with
          | none => rw [e] at h; cases h
          | some ps =>
            rw [e] at h
            rw [mapM_some_of e fun x y _ hx => toP_mono hx (by omega) hg]
            exact h
    | fn x => cases h
    | ty x => cases h
theorem PD.gr {S S' : Sto} {d : D} (h : PD S d) (g : Gr S S') : PD S' d := by
  obtain ⟨p, h1, h2, h3⟩ := h
  exact ⟨p, toP_mono h1 (Nat.le_refl _) g, h2, h3⟩
theorem mapM_pd {S : Sto} {n : Nat} (hn : 40 ≤ n) : ∀ {ds : List D}, (∀ d ∈ ds, PD S d) → ∃ ps, ds.mapM (toP n S) = some ps ∧ PyData.canLayAll0 ps = true ∧ PyData.depthAll ps ≤ 40 ∧ ps.length = ds.length
  | [], _ => ⟨[], rfl, rfl, Nat.zero_le _, rfl⟩
  | d :: ds, h => by
    obtain ⟨p, h1, h2, h3⟩ := h d List.mem_cons_self
    obtain ⟨ps, k1, k2, k3, k4⟩ := mapM_pd hn fun x hx => h x (List.mem_cons_of_mem _ hx)
    refine ⟨p :: ps, ?_, ?_, ?_, by simp [k4]⟩
    · rw [List.mapM_cons, toP_mono h1 hn (Gr.refl _), k1]; rfl
    · show (PyData.canLay0 p && PyData.canLayAll0 ps) = true
      rw [h2, k2]; rfl
    · show max (PyData.depth p) (PyData.depthAll ps) ≤ 40
      omega
/-- is a list of plain things the empty list -/
theorem eq_nil {S : Sto} {a b : Nat} {w w' : Bool} {ds : List D} (ha : S[a]? = some (.lst w ds)) (hb : S[b]? = some (.lst w' [])) (h : ∀ d ∈ ds, PD S d) : eqD S (.loc a) (.loc b) = some ds.isEmpty := by
  obtain ⟨ps, k1, k2, k3, k4⟩ := mapM_pd (n := 64) (by decide) h
  have e1 : toP 65 S (.loc a) = some (.list ps) := by
    show (match S[a]? with
      | some (.lst _ ds) => (ds.mapM (toP 64 S)).map PyData.list
      | _ => none) = _
    rw [ha]
    show (ds.mapM (toP 64 S)).map PyData.list = _
    rw [k1]; rfl
  have e2 : toP 65 S (.loc b) = some (.list []) := by
    show (match S[b]? with
      | some (.lst _ ds) => (ds.mapM (toP 64 S)).map PyData.list
      | _ => none) = _
    rw [hb]; rfl
  have s1 : SeqAt.shaped (.list ps) = true := by
    show (PyData.canLayAll0 ps && decide (PyData.depthAll ps + 1 ≤ 64)) = true
    rw [k2, decide_eq_true (by omega)]; rfl
  show (match toP 65 S (.loc a), toP 65 S (.loc b) with
    | some p, some q => if (SeqAt.shaped p && SeqAt.shaped q) = true then some (PyData.eqv p q) else none
    | _, _ => none) = _
  rw [e1, e2]
  show (if (SeqAt.shaped (.list ps) && true) = true then some (PyData.eqv (.list ps) (.list [])) else none) = _
  rw [s1]
  cases ps with
  | nil =>
    cases ds with
    | nil => rfl
    | cons d ds => simp at k4
  | cons p ps =>
    cases ds with
    | nil => simp at k4
    | cons d ds => rfl
end P0
end

section
set_option Elab.async false
set_option linter.all false
set_option maxRecDepth 100000
/-! Q0: texts as lists of signs. -/
namespace P0
open PySem PySem.Spec M2
set_option autoImplicit false
def T (l : List Nat) : Str := ⟨l.toArray⟩
theorem T_cps (l : List Nat) : (T l).cps.toList = l := rfl
theorem T_len (l : List Nat) : (T l).length = l.length := by
  show l.toArray.size = l.length
  exact List.size_toArray ..
theorem T_of (x : Str) : T x.cps.toList = x := by
  cases x with
  | mk cps => show Str.mk cps.toList.toArray = _; rw [Array.toArray_toList]
theorem T_inj {a b : List Nat} (h : T a = T b) : a = b := by
  have := congrArg (fun s : Str => s.cps.toList) h
  exact this
theorem T_app (a b : List Nat) : T a ++ T b = T (a ++ b) := by
  show Str.mk (a.toArray ++ b.toArray) = Str.mk (a ++ b).toArray
  rw [List.append_toArray]
theorem add_T {S : Sto} {a b : List Nat} (h : a.length + b.length ≤ sizeLine) : oAdd (.str (T a)) (.str (T b)) S = some (.str (T (a ++ b)), S) := by
  show (if (T a).length + (T b).length ≤ sizeLine then some (D.str (T a ++ T b), S) else none) = _
  rw [T_len, T_len, if_pos h, T_app]
theorem ix_T {S : Sto} {l : List Nat} {k c : Nat} (h : l[k]? = some c) (hz : l.length ≤ sizeLine) : oIx (.str (T l)) (.int (k : Int)) S = some (.str (T [c]), S) := by
  have hk := (List.getElem?_eq_some_iff.mp h).1
  show (if (T l).length ≤ sizeLine then (L2.atI (T l).cps.toList (k : Int)).map fun c => (D.str ⟨#[c]⟩, S) else none) = _
  rw [T_len, if_pos hz, T_cps]
  unfold L2.atI
  rw [ixN_nat hk]
  simp only [Option.bind_some, h, Option.map_some]
  rfl
theorem sl_T {S : Sto} {l : List Nat} {a b : Nat} (hz : l.length ≤ sizeLine) : oSl (.str (T l)) (some (a : Int)) (some (b : Int)) S = some (.str (T ((l.take b).drop a)), S) := by
  show (if (T l).length ≤ sizeLine then some (D.str (L2.cutS (T l) (some (a : Int)) (some (b : Int))), S) else none) = _
  rw [T_len, if_pos hz]
  have e : L2.cutS (T l) (some (a : Int)) (some (b : Int)) = T ((l.take b).drop a) := by
    unfold L2.cutS
    rw [T_len, T_cps, HT.sIx_nat, HT.sIx_nat]
    show T _ = T _
    congr 1
    rw [List.drop_take]
    by_cases h1 : a ≤ l.length
    · rw [Nat.min_eq_left h1]
      by_cases h2 : b ≤ l.length
      · rw [Nat.min_eq_left h2]
      · rw [Nat.min_eq_right (show l.length ≤ b by omega), List.take_of_length_le (by rw [List.length_drop]; omega), List.take_of_length_le (by rw [List.length_drop]; omega)]
    · rw [Nat.min_eq_right (show l.length ≤ a by omega), List.drop_eq_nil_of_le (Nat.le_refl _), List.drop_eq_nil_of_le (show l.length ≤ a by omega), List.take_nil, List.take_nil]
  rw [e]
theorem slL_T {S : Sto} {l : List Nat} {b : Nat} (hz : l.length ≤ sizeLine) : oSl (.str (T l)) none (some (b : Int)) S = some (.str (T (l.take b)), S) := by
  show (if (T l).length ≤ sizeLine then some (D.str (L2.cutS (T l) none (some (b : Int))), S) else none) = _
  rw [T_len, if_pos hz]
  have e : L2.cutS (T l) none (some (b : Int)) = T (l.take b) := by
    unfold L2.cutS
    rw [T_len, T_cps, HT.sIx_nat]
    show T _ = T _
    congr 1
    show (l.drop 0).take (min b l.length - 0) = _
    rw [List.drop_zero, Nat.sub_zero]
    by_cases h2 : b ≤ l.length
    · rw [Nat.min_eq_left h2]
    · rw [Nat.min_eq_right (show l.length ≤ b by omega), List.take_length, List.take_of_length_le (show l.length ≤ b by omega)]
  rw [e]
theorem slR_T {S : Sto} {l : List Nat} {a : Nat} (hz : l.length ≤ sizeLine) : oSl (.str (T l)) (some (a : Int)) none S = some (.str (T (l.drop a)), S) := by
  show (if (T l).length ≤ sizeLine then some (D.str (L2.cutS (T l) (some (a : Int)) none), S) else none) = _
  rw [T_len, if_pos hz]
  have e : L2.cutS (T l) (some (a : Int)) none = T (l.drop a) := by
    unfold L2.cutS
    rw [T_len, T_cps, HT.sIx_nat]
    show T _ = T _
    congr 1
    show (l.drop (min a l.length)).take (l.length - min a l.length) = _
    by_cases h1 : a ≤ l.length
    · rw [Nat.min_eq_left h1, List.take_of_length_le (by rw [List.length_drop]; omega)]
    · rw [Nat.min_eq_right (show l.length ≤ a by omega), List.drop_eq_nil_of_le (Nat.le_refl _), List.drop_eq_nil_of_le (show l.length ≤ a by omega), List.take_nil]
  rw [e]
theorem glued_T (ls : List (List Nat)) : Txt.join (T []) (ls.map T) = T ls.flatten := by
  have key : ∀ ls : List (List Nat), Str.join (T []) (ls.map T) = T ls.flatten := by
    intro ls
    induction ls with
    | nil => rfl
    | cons x ls ih =>
      cases ls with
      | nil => show T x = T ([x].flatten); simp
      | cons y r =>
        have e : Str.join (T []) ((x :: y :: r).map T) = T x ++ T [] ++ Str.join (T []) ((y :: r).map T) := rfl
        rw [e, ih, T_app, T_app]; simp
  rw [← key ls]
  exact PySem.StrLaws.glued_eq_join _ _
theorem strsOf_T : ∀ ls : List (List Nat), strsOf (ls.map fun l => D.str (T l)) = some (ls.map T)
  | [] => rfl
  | x :: ls => by
    show (strsOf (ls.map fun l => D.str (T l))).map _ = _
    rw [strsOf_T ls]; rfl
theorem join_T {S : Sto} {d : D} {ls : List (List Nat)} (h : itemsOf S d = some (ls.map fun l => .str (T l))) (hz : ls.flatten.length ≤ 16777216) : oJoin (.str (T [])) [d] S = some (.str (T ls.flatten), S) := by
  show (match itemsOf S d with
    | some ds => match strsOf ds with
      | some ys => if (ys.map Str.length).sum + ys.length * (T []).length ≤ 16777216 then some (D.str (Txt.join (T []) ys), S) else none
      | none => none
    | none => none) = _
  rw [h]
  show (match strsOf (ls.map fun l => D.str (T l)) with
      | some ys => if (ys.map Str.length).sum + ys.length * (T []).length ≤ 16777216 then some (D.str (Txt.join (T []) ys), S) else none
      | none => none) = _
  rw [strsOf_T]
  have e : ((ls.map T).map Str.length).sum + (ls.map T).length * (T []).length = ls.flatten.length := by
    rw [T_len, List.map_map, List.length_flatten]
    have : (Str.length ∘ T) = List.length := funext fun l => T_len l
    show (ls.map (Str.length ∘ T)).sum + _ = _
    rw [this]; simp
  show (if ((ls.map T).map Str.length).sum + (ls.map T).length * (T []).length ≤ 16777216 then some (D.str (Txt.join (T []) (ls.map T)), S) else none) = _
  rw [e, if_pos hz, glued_T]
theorem divmod_N {S : Sto} {n m : Nat} (h : 0 < m) (h2 : m < 1073741824) : oDivmod [.int n, .int m] S = some (.tup [.int ((n / m : Nat) : Int), .int ((n % m : Nat) : Int)], S) := by
  show (if (0 : Int) < m ∧ (m : Int) < 1073741824 then some (D.tup [.int ((n : Int) / m), .int ((n : Int) % m)], S) else none) = _
  rw [if_pos ⟨by omega, by omega⟩]
  rfl
theorem chars_T (l : List Nat) : chars (T l) = l.map fun c => D.str (T [c]) := rfl
theorem size_up {n c : Nat} (h : 0 < c) : Builtin.Range.rangeSize 0 n c = ((n + c - 1) / c : Nat) := by
  unfold Builtin.Range.rangeSize
  rw [if_pos (by omega)]
  by_cases h0 : 0 < n
  · rw [if_pos (by omega)]
    have e : (n : Int) - 0 - 1 = ((n - 1 : Nat) : Int) := by omega
    rw [e]
    have e2 : n + c - 1 = (n - 1) + c := by omega
    rw [e2, Nat.add_div_right _ h]
    push_cast
    rfl
  · rw [if_neg (by omega)]
    have : n = 0 := by omega
    subst this
    have e : (0 + c - 1) / c = 0 := Nat.div_eq_of_lt (by omega)
    rw [e]; rfl
theorem itemsOf_loc {S : Sto} {n : Nat} {w : Bool} {ds : List D} (h : S[n]? = some (.lst w ds)) : itemsOf S (.loc n) = some ds := by
  show (match S[n]? with
    | some (.lst _ ds) => some ds
    | _ => none) = _
  rw [h]
end P0
end

section
set_option Elab.async false
set_option linter.all false
set_option maxRecDepth 100000
/-! V0: running a mirror step by step: what holds behind it. -/
namespace P0
open PySem PySem.Spec M2
set_option autoImplicit false
abbrev XQ := Str → List (Str × D) → Sto → Prop
abbrev noX : XQ := fun _ _ _ => False
def Ev {α : Type} (r : Rs α) (Q : α → Sto → Prop) (X : XQ) : Prop := match r with
  | .ok d S => Q d S
  | .exc c fs S => X c fs S
  | .stuck => False
def Es (r : SRes) (N : Nv → Sto → Prop) (R : D → Sto → Prop) (B C : Nv → Sto → Prop) (X : Str → List (Str × D) → Nv → Sto → Prop) : Prop := match r with
  | .nx e S => N e S
  | .rt d S => R d S
  | .bk e S => B e S
  | .ct e S => C e S
  | .exc c fs e S => X c fs e S
  | .stuck => False
def Br (k : Bool) (A B : Prop) : Prop := if k = true then A else B
section
variable {α β : Type} {r : Rs α} {Q : α → Sto → Prop} {X : XQ} {e : Nv} {S S' : Sto} {a : α}
theorem Ev.of (h : r = .ok a S) (q : Q a S) : Ev r Q X := by rw [h]; exact q
theorem Ev.exc {c : Str} {fs : List (Str × D)} (h : r = .exc c fs S) (q : X c fs S) : Ev r Q X := by rw [h]; exact q
theorem Ev.get (h : Ev r Q noX) : ∃ a S, r = .ok a S ∧ Q a S := by
  cases r with
  | ok d S => exact ⟨d, S, rfl, h⟩
  | exc c fs S => exact h.elim
  | stuck => exact h.elim
theorem Ev.imp {Q' : α → Sto → Prop} (h : Ev r Q' X) (k : ∀ a S, Q' a S → Q a S) : Ev r Q X := by
  cases r with
  | ok d S => exact k _ _ h
  | exc c fs S => exact h
  | stuck => exact h
theorem Ev.bind {f : α → Sto → Rs β} {Q : β → Sto → Prop} (h : Ev r (fun a S => Ev (f a S) Q X) X) : Ev (r.bind f) Q X := by
  cases r with
  | ok d S => exact h
  | exc c fs S => exact h
  | stuck => exact h
theorem Ev.cold {r : Res} {Q : D → Sto → Prop} (h : Ev r Q noX) : Ev r.cold Q X := by
  cases r with
  | ok d S => exact h
  | exc c fs S => exact h.elim
  | stuck => exact h
theorem Es.bindS {r : Rs α} {f : α → Sto → SRes} {N : Nv → Sto → Prop} {R : D → Sto → Prop} {B C : Nv → Sto → Prop} {Z : Str → List (Str × D) → Nv → Sto → Prop}
    (h : Ev r (fun a S => Es (f a S) N R B C Z) (fun c fs S => Z c fs e S)) : Es (r.bindS e f) N R B C Z := by
  cases r with
  | ok d S => exact h
  | exc c fs S => exact h
  | stuck => exact h
theorem Es.imp {r : SRes} {N N' : Nv → Sto → Prop} {R R' : D → Sto → Prop} {B B' C C' : Nv → Sto → Prop} {Z Z' : Str → List (Str × D) → Nv → Sto → Prop} (h : Es r N' R' B' C' Z')
    (hn : ∀ e S, N' e S → N e S) (hr : ∀ d S, R' d S → R d S) (hb : ∀ e S, B' e S → B e S) (hc : ∀ e S, C' e S → C e S) (hz : ∀ c fs e S, Z' c fs e S → Z c fs e S) : Es r N R B C Z := by
  cases r with
  | nx e S => exact hn _ _ h
  | rt d S => exact hr _ _ h
  | bk e S => exact hb _ _ h
  | ct e S => exact hc _ _ h
  | exc c fs e S => exact hz _ _ _ _ h
  | stuck => exact h
end
section
variable {k : Bool} {A B p : Prop}
theorem br_t (h : k = true) (a : A) : Br k A B := by subst h; exact a
theorem br_f (h : k = false) (b : B) : Br k A B := by subst h; exact b
theorem br_tt (a : A) : Br true A B := a
theorem br_ff (b : B) : Br false A B := b
theorem br_i [Decidable p] (a : p → A) (b : ¬ p → B) : Br (decide p) A B := by
  by_cases h : p
  · rw [decide_eq_true h]; exact a h
  · rw [decide_eq_false h]; exact b h
theorem br_y [Decidable p] (h : p) (a : A) : Br (decide p) A B := by rw [decide_eq_true h]; exact a
theorem br_n [Decidable p] (h : ¬ p) (b : B) : Br (decide p) A B := by rw [decide_eq_false h]; exact b
theorem br_b (a : k = true → A) (b : k = false → B) : Br k A B := by
  cases k
  · exact b rfl
  · exact a rfl
theorem br_not (h : Br k B A) : Br (!k) A B := by cases k <;> exact h
end
section
variable {Q : D → Sto → Prop} {QA : List D → Sto → Prop} {QT : Bool → Sto → Prop} {QO : Option Int → Sto → Prop} {X : XQ} {e : Nv} {S : Sto} {ma mb mc : MV} {mr : MA} {op op2 : Op2} {i : Nat} {d : D}
theorem w_var (h : e[i]? = some (some d)) (q : Q d S) : Ev (mVar i e S) Q X := by
  refine Ev.of (a := d) (S := S) ?_ q
  unfold mVar; rw [h]
theorem w_c (q : Q d S) : Ev (mC d e S) Q X := q
theorem w_bin (h : Ev (ma e S) (fun a S1 => Ev (mb e S1) (fun b S2 => Ev (lift (op a b S2)) Q X) X) X) : Ev (mBin op ma mb e S) Q X := Ev.bind (h.imp fun a S1 g => Ev.bind g)
theorem w_un {op : Op1} (h : Ev (ma e S) (fun a S1 => Ev (lift (op a S1)) Q X) X) : Ev (mUn op ma e S) Q X := Ev.bind h
theorem w_nil (q : QA [] S) : Ev (aNil e S) QA X := q
theorem w_cons (h : Ev (ma e S) (fun a S1 => Ev (mr e S1) (fun as S2 => QA (a :: as) S2) X) X) : Ev (aCons ma mr e S) QA X := Ev.bind (h.imp fun a S1 g => Ev.bind g)
theorem w_star (h : Ev (ma e S) (fun d S1 => ∃ xs, itemsOf S1 d = some xs ∧ Ev (mr e S1) (fun ys S2 => QA (xs ++ ys) S2) X) X) : Ev (aStar ma mr e S) QA X := Ev.bind (h.imp fun a S1 ⟨xs, h1, g⟩ => by
  show Ev (match itemsOf S1 a with
    | some xs => (mr e S1).bind fun ys S2 => .ok (xs ++ ys) S2
    | none => .stuck) QA X
  rw [h1]; exact Ev.bind g)
theorem w_l {op : OpL} (h : Ev (mr e S) (fun as S1 => Ev (lift (op as S1)) Q X) X) : Ev (mL op mr e S) Q X := Ev.bind h
def SzL (as : List D) (P : Prop) : Prop := as.length ≤ sizeLine ∧ P
theorem szL {as : List D} {P : Prop} (h : Nat.ble as.length 64 = true) (p : P) : SzL as P := ⟨Nat.le_trans (Nat.le_of_ble_eq_true h) (by decide), p⟩
theorem w_tup (h : Ev (mr e S) (fun as S1 => SzL as (Q (.tup as) S1)) X) : Ev (mTup mr e S) Q X := Ev.bind (h.imp fun a S1 ⟨h1, g⟩ => by rw [if_pos h1]; exact g)
theorem w_lst (h : Ev (mr e S) (fun as S1 => SzL as (Q (.loc S1.length) (S1 ++ [.lst true as]))) X) : Ev (mLst mr e S) Q X := Ev.bind (h.imp fun a S1 ⟨h1, g⟩ => by rw [if_pos h1]; exact g)
theorem w_if {t : MT} (h : Ev (t e S) (fun k S1 => Br k (Ev (ma e S1) Q X) (Ev (mb e S1) Q X)) X) : Ev (mIf t ma mb e S) Q X := Ev.bind (h.imp fun k S1 g => by cases k <;> exact g)
def TruP (S : Sto) (d : D) (K : Bool → Prop) : Prop := ∃ k, truth S d = some k ∧ K k
theorem tru_bl {k : Bool} {K : Bool → Prop} (q : K k) : TruP S (.bl k) K := ⟨k, rfl, q⟩
theorem tru_l {n : Nat} {w : Bool} {xs : List D} {K : Bool → Prop} (hn : S[n]? = some (.lst w xs)) (q : K (!xs.isEmpty)) : TruP S (.loc n) K := ⟨_, by
  show (match S[n]? with
    | some (.lst _ ds) => some (!ds.isEmpty)
    | some (.dic kvs) => some (!kvs.isEmpty)
    | _ => none) = _
  rw [hn], q⟩
theorem w_tval (h : Ev (ma e S) (fun d S1 => TruP S1 d fun k => QT k S1) X) : Ev (tVal ma e S) QT X := Ev.bind (h.imp fun d S1 ⟨k, h1, g⟩ => by
  show Ev (match truth S1 d with
    | some k => .ok k S1
    | none => .stuck) QT X
  rw [h1]; exact g)
def isB (d : D) (K : Bool → Prop) : Prop := match d with
  | .bl k => K k
  | _ => False
theorem isB_bl {k : Bool} {K : Bool → Prop} (q : K k) : isB (.bl k) K := q
theorem w_tbl (h : Ev (ma e S) (fun d S1 => isB d fun k => QT k S1) X) : Ev (tBl ma e S) QT X := Ev.bind (h.imp fun d S1 g => by
  cases d <;> first | exact g | exact g.elim)
theorem w_and {a b : MT} (h : Ev (a e S) (fun k S1 => Br k (Ev (b e S1) QT X) (QT false S1)) X) : Ev (tAnd2 a b e S) QT X := Ev.bind (h.imp fun k S1 g => by cases k <;> exact g)
theorem w_or {a b : MT} (h : Ev (a e S) (fun k S1 => Br k (QT true S1) (Ev (b e S1) QT X)) X) : Ev (tOr2 a b e S) QT X := Ev.bind (h.imp fun k S1 g => by cases k <;> exact g)
theorem w_not {a : MT} (h : Ev (a e S) (fun k S1 => QT (!k) S1) X) : Ev (tNot2 a e S) QT X := Ev.bind h
theorem w_mand (h : Ev (ma e S) (fun d S1 => isB d fun k => Br k (Ev (mb e S1) Q X) (Q (.bl false) S1)) X) : Ev (mAnd2 ma mb e S) Q X := Ev.bind (h.imp fun d S1 g => by
  cases d with
  | bl k => cases k <;> exact g
  | _ => exact g.elim)
theorem w_mor (h : Ev (ma e S) (fun d S1 => isB d fun k => Br k (Q (.bl true) S1) (Ev (mb e S1) Q X)) X) : Ev (mOr2 ma mb e S) Q X := Ev.bind (h.imp fun d S1 g => by
  cases d with
  | bl k => cases k <;> exact g
  | _ => exact g.elim)
theorem w_mnot (h : Ev (ma e S) (fun d S1 => isB d fun k => Q (.bl !k) S1) X) : Ev (mNot ma e S) Q X := Ev.bind (h.imp fun d S1 g => by
  cases d <;> first | exact g | exact g.elim)
theorem w_chain (h : Ev (ma e S) (fun a S1 => Ev (mb e S1) (fun b S2 => Ev (lift (op a b S2)) (fun d S3 => isB d fun k => Br k (Ev (mc e S3) (fun c S4 => Ev (lift (op2 b c S4)) Q X) X) (Q (.bl false) S3)) X) X) X) : Ev (mChain op op2 ma mb mc e S) Q X :=
  Ev.bind (h.imp fun a S1 g => Ev.bind (g.imp fun b S2 g => by
    show Ev (match op a b S2 with
      | some (.bl true, S3) => (mc e S3).bind fun c S4 => lift (op2 b c S4)
      | some (.bl false, S3) => .ok (.bl false) S3
      | _ => .stuck) Q X
    cases ho : op a b S2 with
    | none => rw [ho] at g; exact g.elim
    | some p =>
      obtain ⟨d, S3⟩ := p
      rw [ho] at g
      have g : isB d fun k => Br k (Ev (mc e S3) (fun c S4 => Ev (lift (op2 b c S4)) Q X) X) (Q (.bl false) S3) := g
      cases d with
      | bl k =>
        cases k with
        | true => exact Ev.bind g
        | false => exact g
      | _ => exact g.elim))
def RcvP (S : Sto) (d : D) (t : String) (P : Prop) : Prop := rcvD S d t = true ∧ P
theorem rcv_str' {x : Str} {P : Prop} (p : P) : RcvP S (.str x) "str" P := ⟨rfl, p⟩
theorem rcv_lst {n : Nat} {w : Bool} {xs : List D} {P : Prop} (hn : S[n]? = some (.lst w xs)) (p : P) : RcvP S (.loc n) "list" P := ⟨by
  show (match S[n]? with
    | some (.lst _ _) => decide ("list" = "list")
    | some (.dic _) => decide ("list" = "dict")
    | _ => false) = true
  rw [hn]; rfl, p⟩
theorem w_meth {T' : String} {op : OpM} (h : Ev (ma e S) (fun x S1 => RcvP S1 x T' (Ev (mr e S1) (fun as S2 => Ev (lift (op x as S2)) Q X) X)) X) : Ev (mMeth T' op ma mr e S) Q X := Ev.bind (h.imp fun a S1 ⟨h1, g⟩ => by rw [if_pos h1]; exact Ev.bind g)
theorem w_call {mf : MF} (h : Ev (mr e S) (fun ds S1 => Ev (mf ds S1) Q X) X) : Ev (mCall mf mr e S) Q X := Ev.bind h
theorem w_callC {mf : MF} (h : Ev (mr e S) (fun ds S1 => Ev (mf ds S1) Q noX) X) : Ev (mCallC mf mr e S) Q X := Ev.bind (h.imp fun ds S1 g => Ev.cold g)
theorem w_call0 {mf : MF} (h : Ev (mf [] S) Q noX) : Ev (mCall0 mf e S) Q X := Ev.cold h
theorem w_no (q : QO none S) : Ev (pNo e S) QO X := q
def isI (d : D) (K : Int → Prop) : Prop := ∃ i, d = .int i ∧ K i
theorem isI_int {i : Int} {K : Int → Prop} (q : K i) : isI (.int i) K := ⟨i, rfl, q⟩
theorem w_at (h : Ev (ma e S) (fun d S1 => isI d fun i => QO (some i) S1) X) : Ev (pAt ma e S) QO X := Ev.bind (h.imp fun d S1 ⟨i, h1, g⟩ => by subst h1; exact g)
theorem w_sl {lo hi : MO} (h : Ev (ma e S) (fun d S1 => Ev (lo e S1) (fun l S2 => Ev (hi e S2) (fun h S3 => Ev (lift (oSl d l h S3)) Q X) X) X) X) : Ev (mSl ma lo hi e S) Q X := Ev.bind (h.imp fun d S1 g => Ev.bind (g.imp fun l S2 g => Ev.bind g))
def FmtP (d : D) (K : D → Prop) : Prop := ∃ y, fmtD d = some y ∧ K (.str y)
theorem w_fmt (h : Ev (ma e S) (fun d S1 => FmtP d fun y => Q y S1) X) : Ev (mFmt ma e S) Q X := Ev.bind (h.imp fun d S1 ⟨y, h1, g⟩ => by
  show Ev (match fmtD d with
    | some y => .ok (.str y) S1
    | none => .stuck) Q X
  rw [h1]; exact g)
theorem w_js0 {acc : Str} (q : Q (.str acc) S) : Ev (mJs [] acc e S) Q X := q
def LeS (n : Nat) (P : Prop) : Prop := n ≤ sizeLine ∧ P
theorem leS_ {n : Nat} {P : Prop} (h : n ≤ sizeLine) (p : P) : LeS n P := ⟨h, p⟩
def isT (d : D) (K : List Nat → Prop) : Prop := ∃ b, d = .str (T b) ∧ K b
theorem isT_T {b : List Nat} {K : List Nat → Prop} (q : K b) : isT (.str (T b)) K := ⟨b, rfl, q⟩
theorem w_js {ms : List MV} {a : List Nat} (h : Ev (ma e S) (fun d S1 => isT d fun b => LeS (a.length + b.length) (Ev (mJs ms (T (a ++ b)) e S1) Q X)) X) : Ev (mJs (ma :: ms) (T a) e S) Q X := Ev.bind (h.imp fun d S1 ⟨y, h1, h2, g⟩ => by
  subst h1
  show Ev (if (T a ++ T y).length ≤ sizeLine then mJs ms (T a ++ T y) e S1 else .stuck) Q X
  rw [T_app, T_len, List.length_append, if_pos h2]; exact g)
theorem w_js1 {ms : List MV} (h : Ev (mJs ms (T []) e S) Q X) : Ev (mJs ms Str.empty e S) Q X := h
theorem w_lrg {mg : Nv → Sto → Rs (Int × Int)} (h : Ev (mg e S) (fun p S1 => rgOk p.1 p.2 = true ∧ Q (.loc S1.length) (S1 ++ [.lst true (rgD p.1 p.2)])) X) : Ev (mLrg mg e S) Q X := Ev.bind (h.imp fun p S1 ⟨h1, g⟩ => by rw [if_pos h1]; exact g)
theorem w_trg {mg : Nv → Sto → Rs (Int × Int)} (h : Ev (mg e S) (fun p S1 => rgOk p.1 p.2 = true ∧ Q (.tup (rgD p.1 p.2)) S1) X) : Ev (mTrg mg e S) Q X := Ev.bind (h.imp fun p S1 ⟨h1, g⟩ => by rw [if_pos h1]; exact g)
theorem w_rg1 {QR : Int × Int → Sto → Prop} (h : Ev (ma e S) (fun d S1 => isI d fun n => QR (0, n) S1) X) : Ev (mRg1 ma e S) QR X := Ev.bind (h.imp fun d S1 ⟨i, h1, g⟩ => by subst h1; exact g)
theorem w_rg2 {QR : Int × Int → Sto → Prop} (h : Ev (ma e S) (fun d S1 => Ev (mb e S1) (fun d2 S2 => isI d fun n => isI d2 fun m => QR (n, m) S2) X) X) : Ev (mRg2 ma mb e S) QR X := Ev.bind (h.imp fun d S1 g => Ev.bind (g.imp fun d2 S2 ⟨n, h1, m, h2, g9⟩ => by subst h1; subst h2; exact g9))
def isS (d : D) (K : Str → Prop) : Prop := ∃ b, d = .str b ∧ K b
theorem isS_s {b : Str} {K : Str → Prop} (q : K b) : isS (.str b) K := ⟨b, rfl, q⟩
theorem w_kget {tb : List (Str × D)} (h : Ev (ma e S) (fun d S1 => isS d fun z => Q ((getT tb z).getD .non) S1) X) : Ev (mKget tb ma e S) Q X := Ev.bind (h.imp fun d S1 ⟨i, h1, g⟩ => by subst h1; exact g)
theorem w_kix {tb : List (Str × D)} (h : Ev (ma e S) (fun d S1 => ∃ z v, d = .str z ∧ getT tb z = some v ∧ Q v S1) X) : Ev (mKix tb ma e S) Q X := Ev.bind (h.imp fun d S1 ⟨i, v, h1, h2, g⟩ => by
  subst h1
  show Ev (match getT tb i with
    | some d => .ok d S1
    | none => .stuck) Q X
  rw [h2]; exact g)
theorem w_sset (h : Ev (ma e S) (fun d S1 => ∃ xs, sortedSet d S1 = some xs ∧ Q (.loc S1.length) (S1 ++ [.lst true xs])) X) : Ev (mSortedSet ma e S) Q X := Ev.bind (h.imp fun d S1 ⟨xs, h1, g⟩ => by
  show Ev (match sortedSet d S1 with
    | some xs => .ok (.loc S1.length) (S1 ++ [.lst true xs])
    | none => .stuck) Q X
  rw [h1]; exact g)
theorem w_lift {o : Option (D × Sto)} {S' : Sto} (h : o = some (d, S')) (q : Q d S') : Ev (lift o) Q X := by rw [h]; exact q
end
section
variable {N : Nv → Sto → Prop} {R : D → Sto → Prop} {B C : Nv → Sto → Prop} {Z : Str → List (Str × D) → Nv → Sto → Prop} {e : Nv} {S : Sto} {a b : MS} {ma mb mc : MV} {t : MT} {i : Nat}
theorem w_seq (h : Es (a e S) (fun e1 S1 => Es (b e1 S1) N R B C Z) R B C Z) : Es (sSeq a b e S) N R B C Z := by
  unfold sSeq
  cases ha : a e S with
  | nx e1 S1 => rw [ha] at h; exact h
  | _ => rw [ha] at h; exact h
theorem w_expr (h : Ev (ma e S) (fun _ S1 => N e S1) fun c fs S1 => Z c fs e S1) : Es (sExpr ma e S) N R B C Z := Es.bindS h
theorem w_ret (h : Ev (ma e S) (fun d S1 => R d S1) fun c fs S1 => Z c fs e S1) : Es (sRet ma e S) N R B C Z := Es.bindS h
theorem w_retN (h : R .non S) : Es (sRetN e S) N R B C Z := h
theorem w_nx (h : N e S) : Es (sNx e S) N R B C Z := h
theorem w_bk (h : B e S) : Es (sBk e S) N R B C Z := h
theorem w_ct (h : C e S) : Es (sCt e S) N R B C Z := h
theorem w_sif (h : Ev (t e S) (fun k S1 => Br k (Es (a e S1) N R B C Z) (Es (b e S1) N R B C Z)) fun c fs S1 => Z c fs e S1) : Es (sIf t a b e S) N R B C Z := Es.bindS (h.imp fun k S1 g => by cases k <;> exact g)
theorem w_asg (h : Ev (ma e S) (fun d S1 => N (e.set i (some d)) S1) fun c fs S1 => Z c fs e S1) : Es (sAsg ma (tgN i) e S) N R B C Z := Es.bindS h
theorem w_asgT {tg : Tg} (h : Ev (ma e S) (fun d S1 => ∃ e1, tg d e = some e1 ∧ N e1 S1) fun c fs S1 => Z c fs e S1) : Es (sAsg ma tg e S) N R B C Z := Es.bindS (h.imp fun d S1 ⟨e1, h1, g⟩ => by
  show Es (match tg d e with
    | some e1 => .nx e1 S1
    | none => .stuck) N R B C Z
  rw [h1]; exact g)
theorem w_aug {op : Op2} {x : D} (hx : e[i]? = some (some x)) (h : Ev (ma e S) (fun d S1 => Ev (lift (op x d S1)) (fun r S2 => N (e.set i (some r)) S2) fun c fs S1 => Z c fs e S1) fun c fs S1 => Z c fs e S1) : Es (sAug i op ma e S) N R B C Z := by
  unfold sAug
  rw [hx]
  refine Es.bindS (h.imp fun d S1 g => ?_)
  show Es (match op x d S1 with
    | some (r, S2) => .nx (e.set i (some r)) S2
    | none => .stuck) N R B C Z
  cases ho : op x d S1 with
  | none => rw [ho] at g; exact g.elim
  | some p => rw [ho] at g; exact g
theorem w_put (h : Ev (ma e S) (fun d S1 => Ev (mb e S1) (fun o S2 => Ev (mc e S2) (fun i S3 => ∃ S4, oPut o i d S3 = some S4 ∧ N e S4) fun c fs S1 => Z c fs e S1) fun c fs S1 => Z c fs e S1) fun c fs S1 => Z c fs e S1) : Es (sPut ma mb mc e S) N R B C Z :=
  Es.bindS (h.imp fun d S1 g => Es.bindS (g.imp fun o S2 g => Es.bindS (g.imp fun i S3 ⟨S4, h1, g⟩ => by
    show Es (match oPut o i d S3 with
      | some S4 => .nx e S4
      | none => .stuck) N R B C Z
    rw [h1]; exact g)))
theorem w_for {mi : Nv → Sto → Rs ItM} {tg : Tg} (h : Ev (mi e S) (fun it S1 => Es (loopM it tg a it.cnt 0 e S1) N R B C Z) fun c fs S1 => Z c fs e S1) : Es (sFor mi tg a e S) N R B C Z := Es.bindS h
/-- a def -/
theorem w_def {n k : Nat} {body : MS} {ds : List D} {Q : D → Sto → Prop} {X : XQ} (hl : ds.length = k) (h : Es (body (startE n ds) S) (fun _ S' => Q .non S') Q (fun _ _ => False) (fun _ _ => False) (fun c fs _ S' => X c fs S')) : Ev (mDef n k body ds S) Q X := by
  unfold mDef
  rw [if_pos hl]
  cases hb : body (startE n ds) S with
  | nx e S => rw [hb] at h; exact h
  | rt d S => rw [hb] at h; exact h
  | bk e S => rw [hb] at h; exact h
  | ct e S => rw [hb] at h; exact h
  | exc c fs e S => rw [hb] at h; exact h
  | stuck => rw [hb] at h; exact h
/-- a for loop by its invariant -/
theorem w_loop {it : ItM} {ys : List D} {tg : Tg} (I : Nat → Nv → Sto → Prop) (hit : ∀ i e S, I i e S → it.at_ i S = some ys[i]?) (hc : it.cnt = ys.length)
    (step : ∀ (i : Nat) (d : D) (e : Nv) (S : Sto), ys[i]? = some d → I i e S → ∃ e1, tg d e = some e1 ∧ Es (a e1 S) (I (i + 1)) R N (I (i + 1)) Z) (h0 : I 0 e S) (fin : ∀ e S, I ys.length e S → N e S) : Es (loopM it tg a it.cnt 0 e S) N R B C Z := by
  rw [hc]
  have key : ∀ (m i : Nat) (e : Nv) (S : Sto), i + m = ys.length → I i e S → Es (loopM it tg a m i e S) N R B C Z := by
    intro m
    induction m with
    | zero =>
      intro i e S hm hI
      have : ys[i]? = none := List.getElem?_eq_none (by omega)
      show Es (match it.at_ i S with
        | some none => .nx e S
        | _ => .stuck) N R B C Z
      rw [hit i e S hI, this]
      exact fin _ _ (by have : i = ys.length := by omega
                        subst this; exact hI)
    | succ m ih =>
      intro i e S hm hI
      have hlt : i < ys.length := by omega
      have hg : ys[i]? = some ys[i] := List.getElem?_eq_getElem hlt
      obtain ⟨e1, h1, h2⟩ := step i ys[i] e S hg hI
      unfold loopM
      rw [hit i e S hI, hg]
      simp only [h1]
      cases hb : a e1 S with
      | nx e2 S2 => rw [hb] at h2; exact ih _ _ _ (by omega) h2
      | ct e2 S2 => rw [hb] at h2; exact ih _ _ _ (by omega) h2
      | bk e2 S2 => rw [hb] at h2; exact h2
      | rt d S2 => rw [hb] at h2; exact h2
      | exc c fs e2 S2 => rw [hb] at h2; exact h2
      | stuck => rw [hb] at h2; exact h2
  exact key _ 0 e S (by omega) h0
end
/-- a list comprehension by its invariant: the store, what was found -/
theorem w_lc {mi : Nv → Sto → Rs ItM} {tg : Tg} {tt : MT} {me : MV} {vs : List Nat} {e : Nv} {S : Sto} {Q : D → Sto → Prop} {X : XQ}
    (h : Ev (mi e S) (fun it S1 => ∃ (ys : List D) (I : Nat → List D → Sto → Prop), (∀ i acc S, I i acc S → it.at_ i S = some ys[i]? ∧ S[S1.length]? = some (.lst true acc)) ∧ it.cnt = ys.length ∧ ys.length ≤ sizeLine ∧
      (∀ (i : Nat) (d : D) (acc : List D) (S : Sto), ys[i]? = some d → acc.length ≤ i → I i acc S → ∃ e1, tg d (wipeE e vs) = some e1 ∧ Ev (tt e1 S) (fun k S2 => Br k (Ev (me e1 S2) (fun y S3 => S3[S1.length]? = some (.lst true acc) ∧ I (i + 1) (acc ++ [y]) (S3.set S1.length (.lst true (acc ++ [y])))) noX) (I (i + 1) acc S2)) noX) ∧
      I 0 [] (S1 ++ [.lst true []]) ∧ ∀ acc S, I ys.length acc S → Q (.loc S1.length) S) X) : Ev (mLcC mi tg tt me vs e S) Q X := by
  refine Ev.bind (h.imp fun it S1 ⟨ys, I, h1, hc, hz, step, h0, fin⟩ => Ev.cold ?_)
  rw [hc]
  have key : ∀ (m i : Nat) (acc : List D) (S : Sto), i + m = ys.length → acc.length ≤ i → I i acc S → Ev (loopC it tg tt me S1.length (wipeE e vs) m i S) Q noX := by
    intro m
    induction m with
    | zero =>
      intro i acc S hm ha hI
      have : ys[i]? = none := List.getElem?_eq_none (by omega)
      show Ev (match it.at_ i S with
        | some none => .ok (.loc S1.length) S
        | _ => .stuck) Q noX
      rw [(h1 i acc S hI).1, this]
      exact fin acc S (by have : i = ys.length := by omega
                          subst this; exact hI)
    | succ m ih =>
      intro i acc S hm ha hI
      have hlt : i < ys.length := by omega
      have hg : ys[i]? = some ys[i] := List.getElem?_eq_getElem hlt
      obtain ⟨e1, h2, h3⟩ := step i ys[i] acc S hg ha hI
      unfold loopC
      rw [(h1 i acc S hI).1, hg]
      simp only [h2]
      refine Ev.bind (h3.imp fun k S2 h4 => ?_)
      cases k with
      | true =>
        have h4 : Ev (me e1 S2) _ noX := h4
        refine Ev.bind (h4.imp fun y S3 ⟨h5, h6⟩ => ?_)
        show Ev (match S3[S1.length]? with
          | some (.lst true acc) => if acc.length < sizeLine then loopC it tg tt me S1.length (wipeE e vs) m (i + 1) (S3.set S1.length (.lst true (acc ++ [y]))) else .stuck
          | _ => .stuck) Q noX
        rw [h5]
        show Ev (if acc.length < sizeLine then _ else _) Q noX
        rw [if_pos (by omega)]
        exact ih _ _ _ (by omega) (by rw [List.length_append]; simp; omega) h6
      | false => exact ih _ _ _ (by omega) (by omega) h4
  exact key _ 0 [] _ (by omega) (Nat.le_refl _) h0
section
variable {e : Nv} {S : Sto} {X : XQ} {Q : ItM → Sto → Prop} {ma : MV} {mr : MA}
/-- what is gone through: a list, a tuple, a text, a range -/
def IsIt (S : Sto) (d : D) (Q : ItM → Prop) : Prop := match d with
  | .loc n => ∃ w ds, S[n]? = some (.lst w ds) ∧ Q (itL n ds.length)
  | .tup ds => Q (itD ds)
  | .str x => Q (itS x)
  | _ => False
theorem w_any (h : Ev (ma e S) (fun d S1 => IsIt S1 d fun it => Q it S1) X) : Ev (iAny ma e S) Q X := Ev.bind (h.imp fun d S1 g => by
  cases d with
  | loc n =>
    obtain ⟨w, ds, h1, q⟩ := g
    show Ev (match S1[n]? with
      | some (.lst _ ds) => .ok (itL n ds.length) S1
      | _ => .stuck) Q X
    rw [h1]; exact q
  | tup ds => exact g
  | str x => exact g
  | _ => exact g.elim)
theorem w_irg1 (h : Ev (mr e S) (fun ds S1 => ∃ j : Int, ds = [.int j] ∧ (-1000000000000 ≤ j ∧ j < 1000000000000) ∧ Q (itR 0 1 j.toNat) S1) X) : Ev (iRg1 mr e S) Q X := Ev.bind (h.imp fun ds S1 ⟨j, h1, ⟨h2, h3⟩, q⟩ => by
  subst h1
  show Ev (if _ then _ else _) Q X
  rw [if_pos ⟨h2, h3⟩]; exact q)
theorem w_irg2 (h : Ev (mr e S) (fun ds S1 => ∃ i j : Int, ds = [.int i, .int j] ∧ (-1000000000000 ≤ i ∧ i < 1000000000000 ∧ -1000000000000 ≤ j ∧ j < 1000000000000) ∧ Q (itR i 1 (j - i).toNat) S1) X) : Ev (iRg2 mr e S) Q X := Ev.bind (h.imp fun ds S1 ⟨i, j, h1, ⟨h2, h3, h4, h5⟩, q⟩ => by
  subst h1
  show Ev (if _ then _ else _) Q X
  rw [if_pos ⟨h2, h3, h4, h5⟩]; exact q)
theorem w_ienum (h : Ev (mr e S) (fun ds S1 => ∃ d, ds = [d] ∧ match d with
    | .loc n => ∃ w ds, S1[n]? = some (.lst w ds) ∧ Q (itEL n ds.length) S1
    | .tup ds => Q (itET ds) S1
    | _ => False) X) : Ev (iEnumM mr e S) Q X := Ev.bind (h.imp fun ds S1 ⟨d, h1, q⟩ => by
  subst h1
  cases d with
  | loc n =>
    obtain ⟨w, ds, h1, q⟩ := q
    show Ev (match S1[n]? with
      | some (.lst _ ds) => .ok (itEL n ds.length) S1
      | _ => .stuck) Q X
    rw [h1]; exact q
  | tup ds => exact q
  | _ => exact q.elim)
end
def rgL (lo : Int) (n : Nat) : List D := (List.range n).map fun i : Nat => D.int (lo + (i : Int))
theorem itR_at {lo : Int} {n i : Nat} {S : Sto} : (itR lo 1 n).at_ i S = some (rgL lo n)[i]? := by
  unfold itR rgL
  show (if i < n then some (some (D.int (lo + i * 1))) else some none) = _
  rw [List.getElem?_map]
  by_cases h : i < n
  · rw [if_pos h, List.getElem?_range h]; simp
  · rw [if_neg h, List.getElem?_eq_none (by simp; omega)]; rfl
theorem rgL_len {lo : Int} {n : Nat} : (rgL lo n).length = n := by unfold rgL; simp
theorem rgL_get {lo : Int} {n i : Nat} {d : D} (h : (rgL lo n)[i]? = some d) : i < n ∧ d = .int (lo + (i : Int)) := by
  have hl := (List.getElem?_eq_some_iff.mp h).1
  rw [rgL_len] at hl
  unfold rgL at h
  rw [List.getElem?_map, List.getElem?_range hl] at h
  exact ⟨hl, (Option.some.inj h).symm⟩
end P0
end

section
set_option Elab.async false
set_option linter.all false
set_option maxRecDepth 100000
/-! P3: rows that ascend, plainly. -/
namespace P0
open PySem PySem.Spec M2 L2 PyProof.Rows
set_option autoImplicit false
section
variable {α : Type} [DecidableEq α]
/-- does each stand before the next -/
def ascB (lt : α → α → Bool) : List α → Bool
  | a :: b :: r => lt a b && ascB lt (b :: r)
  | _ => true
theorem ascB_pw {lt : α → α → Bool} (tr : ∀ a b c, lt a b = true → lt b c = true → lt a c = true) : ∀ l : List α, ascB lt l = true ↔ l.Pairwise fun a b => lt a b = true
  | [] => by simp [ascB]
  | [a] => by simp [ascB]
  | a :: b :: r => by
    have ih := ascB_pw tr (b :: r)
    have e : ascB lt (a :: b :: r) = (lt a b && ascB lt (b :: r)) := rfl
    rw [e, Bool.and_eq_true, ih]
    constructor
    · rintro ⟨h1, h2⟩
      refine List.pairwise_cons.mpr ⟨fun c hc => ?_, h2⟩
      rcases List.mem_cons.mp hc with q | q
      · rw [q]; exact h1
      · exact tr _ _ _ h1 ((List.pairwise_cons.mp h2).1 c q)
    · intro h
      exact ⟨(List.pairwise_cons.mp h).1 b List.mem_cons_self, (List.pairwise_cons.mp h).2⟩
theorem addU_mem {L : List α} {x y : α} : y ∈ addU L x ↔ y ∈ L ∨ y = x := by
  unfold addU
  split
  · rename_i h
    exact ⟨.inl, fun z => z.elim id fun e => e ▸ h⟩
  · simp
theorem addU_nodup {L : List α} {x : α} (h : L.Nodup) : (addU L x).Nodup := by
  unfold addU
  split
  · exact h
  · rename_i hx
    rw [List.nodup_append]
    exact ⟨h, List.pairwise_singleton _ _, fun a ha b hb e => hx (by rw [List.mem_singleton.mp hb] at e; rw [← e]; exact ha)⟩
theorem uniq_nodup (xs : List α) : (uniq xs).Nodup := by
  have key : ∀ (xs L : List α), L.Nodup → (xs.foldl addU L).Nodup := by
    intro xs
    induction xs with
    | nil => intro L h; exact h
    | cons x xs ih => intro L h; exact ih _ (addU_nodup h)
  exact key xs [] List.Pairwise.nil
theorem uniq_self {xs : List α} (h : xs.Nodup) : uniq xs = xs := by
  have key : ∀ (xs L : List α), (L ++ xs).Nodup → xs.foldl addU L = L ++ xs := by
    intro xs
    induction xs with
    | nil => intro L h; simp
    | cons x xs ih =>
      intro L h
      have hx : x ∉ L := fun z => by
        have := (List.nodup_append.mp h).2.2 x z x List.mem_cons_self
        exact this rfl
      rw [List.foldl_cons]
      have e : addU L x = L ++ [x] := by unfold addU; rw [if_neg hx]
      rw [e, ih (L ++ [x]) (by simpa using h)]
      simp
  have q := key xs [] (by simpa using h)
  rw [List.nil_append] at q
  exact q
/-- a row is its own sorted set just if it ascends -/
theorem sorted_iff {lt le : α → α → Bool} (tr : ∀ a b c, lt a b = true → lt b c = true → lt a c = true) (letr : ∀ a b c, le a b = true → le b c = true → le a c = true) (letot : ∀ a b, (le a b || le b a) = true)
    (h1 : ∀ a b, lt a b = true → le a b = true ∧ a ≠ b) (h2 : ∀ a b, le a b = true → a ≠ b → lt a b = true) (l : List α) : l = (uniq l).mergeSort le ↔ ascB lt l = true := by
  rw [ascB_pw tr]
  constructor
  · intro e
    have p := List.mergeSort_perm (uniq l) le
    have nd : l.Nodup := by
      rw [e]
      exact p.nodup_iff.mpr (uniq_nodup l)
    have pw : l.Pairwise fun a b => le a b = true := by
      have q := List.pairwise_mergeSort (le := le) letr letot (uniq l)
      rw [← e] at q
      exact q
    exact (pw.and nd).imp fun ⟨a, b⟩ => h2 _ _ a b
  · intro pw
    have nd : l.Nodup := pw.imp fun h => (h1 _ _ h).2
    rw [uniq_self nd, List.mergeSort_of_pairwise (pw.imp fun h => (h1 _ _ h).1)]
end

def ltS (a b : Str) : Bool := decide (a.cps.toList < b.cps.toList)
def ltI (a b : Int) : Bool := decide (a < b)
theorem str_ext {a b : Str} (h : a.cps.toList = b.cps.toList) : a = b := by
  cases a; cases b
  simp only [Str.mk.injEq]
  exact Array.toList_inj.mp h
theorem leS_iff {a b : Str} : leS a b = true ↔ a.cps.toList ≤ b.cps.toList := by
  unfold leS
  rw [ltCps_eq]
  simp only [Bool.not_eq_true', decide_eq_false_iff_not, List.not_lt]
theorem ascS_iff (l : List Str) : (l = (uniq l).mergeSort leS) ↔ ascB ltS l = true := by
  refine sorted_iff (lt := ltS) (le := leS) (fun a b c h k => ?_) (fun a b c h k => leS_trans h k) (fun a b => leS_total a b) (fun a b h => ?_) (fun a b h hne => ?_) l
  · exact decide_eq_true (List.lt_trans (of_decide_eq_true h) (of_decide_eq_true k))
  · have h' := of_decide_eq_true h
    refine ⟨leS_iff.mpr (List.le_of_lt h'), fun e => ?_⟩
    rw [e] at h'
    exact List.lt_irrefl _ h'
  · have h' := leS_iff.mp h
    refine decide_eq_true ?_
    rcases List.le_iff_lt_or_eq.mp h' with q | q
    · exact q
    · exact absurd (str_ext q) hne
theorem ascI_iff (l : List Int) : (l = (uniq l).mergeSort leI) ↔ ascB ltI l = true := by
  refine sorted_iff (lt := ltI) (le := leI) (fun a b c h k => ?_) (fun a b c h k => ?_) (fun a b => ?_) (fun a b h => ?_) (fun a b h hne => ?_) l
  · have := of_decide_eq_true h; have := of_decide_eq_true k; exact decide_eq_true (by omega)
  · have := of_decide_eq_true h; have := of_decide_eq_true k; exact decide_eq_true (by omega)
  · unfold leI; simp only [Bool.or_eq_true, decide_eq_true_eq]; omega
  · have := of_decide_eq_true h
    exact ⟨decide_eq_true (by omega), by omega⟩
  · have := of_decide_eq_true h
    exact decide_eq_true (by omega)
/-! ### two rows alike -/
theorem mapM_emb {α : Type} {S : Sto} {n : Nat} (emb : α → D) (pe : α → PyData) (h : ∀ x, toP n S (emb x) = some (pe x)) : ∀ xs : List α, (xs.map emb).mapM (toP n S) = some (xs.map pe)
  | [] => rfl
  | x :: xs => by
    rw [List.map_cons, List.mapM_cons, h x, mapM_emb emb pe h xs]
    rfl
theorem eqvAll_emb {α : Type} [DecidableEq α] (pe : α → PyData) (h : ∀ x y, PyData.eqv (pe x) (pe y) = decide (x = y)) : ∀ xs ys : List α, PyData.eqvAll (xs.map pe) (ys.map pe) = decide (xs = ys)
  | [], [] => rfl
  | [], y :: ys => by simp [PyData.eqvAll]
  | x :: xs, [] => by simp [PyData.eqvAll]
  | x :: xs, y :: ys => by
    have e : PyData.eqvAll ((x :: xs).map pe) ((y :: ys).map pe) = (PyData.eqv (pe x) (pe y) && PyData.eqvAll (xs.map pe) (ys.map pe)) := rfl
    rw [e, h, eqvAll_emb pe h xs ys, Bool.eq_iff_iff, Bool.and_eq_true, decide_eq_true_eq, decide_eq_true_eq, decide_eq_true_eq, List.cons.injEq]
theorem lay_emb {α : Type} (pe : α → PyData) : ∀ xs : List α, (∀ x ∈ xs, (pe x).canLay0 = true ∧ (pe x).depth = 0) → PyData.canLayAll0 (xs.map pe) = true ∧ PyData.depthAll (xs.map pe) = 0
  | [], _ => ⟨rfl, rfl⟩
  | x :: xs, h => by
    obtain ⟨h1, h2⟩ := h x List.mem_cons_self
    obtain ⟨k1, k2⟩ := lay_emb pe xs fun y hy => h y (List.mem_cons_of_mem _ hy)
    constructor
    · show (PyData.canLay0 (pe x) && PyData.canLayAll0 (xs.map pe)) = true
      rw [h1, k1]; rfl
    · show max (PyData.depth (pe x)) (PyData.depthAll (xs.map pe)) = 0
      omega
theorem eq_rows {α : Type} [DecidableEq α] {S : Sto} {a b : Nat} {w w' : Bool} (emb : α → D) (pe : α → PyData) (h : ∀ x, toP 64 S (emb x) = some (pe x)) (he : ∀ x y, PyData.eqv (pe x) (pe y) = decide (x = y)) {xs ys : List α}
    (ha : S[a]? = some (.lst w (xs.map emb))) (hb : S[b]? = some (.lst w' (ys.map emb))) (hx : ∀ x ∈ xs, (pe x).canLay0 = true ∧ (pe x).depth = 0) (hy : ∀ x ∈ ys, (pe x).canLay0 = true ∧ (pe x).depth = 0) :
    eqD S (.loc a) (.loc b) = some (decide (xs = ys)) := by
  have e1 : toP 65 S (.loc a) = some (.list (xs.map pe)) := by
    show (match S[a]? with
      | some (.lst _ ds) => (ds.mapM (toP 64 S)).map PyData.list
      | _ => none) = _
    rw [ha]
    show ((xs.map emb).mapM (toP 64 S)).map PyData.list = _
    rw [mapM_emb emb pe h]; rfl
  have e2 : toP 65 S (.loc b) = some (.list (ys.map pe)) := by
    show (match S[b]? with
      | some (.lst _ ds) => (ds.mapM (toP 64 S)).map PyData.list
      | _ => none) = _
    rw [hb]
    show ((ys.map emb).mapM (toP 64 S)).map PyData.list = _
    rw [mapM_emb emb pe h]; rfl
  have sh : ∀ zs : List α, (∀ x ∈ zs, (pe x).canLay0 = true ∧ (pe x).depth = 0) → SeqAt.shaped (.list (zs.map pe)) = true := fun zs hz => by
    obtain ⟨k1, k2⟩ := lay_emb pe zs hz
    show (PyData.canLayAll0 (zs.map pe) && decide (PyData.depthAll (zs.map pe) + 1 ≤ 64)) = true
    rw [k1, k2]; rfl
  show (match toP 65 S (.loc a), toP 65 S (.loc b) with
    | some p, some q => if (SeqAt.shaped p && SeqAt.shaped q) = true then some (PyData.eqv p q) else none
    | _, _ => none) = _
  rw [e1, e2]
  show (if (SeqAt.shaped (.list (xs.map pe)) && SeqAt.shaped (.list (ys.map pe))) = true then some (PyData.eqvAll (xs.map pe) (ys.map pe)) else none) = _
  rw [sh xs hx, sh ys hy, eqvAll_emb pe he]
  rfl
theorem eq_strs {S : Sto} {a b : Nat} {w w' : Bool} {xs ys : List Str} (ha : S[a]? = some (.lst w (xs.map .str))) (hb : S[b]? = some (.lst w' (ys.map .str))) (hx : ∀ x ∈ xs, PyData.strOk x = true) (hy : ∀ x ∈ ys, PyData.strOk x = true) :
    eqD S (.loc a) (.loc b) = some (decide (xs = ys)) :=
  eq_rows D.str PyData.str (fun _ => rfl) (fun x y => by
    show (x == y) = _
    rw [Bool.eq_iff_iff, beq_iff_eq, decide_eq_true_eq]) ha hb (fun x h => ⟨hx x h, rfl⟩) fun x h => ⟨hy x h, rfl⟩
theorem eq_ints {S : Sto} {a b : Nat} {w w' : Bool} {xs ys : List Int} (ha : S[a]? = some (.lst w (xs.map .int))) (hb : S[b]? = some (.lst w' (ys.map .int))) : eqD S (.loc a) (.loc b) = some (decide (xs = ys)) :=
  eq_rows D.int PyData.int (fun _ => rfl) (fun x y => by
    show (x == y) = _
    rw [Bool.eq_iff_iff, beq_iff_eq, decide_eq_true_eq]) ha hb (fun x h => ⟨rfl, rfl⟩) fun x h => ⟨rfl, rfl⟩
theorem filter_true {α : Type} (xs : List α) : xs.filter (fun _ => true) = xs := List.filter_eq_self.mpr fun _ _ => rfl
theorem bols_map : ∀ bs : List Bool, M2.bolsOf (bs.map D.bl) = some bs
  | [] => rfl
  | b :: bs => by
    show (M2.bolsOf (bs.map D.bl)).map (b :: ·) = _
    rw [bols_map bs]; rfl
theorem zipAt_zip {xs ys : List D} {i : Nat} : zipAt xs ys i = ((List.zip xs ys).map fun p => D.tup [p.1, p.2])[i]? := by
  rw [List.getElem?_map]
  unfold zipAt
  cases h1 : xs[i]? with
  | none =>
    have : (List.zip xs ys)[i]? = none := by
      rw [List.getElem?_eq_none_iff, List.length_zip]
      have := List.getElem?_eq_none_iff.mp h1
      omega
    rw [this]; rfl
  | some x =>
    cases h2 : ys[i]? with
    | none =>
      have : (List.zip xs ys)[i]? = none := by
        rw [List.getElem?_eq_none_iff, List.length_zip]
        have := List.getElem?_eq_none_iff.mp h2
        omega
      rw [this]; rfl
    | some y =>
      have : (List.zip xs ys)[i]? = some (x, y) := List.getElem?_zip_eq_some.mpr ⟨h1, h2⟩
      rw [this]; rfl
theorem cut1 {d : D} {rest : List D} : M2.cutD (d :: rest) (some 1) none = rest := by
  unfold M2.cutD
  have h1 : HT.sIx (d :: rest).length 0 (some 1) = 1 := by
    have := HT.sIx_nat (d :: rest).length 0 1
    rw [show ((1 : Nat) : Int) = 1 from rfl] at this
    rw [this, List.length_cons]; omega
  have h2 : HT.sIx (d :: rest).length (d :: rest).length none = (d :: rest).length := rfl
  rw [h1, h2, List.drop_succ_cons, List.drop_zero, List.length_cons, Nat.add_sub_cancel, List.take_length]
theorem ascB_zip {α : Type} (lt : α → α → Bool) : ∀ xs : List α, ascB lt xs = (List.zip xs xs.tail).all fun p => lt p.1 p.2
  | [] => rfl
  | [a] => rfl
  | a :: b :: r => by
    have ih := ascB_zip lt (b :: r)
    show (lt a b && ascB lt (b :: r)) = _
    rw [ih]; rfl
abbrev d_asc : MF := mDef 3 1 (sRet (mL oAll (aCons (mLcC (iZip (aCons (mVar 0) (aCons (mSl (mVar 0) (pAt (mC (.int 1))) pNo) aNil))) (tgT [(tgN 1), (tgN 2)]) tOk (mBin oLt (mVar 1) (mVar 2)) [1, 2]) aNil)))
def ltD (d : D) : D := match d with
  | .tup [a, b] => (match oLt a b [] with
    | some (r, _) => r
    | none => .non)
  | _ => .non
theorem asc_eq {α : Type} {S : Sto} (emb : α → D) (lt : α → α → Bool) (h : ∀ a b (S : Sto), oLt (emb a) (emb b) S = some (.bl (lt a b), S)) (xs : List α) (hl : xs.length ≤ sizeLine) :
    ∃ S', d_asc [.tup (xs.map emb)] S = .ok (.bl (ascB lt xs)) S' ∧ Gr S S' := by
  have tl : oSl (.tup (xs.map emb)) (some 1) none S = some (.tup (xs.map emb).tail, S) := by
    show some (D.tup (M2.cutD (xs.map emb) (some 1) none), S) = _
    cases xs with
    | nil => rfl
    | cons x r => rw [List.map_cons, cut1]; rfl
  have hI : (iZip (aCons (mVar 0) (aCons (mSl (mVar 0) (pAt (mC (.int 1))) pNo) aNil))) [some (.tup (xs.map emb)), none, none] S = .ok (itZT (xs.map emb) (xs.map emb).tail) S := by
    have a1 : (aCons (mVar 0) (aCons (mSl (mVar 0) (pAt (mC (.int 1))) pNo) aNil)) [some (.tup (xs.map emb)), none, none] S = .ok [.tup (xs.map emb), .tup (xs.map emb).tail] S := by
      simp only [mDef, sRet, sSeq, sIf, sExpr, sAsg, sNx, sBk, sCt, sPut, tgN, mBin, mUn, mMeth, mL, mM, mC, mVar, aNil, aCons, mTup, mLst, mIf, mSl, mChain, mAnd2, mOr2, mNot, tBl, tVal, tAnd2, tOr2, tNot2, startE, Rs.bind, Rs.bindS, lift, mCall, mCallC, mCall0, Rs.cold, List.length_cons, List.length_nil, List.map_cons, List.map_nil, List.replicate, List.append_eq, List.cons_append, List.nil_append, List.getElem?_cons_zero, List.getElem?_cons_succ, List.getElem?_nil, List.set_cons_zero, List.set_cons_succ, Nat.sub_self, Nat.reduceSub, Nat.reduceAdd, if_true, if_false, decide_true, decide_false, Option.map_some, Option.map_none, ite_true, ite_false, reduceIte, beq_self_eq_true, Bool.false_eq_true, Nat.zero_add, int_i, add_ii, sub_ii, lt_ii, gt_ii, ge_ii, le_ii, pAt, pNo, tl]
    show ((aCons (mVar 0) (aCons (mSl (mVar 0) (pAt (mC (.int 1))) pNo) aNil)) [some (.tup (xs.map emb)), none, none] S).bind _ = _
    rw [a1]; rfl
  have hz : (List.zip (xs.map emb) (xs.map emb).tail).map (fun p => D.tup [p.1, p.2]) = (List.zip xs xs.tail).map fun p => D.tup [emb p.1, emb p.2] := by
    rw [← List.map_tail, List.zip_map, List.map_map]
    rfl
  obtain ⟨S', c1, c2, c3, c4⟩ := lc_gr (it := itZT (xs.map emb) (xs.map emb).tail) (cnt := (itZT (xs.map emb) (xs.map emb).tail).cnt) (n := S.length) (tg := tgT [(tgN 1), (tgN 2)]) (tt := tOk) (me := mBin oLt (mVar 1) (mVar 2)) (e := wipeE [some (.tup (xs.map emb)), none, none] [1, 2])
    (xs := (List.zip xs xs.tail).map fun p => D.tup [emb p.1, emb p.2]) (fun _ => true) ltD S (fun i S1 _ => by
      show some (zipAt (xs.map emb) (xs.map emb).tail i) = _
      rw [zipAt_zip, hz]) (by
      show min (xs.map emb).length (xs.map emb).tail.length = _
      simp only [List.length_map, List.length_zip, List.length_tail]) (by
      rw [List.length_map, List.length_zip]; omega) (fun d hd S1 hg => by
      obtain ⟨p, hp, rfl⟩ := List.mem_map.mp hd
      refine ⟨_, S1, rfl, rfl, Gr.refl _, fun _ => ?_⟩
      have e1 : ltD (.tup [emb p.1, emb p.2]) = .bl (lt p.1 p.2) := by
        show (match oLt (emb p.1) (emb p.2) [] with
          | some (r, _) => r
          | none => .non) = _
        rw [h]
      rw [e1]
      simp only [mDef, sRet, sSeq, sIf, sExpr, sAsg, sNx, sBk, sCt, sPut, tgN, mBin, mUn, mMeth, mL, mM, mC, mVar, aNil, aCons, mTup, mLst, mIf, mSl, mChain, mAnd2, mOr2, mNot, tBl, tVal, tAnd2, tOr2, tNot2, startE, Rs.bind, Rs.bindS, lift, mCall, mCallC, mCall0, Rs.cold, List.length_cons, List.length_nil, List.map_cons, List.map_nil, List.replicate, List.append_eq, List.cons_append, List.nil_append, List.getElem?_cons_zero, List.getElem?_cons_succ, List.getElem?_nil, List.set_cons_zero, List.set_cons_succ, Nat.sub_self, Nat.reduceSub, Nat.reduceAdd, if_true, if_false, decide_true, decide_false, Option.map_some, Option.map_none, ite_true, ite_false, reduceIte, beq_self_eq_true, Bool.false_eq_true, Nat.zero_add, int_i, add_ii, sub_ii, lt_ii, gt_ii, ge_ii, le_ii, wipeE, h]) rfl
  have e2 : (((List.zip xs xs.tail).map fun p => D.tup [emb p.1, emb p.2]).filter fun _ => true).map ltD = ((List.zip xs xs.tail).map fun p => lt p.1 p.2).map D.bl := by
    rw [filter_true, List.map_map, List.map_map]
    refine List.map_congr_left fun p _ => ?_
    show (match oLt (emb p.1) (emb p.2) [] with
      | some (r, _) => r
      | none => .non) = _
    rw [h]; rfl
  rw [e2] at c3
  have hA : oAll [.loc S.length] S' = some (.bl (ascB lt xs), S') := by
    show (match S'[S.length]? with
      | some (.lst _ xs) => (M2.bolsOf xs).map fun (ns : List Bool) => (D.bl (ns.all id), S')
      | _ => none) = _
    rw [c3]
    show (M2.bolsOf (((List.zip xs xs.tail).map fun p => lt p.1 p.2).map D.bl)).map (fun (ns : List Bool) => (D.bl (ns.all id), S')) = _
    rw [bols_map, ascB_zip]
    show some (D.bl (((List.zip xs xs.tail).map fun p => lt p.1 p.2).all id), S') = _
    rw [List.all_map]; rfl
  have hm : mLcC (iZip (aCons (mVar 0) (aCons (mSl (mVar 0) (pAt (mC (.int 1))) pNo) aNil))) (tgT [(tgN 1), (tgN 2)]) tOk (mBin oLt (mVar 1) (mVar 2)) [1, 2] [some (.tup (xs.map emb)), none, none] S = .ok (.loc S.length) S' := by
    unfold mLcC
    rw [hI]
    simp only [Rs.bind]
    rw [c1]; rfl
  refine ⟨S', ?_, c2⟩
  unfold d_asc
  generalize mLcC (iZip (aCons (mVar 0) (aCons (mSl (mVar 0) (pAt (mC (.int 1))) pNo) aNil))) (tgT [(tgN 1), (tgN 2)]) tOk (mBin oLt (mVar 1) (mVar 2)) [1, 2] = mm at hm ⊢
  simp only [mDef, sRet, sSeq, sIf, sExpr, sAsg, sNx, sBk, sCt, sPut, tgN, mBin, mUn, mMeth, mL, mM, mC, mVar, aNil, aCons, mTup, mLst, mIf, mSl, mChain, mAnd2, mOr2, mNot, tBl, tVal, tAnd2, tOr2, tNot2, startE, Rs.bind, Rs.bindS, lift, mCall, mCallC, mCall0, Rs.cold, List.length_cons, List.length_nil, List.map_cons, List.map_nil, List.replicate, List.append_eq, List.cons_append, List.nil_append, List.getElem?_cons_zero, List.getElem?_cons_succ, List.getElem?_nil, List.set_cons_zero, List.set_cons_succ, Nat.sub_self, Nat.reduceSub, Nat.reduceAdd, if_true, if_false, decide_true, decide_false, Option.map_some, Option.map_none, ite_true, ite_false, reduceIte, beq_self_eq_true, Bool.false_eq_true, Nat.zero_add, int_i, add_ii, sub_ii, lt_ii, gt_ii, ge_ii, le_ii, hm, hA]
end P0
end

section
set_option Elab.async false
set_option linter.all false
set_option maxRecDepth 100000
/-! V1: what the operations give. -/
namespace P0
open PySem PySem.Spec M2
set_option autoImplicit false
theorem T_eq {a b : List Nat} : decide (T a = T b) = decide (a = b) := by
  by_cases h : a = b
  · rw [decide_eq_true h, h]; simp
  · rw [decide_eq_false h, decide_eq_false fun q => h (T_inj q)]
section
variable {Q : D → Sto → Prop} {X : XQ} {S : Sto} {i j : Int} {a b : List Nat}
theorem o_add (q : Q (.int (i + j)) S) : Ev (lift (oAdd (.int i) (.int j) S)) Q X := q
theorem o_sub (q : Q (.int (i - j)) S) : Ev (lift (oSub (.int i) (.int j) S)) Q X := q
theorem o_neg (q : Q (.int (-i)) S) : Ev (lift (oNeg (.int i) S)) Q X := q
theorem o_mul (h1 : i.natAbs < 1000000000000000000000000000000) (h2 : j.natAbs < 1000000000000000000000000000000) (q : Q (.int (i * j)) S) : Ev (lift (oMul (.int i) (.int j) S)) Q X := w_lift (mul_small (Nat.lt_trans h1 (by decide)) (Nat.lt_trans h2 (by decide))) q
theorem o_mod (h : 0 < j) (q : Q (.int (i % j)) S) : Ev (lift (oMod (.int i) (.int j) S)) Q X := w_lift (mod_ii h) q
theorem o_fdiv (h : 0 < j) (h2 : j < 1000000000000000000000000000000) (q : Q (.int (i / j)) S) : Ev (lift (oFdiv (.int i) (.int j) S)) Q X := w_lift (fdiv_ii h (by simpa using h2)) q
theorem o_lt (q : Q (.bl (decide (i < j))) S) : Ev (lift (oLt (.int i) (.int j) S)) Q X := q
theorem o_le (q : Q (.bl (decide (i ≤ j))) S) : Ev (lift (oLe (.int i) (.int j) S)) Q X := q
theorem o_gt (q : Q (.bl (decide (j < i))) S) : Ev (lift (oGt (.int i) (.int j) S)) Q X := q
theorem o_ge (q : Q (.bl (decide (j ≤ i))) S) : Ev (lift (oGe (.int i) (.int j) S)) Q X := q
theorem o_eq (q : Q (.bl (decide (i = j))) S) : Ev (lift (oEq (.int i) (.int j) S)) Q X := q
theorem o_ne (q : Q (.bl (!decide (i = j))) S) : Ev (lift (oNe (.int i) (.int j) S)) Q X := q
theorem o_eqT (q : Q (.bl (decide (a = b))) S) : Ev (lift (oEq (.str (T a)) (.str (T b)) S)) Q X := w_lift (d := .bl (decide (a = b))) (S' := S) (by rw [← T_eq]; rfl) q
theorem o_neT (q : Q (.bl (!decide (a = b))) S) : Ev (lift (oNe (.str (T a)) (.str (T b)) S)) Q X := w_lift (d := .bl (!decide (a = b))) (S' := S) (by rw [← T_eq]; rfl) q
theorem o_addT (h : a.length + b.length ≤ sizeLine) (q : Q (.str (T (a ++ b))) S) : Ev (lift (oAdd (.str (T a)) (.str (T b)) S)) Q X := w_lift (add_T h) q
theorem o_addU {xs ys : List D} (h : xs.length + ys.length ≤ sizeLine) (q : Q (.tup (xs ++ ys)) S) : Ev (lift (oAdd (.tup xs) (.tup ys) S)) Q X := w_lift (d := .tup (xs ++ ys)) (S' := S) (if_pos h) q
theorem o_addL {m n : Nat} {xs ys : List D} (hm : S[m]? = some (.lst true xs)) (hn : S[n]? = some (.lst true ys)) (h : xs.length + ys.length ≤ sizeLine) (q : Q (.loc S.length) (S ++ [.lst true (xs ++ ys)])) : Ev (lift (oAdd (.loc m) (.loc n) S)) Q X :=
  w_lift (d := .loc S.length) (S' := S ++ [.lst true (xs ++ ys)]) (by
    show (match S[m]?, S[n]? with
      | some (.lst true xs), some (.lst true ys) => if xs.length + ys.length ≤ sizeLine then some (D.loc S.length, S ++ [SO.lst true (xs ++ ys)]) else none
      | _, _ => none) = _
    rw [hm, hn]; exact if_pos h) q
theorem o_lenT (h : a.length ≤ sizeLine) (q : Q (.int (a.length : Nat)) S) : Ev (lift (oLen [.str (T a)] S)) Q X := w_lift (d := .int (a.length : Int)) (S' := S) (by
    show (if (T a).length ≤ sizeLine then some (D.int (T a).length, S) else none) = _
    rw [T_len, if_pos h]) q
theorem o_lenU {xs : List D} (q : Q (.int (xs.length : Nat)) S) : Ev (lift (oLen [.tup xs] S)) Q X := q
theorem o_lenL {n : Nat} {w : Bool} {xs : List D} (h : S[n]? = some (.lst w xs)) (q : Q (.int (xs.length : Nat)) S) : Ev (lift (oLen [.loc n] S)) Q X := w_lift (len_lst h) q
theorem o_ixU {xs : List D} {k : Nat} {d : D} (h : xs[k]? = some d) (q : Q d S) : Ev (lift (oIx (.tup xs) (.int (k : Int)) S)) Q X := w_lift (d := d) (S' := S) (by
  show (L2.atI xs (k : Int)).map _ = _
  rw [L2.atI_nat h]; rfl) q
theorem o_ixL {n : Nat} {w : Bool} {xs : List D} {k : Nat} {d : D} (hn : S[n]? = some (.lst w xs)) (h : xs[k]? = some d) (q : Q d S) : Ev (lift (oIx (.loc n) (.int (k : Int)) S)) Q X := w_lift (ix_lst hn h) q
theorem o_ixLast {n : Nat} {w : Bool} {xs : List D} {d : D} (hn : S[n]? = some (.lst w (xs ++ [d]))) (q : Q d S) : Ev (lift (oIx (.loc n) (.int (-1)) S)) Q X := w_lift (d := d) (S' := S) (by
  unfold oIx
  simp only [hn]
  show (L2.atI (xs ++ [d]) (-1)).map _ = _
  rw [L2.atI_last]; rfl) q
theorem o_ixULast {xs : List D} {d : D} (q : Q d S) : Ev (lift (oIx (.tup (xs ++ [d])) (.int (-1)) S)) Q X := w_lift (d := d) (S' := S) (by
  show (L2.atI (xs ++ [d]) (-1)).map _ = _
  rw [L2.atI_last]; rfl) q
theorem o_ixT {k c : Nat} (h : a[k]? = some c) (hz : a.length ≤ sizeLine) (q : Q (.str (T [c])) S) : Ev (lift (oIx (.str (T a)) (.int (k : Int)) S)) Q X := w_lift (ix_T h hz) q
theorem o_inT {c : Nat} (q : Q (.bl (decide (c ∈ a))) S) : Ev (lift (oIn2 (.str (T [c])) (.str (T a)) S)) Q X := w_lift (d := .bl (decide (c ∈ a))) (S' := S) (by
  have h := in_one (S := S) (c := c) (z := T a)
  rw [T_cps] at h
  exact h) q
theorem o_notInT {c : Nat} (q : Q (.bl (!decide (c ∈ a))) S) : Ev (lift (oNotIn2 (.str (T [c])) (.str (T a)) S)) Q X := w_lift (d := .bl (!decide (c ∈ a))) (S' := S) (by
  have h := notIn_one (S := S) (c := c) (z := T a)
  rw [T_cps] at h
  exact h) q
/-- None -/
def isN : D → Bool
  | .non => true
  | _ => false
theorem o_isN {d : D} (q : Q (.bl (isN d)) S) : Ev (lift (oIs d .non S)) Q X := by
  cases d <;> exact q
theorem o_isNotN {d : D} (q : Q (.bl (!isN d)) S) : Ev (lift (oIsNot d .non S)) Q X := by
  cases d <;> exact q
theorem o_isTy {x y : String} (q : Q (.bl (decide (x = y))) S) : Ev (lift (oIs (.ty x) (.ty y) S)) Q X := q
theorem o_isNotTy {x y : String} (q : Q (.bl (!decide (x = y))) S) : Ev (lift (oIsNot (.ty x) (.ty y) S)) Q X := q
theorem o_type {d : D} {t : String} (h : tyD S d = some t) (q : Q (.ty t) S) : Ev (lift (oType [d] S)) Q X := w_lift (type_of h) q
theorem o_int (q : Q (.int i) S) : Ev (lift (oInt [.int i] S)) Q X := q
theorem o_intA (q : Q (.int i) S) : Ev (lift (oIntA [.int i] S)) Q X := q
theorem starts_T {a b : List Nat} (hb : b ≠ []) : Txt.startswith (T a) (T b) = TL.pre b a := by
  rw [Bool.eq_iff_iff]
  have h := TL.at_iff (x := T a) (y := T b) hb 0
  have e : (Txt.startswith (T a) (T b) = true) ↔ StrLaws.At (T a) (T b) (T a).length 0 := by
    unfold Txt.startswith StrLaws.At
    rw [Bool.and_eq_true, decide_eq_true_eq]
  rw [e, h]; rfl
theorem o_starts (hb : b ≠ []) (q : Q (.bl (TL.pre b a)) S) : Ev (lift (oStartswith (.str (T a)) [.str (T b)] S)) Q X := w_lift (d := .bl (TL.pre b a)) (S' := S) (by
  show some (D.bl (Txt.startswith (T a) (T b)), S) = _
  rw [starts_T hb]) q
abbrev digV (l : List Nat) : Nat := PySem.NumText.digitsVal l
def isDig (l : List Nat) : Bool := l.all fun c => decide (48 ≤ c) && decide (c ≤ 57)
theorem o_intT (h : isDig a = true) (hne : a ≠ []) (hl : a.length ≤ 640) (q : Q (.int ((digV a : Nat) : Int)) S) : Ev (lift (oIntA [.str (T a)] S)) Q X := w_lift (d := .int ((digV a : Nat) : Int)) (S' := S) (by
  show (if (T a).length ≤ 640 then (PySem.intText? (T a)).map fun n => (D.int n, S) else none) = _
  have e : PySem.intText? (T a) = some ((digV a : Nat) : Int) := SX.int_S h hne (by omega)
  rw [T_len, if_pos hl, e]; rfl) q
/-- an integer's text -/
def decL (i : Int) : List Nat := if i < 0 then 45 :: TL.numL i.natAbs else TL.numL i.natAbs
theorem str_int (i : Int) : Str.ofString (toString i) = T (decL i) := by
  refine TL.ext_tl ?_
  show TL.tl (Str.ofString (toString i)) = decL i
  unfold decL
  by_cases h : i < 0
  · rw [if_pos h]
    obtain ⟨m, rfl⟩ : ∃ m : Nat, i = Int.negSucc m := ⟨i.natAbs - 1, by omega⟩
    have e : toString (Int.negSucc m) = "-" ++ toString ((m + 1 : Nat)) := rfl
    rw [TL.tl_ofString, e, String.toList_append, List.map_append]
    have e2 : (toString (m + 1 : Nat)).toList.map Char.toNat = TL.numL (m + 1) := by
      have := TL.tl_num (m + 1)
      rw [TL.tl_ofString] at this
      exact this
    rw [e2]; rfl
  · rw [if_neg h]
    obtain ⟨m, rfl⟩ := Int.eq_ofNat_of_zero_le (show 0 ≤ i by omega)
    exact TL.tl_num m
theorem log2_ok {i : Int} (h : i.natAbs < 1000000000000000000000000000000) : i.natAbs.log2 < 1920 := by
  have := log2_le (k := i.natAbs) (n := 100) (Nat.lt_trans h (by decide)); omega
theorem o_str (h : i.natAbs < 1000000000000000000000000000000) (q : Q (.str (T (decL i))) S) : Ev (lift (oStr [.int i] S)) Q X := w_lift (d := .str (T (decL i))) (S' := S) (by
  rw [← str_int]; exact if_pos (log2_ok h)) q
theorem o_strA (h : i.natAbs < 1000000000000000000000000000000) (q : Q (.str (T (decL i))) S) : Ev (lift (oStrA [.int i] S)) Q X := w_lift (d := .str (T (decL i))) (S' := S) (by
  rw [← str_int]; exact if_pos (log2_ok h)) q
theorem o_strT {x : Str} (q : Q (.str x) S) : Ev (lift (oStrA [.str x] S)) Q X := q
theorem fmt_i (h : i.natAbs < 1000000000000000000000000000000) : fmtD (.int i) = some (T (decL i)) := by
  rw [← str_int]; exact if_pos (log2_ok h)
theorem fmtI {K : D → Prop} (h : i.natAbs < 1000000000000000000000000000000) (k : K (.str (T (decL i)))) : FmtP (.int i) K := ⟨_, fmt_i h, k⟩
theorem fmt_T (h : a.length ≤ sizeLine) : fmtD (.str (T a)) = some (T a) := if_pos (by rw [T_len]; exact h)
theorem fmtT {K : D → Prop} (h : a.length ≤ sizeLine) (k : K (.str (T a))) : FmtP (.str (T a)) K := ⟨_, fmt_T h, k⟩
/-- split at one sign -/
def splC (c : Nat) (l : List Nat) : List (List Nat) := TL.spl [c] 0 [] l
abbrev strT (ls : List (List Nat)) : List D := ls.map fun l => D.str (T l)
theorem o_splitT {c : Nat} (hc : c < 256) (hl : a.length + 2 ≤ sizeLine) (q : Q (.loc S.length) (S ++ [.lst true ((splC c a).map fun l => D.str (T l))])) : Ev (lift (oSplit (.str (T a)) [.str (T [c])] S)) Q X := w_lift (d := .loc S.length) (S' := S ++ [.lst true ((splC c a).map fun l => D.str (T l))]) (by
  have e : Txt.split (T a) (T [c]) = (splC c a).map T := SX.split_S (List.cons_ne_nil _ _) (by simpa using hc)
  show (if ((T [c]).length == 0) = false ∧ (T a).length + 2 ≤ sizeLine then some (D.loc S.length, S ++ [SO.lst true ((Txt.split (T a) (T [c])).map D.str)]) else none) = _
  rw [T_len, T_len, if_pos ⟨rfl, hl⟩, e, List.map_map]; rfl) q
/-- partition at one sign -/
def parC (c : Nat) (l : List Nat) : List Nat × List Nat × List Nat := match TL.par [c] [] l with
  | some (p, q) => (p, [c], q)
  | none => (l, [], [])
theorem o_parT {c : Nat} (hl : a.length ≤ sizeLine) (q : Q (.tup [.str (T (parC c a).1), .str (T (parC c a).2.1), .str (T (parC c a).2.2)]) S) : Ev (lift (oPartition (.str (T a)) [.str (T [c])] S)) Q X := w_lift (d := .tup [.str (T (parC c a).1), .str (T (parC c a).2.1), .str (T (parC c a).2.2)]) (S' := S) (by
  have e : Txt.partition (T a) (T [c]) = (T (parC c a).1, T (parC c a).2.1, T (parC c a).2.2) := by
    unfold parC
    cases h : TL.par [c] [] a with
    | some p => exact SX.partition_some (List.cons_ne_nil _ _) h
    | none => exact SX.partition_none (List.cons_ne_nil _ _) h
  show (if ((T [c]).length == 0) = false ∧ (T a).length ≤ sizeLine then some (D.tup [.str (Txt.partition (T a) (T [c])).1, .str (Txt.partition (T a) (T [c])).2.1, .str (Txt.partition (T a) (T [c])).2.2], S) else none) = _
  rw [T_len, T_len, if_pos ⟨rfl, hl⟩, e]) q
/-- join -/
def joinC (s : List Nat) (ls : List (List Nat)) : List Nat := TL.joinL s ls
theorem o_joinT {d : D} {ls : List (List Nat)} (h : itemsOf S d = some (strT ls)) (hz : (ls.map List.length).sum + ls.length * a.length ≤ 16777216) (q : Q (.str (T (joinC a ls))) S) : Ev (lift (oJoin (.str (T a)) [d] S)) Q X := w_lift (d := .str (T (joinC a ls))) (S' := S) (by
  show (match itemsOf S d with
    | some ds => match strsOf ds with
      | some ys => if (ys.map Str.length).sum + ys.length * (T a).length ≤ 16777216 then some (D.str (Txt.join (T a) ys), S) else none
      | none => none
    | none => none) = _
  rw [h]
  show (match strsOf (ls.map fun l => D.str (T l)) with
      | some ys => if (ys.map Str.length).sum + ys.length * (T a).length ≤ 16777216 then some (D.str (Txt.join (T a) ys), S) else none
      | none => none) = _
  rw [strsOf_T]
  have e1 : (ls.map T).map Str.length = ls.map List.length := by rw [List.map_map]; exact List.map_congr_left fun x _ => T_len x
  show (if ((ls.map T).map Str.length).sum + (ls.map T).length * (T a).length ≤ 16777216 then some (D.str (Txt.join (T a) (ls.map T)), S) else none) = _
  rw [e1, T_len, List.length_map, if_pos hz, show Txt.join (T a) (ls.map T) = T (joinC a ls) from SX.join_S a ls]) q
/-- slices of texts -/
theorem o_slT {x y : Nat} (hz : a.length ≤ sizeLine) (q : Q (.str (T ((a.take y).drop x))) S) : Ev (lift (oSl (.str (T a)) (some (x : Int)) (some (y : Int)) S)) Q X := w_lift (sl_T hz) q
theorem o_slTl {y : Nat} (hz : a.length ≤ sizeLine) (q : Q (.str (T (a.take y))) S) : Ev (lift (oSl (.str (T a)) none (some (y : Int)) S)) Q X := w_lift (slL_T hz) q
theorem o_slTr {x : Nat} (hz : a.length ≤ sizeLine) (q : Q (.str (T (a.drop x))) S) : Ev (lift (oSl (.str (T a)) (some (x : Int)) none S)) Q X := w_lift (slR_T hz) q
theorem o_slTb (h : a ≠ []) (hz : a.length ≤ sizeLine) (q : Q (.str (T (a.take (a.length - 1)))) S) : Ev (lift (oSl (.str (T a)) none (some (-1)) S)) Q X := w_lift (d := .str (T (a.take (a.length - 1)))) (S' := S) (by
  show (if (T a).length ≤ sizeLine then some (D.str (L2.cutS (T a) none (some (-1))), S) else none) = _
  rw [T_len, if_pos hz, C8.cutS_slice, show Txt.slice (T a) none (some (-1)) = _ from SX.slice_butlast h]; rfl) q
/-- slices of tuples and lists -/
theorem cut_lr {xs : List D} {x y : Nat} : cutD xs (some (x : Int)) (some (y : Int)) = (xs.take y).drop x := by
  unfold cutD
  rw [HT.sIx_nat, HT.sIx_nat, List.drop_take]
  by_cases h : x ≤ xs.length
  · rw [Nat.min_eq_left h]
    by_cases h2 : y ≤ xs.length
    · rw [Nat.min_eq_left h2]
    · rw [Nat.min_eq_right (show xs.length ≤ y by omega), List.take_of_length_le (by rw [List.length_drop]; omega), List.take_of_length_le (by rw [List.length_drop]; omega)]
  · rw [Nat.min_eq_right (show xs.length ≤ x by omega), List.drop_eq_nil_of_le (Nat.le_refl _), List.drop_eq_nil_of_le (show xs.length ≤ x by omega), List.take_nil, List.take_nil]
theorem cut_l {xs : List D} {y : Nat} : cutD xs none (some (y : Int)) = xs.take y := by
  have h := cut_lr (xs := xs) (x := 0) (y := y)
  rw [List.drop_zero] at h
  rw [← h]
  unfold cutD
  rw [HT.sIx_none, HT.sIx_nat, HT.sIx_nat]; simp
theorem cut_r {xs : List D} {x : Nat} : cutD xs (some (x : Int)) none = xs.drop x := by
  unfold cutD
  rw [HT.sIx_none, HT.sIx_nat]
  by_cases h : x ≤ xs.length
  · rw [Nat.min_eq_left h, List.take_of_length_le (by rw [List.length_drop]; exact Nat.le_refl _)]
  · rw [Nat.min_eq_right (by omega), List.drop_eq_nil_of_le (Nat.le_refl _), List.drop_eq_nil_of_le (by omega), List.take_nil]
theorem o_slU {xs : List D} {x y : Nat} (q : Q (.tup ((xs.take y).drop x)) S) : Ev (lift (oSl (.tup xs) (some (x : Int)) (some (y : Int)) S)) Q X := w_lift (d := .tup ((xs.take y).drop x)) (S' := S) (by rw [← cut_lr]; rfl) q
theorem o_slUl {xs : List D} {y : Nat} (q : Q (.tup (xs.take y)) S) : Ev (lift (oSl (.tup xs) none (some (y : Int)) S)) Q X := w_lift (d := .tup (xs.take y)) (S' := S) (by rw [← cut_l]; rfl) q
theorem o_slUr {xs : List D} {x : Nat} (q : Q (.tup (xs.drop x)) S) : Ev (lift (oSl (.tup xs) (some (x : Int)) none S)) Q X := w_lift (d := .tup (xs.drop x)) (S' := S) (by rw [← cut_r]; rfl) q
theorem o_slLl {n : Nat} {w : Bool} {xs : List D} {y : Nat} (hn : S[n]? = some (.lst w xs)) (q : Q (.loc S.length) (S ++ [.lst true (xs.take y)])) : Ev (lift (oSl (.loc n) none (some (y : Int)) S)) Q X := w_lift (d := .loc S.length) (S' := S ++ [.lst true (xs.take y)]) (by
  show (match S[n]? with
    | some (.lst _ ds) => some (D.loc S.length, S ++ [SO.lst true (cutD ds none (some (y : Int)))])
    | _ => none) = _
  rw [hn]; show some (D.loc S.length, S ++ [SO.lst true (cutD xs none (some (y : Int)))]) = _
  rw [cut_l]) q
theorem o_slLr {n : Nat} {w : Bool} {xs : List D} {x : Nat} (hn : S[n]? = some (.lst w xs)) (q : Q (.loc S.length) (S ++ [.lst true (xs.drop x)])) : Ev (lift (oSl (.loc n) (some (x : Int)) none S)) Q X := w_lift (d := .loc S.length) (S' := S ++ [.lst true (xs.drop x)]) (by
  show (match S[n]? with
    | some (.lst _ ds) => some (D.loc S.length, S ++ [SO.lst true (cutD ds (some (x : Int)) none)])
    | _ => none) = _
  rw [hn]; show some (D.loc S.length, S ++ [SO.lst true (cutD xs (some (x : Int)) none)]) = _
  rw [cut_r]) q
/-- lists -/
theorem o_append {n : Nat} {xs : List D} {d : D} (hn : S[n]? = some (.lst true xs)) (h : xs.length < sizeLine) (q : Q .non (S.set n (.lst true (xs ++ [d])))) : Ev (lift (oAppend (.loc n) [d] S)) Q X := w_lift (d := .non) (S' := S.set n (.lst true (xs ++ [d]))) (by
  show (match S[n]? with
    | some (.lst true ds) => if ds.length < sizeLine then some (D.non, S.set n (.lst true (ds ++ [d]))) else none
    | _ => none) = _
  rw [hn]; exact if_pos h) q
theorem o_extend {n m : Nat} {xs ys : List D} (hn : S[n]? = some (.lst true xs)) (hm : S[m]? = some (.lst true ys)) (h : xs.length + ys.length ≤ sizeLine) (q : Q .non (S.set n (.lst true (xs ++ ys)))) : Ev (lift (oExtend (.loc n) [.loc m] S)) Q X := w_lift (d := .non) (S' := S.set n (.lst true (xs ++ ys))) (by
  show (match S[n]?, S[m]? with
    | some (.lst true ds), some (.lst true es) => if ds.length + es.length ≤ sizeLine then some (D.non, S.set n (.lst true (ds ++ es))) else none
    | _, _ => none) = _
  rw [hn, hm]; exact if_pos h) q
theorem items_L {n : Nat} {w : Bool} {xs : List D} (hn : S[n]? = some (.lst w xs)) : itemsOf S (.loc n) = some xs := by
  show (match S[n]? with
    | some (.lst _ ds) => some ds
    | _ => none) = _
  rw [hn]
theorem o_tupleL {n : Nat} {w : Bool} {xs : List D} (hn : S[n]? = some (.lst w xs)) (q : Q (.tup xs) S) : Ev (lift (oTuple [.loc n] S)) Q X := w_lift (d := .tup xs) (S' := S) (by
  show (itemsOf S (.loc n)).map (fun xs => (D.tup xs, S)) = _
  rw [items_L hn]; rfl) q
theorem o_tupleU {xs : List D} (q : Q (.tup xs) S) : Ev (lift (oTuple [.tup xs] S)) Q X := q
theorem o_listU {xs : List D} (q : Q (.loc S.length) (S ++ [.lst true xs])) : Ev (lift (oList [.tup xs] S)) Q X := q
theorem o_all {n : Nat} {w : Bool} {bs : List Bool} (hn : S[n]? = some (.lst w (bs.map .bl))) (q : Q (.bl (bs.all id)) S) : Ev (lift (oAll [.loc n] S)) Q X := w_lift (d := .bl (bs.all id)) (S' := S) (by
  unfold oAll
  simp only [hn]
  rw [bols_map]; rfl) q
theorem o_put {n k : Nat} {xs : List D} {d : D} (hn : S[n]? = some (.lst true xs)) (hk : k < xs.length) : oPut (.loc n) (.int (k : Int)) d S = some (S.set n (.lst true (xs.set k d))) := put_lst hn hk
theorem set_last {xs : List D} {x d : D} : (xs ++ [x]).set xs.length d = xs ++ [d] := by
  rw [List.set_append_right _ _ (Nat.le_refl _), Nat.sub_self]; rfl
theorem o_putLast {n : Nat} {xs : List D} {x d : D} (hn : S[n]? = some (.lst true (xs ++ [x]))) : oPut (.loc n) (.int (-1)) d S = some (S.set n (.lst true (xs ++ [d]))) := by
  unfold oPut
  simp only [hn]
  have e : L2.ixN (xs ++ [x]).length (-1) = some xs.length := by
    unfold L2.ixN
    rw [List.length_append, List.length_singleton, if_neg (by decide), if_pos (by omega)]
    congr 1
    omega
  rw [e]
  show some (S.set n (SO.lst true ((xs ++ [x]).set xs.length d))) = _
  rw [set_last]
theorem tru_L {n : Nat} {w : Bool} {xs : List D} (hn : S[n]? = some (.lst w xs)) : truth S (.loc n) = some (!xs.isEmpty) := by
  show (match S[n]? with
    | some (.lst _ ds) => some (!ds.isEmpty)
    | some (.dic kvs) => some (!kvs.isEmpty)
    | _ => none) = _
  rw [hn]
theorem rcv_L {n : Nat} {w : Bool} {xs : List D} (hn : S[n]? = some (.lst w xs)) : rcvD S (.loc n) "list" = true := by
  show (match S[n]? with
    | some (.lst _ _) => decide ("list" = "list")
    | some (.dic _) => decide ("list" = "dict")
    | _ => false) = true
  rw [hn]; rfl
theorem rcv_s {x : Str} : rcvD S (.str x) "str" = true := rfl
end
/-! ### looking things up -/
section
variable {S S' : Sto} {n m : Nat} {o o' : SO}
theorem get_new {S : Sto} : (S ++ [o])[S.length]? = some o := by simp
theorem get_app (h : S[n]? = some o) : (S ++ [o'])[n]? = some o := (Gr.one S o').get h
theorem get_set (h : S[n]? = some o) : (S.set n o')[n]? = some o' := List.getElem?_set_self (List.getElem?_eq_some_iff.mp h).1
theorem get_ne (hn : m ≠ n) (h : S[n]? = some o) : (S.set m o')[n]? = some o := by rw [List.getElem?_set_ne hn]; exact h
theorem get_lt (h : S[n]? = some o) : n < S.length := (List.getElem?_eq_some_iff.mp h).1
end
theorem ev_fn {mf : MF} {ds : List D} {d : D} {S : Sto} {Q : D → Sto → Prop} {X : XQ} (h : ∃ S', mf ds S = .ok d S' ∧ Gr S S') (k : ∀ S', Gr S S' → Q d S') : Ev (mf ds S) Q X := by
  obtain ⟨S', h1, h2⟩ := h
  exact Ev.of h1 (k S' h2)
theorem ev_pure {mf : MF} {ds : List D} {d : D} {S : Sto} {Q : D → Sto → Prop} {X : XQ} (h : mf ds S = .ok d S) (k : Q d S) : Ev (mf ds S) Q X := Ev.of h k
/-- a def's run from what holds behind it -/
theorem fn_of {mf : MF} {ds : List D} {d : D} {S : Sto} {G : Sto → Prop} (h : Ev (mf ds S) (fun d' S' => d' = d ∧ G S') noX) : ∃ S', mf ds S = .ok d S' ∧ G S' := by
  obtain ⟨a, S', h1, h2, h3⟩ := h.get
  exact ⟨S', by rw [h1, h2], h3⟩
end P0
end

section
set_option Elab.async false
set_option linter.all false
set_option maxRecDepth 100000
/-! V2: comprehensions in which nothing is kept but the list; tuples of integers. -/
namespace P0
open PySem PySem.Spec M2
set_option autoImplicit false
theorem notIn_ints {S : Sto} {xs : List Int} {i : Int} : oNotIn2 (.int i) (.tup (xs.map .int)) S = some (.bl (!decide (i ∈ xs)), S) := by
  have e1 : toP 65 S (.tup (xs.map .int)) = some (.tuple (xs.map PyData.int)) := by
    show ((xs.map D.int).mapM (toP 64 S)).map PyData.tuple = _
    rw [mapM_emb D.int PyData.int (fun _ => rfl)]; rfl
  obtain ⟨k1, k2⟩ := lay_emb PyData.int xs fun x _ => ⟨rfl, rfl⟩
  have s1 : SeqAt.shaped (.list (xs.map PyData.int)) = true := by
    show (PyData.canLayAll0 (xs.map PyData.int) && decide (PyData.depthAll (xs.map PyData.int) + 1 ≤ 64)) = true
    rw [k1, k2]; rfl
  have e2 : inD2 S (.int i) (.tup (xs.map .int)) = some (decide (i ∈ xs)) := by
    show (match toP 65 S (.int i), toP 65 S (.tup (xs.map .int)) with
      | some p, some (.list ds) => if (SeqAt.shaped p && SeqAt.shaped (.list ds)) = true then some (ds.any fun z => PyData.eqv z p) else none
      | some p, some (.tuple ds) => if (SeqAt.shaped p && SeqAt.shaped (.list ds)) = true then some (ds.any fun z => PyData.eqv z p) else none
      | _, _ => none) = _
    rw [e1]
    show (if (SeqAt.shaped (.int i) && SeqAt.shaped (.list (xs.map PyData.int))) = true then some ((xs.map PyData.int).any fun z => PyData.eqv z (.int i)) else none) = _
    rw [s1]
    show some ((xs.map PyData.int).any fun z => PyData.eqv z (.int i)) = _
    congr 1
    rw [Bool.eq_iff_iff, List.any_eq_true, decide_eq_true_eq]
    constructor
    · rintro ⟨z, hz, e⟩
      obtain ⟨x, hx, rfl⟩ := List.mem_map.mp hz
      have e : (x == i) = true := e
      rw [← beq_iff_eq.mp e]; exact hx
    · intro h
      exact ⟨.int i, List.mem_map.mpr ⟨i, h, rfl⟩, by show (i == i) = true; simp⟩
  show (inD2 S (.int i) (.tup (xs.map .int))).map (fun k => (D.bl !k, S)) = _
  rw [e2]; rfl

theorem set_mid {S T : Sto} {o o' : SO} : (S ++ o :: T).set S.length o' = S ++ o' :: T := by
  rw [List.set_append_right _ _ (Nat.le_refl _), Nat.sub_self]; rfl
theorem get_mid {S T : Sto} {o : SO} : (S ++ o :: T)[S.length]? = some o := by
  rw [List.getElem?_append_right (Nat.le_refl _), Nat.sub_self]; rfl
theorem gr_mid {S S' T : Sto} {o : SO} (h : Gr (S ++ o :: T) S') : ∃ T', S' = S ++ o :: T' := by
  obtain ⟨U, rfl⟩ := h
  exact ⟨T ++ U, by rw [List.append_assoc]; rfl⟩
theorem gr_to {S T : Sto} {o : SO} : Gr S (S ++ o :: T) := ⟨o :: T, rfl⟩
theorem take_snoc {α : Type} {l : List α} {i : Nat} {x : α} (h : l[i]? = some x) : l.take (i + 1) = l.take i ++ [x] := by
  rw [List.take_add_one, h]; rfl
/-- a comprehension in which nothing else is changed -/
theorem w_lcp {mi : Nv → Sto → Rs ItM} {tg : Tg} {tt : MT} {me : MV} {vs : List Nat} {e : Nv} {S : Sto} {Q : D → Sto → Prop} {X : XQ} (t : D → Bool) (g : D → D)
    (h : Ev (mi e S) (fun it S1 => ∃ ys : List D, (∀ i S', Gr S1 S' → it.at_ i S' = some ys[i]?) ∧ it.cnt = ys.length ∧ ys.length ≤ sizeLine ∧
      (∀ (d : D) (S' : Sto), d ∈ ys → Gr S1 S' → ∃ e1, tg d (wipeE e vs) = some e1 ∧ Ev (tt e1 S') (fun k S2 => k = t d ∧ Gr S' S2 ∧ (k = true → Ev (me e1 S2) (fun y S3 => y = g d ∧ Gr S2 S3) noX)) noX) ∧
      ∀ T, Q (.loc S1.length) (S1 ++ .lst true ((ys.filter t).map g) :: T)) X) : Ev (mLcC mi tg tt me vs e S) Q X := by
  refine w_lc (h.imp fun it S1 ⟨ys, hit, hc, hz, step, fin⟩ => ⟨ys, fun i acc S' => acc = ((ys.take i).filter t).map g ∧ ∃ T, S' = S1 ++ .lst true acc :: T, ?_, hc, hz, ?_, ⟨rfl, [], rfl⟩, ?_⟩)
  · rintro i acc S' ⟨_, T, rfl⟩
    exact ⟨hit i _ gr_to, get_mid⟩
  · rintro i d acc S' hd ha ⟨rfl, T, rfl⟩
    obtain ⟨e1, h1, h2⟩ := step d _ (List.mem_of_getElem? hd) gr_to
    refine ⟨e1, h1, h2.imp fun k S2 ⟨hk, hg, h3⟩ => ?_⟩
    obtain ⟨T2, rfl⟩ := gr_mid hg
    cases k with
    | true =>
      refine (h3 rfl).imp fun y S3 ⟨hy, hg2⟩ => ?_
      obtain ⟨T3, rfl⟩ := gr_mid hg2
      refine ⟨get_mid, ?_, T3, set_mid⟩
      rw [take_snoc hd, List.filter_append, List.map_append, hy]
      show _ = _ ++ ([d].filter t).map g
      rw [List.filter_cons_of_pos (by rw [← hk])]; rfl
    | false =>
      refine ⟨?_, T2, rfl⟩
      rw [take_snoc hd, List.filter_append, List.filter_cons_of_neg (by rw [← hk]; exact Bool.false_ne_true)]; simp
  · rintro acc S' ⟨rfl, T, rfl⟩
    rw [List.take_of_length_le (Nat.le_refl _)]
    exact fin T
section
variable {Q : D → Sto → Prop} {X : XQ} {S : Sto}
theorem pdT {l : List Nat} (h : ∀ c ∈ l, c < 1114112) : PD S (.str (T l)) := ⟨.str (T l), rfl, by
  show (T l).cps.all _ = true
  rw [← Array.all_toList]
  exact List.all_eq_true.mpr fun c hc => decide_eq_true (h c hc), Nat.zero_le _⟩
theorem pdI {i : Int} : PD S (.int i) := ⟨.int i, rfl, rfl, Nat.zero_le _⟩
theorem o_neNil {a b : Nat} {w w' : Bool} {ds : List D} (ha : S[a]? = some (.lst w ds)) (hb : S[b]? = some (.lst w' [])) (h : ∀ d ∈ ds, PD S d) (q : Q (.bl (!ds.isEmpty)) S) : Ev (lift (oNe (.loc a) (.loc b) S)) Q X :=
  w_lift (d := .bl (!ds.isEmpty)) (S' := S) (by
    show (eqD S (.loc a) (.loc b)).map _ = _
    rw [eq_nil ha hb h]; rfl) q
theorem o_eqNil {a b : Nat} {w w' : Bool} {ds : List D} (ha : S[a]? = some (.lst w ds)) (hb : S[b]? = some (.lst w' [])) (h : ∀ d ∈ ds, PD S d) (q : Q (.bl ds.isEmpty) S) : Ev (lift (oEq (.loc a) (.loc b) S)) Q X :=
  w_lift (d := .bl ds.isEmpty) (S' := S) (by
    show (eqD S (.loc a) (.loc b)).map _ = _
    rw [eq_nil ha hb h]; rfl) q
end
end P0
end

section
set_option Elab.async false
set_option linter.all false
set_option maxRecDepth 100000
/-! V3: draws, picks, the look whether two things are the same. -/
namespace P0
open PySem PySem.Spec M2
set_option autoImplicit false
local macro_rules | `(tactic| trivial) => `(tactic| first
  | with_reducible refine w_seq ?_
  | with_reducible refine w_asg ?_
  | with_reducible refine w_sif ?_
  | with_reducible refine w_ret ?_
  | with_reducible refine w_retN ?_
  | with_reducible refine w_expr ?_
  | with_reducible refine w_nx ?_
  | with_reducible refine w_bk ?_
  | with_reducible refine w_ct ?_
  | with_reducible refine w_put ?_
  | with_reducible refine w_for ?_
  | with_reducible refine w_bin ?_
  | with_reducible refine w_un ?_
  | with_reducible refine w_nil ?_
  | with_reducible refine w_cons ?_
  | with_reducible refine w_l ?_
  | with_reducible refine w_tup ?_
  | with_reducible refine w_lst ?_
  | with_reducible refine w_if ?_
  | with_reducible refine w_tval ?_
  | with_reducible refine tru_bl ?_
  | with_reducible refine isB_bl ?_
  | with_reducible refine isI_int ?_
  | with_reducible refine isT_T ?_
  | with_reducible refine isS_s ?_
  | with_reducible refine w_tbl ?_
  | with_reducible refine w_and ?_
  | with_reducible refine w_or ?_
  | with_reducible refine w_not ?_
  | with_reducible refine w_mand ?_
  | with_reducible refine w_mor ?_
  | with_reducible refine w_mnot ?_
  | with_reducible refine w_chain ?_
  | with_reducible refine w_meth ?_
  | with_reducible refine rcv_str' ?_
  | with_reducible refine w_call ?_
  | with_reducible refine w_callC ?_
  | with_reducible refine w_call0 ?_
  | with_reducible refine w_no ?_
  | with_reducible refine w_at ?_
  | with_reducible refine w_sl ?_
  | with_reducible refine w_fmt ?_
  | with_reducible refine w_js1 ?_
  | with_reducible refine w_js0 ?_
  | with_reducible refine w_js ?_
  | with_reducible refine w_lrg ?_
  | with_reducible refine w_trg ?_
  | with_reducible refine w_rg1 ?_
  | with_reducible refine w_rg2 ?_
  | with_reducible refine w_kget ?_
  | with_reducible refine w_kix ?_
  | with_reducible refine w_sset ?_
  | with_reducible refine w_c ?_
  | with_reducible refine br_tt ?_
  | with_reducible refine br_ff ?_
  | with_reducible refine br_not ?_
  | with_reducible refine w_any ?_
  | with_reducible refine w_irg1 ?_
  | with_reducible refine w_irg2 ?_
  | with_reducible refine w_ienum ?_
  | ((with_reducible apply w_var); rfl)
  | ((with_reducible refine szL ?_ ?_); rfl)
  | with_reducible refine o_add ?_
  | with_reducible refine o_sub ?_
  | with_reducible refine o_neg ?_
  | with_reducible refine o_lt ?_
  | with_reducible refine o_le ?_
  | with_reducible refine o_gt ?_
  | with_reducible refine o_ge ?_
  | with_reducible refine o_eq ?_
  | with_reducible refine o_ne ?_
  | with_reducible refine o_eqT ?_
  | with_reducible refine o_neT ?_
  | with_reducible refine o_lenU ?_
  | with_reducible refine o_isN ?_
  | with_reducible refine o_isNotN ?_
  | with_reducible refine o_isTy ?_
  | with_reducible refine o_isNotTy ?_
  | with_reducible refine o_int ?_
  | with_reducible refine o_intA ?_
  | with_reducible refine o_strT ?_
  | with_reducible refine o_inT ?_
  | with_reducible refine o_notInT ?_
  | with_reducible refine o_tupleU ?_
  | with_reducible refine o_listU ?_
  | with_reducible refine o_slU ?_
  | with_reducible refine o_slUl ?_
  | with_reducible refine o_slUr ?_
  | ((with_reducible apply o_lenL); (first | assumption | exact get_new | exact get_set (by first | assumption | exact get_new) | exact get_app (by first | assumption | exact get_new)))
  | ((with_reducible apply tru_l); (first | assumption | exact get_new | exact get_set (by first | assumption | exact get_new) | exact get_app (by first | assumption | exact get_new)))
  | ((with_reducible apply rcv_lst); (first | assumption | exact get_new | exact get_set (by first | assumption | exact get_new) | exact get_app (by first | assumption | exact get_new)))
  | ((with_reducible apply o_tupleL); (first | assumption | exact get_new | exact get_set (by first | assumption | exact get_new) | exact get_app (by first | assumption | exact get_new)))
  | ((with_reducible apply o_slLl); (first | assumption | exact get_new | exact get_set (by first | assumption | exact get_new) | exact get_app (by first | assumption | exact get_new)))
  | ((with_reducible apply o_slLr); (first | assumption | exact get_new | exact get_set (by first | assumption | exact get_new) | exact get_app (by first | assumption | exact get_new)))
  | ((with_reducible refine o_lenT ?_ ?_); (first | assumption | omega | (rw [sizeLine_eq]; omega) | (simp only [List.length_append, List.length_cons, List.length_nil, List.length_map, List.length_take, List.length_drop] <;> first | omega | (rw [sizeLine_eq]; omega))))
  | ((with_reducible refine o_addT ?_ ?_); (first | assumption | omega | (rw [sizeLine_eq]; omega) | (simp only [List.length_append, List.length_cons, List.length_nil, List.length_map, List.length_take, List.length_drop] <;> first | omega | (rw [sizeLine_eq]; omega))))
  | ((with_reducible refine o_addU ?_ ?_); (first | assumption | omega | (rw [sizeLine_eq]; omega) | (simp only [List.length_append, List.length_cons, List.length_nil, List.length_map, List.length_take, List.length_drop] <;> first | omega | (rw [sizeLine_eq]; omega))))
  | ((with_reducible refine o_slT ?_ ?_); (first | assumption | omega | (rw [sizeLine_eq]; omega) | (simp only [List.length_append, List.length_cons, List.length_nil, List.length_map, List.length_take, List.length_drop] <;> first | omega | (rw [sizeLine_eq]; omega))))
  | ((with_reducible refine o_slTl ?_ ?_); (first | assumption | omega | (rw [sizeLine_eq]; omega) | (simp only [List.length_append, List.length_cons, List.length_nil, List.length_map, List.length_take, List.length_drop] <;> first | omega | (rw [sizeLine_eq]; omega))))
  | ((with_reducible refine o_slTr ?_ ?_); (first | assumption | omega | (rw [sizeLine_eq]; omega) | (simp only [List.length_append, List.length_cons, List.length_nil, List.length_map, List.length_take, List.length_drop] <;> first | omega | (rw [sizeLine_eq]; omega))))
  | ((with_reducible refine o_mod ?_ ?_); (first | assumption | omega | (rw [sizeLine_eq]; omega) | (simp only [List.length_append, List.length_cons, List.length_nil, List.length_map, List.length_take, List.length_drop] <;> first | omega | (rw [sizeLine_eq]; omega))))
  | ((with_reducible refine o_str ?_ ?_); (first | assumption | omega | (rw [sizeLine_eq]; omega) | (simp only [List.length_append, List.length_cons, List.length_nil, List.length_map, List.length_take, List.length_drop] <;> first | omega | (rw [sizeLine_eq]; omega))))
  | ((with_reducible refine o_strA ?_ ?_); (first | assumption | omega | (rw [sizeLine_eq]; omega) | (simp only [List.length_append, List.length_cons, List.length_nil, List.length_map, List.length_take, List.length_drop] <;> first | omega | (rw [sizeLine_eq]; omega))))
  | ((with_reducible refine o_parT ?_ ?_); (first | assumption | omega | (rw [sizeLine_eq]; omega) | (simp only [List.length_append, List.length_cons, List.length_nil, List.length_map, List.length_take, List.length_drop] <;> first | omega | (rw [sizeLine_eq]; omega))))
  | ((with_reducible refine fmtI ?_ ?_); (first | assumption | omega | (rw [sizeLine_eq]; omega) | (simp only [List.length_append, List.length_cons, List.length_nil, List.length_map, List.length_take, List.length_drop] <;> first | omega | (rw [sizeLine_eq]; omega))))
  | ((with_reducible refine fmtT ?_ ?_); (first | assumption | omega | (rw [sizeLine_eq]; omega) | (simp only [List.length_append, List.length_cons, List.length_nil, List.length_map, List.length_take, List.length_drop] <;> first | omega | (rw [sizeLine_eq]; omega))))
  | ((with_reducible refine leS_ ?_ ?_); (first | assumption | omega | (rw [sizeLine_eq]; omega) | (simp only [List.length_append, List.length_cons, List.length_nil, List.length_map, List.length_take, List.length_drop] <;> first | omega | (rw [sizeLine_eq]; omega))))
  | ((with_reducible apply o_append); (first | assumption | exact get_new | exact get_set (by first | assumption | exact get_new) | exact get_app (by first | assumption | exact get_new)); (first | assumption | omega | (rw [sizeLine_eq]; omega) | (simp only [List.length_append, List.length_cons, List.length_nil, List.length_map, List.length_take, List.length_drop] <;> first | omega | (rw [sizeLine_eq]; omega))))
  | ((with_reducible refine o_fdiv ?_ ?_ ?_); (first | assumption | omega | (rw [sizeLine_eq]; omega) | (simp only [List.length_append, List.length_cons, List.length_nil, List.length_map, List.length_take, List.length_drop] <;> first | omega | (rw [sizeLine_eq]; omega))); (first | assumption | omega | (rw [sizeLine_eq]; omega) | (simp only [List.length_append, List.length_cons, List.length_nil, List.length_map, List.length_take, List.length_drop] <;> first | omega | (rw [sizeLine_eq]; omega))))
  | ((with_reducible refine o_mul ?_ ?_ ?_); (first | assumption | omega | (rw [sizeLine_eq]; omega) | (simp only [List.length_append, List.length_cons, List.length_nil, List.length_map, List.length_take, List.length_drop] <;> first | omega | (rw [sizeLine_eq]; omega))); (first | assumption | omega | (rw [sizeLine_eq]; omega) | (simp only [List.length_append, List.length_cons, List.length_nil, List.length_map, List.length_take, List.length_drop] <;> first | omega | (rw [sizeLine_eq]; omega))))
  | ((with_reducible refine br_y ?_ ?_); first | assumption | omega | decide)
  | ((with_reducible refine br_n ?_ ?_); first | assumption | omega | decide))
/-- the box at b with its digits told -/
structure BoxD (S : Sto) (b k dl : Nat) (ds : List Int) : Prop where
  at_ : S[b]? = some (.lst true [.loc dl, .int (k : Int)])
  dig : S[dl]? = some (.lst true (ds.map .int))
  ne : dl ≠ b
  ok : Dig ds
section
variable {b dl k : Nat} {ds : List Int} {S S' : Sto} {Q : D → Sto → Prop} {X : XQ}
theorem BoxD.lt (h : BoxD S b k dl ds) : b < S.length := (List.getElem?_eq_some_iff.mp h.at_).1
theorem BoxD.lt2 (h : BoxD S b k dl ds) : dl < S.length := (List.getElem?_eq_some_iff.mp h.dig).1
theorem BoxD.gr (h : BoxD S b k dl ds) (g : Gr S S') : BoxD S' b k dl ds := ⟨g.get h.at_, g.get h.dig, h.ne, h.ok⟩
theorem BoxD.set {n : Nat} {o : SO} (h : BoxD S b k dl ds) (h1 : n ≠ b) (h2 : n ≠ dl) : BoxD (S.set n o) b k dl ds := ⟨by rw [List.getElem?_set_ne h1]; exact h.at_, by rw [List.getElem?_set_ne h2]; exact h.dig, h.ne, h.ok⟩
theorem Ext.gr {S'' : Sto} (h : Ext b S S') (g : Gr S' S'') : Ext b S S'' := h.trans (g.ext b)
/-- one draw -/
theorem ev_draw {many : Nat} (B : BoxD S b k dl ds) (hk : k < 2 ^ 200) (hm : 0 < many) (q : ∀ (r : Nat) (S' : Sto), r < many → BoxD S' b (k + 1) dl ds → Ext b S S' → S'.length = S.length → Q (.int (r : Int)) S') : Ev (d_draw [.loc b, .int (many : Int)] S) Q X := by
  obtain ⟨r1, r2⟩ := drawV_range (ds := ds) (k := k) (many := (many : Int)) (by omega)
  refine Ev.of (draw_eq B.at_ B.dig B.ne hk (by omega)) ?_
  have := q (drawV ds k many).toNat (S.set b (.lst true [.loc dl, .int ((k : Int) + 1)])) (by omega) ⟨?_, ?_, B.ne, B.ok⟩ Ext.set (by simp)
  · rw [Int.toNat_of_nonneg r1] at this
    exact this
  · rw [List.getElem?_set_self B.lt]; rfl
  · rw [List.getElem?_set_ne (Ne.symm B.ne)]; exact B.dig
abbrev d_pick : MF := mDef 2 2 (sRet (mBin oIx (mVar 1) (mBin oMod (mL oInt (aCons (mCall d_draw (aCons (mVar 0) (aCons (mC (.int 900)) aNil))) aNil)) (mL oLen (aCons (mVar 1) aNil)))))
theorem ev_pick {p : Nat} {w : Bool} {xs : List D} (B : BoxD S b k dl ds) (hk : k < 2 ^ 200) (hp : S[p]? = some (.lst w xs)) (hpb : p ≠ b) (hx : 0 < xs.length) (q : ∀ (d : D) (S' : Sto), d ∈ xs → BoxD S' b (k + 1) dl ds → Ext b S S' → S'.length = S.length → Q d S') : Ev (d_pick [.loc b, .loc p] S) Q X := by
  refine w_def rfl ?_
  repeat trivial
  refine ev_draw (many := 900) B hk (by decide) fun r S1 hr B1 hE hl => ?_
  have hp1 := hE.get hp hpb
  repeat trivial
  refine o_ixL (k := r % xs.length) hp1 (List.getElem?_eq_getElem (Nat.mod_lt _ hx)) ?_
  exact q _ S1 (List.getElem_mem _) B1 hE hl
end
/-! the same -/
def d_same : Nat → MF
  | 0 => fun _ _ => .stuck
  | n + 1 => mDef 3 2 (sSeq (sIf (tVal (mL oIsi (aCons (mVar 1) (aCons (mC (.ty "tuple")) aNil)))) (sSeq (sIf (tOr2 (tNot2 (tVal (mL oIsi (aCons (mVar 0) (aCons (mC (.ty "tuple")) aNil))))) (tBl (mBin oNe (mL oLen (aCons (mVar 0) aNil)) (mL oLen (aCons (mVar 1) aNil))))) (sRet (mC (.bl false))) sNx) (sSeq (sFor (iRg1 (aCons (mL oLen (aCons (mVar 1) aNil)) aNil)) (tgN 2) (sIf (tNot2 (tVal (mCall (d_same n) (aCons (mBin oIx (mVar 0) (mVar 2)) (aCons (mBin oIx (mVar 1) (mVar 2)) aNil))))) (sRet (mC (.bl false))) sNx)) (sRet (mC (.bl true))))) sNx) (sSeq (sIf (tBl (mBin oIs (mVar 1) (mC .non))) (sRet (mBin oIs (mVar 0) (mC .non))) sNx) (sSeq (sIf (tBl (mBin oIs (mVar 1) (mC (.bl true)))) (sRet (mBin oIs (mVar 0) (mC (.bl true)))) sNx) (sSeq (sIf (tBl (mBin oIs (mVar 1) (mC (.bl false)))) (sRet (mBin oIs (mVar 0) (mC (.bl false)))) sNx) (sSeq (sIf (tVal (mL oIsi (aCons (mVar 1) (aCons (mC (.ty "int")) aNil)))) (sRet (mAnd2 (mL oIsi (aCons (mVar 0) (aCons (mC (.ty "int")) aNil))) (mAnd2 (mNot (mL oIsi (aCons (mVar 0) (aCons (mC (.ty "bool")) aNil)))) (mBin oEq (mVar 0) (mVar 1))))) sNx) (sRet (mAnd2 (mL oIsi (aCons (mVar 0) (aCons (mC (.ty "str")) aNil))) (mBin oEq (mVar 0) (mVar 1)))))))))
/-- integers, texts, None, True, False, tuples of them, so deep at most -/
def Flat : Nat → D → Prop
  | _, .non => True
  | _, .bl _ => True
  | _, .int _ => True
  | _, .str _ => True
  | n + 1, .tup ds => ds.length ≤ 1000000 ∧ ∀ d ∈ ds, Flat n d
  | _, _ => False
theorem o_isi {S : Sto} {d : D} {t n : String} {k : Bool} {Q : D → Sto → Prop} {X : XQ} (h : tyD S d = some t) (hk : L2.kitB t n = some k) (q : Q (.bl k) S) : Ev (lift (oIsi [d, .ty n] S)) Q X := w_lift (d := .bl k) (S' := S) (by
  show (match tyD S d with
    | some t => (L2.kitB t n).map fun b => (D.bl b, S)
    | none => none) = _
  rw [h]
  show (L2.kitB t n).map (fun b => (D.bl b, S)) = _
  rw [hk]; rfl) q
def rgN (n : Nat) : List D := (List.range n).map fun i : Nat => D.int (i : Int)
theorem itR_at0 {n i : Nat} {S : Sto} : (itR 0 1 n).at_ i S = some (rgN n)[i]? := by
  rw [itR_at]
  unfold rgL rgN
  congr 2
  simp
theorem rgN_len {n : Nat} : (rgN n).length = n := by unfold rgN; simp
theorem rgN_get {n i : Nat} {d : D} (h : (rgN n)[i]? = some d) : i < n ∧ d = .int (i : Int) := by
  have hl := (List.getElem?_eq_some_iff.mp h).1
  rw [rgN_len] at hl
  unfold rgN at h
  rw [List.getElem?_map, List.getElem?_range hl] at h
  exact ⟨hl, (Option.some.inj h).symm⟩
theorem pure_of {mf : MF} {ds : List D} {d : D} {S : Sto} (h : Ev (mf ds S) (fun d' S' => d' = d ∧ S' = S) noX) : mf ds S = .ok d S := by
  obtain ⟨S', h1, h2⟩ := fn_of h
  rw [h1, h2]
theorem o_isBl {S : Sto} {d : D} {k j : Bool} {Q : D → Sto → Prop} {X : XQ} (h : isD d (.bl k) = some j) (q : Q (.bl j) S) : Ev (lift (oIs d (.bl k) S)) Q X := w_lift (d := .bl j) (S' := S) (by
  show (isD d (.bl k)).map _ = _
  rw [h]; rfl) q
theorem o_eqS {S : Sto} {x y : Str} {Q : D → Sto → Prop} {X : XQ} (q : Q (.bl (decide (x = y))) S) : Ev (lift (oEq (.str x) (.str y) S)) Q X := q
theorem same_ok : ∀ (n : Nat) (d : D) (S : Sto), Flat n d → d_same (n + 1) [d, d] S = .ok (.bl true) S := by
  intro n
  induction n with
  | zero =>
    intro d S h
    refine pure_of (w_def rfl ?_)
    cases d with
    | tup ds => exact h.elim
    | loc k => exact h.elim
    | fn x => exact h.elim
    | ty x => exact h.elim
    | non =>
      repeat trivial
      refine o_isi (t := "NoneType") (k := false) rfl rfl ?_
      repeat trivial
    | bl k =>
      repeat trivial
      refine o_isi (t := "bool") (k := false) rfl rfl ?_
      repeat trivial
      show Br false _ _
      repeat trivial
      refine o_isBl (j := decide (k = true)) rfl ?_
      cases k with
      | true =>
        show isB (.bl true) _
        repeat trivial
      | false =>
        show isB (.bl false) _
        repeat trivial
    | int i =>
      repeat trivial
      refine o_isi (t := "int") (k := false) rfl rfl ?_
      repeat trivial
      show Br false _ _
      repeat trivial
      refine o_isBl (j := false) rfl ?_
      repeat trivial
      refine o_isBl (j := false) rfl ?_
      repeat trivial
      refine o_isi (t := "int") (k := true) rfl rfl ?_
      repeat trivial
      refine o_isi (t := "int") (k := true) rfl rfl ?_
      repeat trivial
      refine o_isi (t := "int") (k := false) rfl rfl ?_
      repeat trivial
      rw [decide_eq_true rfl]
      exact ⟨rfl, rfl⟩
    | str x =>
      repeat trivial
      refine o_isi (t := "str") (k := false) rfl rfl ?_
      repeat trivial
      show Br false _ _
      repeat trivial
      refine o_isBl (j := false) rfl ?_
      repeat trivial
      refine o_isBl (j := false) rfl ?_
      repeat trivial
      refine o_isi (t := "str") (k := false) rfl rfl ?_
      repeat trivial
      refine o_isi (t := "str") (k := true) rfl rfl ?_
      repeat trivial
      refine o_eqS ?_
      rw [decide_eq_true rfl]
      exact ⟨rfl, rfl⟩
  | succ n ih =>
    intro d S h
    cases d with
    | tup ds =>
      obtain ⟨hz, hf⟩ := h
      refine pure_of (w_def rfl ?_)
      repeat trivial
      refine o_isi (t := "tuple") (k := true) rfl rfl ?_
      repeat trivial
      refine o_isi (t := "tuple") (k := true) rfl rfl ?_
      repeat trivial
      refine ⟨_, rfl, by omega, ?_⟩
      rw [Int.toNat_natCast]
      refine w_loop (ys := rgN ds.length) (fun i e S1 => S1 = S ∧ ∃ x, e = [some (.tup ds), some (.tup ds), x]) (fun _ _ _ _ => itR_at0) (by rw [rgN_len]; rfl) ?_ ⟨rfl, _, rfl⟩ ?_
      · rintro i d e S1 hd ⟨rfl, x, rfl⟩
        obtain ⟨hi, rfl⟩ := rgN_get hd
        refine ⟨_, rfl, ?_⟩
        repeat trivial
        refine o_ixU (List.getElem?_eq_getElem hi) ?_
        repeat trivial
        refine o_ixU (List.getElem?_eq_getElem hi) ?_
        repeat trivial
        refine ev_pure (ih _ _ (hf _ (List.getElem_mem hi))) ?_
        repeat trivial
        exact ⟨rfl, _, rfl⟩
      · rintro e S1 ⟨rfl, x, rfl⟩
        repeat trivial
    | loc k => exact h.elim
    | fn x => exact h.elim
    | ty x => exact h.elim
    | non =>
      refine pure_of (w_def rfl ?_)
      repeat trivial
      refine o_isi (t := "NoneType") (k := false) rfl rfl ?_
      repeat trivial
    | bl k =>
      refine pure_of (w_def rfl ?_)
      repeat trivial
      refine o_isi (t := "bool") (k := false) rfl rfl ?_
      repeat trivial
      show Br false _ _
      repeat trivial
      refine o_isBl (j := decide (k = true)) rfl ?_
      cases k with
      | true =>
        show isB (.bl true) _
        repeat trivial
      | false =>
        show isB (.bl false) _
        repeat trivial
    | int i =>
      refine pure_of (w_def rfl ?_)
      repeat trivial
      refine o_isi (t := "int") (k := false) rfl rfl ?_
      repeat trivial
      show Br false _ _
      repeat trivial
      refine o_isBl (j := false) rfl ?_
      repeat trivial
      refine o_isBl (j := false) rfl ?_
      repeat trivial
      refine o_isi (t := "int") (k := true) rfl rfl ?_
      repeat trivial
      refine o_isi (t := "int") (k := true) rfl rfl ?_
      repeat trivial
      refine o_isi (t := "int") (k := false) rfl rfl ?_
      repeat trivial
      rw [decide_eq_true rfl]
      exact ⟨rfl, rfl⟩
    | str x =>
      refine pure_of (w_def rfl ?_)
      repeat trivial
      refine o_isi (t := "str") (k := false) rfl rfl ?_
      repeat trivial
      show Br false _ _
      repeat trivial
      refine o_isBl (j := false) rfl ?_
      repeat trivial
      refine o_isBl (j := false) rfl ?_
      repeat trivial
      refine o_isi (t := "str") (k := false) rfl rfl ?_
      repeat trivial
      refine o_isi (t := "str") (k := true) rfl rfl ?_
      repeat trivial
      refine o_eqS ?_
      rw [decide_eq_true rfl]
      exact ⟨rfl, rfl⟩
end P0
end

section
set_option Elab.async false
set_option linter.all false
set_option maxRecDepth 100000
set_option maxHeartbeats 2000000
/-! M2: sorted of lists of plain things, any length. -/
namespace M2
open PySem PySem.Spec PyProof.Rows L2
set_option autoImplicit false
abbrev EachW {α β : Type} (R : α → β → Prop) := PySem.W.EachIs R
section
variable {X : Cx} {α : Type}
/-- how a thing stands as a value -/
def StAs (X : Cx) (ρ : List Addr) (H : Hp) (emb : α → D) (u : Value) (b : α) : Prop := ∃ x, RelV x u ∧ RV X.K X.mg ρ H (emb b) x
theorem each_of {ρ : List Addr} {H : Hp} {emb : α → D} : ∀ {bs : List α} {vs : List V} {us : List Value}, RVs X.K X.mg ρ H (bs.map emb) vs → Vals vs us → PySem.W.EachIs (StAs X ρ H emb) us bs
  | [], vs, us, h, r => by
    rw [show vs = [] from h] at r
    cases r; exact .nil
  | b :: bs, vs, us, h, r => by
    obtain ⟨x, xs, rfl, h1, h2⟩ := h
    cases r with
    | cons r1 r2 => exact .cons ⟨x, r1, h1⟩ (each_of h2 r2)
theorem of_each {ρ : List Addr} {H : Hp} {emb : α → D} : ∀ {bs : List α} {us : List Value}, PySem.W.EachIs (StAs X ρ H emb) us bs → ∃ vs, Vals vs us ∧ RVs X.K X.mg ρ H (bs.map emb) vs
  | _, _, .nil => ⟨[], .nil, rfl⟩
  | _, _, .cons ⟨x, r, h⟩ t => by
    obtain ⟨vs, a, b⟩ := of_each t
    exact ⟨x :: vs, .cons r a, x, vs, rfl, h, b⟩
/-- sorted(xs), xs a list of like plain things -/
theorem run_sortedG (emb : α → D) (enc : α → PyData) (he : ∀ b S, toP 64 S (emb b) = some (enc b)) (al : ∀ b c, PySem.W.alike (enc b) (enc c) = true) (hu : ∀ b, X.A.units + 2 + (enc b).depth < cLine) {bs : List α} (st : PySem.W.Sortable (bs.map enc)) {pins : List (Addr × Obj)} {s : Shared} {σ : St} {H : Hp} {a : Addr} {u : Value} {vs : List V} {S : Sto} {ρ : List Addr} {Q : VK}
    (I : Inv X pins σ H s) (ru : RelV (V.ref a) u) (hs : SqL X.K H a vs) (rs : RS X.K X.mg ρ H S) (rv : RVs X.K X.mg ρ H (bs.map emb) vs) (q : Fin X.K X.mg ρ H (.loc S.length) (S ++ [.lst true ((bs.mergeSort (PySem.W.dataLe false enc)).map emb)]) Q) :
    wpAny (model X.prog X.w) X.A (call (.builtin "sorted") [u]) (fun v s' => ∃ x H', Inv X pins σ H' s' ∧ RelV x v ∧ Q x H') X.xe s := by
  obtain rfl : u = Value.ref a := ru
  obtain ⟨its, r, hl, hz⟩ := I.list hs
  have hlen : bs.length = its.length := by
    have h1 := rv.length
    rw [List.length_map] at h1
    rw [h1, r.length]
  have e := each_of (X := X) rv r
  refine PySem.W.sorted_data (R := StAs X ρ H emb) (enc := enc) hl.isList e ?_ (PySem.W.AllAlike.of al) st (by rw [hlen, ← r.length]; exact hz) (fun b _ => hu b) fun out ho eo => ?_
  · refine e.mono fun v b ⟨x, rx, hx⟩ => ?_
    exact L2.Dp.reads I _ x v (dp_of rs 64 (emb b) x (enc b) hx (he b S)) rx
  · obtain ⟨ys, ry, hy⟩ := of_each eo
    obtain ⟨c, hc⟩ := sortedAll_at s.heap its out.toArray
    have hn : H (s.heap.objs.size + 1) = none := I.hok.fresh (Nat.le_succ _)
    have hyl : ys.length ≤ sizeLine := by
      rw [ry.length, ho, hlen, ← r.length]; exact hz
    exact ⟨.ref (s.heap.objs.size + 1), upd H (s.heap.objs.size + 1) (.lst ys), I.laid (t' := s.toks) (fun b o hb => sortedAll_old hb) (Nat.le_succ _) ⟨hyl, out, c, ry, hc⟩, rfl, q.lnew rs hy hn⟩
end
/-! ### pairs of numbers -/
def pairD : D → Option (Int × Int)
  | .tup [.int i, .int j] => some (i, j)
  | _ => none
def pairsOf : List D → Option (List (Int × Int))
  | [] => some []
  | d :: ds => match pairD d with
    | some p => (pairsOf ds).map (p :: ·)
    | none => none
def embP (p : Int × Int) : D := .tup [.int p.1, .int p.2]
def encP (p : Int × Int) : PyData := .tuple [.int p.1, .int p.2]
def leP (p q : Int × Int) : Bool := decide (p.1 < q.1 ∨ (p.1 = q.1 ∧ p.2 ≤ q.2))
theorem pairD_some {d : D} {p : Int × Int} (h : pairD d = some p) : d = embP p := by
  unfold pairD at h
  split at h
  · cases h; rfl
  · cases h
theorem pairs_emb : ∀ {ds : List D} {ps : List (Int × Int)}, pairsOf ds = some ps → ds = ps.map embP
  | [], ps, h => by cases h; rfl
  | d :: ds, ps, h => by
    unfold pairsOf at h
    split at h
    · rename_i p hp
      obtain ⟨qs, e1, e2⟩ := map_some h
      subst e2
      rw [pairD_some hp, pairs_emb e1]; rfl
    · cases h
def oSorted2 : OpL := fun ds S => match ds with
  | [.loc n] => match S[n]? with
    | some (.lst _ xs) => match pairsOf xs with
      | some ps => some (.loc S.length, S ++ [.lst true ((ps.mergeSort leP).map embP)])
      | none => oSorted ds S
    | _ => none
  | _ => none
section
variable {X : Cx}
theorem cm_sorted2 (hu : X.A.units + 64 < cLine) : CallR X (.builtin "sorted") (rML X.K X.mg oSorted2) := by
  intro pins s σ H vs us Q I r ⟨ρ, S, ds, d3, S3, rs, r1, e, q⟩
  unfold oSorted2 at e
  split at e
  · split at e
    · rename_i w xs e0
      split at e
      · rename_i ps hps
        cases e
        obtain ⟨y, ys, rfl, ry, r0⟩ := r1
        cases r0
        obtain ⟨a, rfl, pa⟩ := ry
        obtain ⟨zs, hx, hv⟩ := rs.list pa e0
        rw [pairs_emb hps] at hv
        obtain ⟨u, rfl, ru⟩ := vals1 r
        have el : PySem.W.dataLe false encP = leP := PySem.W.dataLe_ii (fun p : Int × Int => p.1) (fun p => p.2)
        refine run_sortedG embP encP (fun b S => rfl) (fun b c => rfl) (fun b => ?_) (PySem.W.Sortable.tuples fun b => ⟨_, _, rfl⟩) I ru hx rs hv (by rw [el]; exact q)
        have : (encP b).depth = 1 := rfl
        omega
      · exact cm_sorted pins s σ H vs us Q I r ⟨ρ, S, _, d3, S3, rs, r1, e, q⟩
    · cases e
  · cases e
end
end M2
end

section
set_option Elab.async false
set_option linter.all false
set_option maxRecDepth 100000
/-! V4: comprehensions that draw; sorting. -/
namespace P0
open PySem PySem.Spec M2
set_option autoImplicit false
local macro_rules | `(tactic| trivial) => `(tactic| first
  | with_reducible refine w_seq ?_
  | with_reducible refine w_asg ?_
  | with_reducible refine w_sif ?_
  | with_reducible refine w_ret ?_
  | with_reducible refine w_retN ?_
  | with_reducible refine w_expr ?_
  | with_reducible refine w_nx ?_
  | with_reducible refine w_bk ?_
  | with_reducible refine w_ct ?_
  | with_reducible refine w_put ?_
  | with_reducible refine w_for ?_
  | with_reducible refine w_bin ?_
  | with_reducible refine w_un ?_
  | with_reducible refine w_nil ?_
  | with_reducible refine w_cons ?_
  | with_reducible refine w_l ?_
  | with_reducible refine w_tup ?_
  | with_reducible refine w_lst ?_
  | with_reducible refine w_if ?_
  | with_reducible refine w_tval ?_
  | with_reducible refine tru_bl ?_
  | with_reducible refine isB_bl ?_
  | with_reducible refine isI_int ?_
  | with_reducible refine isT_T ?_
  | with_reducible refine isS_s ?_
  | with_reducible refine w_tbl ?_
  | with_reducible refine w_and ?_
  | with_reducible refine w_or ?_
  | with_reducible refine w_not ?_
  | with_reducible refine w_mand ?_
  | with_reducible refine w_mor ?_
  | with_reducible refine w_mnot ?_
  | with_reducible refine w_chain ?_
  | with_reducible refine w_meth ?_
  | with_reducible refine rcv_str' ?_
  | with_reducible refine w_call ?_
  | with_reducible refine w_callC ?_
  | with_reducible refine w_call0 ?_
  | with_reducible refine w_no ?_
  | with_reducible refine w_at ?_
  | with_reducible refine w_sl ?_
  | with_reducible refine w_fmt ?_
  | with_reducible refine w_js1 ?_
  | with_reducible refine w_js0 ?_
  | with_reducible refine w_js ?_
  | with_reducible refine w_lrg ?_
  | with_reducible refine w_trg ?_
  | with_reducible refine w_rg1 ?_
  | with_reducible refine w_rg2 ?_
  | with_reducible refine w_kget ?_
  | with_reducible refine w_kix ?_
  | with_reducible refine w_sset ?_
  | with_reducible refine w_c ?_
  | with_reducible refine br_tt ?_
  | with_reducible refine br_ff ?_
  | with_reducible refine br_not ?_
  | with_reducible refine w_any ?_
  | with_reducible refine w_irg1 ?_
  | with_reducible refine w_irg2 ?_
  | with_reducible refine w_ienum ?_
  | ((with_reducible apply w_var); rfl)
  | ((with_reducible refine szL ?_ ?_); rfl)
  | with_reducible refine o_add ?_
  | with_reducible refine o_sub ?_
  | with_reducible refine o_neg ?_
  | with_reducible refine o_lt ?_
  | with_reducible refine o_le ?_
  | with_reducible refine o_gt ?_
  | with_reducible refine o_ge ?_
  | with_reducible refine o_eq ?_
  | with_reducible refine o_ne ?_
  | with_reducible refine o_eqT ?_
  | with_reducible refine o_neT ?_
  | with_reducible refine o_lenU ?_
  | with_reducible refine o_isN ?_
  | with_reducible refine o_isNotN ?_
  | with_reducible refine o_isTy ?_
  | with_reducible refine o_isNotTy ?_
  | with_reducible refine o_int ?_
  | with_reducible refine o_intA ?_
  | with_reducible refine o_strT ?_
  | with_reducible refine o_inT ?_
  | with_reducible refine o_notInT ?_
  | with_reducible refine o_tupleU ?_
  | with_reducible refine o_listU ?_
  | with_reducible refine o_slU ?_
  | with_reducible refine o_slUl ?_
  | with_reducible refine o_slUr ?_
  | ((with_reducible apply o_lenL); (first | assumption | exact get_new | exact get_set (by first | assumption | exact get_new) | exact get_app (by first | assumption | exact get_new)))
  | ((with_reducible apply tru_l); (first | assumption | exact get_new | exact get_set (by first | assumption | exact get_new) | exact get_app (by first | assumption | exact get_new)))
  | ((with_reducible apply rcv_lst); (first | assumption | exact get_new | exact get_set (by first | assumption | exact get_new) | exact get_app (by first | assumption | exact get_new)))
  | ((with_reducible apply o_tupleL); (first | assumption | exact get_new | exact get_set (by first | assumption | exact get_new) | exact get_app (by first | assumption | exact get_new)))
  | ((with_reducible apply o_slLl); (first | assumption | exact get_new | exact get_set (by first | assumption | exact get_new) | exact get_app (by first | assumption | exact get_new)))
  | ((with_reducible apply o_slLr); (first | assumption | exact get_new | exact get_set (by first | assumption | exact get_new) | exact get_app (by first | assumption | exact get_new)))
  | ((with_reducible refine o_lenT ?_ ?_); (first | assumption | omega | (rw [sizeLine_eq]; omega) | (simp only [List.length_append, List.length_cons, List.length_nil, List.length_map, List.length_take, List.length_drop] <;> first | omega | (rw [sizeLine_eq]; omega))))
  | ((with_reducible refine o_addT ?_ ?_); (first | assumption | omega | (rw [sizeLine_eq]; omega) | (simp only [List.length_append, List.length_cons, List.length_nil, List.length_map, List.length_take, List.length_drop] <;> first | omega | (rw [sizeLine_eq]; omega))))
  | ((with_reducible refine o_addU ?_ ?_); (first | assumption | omega | (rw [sizeLine_eq]; omega) | (simp only [List.length_append, List.length_cons, List.length_nil, List.length_map, List.length_take, List.length_drop] <;> first | omega | (rw [sizeLine_eq]; omega))))
  | ((with_reducible refine o_slT ?_ ?_); (first | assumption | omega | (rw [sizeLine_eq]; omega) | (simp only [List.length_append, List.length_cons, List.length_nil, List.length_map, List.length_take, List.length_drop] <;> first | omega | (rw [sizeLine_eq]; omega))))
  | ((with_reducible refine o_slTl ?_ ?_); (first | assumption | omega | (rw [sizeLine_eq]; omega) | (simp only [List.length_append, List.length_cons, List.length_nil, List.length_map, List.length_take, List.length_drop] <;> first | omega | (rw [sizeLine_eq]; omega))))
  | ((with_reducible refine o_slTr ?_ ?_); (first | assumption | omega | (rw [sizeLine_eq]; omega) | (simp only [List.length_append, List.length_cons, List.length_nil, List.length_map, List.length_take, List.length_drop] <;> first | omega | (rw [sizeLine_eq]; omega))))
  | ((with_reducible refine o_mod ?_ ?_); (first | assumption | omega | (rw [sizeLine_eq]; omega) | (simp only [List.length_append, List.length_cons, List.length_nil, List.length_map, List.length_take, List.length_drop] <;> first | omega | (rw [sizeLine_eq]; omega))))
  | ((with_reducible refine o_str ?_ ?_); (first | assumption | omega | (rw [sizeLine_eq]; omega) | (simp only [List.length_append, List.length_cons, List.length_nil, List.length_map, List.length_take, List.length_drop] <;> first | omega | (rw [sizeLine_eq]; omega))))
  | ((with_reducible refine o_strA ?_ ?_); (first | assumption | omega | (rw [sizeLine_eq]; omega) | (simp only [List.length_append, List.length_cons, List.length_nil, List.length_map, List.length_take, List.length_drop] <;> first | omega | (rw [sizeLine_eq]; omega))))
  | ((with_reducible refine o_parT ?_ ?_); (first | assumption | omega | (rw [sizeLine_eq]; omega) | (simp only [List.length_append, List.length_cons, List.length_nil, List.length_map, List.length_take, List.length_drop] <;> first | omega | (rw [sizeLine_eq]; omega))))
  | ((with_reducible refine fmtI ?_ ?_); (first | assumption | omega | (rw [sizeLine_eq]; omega) | (simp only [List.length_append, List.length_cons, List.length_nil, List.length_map, List.length_take, List.length_drop] <;> first | omega | (rw [sizeLine_eq]; omega))))
  | ((with_reducible refine fmtT ?_ ?_); (first | assumption | omega | (rw [sizeLine_eq]; omega) | (simp only [List.length_append, List.length_cons, List.length_nil, List.length_map, List.length_take, List.length_drop] <;> first | omega | (rw [sizeLine_eq]; omega))))
  | ((with_reducible refine leS_ ?_ ?_); (first | assumption | omega | (rw [sizeLine_eq]; omega) | (simp only [List.length_append, List.length_cons, List.length_nil, List.length_map, List.length_take, List.length_drop] <;> first | omega | (rw [sizeLine_eq]; omega))))
  | ((with_reducible apply o_append); (first | assumption | exact get_new | exact get_set (by first | assumption | exact get_new) | exact get_app (by first | assumption | exact get_new)); (first | assumption | omega | (rw [sizeLine_eq]; omega) | (simp only [List.length_append, List.length_cons, List.length_nil, List.length_map, List.length_take, List.length_drop] <;> first | omega | (rw [sizeLine_eq]; omega))))
  | ((with_reducible refine o_fdiv ?_ ?_ ?_); (first | assumption | omega | (rw [sizeLine_eq]; omega) | (simp only [List.length_append, List.length_cons, List.length_nil, List.length_map, List.length_take, List.length_drop] <;> first | omega | (rw [sizeLine_eq]; omega))); (first | assumption | omega | (rw [sizeLine_eq]; omega) | (simp only [List.length_append, List.length_cons, List.length_nil, List.length_map, List.length_take, List.length_drop] <;> first | omega | (rw [sizeLine_eq]; omega))))
  | ((with_reducible refine o_mul ?_ ?_ ?_); (first | assumption | omega | (rw [sizeLine_eq]; omega) | (simp only [List.length_append, List.length_cons, List.length_nil, List.length_map, List.length_take, List.length_drop] <;> first | omega | (rw [sizeLine_eq]; omega))); (first | assumption | omega | (rw [sizeLine_eq]; omega) | (simp only [List.length_append, List.length_cons, List.length_nil, List.length_map, List.length_take, List.length_drop] <;> first | omega | (rw [sizeLine_eq]; omega))))
  | ((with_reducible refine br_y ?_ ?_); first | assumption | omega | decide)
  | ((with_reducible refine br_n ?_ ?_); first | assumption | omega | decide))
theorem w_seqc {a b : MS} {e : Nv} {S : Sto} {N : Nv → Sto → Prop} {R : D → Sto → Prop} {B C : Nv → Sto → Prop} {Z : Str → List (Str × D) → Nv → Sto → Prop} (Mid : Nv → Sto → Prop) (h : Es (a e S) Mid R B C Z) (k : ∀ e1 S1, Mid e1 S1 → Es (b e1 S1) N R B C Z) : Es (sSeq a b e S) N R B C Z :=
  w_seq (h.imp k (fun _ _ h => h) (fun _ _ h => h) (fun _ _ h => h) fun _ _ _ _ h => h)
theorem joinL_len (s : List Nat) : ∀ ls : List (List Nat), (TL.joinL s ls).length ≤ (ls.map List.length).sum + ls.length * s.length
  | [] => Nat.zero_le _
  | [x] => by
    show x.length ≤ _
    simp
  | x :: y :: r => by
    have h := joinL_len s (y :: r)
    show (x ++ (s ++ TL.joinL s (y :: r))).length ≤ _
    rw [List.length_append, List.length_append, List.map_cons, List.sum_cons, List.length_cons (a := x), Nat.succ_mul]
    omega
/-- a comprehension over a range that draws -/
theorem w_lcd {mi : Nv → Sto → Rs ItM} {tg : Tg} {me : MV} {vs : List Nat} {e : Nv} {S : Sto} {Q : D → Sto → Prop} {X : XQ} {b dl : Nat} {ds : List Int} (c : Nat) (P : D → Prop)
    (h : Ev (mi e S) (fun it S1 => ∃ n k1 : Nat, it = itR 0 1 n ∧ n ≤ 10000 ∧ BoxD S1 b k1 dl ds ∧
      (∀ (i : Nat) (S' : Sto) (k' : Nat), i < n → BoxD S' b k' dl ds → k' ≤ k1 + c * i → Ext b S1 S' → ∃ e1, tg (.int (i : Int)) (wipeE e vs) = some e1 ∧ Ev (me e1 S') (fun y S3 => P y ∧ ∃ k3, k3 ≤ k' + c ∧ BoxD S3 b k3 dl ds ∧ Ext b S' S3) noX) ∧
      ∀ (ys : List D) (S' : Sto) (k' : Nat), ys.length = n → (∀ y ∈ ys, P y) → k' ≤ k1 + c * n → BoxD S' b k' dl ds → Ext b S1 S' → S'[S1.length]? = some (.lst true ys) → Q (.loc S1.length) S') X) : Ev (mLcC mi tg tOk me vs e S) Q X := by
  refine w_lc (h.imp fun it S1 ⟨n, k1, hit, hn, B, step, fin⟩ => ?_)
  subst hit
  have hb := B.lt
  have hd := B.lt2
  refine ⟨rgN n, fun i acc S' => acc.length = i ∧ (∀ y ∈ acc, P y) ∧ S'[S1.length]? = some (.lst true acc) ∧ ∃ k', k' ≤ k1 + c * i ∧ BoxD S' b k' dl ds ∧ Ext b S1 S', fun i acc S' h => ⟨itR_at0, h.2.2.1⟩, by rw [rgN_len]; rfl, by rw [rgN_len, sizeLine_eq]; omega, ?_, ?_, ?_⟩
  · rintro i d acc S' hdd _ ⟨h1, h2, h3, k', h4, h5, h6⟩
    obtain ⟨hi, rfl⟩ := rgN_get hdd
    obtain ⟨e1, g1, g2⟩ := step i S' k' hi h5 h4 h6
    refine ⟨e1, g1, ?_⟩
    show Ev (me e1 S') _ _
    refine g2.imp fun y S3 ⟨q1, k3, q2, q3, q4⟩ => ?_
    have g3 := q4.get h3 (by omega)
    refine ⟨g3, by rw [List.length_append, List.length_singleton, h1], fun z hz => ?_, get_set g3, k3, by rw [Nat.mul_succ]; omega, q3.set (by omega) (by omega), (h6.trans q4).set_new (Nat.le_refl _)⟩
    rcases List.mem_append.mp hz with hz | hz
    · exact h2 z hz
    · rw [List.mem_singleton.mp hz]; exact q1
  · exact ⟨rfl, fun _ h => absurd h List.not_mem_nil, get_new, k1, by omega, B.gr (Gr.one _ _), (Gr.one _ _).ext b⟩
  · rintro acc S' ⟨h1, h2, h3, k', h4, h5, h6⟩
    rw [rgN_len] at h1 h4
    exact fin acc S' k' h1 h2 h4 h5 h6 h3
theorem itL_gr {S1 S' : Sto} {n c i : Nat} {w : Bool} {xs : List D} (h : S1[n]? = some (.lst w xs)) (g : Gr S1 S') : (itL n c).at_ i S' = some xs[i]? := by
  show (match S'[n]? with
    | some (.lst _ ds) => some ds[i]?
    | _ => none) = _
  rw [g.get h]
def IntIn (lo hi : Int) (d : D) : Prop := ∃ z : Int, d = .int z ∧ lo ≤ z ∧ z ≤ hi
theorem ints_in {lo hi : Int} : ∀ {ys : List D}, (∀ y ∈ ys, IntIn lo hi y) → ∃ zs : List Int, ys = zs.map .int ∧ ∀ z ∈ zs, lo ≤ z ∧ z ≤ hi
  | [], _ => ⟨[], rfl, fun _ h => absurd h List.not_mem_nil⟩
  | y :: ys, h => by
    obtain ⟨z, rfl, h1⟩ := h y List.mem_cons_self
    obtain ⟨zs, rfl, h2⟩ := ints_in fun y hy => h y (List.mem_cons_of_mem _ hy)
    refine ⟨z :: zs, rfl, fun x hx => ?_⟩
    rcases List.mem_cons.mp hx with hx | hx
    · rw [hx]; exact h1
    · exact h2 x hx
theorem ints_of : ∀ zs : List Int, intsOf (zs.map .int) = some zs
  | [] => rfl
  | z :: zs => by
    show (intsOf (zs.map .int)).map (z :: ·) = _
    rw [ints_of zs]; rfl
theorem strs_of : ∀ zs : List Str, strsOf (zs.map .str) = some zs
  | [] => rfl
  | z :: zs => by
    show (strsOf (zs.map .str)).map (z :: ·) = _
    rw [strs_of zs]; rfl
section
variable {S : Sto} {n : Nat} {w : Bool} {Q : D → Sto → Prop} {X : XQ}
theorem ss_ints {is : List Int} (h : S[n]? = some (.lst w (is.map .int))) (hl : is.length < 1000) : sortedSet (.loc n) S = some (((uniq is).mergeSort leI).map .int) := by
  unfold sortedSet
  rw [items_L h]
  simp only [ints_of, if_pos hl]
theorem ss_strs {xs : List Str} (h : S[n]? = some (.lst w (xs.map .str))) (hl : xs.length < 1000) : sortedSet (.loc n) S = some (((uniq xs).mergeSort leS).map .str) := by
  unfold sortedSet
  rw [items_L h]
  cases xs with
  | nil =>
    show some (((uniq ([] : List Int)).mergeSort leI).map D.int) = some (((uniq ([] : List Str)).mergeSort leS).map D.str)
    rw [show uniq ([] : List Int) = [] from rfl, show uniq ([] : List Str) = [] from rfl, List.mergeSort_nil, List.mergeSort_nil]; rfl
  | cons x xs =>
    have e : intsOf ((x :: xs).map .str) = none := rfl
    simp only [e, strs_of, if_pos hl]
theorem o_sorted {is : List Int} (h : S[n]? = some (.lst w (is.map .int))) (q : Q (.loc S.length) (S ++ [.lst true ((is.mergeSort leI).map .int)])) : Ev (lift (oSorted [.loc n] S)) Q X := w_lift (d := .loc S.length) (S' := S ++ [.lst true ((is.mergeSort leI).map .int)]) (by
  unfold oSorted
  simp only [h, ints_of]) q
end
theorem leI_pw (l : List Int) : (l.mergeSort leI).Pairwise (fun a b => a ≤ b) :=
  (List.pairwise_mergeSort (le := leI) (fun a b c h k => by unfold leI at *; simp only [decide_eq_true_eq] at *; omega) (fun a b => by unfold leI; simp only [Bool.or_eq_true, decide_eq_true_eq]; omega) l).imp fun h => of_decide_eq_true h
theorem le_lt : ∀ {l : List Int}, l.Pairwise (fun a b => a ≤ b) → l.Nodup → l.Pairwise (fun a b => a < b)
  | [], _, _ => .nil
  | x :: l, h, n => by
    rw [List.pairwise_cons] at h ⊢
    rw [List.nodup_cons] at n
    refine ⟨fun y hy => ?_, le_lt h.2 n.2⟩
    have h1 := h.1 y hy
    have h2 : x ≠ y := fun q => n.1 (by rw [q]; exact hy)
    omega
/-- sorted, each once -/
theorem ssI_lt (l : List Int) : ((uniq l).mergeSort leI).Pairwise (fun a b => a < b) :=
  le_lt (leI_pw _) ((List.mergeSort_perm _ _).nodup_iff.mpr (uniq_nodup l))
theorem uniq_mem {α : Type} [DecidableEq α] {l : List α} {x : α} : x ∈ uniq l ↔ x ∈ l := by
  have key : ∀ (l acc : List α), x ∈ l.foldl addU acc ↔ x ∈ acc ∨ x ∈ l := by
    intro l
    induction l with
    | nil => intro acc; simp
    | cons a r ih =>
      intro acc
      rw [List.foldl_cons, ih, addU_mem, List.mem_cons]
      constructor
      · rintro ((h | h) | h)
        · exact .inl h
        · exact .inr (.inl h)
        · exact .inr (.inr h)
      · rintro (h | h | h)
        · exact .inl (.inl h)
        · exact .inl (.inr h)
        · exact .inr h
  have := key l []
  unfold uniq
  rw [this]; simp
theorem ssI_mem {l : List Int} {x : Int} : x ∈ (uniq l).mergeSort leI ↔ x ∈ l := by rw [List.mem_mergeSort, uniq_mem]
theorem ssI_len (l : List Int) : ((uniq l).mergeSort leI).length ≤ l.length := by rw [List.length_mergeSort]; exact uniq_len l
section
variable {Q : D → Sto → Prop} {X : XQ} {S : Sto}
theorem toP_mapM {S : Sto} {n : Nat} : ∀ {ds : List D}, (∀ d ∈ ds, ∃ p, toP n S d = some p) → ∃ ps, ds.mapM (toP n S) = some ps ∧ ps.length = ds.length
  | [], _ => ⟨[], rfl, rfl⟩
  | d :: ds, h => by
    obtain ⟨p, hp⟩ := h d List.mem_cons_self
    obtain ⟨ps, hps, hl⟩ := toP_mapM fun x hx => h x (List.mem_cons_of_mem _ hx)
    exact ⟨p :: ps, by rw [List.mapM_cons, hp, hps]; rfl, by rw [List.length_cons, List.length_cons, hl]⟩
theorem o_neU {ds : List D} (h : ∀ d ∈ ds, PD S d) (q : Q (.bl (!ds.isEmpty)) S) : Ev (lift (oNe (.tup ds) (.tup []) S)) Q X :=
  w_lift (d := .bl (!ds.isEmpty)) (S' := S) (by
    obtain ⟨ps, h1, h2, h3, h4⟩ := mapM_pd (S := S) (n := 64) (by decide) h
    have e1 : toP 65 S (.tup ds) = some (.tuple ps) := by
      show (ds.mapM (toP 64 S)).map PyData.tuple = _
      rw [h1]; rfl
    have s1 : SeqAt.shaped (.tuple ps) = true := by
      show (PyData.canLayAll0 ps && decide (PyData.depthAll ps + 1 ≤ 64)) = true
      rw [h2, decide_eq_true (by omega)]; rfl
    show (eqD S (.tup ds) (.tup [])).map _ = _
    have e2 : eqD S (.tup ds) (.tup []) = some ds.isEmpty := by
      show (match toP 65 S (.tup ds), toP 65 S (.tup []) with
        | some p, some q => if (SeqAt.shaped p && SeqAt.shaped q) = true then some (PyData.eqv p q) else none
        | _, _ => none) = _
      rw [e1]
      show (if (SeqAt.shaped (.tuple ps) && SeqAt.shaped (.tuple [])) = true then some (PyData.eqv (.tuple ps) (.tuple [])) else none) = _
      rw [s1]
      show some (PyData.eqvAll ps []) = _
      cases ps with
      | nil =>
        cases ds with
        | nil => rfl
        | cons d r => simp at h4
      | cons p r =>
        cases ds with
        | nil => simp at h4
        | cons d r => rfl
    rw [e2]; rfl) q
end
theorem o_ixMem {S : Sto} {Q : D → Sto → Prop} {X : XQ} {n r : Nat} {w : Bool} {xs : List D} (hn : S[n]? = some (.lst w xs)) (hr : r < xs.length) (q : ∀ d ∈ xs, Q d S) : Ev (lift (oIx (.loc n) (.int (r : Int)) S)) Q X :=
  o_ixL hn (List.getElem?_eq_getElem hr) (q _ (List.getElem_mem hr))
/-- a zip of two tuples -/
theorem w_izip {mr : MA} {e : Nv} {S : Sto} {X : XQ} {Q : ItM → Sto → Prop} (h : Ev (mr e S) (fun as S1 => ∃ xs ys, as = [.tup xs, .tup ys] ∧ Q (itZT xs ys) S1) X) : Ev (iZip mr e S) Q X := Ev.bind (h.imp fun as S1 ⟨xs, ys, h1, q⟩ => by subst h1; exact q)
theorem itZT_at {xs ys : List D} {i : Nat} {S : Sto} : (itZT xs ys).at_ i S = some ((List.zip xs ys).map fun p => D.tup [p.1, p.2])[i]? := by
  show some (zipAt xs ys i) = _
  rw [zipAt_zip]
theorem itZT_cnt {xs ys : List D} : (itZT xs ys).cnt = ((List.zip xs ys).map fun p => D.tup [p.1, p.2]).length := by
  rw [List.length_map, List.length_zip]; rfl
/-- a text among texts -/
theorem in_strs {S : Sto} {x : Str} {ys : List Str} (hx : PyData.strOk x = true) (hy : ∀ y ∈ ys, PyData.strOk y = true) : oIn2 (.str x) (.tup (ys.map .str)) S = some (.bl (decide (x ∈ ys)), S) := by
  have e1 : toP 65 S (.tup (ys.map .str)) = some (.tuple (ys.map PyData.str)) := by
    show ((ys.map D.str).mapM (toP 64 S)).map PyData.tuple = _
    rw [mapM_emb D.str PyData.str (fun _ => rfl)]; rfl
  obtain ⟨k1, k2⟩ := lay_emb PyData.str ys fun y hm => ⟨hy y hm, rfl⟩
  have s1 : SeqAt.shaped (.list (ys.map PyData.str)) = true := by
    show (PyData.canLayAll0 (ys.map PyData.str) && decide (PyData.depthAll (ys.map PyData.str) + 1 ≤ 64)) = true
    rw [k1, k2]; rfl
  have s2 : SeqAt.shaped (.str x) = true := by
    show (PyData.strOk x && decide (0 ≤ 64)) = true
    rw [hx]; rfl
  have e2 : inD2 S (.str x) (.tup (ys.map .str)) = some (decide (x ∈ ys)) := by
    show (match toP 65 S (.str x), toP 65 S (.tup (ys.map .str)) with
      | some p, some (.list ds) => if (SeqAt.shaped p && SeqAt.shaped (.list ds)) = true then some (ds.any fun z => PyData.eqv z p) else none
      | some p, some (.tuple ds) => if (SeqAt.shaped p && SeqAt.shaped (.list ds)) = true then some (ds.any fun z => PyData.eqv z p) else none
      | _, _ => none) = _
    rw [e1]
    show (if (SeqAt.shaped (.str x) && SeqAt.shaped (.list (ys.map PyData.str))) = true then some ((ys.map PyData.str).any fun z => PyData.eqv z (.str x)) else none) = _
    rw [s1, s2]
    show some ((ys.map PyData.str).any fun z => PyData.eqv z (.str x)) = _
    congr 1
    rw [Bool.eq_iff_iff, List.any_eq_true, decide_eq_true_eq]
    constructor
    · rintro ⟨z, hz, e⟩
      obtain ⟨y, hy', rfl⟩ := List.mem_map.mp hz
      have e : (y == x) = true := e
      rw [← beq_iff_eq.mp e]; exact hy'
    · intro h
      exact ⟨.str x, List.mem_map.mpr ⟨x, h, rfl⟩, by show (x == x) = true; simp⟩
  show (inD2 S (.str x) (.tup (ys.map .str))).map (fun k => (D.bl k, S)) = _
  rw [e2]; rfl
theorem strOkT {l : List Nat} (h : ∀ c ∈ l, c < 1114112) : PyData.strOk (T l) = true := by
  show (T l).cps.all _ = true
  rw [← Array.all_toList]
  exact List.all_eq_true.mpr fun c hc => decide_eq_true (h c hc)
theorem o_inStrs {S : Sto} {Q : D → Sto → Prop} {X : XQ} {l : List Nat} {ls : List (List Nat)} (hx : ∀ c ∈ l, c < 1114112) (hy : ∀ m ∈ ls, ∀ c ∈ m, c < 1114112) (q : Q (.bl (decide (l ∈ ls))) S) : Ev (lift (oIn2 (.str (T l)) (.tup (strT ls)) S)) Q X :=
  w_lift (d := .bl (decide (l ∈ ls))) (S' := S) (by
    have h := in_strs (S := S) (x := T l) (ys := ls.map T) (strOkT hx) fun y hy' => by
      obtain ⟨m, hm, rfl⟩ := List.mem_map.mp hy'
      exact strOkT (hy m hm)
    rw [List.map_map] at h
    have e : decide (T l ∈ ls.map T) = decide (l ∈ ls) := by
      rw [decide_eq_decide]
      constructor
      · intro q
        obtain ⟨m, hm, e⟩ := List.mem_map.mp q
        rw [← T_inj e]; exact hm
      · exact fun q => List.mem_map_of_mem q
    rw [e] at h
    exact h) q
theorem o_neBl {S : Sto} {Q : D → Sto → Prop} {X : XQ} {a b : Bool} (q : Q (.bl (!decide (a = b))) S) : Ev (lift (oNe (.bl a) (.bl b) S)) Q X := by
  refine w_lift (d := .bl (!decide (a = b))) (S' := S) ?_ q
  cases a <;> cases b <;> rfl
end P0
end

section
set_option Elab.async false
set_option linter.all false
set_option maxRecDepth 100000
set_option maxHeartbeats 2000000
/-! M33: lambda p: (p[1], p[0]) called on a pair of numbers. -/
namespace M2
open PySem PySem.Spec PyProof.Rows L2
set_option autoImplicit false
section
variable {prog : Program} {w : World} {A : Around} {s : Shared}
abbrev swapE (a : Str) (p1 p2 c0 c1 q0 q1 pos : Pos) (j0 j1 k : Nat) : Expr := .Tuple [.Subscript (.Name a p1) (.Constant (.int 1) j1 c1) q1, .Subscript (.Name a p2) (.Constant (.int 0) j0 c0) q0] k pos
theorem lam_pair {f c' t : Addr} {q a : Str} {params : Arguments} {scope : Scope} {clos : List (Str × Addr)} {pm ctv : Value} {x y : Int} {u v : Tok} {p1 p2 c0 c1 q0 q1 pos : Pos} {j0 j1 k : Nat} (hr : A.depth < recursionLimit) (hl : s.heap.NoLimit)
    (ho : s.heap.get? f = some (PySem.W.kla_obj "<lambda>" q params (swapE a p1 p2 c0 c1 q0 q1 pos j0 j1 k) scope clos pm c' ctv)) (hcd : s.heap.CodeRec (.ref c') q)
    (hb : bindArgs (PySem.W.kla_fn "<lambda>" q params (swapE a p1 p2 c0 c1 q0 q1 pos j0 j1 k) scope clos pm (.ref c') ctv) ⟨[.ref t], []⟩ = pure [(a, .ref t)])
    (hk : scope.kind = .function) (hco : scope.isCoroutine = false) (hg : scope.isGenerator = false) (hcell : ∀ x ∈ scope.names, x.2 ≠ .cell) (ha : scope.names.lookup a = some .local)
    (ht : IsTup s.heap t #[.int x u, .int y v]) (hd : (a == ("__debug__" : Str)) = false := by decide) :
    wpAny (model prog w) A (call (.ref f) [.ref t]) (PySem.W.KeyPure (.tuple [.int y, .int x]) s) (fun _ _ => False) s := by
  refine wpAny_call ?_
  refine PySem.W.kla_callFunE hr ho rfl hco hg rfl hcd ?_
  rw [hb]
  refine wpAny_pure (wpAny_newFunctionEnv hcell (fun y hy => by rw [List.mem_singleton.mp hy]; exact ha) (fun h₁ hns hsb => ⟨hl.fresh _ hsb, ?_⟩) hk)
  show codeAny _ _ (.expr _ (PySem.W.envX q scope s.heap.objs.size f (.ref c') clos)) _ _
  have kp : ∀ b o, s.heap.get? b = some o → h₁.get? b = some o := fun b o e => hsb.extBut b o (Nat.ne_of_lt (Heap.lt_size e)) (Heap.get?_push_of_some _ e)
  have hm : ([(a, Value.ref t)] : List (Str × Value)).reverse.lookup a = some (.ref t) := by simp
  obtain ⟨o, h1, h2, h3⟩ := ht
  have ht1 : ∀ tk, IsTup ({ s with heap := h₁, toks := tk } : Shared).heap t #[.int x u, .int y v] := fun tk => ⟨o, kp _ _ h1, h2, h3⟩
  refine PySem.W.kla_codeExpr (wpAny_Tuple ?_)
  refine Calls.spliced_cons (Subscript_ (wpAny_Name (wpAny_loadName_local hk ha hns hm ?_) hd))
  refine wpAny_Constant_int ?_
  refine item_tuple (j := 1) (ht1 _) (by omega) (by omega) rfl rfl ?_
  refine Calls.spliced_cons (Subscript_ (wpAny_Name (wpAny_loadName_local hk ha hns hm ?_) hd))
  refine wpAny_Constant_int ?_
  refine item_tuple (j := 0) (ht1 _) (by omega) (by omega) rfl rfl ?_
  refine Calls.spliced_nil ⟨(by decide : (2 : Nat) ≤ sizeLine), ?_⟩
  refine ⟨_, _, rfl, fun b o e => Heap.get?_push_of_some _ (kp b o e), ?_⟩
  exact .tuple (as := [] ++ ([] ++ [])) (Heap.get?_push_size _ rfl) rfl rfl (.cons (.int _ _) (.cons (.int _ _) .nil))
end
end M2
end

section
set_option Elab.async false
set_option linter.all false
set_option maxRecDepth 100000
/-! M30: texts written as lists of signs. -/
namespace M2
open PySem PySem.Spec PyProof.Rows L2
set_option autoImplicit false
theorem me_eqT {X : Cx} {W : WX} {e : Expr} {x y : Str} (h : x = y) (he : PE X e (tM X.K X.mg W (mC (.str x)))) : PE X e (tM X.K X.mg W (mC (.str y))) := h ▸ he
end M2
end

section
set_option Elab.async false
set_option linter.all false
set_option maxRecDepth 100000
set_option maxHeartbeats 2000000
/-! M31: a whole list given anew: o[:] = ys. -/
namespace M2
open PySem PySem.Spec PyProof.Rows L2
set_option autoImplicit false
section
variable {prog : Program} {w : World} {A : Around} {E : Value → Shared → Prop} {s : Shared}
theorem bounds_all {n : Nat} : sliceBounds none none none n = ((0 : Int), (n : Int), 1) := by
  simp only [sliceBounds, Option.getD_none]
  rfl
/-- o[:] = another list -/
theorem set_all {l b sl : Addr} {xs ys : Array Value} {n m : Nat} {Q : Unit → Shared → Prop}
    (e : s.heap.get? l = some { cls := .type "list", data := .seq xs n }) (e2 : s.heap.get? b = some { cls := .type "list", data := .seq ys m }) (hne : l ≠ b)
    (hs : s.heap.IsSliceOf sl .none .none .none) (hz : xs.size + ys.size ≤ sizeLine)
    (h : Q () { s with heap := s.heap.update l (Obj.mapSeq fun zs => zs.extract 0 0 ++ ys ++ zs.extract xs.size zs.size) }) : wpAny (model prog w) A (setItem (.ref l) (.ref sl) (.ref b)) Q E s := by
  have hl : s.heap.IsList l xs := PySem.IsL.isList e
  have hb : s.heap.IsList b ys := PySem.IsL.isList e2
  obtain ⟨os, hos, hc, hd⟩ := id hs
  have ht : s.TypeIs (.ref sl) "slice" := ⟨os, hos, hc⟩
  have hsame : Builtin.List.listSameRef (.ref l) (.ref b) = false := beq_eq_false_iff_ne.mpr hne
  have hmax : (max (0 : Int) (xs.size : Int)).toNat = xs.size := by omega
  unfold setItem
  try with_reducible refine wpAny_holding ?_
  first | refine wpAny_bind (wpAny_pure ?_) | skip
  refine wpAny_bind (wpAny_sequenceKey hl.typeIs (by decide) ?_)
  refine wpAny_bind (wpAny_callSpecial?_slot (name := Str.ofString "__setitem__") hl.typeIs slot_list_setitem (wpAny_call_entry slot_list_setitem hl.typeIs entry_list_setitem ?_ (args_list_setitem _ _ _)))
  show wpAny _ _ (Builtin.List.listSubscript? (.ref sl) >>= _) _ _ s
  refine wpAny_bind ?_
  unfold Builtin.List.listSubscript?
  refine wpAny_bind (wpAny_specialOf ht slice_no_index ?_)
  simp only [Option.isNone_none, if_true]
  refine wpAny_pure ?_
  show wpAny _ _ (typeOf (.ref sl) >>= _) _ _ s
  refine wpAny_bind (wpAny_typeOf ht ?_)
  first
    | rw [if_neg (by decide)]
    | refine PySem.W.KFB.if_not (by decide) ?_
  rw [listSliceParts_eq]
  refine wpAny_bind (wpAny_bind (wpAny_field hos hd (x := .none) rfl (wpAny_bind (wpAny_listPart .none ?_))))
  rw [if_neg (show ¬ ((rawPart none == rawInt 0) = true) from Bool.false_ne_true)]
  refine wpAny_bind (wpAny_field hos hd (x := .none) rfl (wpAny_bind (wpAny_listPart .none ?_)))
  refine wpAny_bind (wpAny_field hos hd (x := .none) rfl (wpAny_bind (wpAny_listPart .none (wpAny_pure ?_))))
  first
    | simp only [hsame, Bool.false_eq_true, if_false]
    | refine PySem.W.KFB.if_not hsame ?_
    | (dsimp only
       rw [if_neg (by rw [hsame]; exact Bool.false_ne_true)])
  refine wpAny_bind (m := Builtin.List.listAllItems (.ref b) "must assign iterable to extended slice") ?_
  unfold Builtin.List.listAllItems
  refine wpAny_bind (wpAny_typeOf hb.typeIs ?_)
  first
    | refine PySem.W.KFB.if_so (by decide) ?_
    | rw [if_pos (by decide)]
    | simp only [beq_self_eq_true, Bool.true_or, if_true]
  unfold Builtin.List.listItems
  refine wpAny_bind (wpAny_seqItems e2 rfl (wpAny_pure ?_))
  refine wpAny_bind (wpAny_bind (wpAny_seqItems e rfl (wpAny_pure ?_)))
  refine wpAny_bind (wpAny_of_eq ((sliceIndices_raw none none none xs.size (by simp)).trans (congrArg (pure : Int × Int × Int → Sem (Int × Int × Int)) bounds_all)) ?_)
  show wpAny _ _ (if ((1 : Int) == 1) = true then _ else _) _ _ s
  rw [if_pos (by decide)]
  refine wpAny_bind (wpAny_rule ?_)
  first
    | simp only [notLongL hz, Bool.false_eq_true, if_false]
    | refine PySem.W.KFB.if_not (notLongL hz) ?_
  first | refine wpAny_bind (wpAny_pure ?_) | skip
  show wpAny _ _ (updateSeq l (fun zs => zs.extract 0 ((0 : Int)).toNat ++ ys ++ zs.extract (max (0 : Int) (xs.size : Int)).toNat zs.size) >>= _) _ _ s
  rw [hmax]
  refine wpAny_bind (wpAny_updateSeq (hz := Nat.le_trans (Nat.le_add_right _ _) hz) (_hz' := by
    simp only [Array.size_append, Array.size_extract]
    omega) e rfl ?_)
  refine wpAny_bind (wpAny_letGo ?_)
  first
    | exact wpAny_bind (wpAny_pure (wpAny_pure ⟨.none, rfl, wpAny_pure h⟩))
    | exact wpAny_pure ⟨.none, rfl, wpAny_pure h⟩
end
section
variable {X : Cx} {W : WX} {o e : Expr} {ma mb : MV} {pos p2 p3 : Pos}
def gAll (to : TE) : TG := fun v σ H Q => to σ H fun x H1 => ∃ l b xs ys, x = .ref l ∧ v = .ref b ∧ l ≠ b ∧ H1 l = some (.lst xs) ∧ H1 b = some (.lst ys) ∧ xs.length + ys.length ≤ sizeLine ∧ Q σ (upd H1 l (.lst ys))
theorem pg_all {to : TE} (ho : PE X o to)
    (ha : ∀ v, assign (.Subscript o (.Slice none none none p2) pos) X.env v = (do
      let ov ← holding [v] (eval o X.env)
      let iv ← holding [v, ov] (eval (.Slice none none none p2) X.env)
      standAt pos
      holding [v, ov, iv] (setItem ov iv v)
      release [iv, v, ov] []) := by intro _; rfl) : PG X (.Subscript o (.Slice none none none p2) pos) (gAll to) := by
  refine ⟨fun pins s σ H v u Q I r h => ?_⟩
  rw [ha]
  refine wpAny_bind (wpAny_holding (thn (ho.run pins s σ H _ I h) fun ov s1 ⟨x, H1, I1, r1, q1⟩ => ?_))
  obtain ⟨l, b, xs, ys, rfl, rfl, hne, hl, hb, hz, q⟩ := q1
  cases r1
  cases r
  refine wpAny_bind (wpAny_holding (wpAny_Slice ?_))
  simp only [evalPart_none]
  refine wpAny_pure (wpAny_pure (wpAny_pure ?_))
  have I4 : Inv X pins σ H1 { s1 with heap := s1.heap.push { cls := .type "slice", data := .fields #[.none, .none, .none] } } := I1.kept (t' := s1.toks) fun b ob q => Heap.get?_push_of_some _ q
  refine wpAny_bind (wpAny_standAt (wpAny_bind (wpAny_holding ?_)))
  obtain ⟨z, its, n, r, hl', e⟩ := I4.lstM hl
  obtain ⟨z2, its2, n2, r2, hl2, e2⟩ := I4.lstM hb
  refine set_all e e2 hne (Heap.IsSliceOf.new ..) (by rw [List.size_toArray, List.size_toArray, ← r.length, ← r2.length]; exact hz) ?_
  refine wpAny_release ⟨σ, _, I4.lset (its' := its2) (t' := s1.toks) hl e ?_ r2 (by omega), q⟩
  rw [splice_eq its its2 0 its.toArray.size]
  simp
/-- o[:] = d, both lists, not one -/
def oPutAll (o d : D) (S : Sto) : Option Sto := match o, d with
  | .loc n, .loc m => match S[n]?, S[m]? with
    | some (.lst true xs), some (.lst true ys) => if n ≠ m ∧ xs.length + ys.length ≤ sizeLine then some (S.set n (.lst true ys)) else none
    | _, _ => none
  | _, _ => none
def sPutAll (mv mo_ : MV) : MS := fun e S => (mv e S).bindS e fun d S1 => (mo_ e S1).bindS e fun o S2 => match oPutAll o d S2 with
  | some S4 => .nx e S4
  | none => .stuck
theorem ms_putAll (he : PE X e (tM X.K X.mg W ma)) (ho : PE X o (tM X.K X.mg W mb))
    (ha : ∀ v, assign (.Subscript o (.Slice none none none p2) p3) X.env v = (do
      let ov ← holding [v] (eval o X.env)
      let iv ← holding [v, ov] (eval (.Slice none none none p2) X.env)
      standAt p3
      holding [v, ov, iv] (setItem ov iv v)
      release [iv, v, ov] []) := by intro _; rfl) (hs : swapsWithSole [.Subscript o (.Slice none none none p2) p3] e pos.line X.env = pure false := by rfl) (hw : swappedStores [.Subscript o (.Slice none none none p2) p3] e X.env = pure none := by rfl)
    (h1 : (assignEach [.Subscript o (.Slice none none none p2) p3] X.env).map (·.2) = [assign (.Subscript o (.Slice none none none p2) p3) X.env] := by rfl) :
    PS X (.Assign [.Subscript o (.Slice none none none p2) p3] e pos) (tMS X.K X.mg W (sPutAll ma mb)) :=
  PS.imp (ps_asg he (pg_all ho ha) hs hw h1) fun Dn σ H ⟨ρ, e, S, re, rs, g⟩ => ⟨ρ, e, S, re, rs, GoodG.bindS re g fun d S1 v H1 ρ1 _ p1 k1 rs1 r1 g1 =>
    ⟨ρ1, e, S1, re.mono p1 k1, rs1, GoodG.bindS (re.mono p1 k1) g1 fun o S2 x H2 ρ2 _ p2 k2 rs2 r2 g2 => by
      try dsimp only at g2
      have r1' := r1.mono p2 k2
      have re' := (re.mono p1 k1).mono p2 k2
      split at g2
      · rename_i S4 h
        unfold oPutAll at h
        split at h
        · rename_i n m
          obtain ⟨a, rfl, pa⟩ := r2
          obtain ⟨b, rfl, pb⟩ := r1'
          split at h
          · rename_i xs ys e0 e1
            split at h
            · rename_i hc
              cases h
              obtain ⟨us, ea, ra⟩ := rs2.at_ _ _ _ pa e0
              obtain ⟨vs, eb, rb⟩ := rs2.at_ _ _ _ pb e1
              have kp : Keep H2 (upd H2 a (.lst vs)) := Keep.mut ea rfl
              refine ⟨a, b, us, vs, rfl, rfl, fun q => hc.1 (rs2.inj _ _ a _ _ pa (by rw [q]; exact pb) e0 e1 rfl rfl), ea, eb, by rw [← ra.length, ← rb.length]; exact hc.2, ?_⟩
              exact g2 σ _ ρ2 (Pre.refl _) kp (rs2.set pa e0 rfl ⟨_, upd_same, RVs.mono (Pre.refl _) kp _ _ rb⟩ rfl) (re'.mono (Pre.refl _) kp)
            · cases h
          · cases h
        · cases h
      · exact g2.elim⟩⟩
end
end M2
end

section
set_option Elab.async false
set_option linter.all false
set_option maxRecDepth 100000
set_option maxHeartbeats 2000000
/-! M32: y = {..} on one line, y a local. -/
namespace M2
open PySem PySem.Spec PyProof.Rows L2
set_option autoImplicit false
section
variable {X : Cx} {W : WX} {pos spos py : Pos} {y : Str} {i : Nat} {kx vx tgt iter : Expr} {ifs : List Expr} {scope : Scope} {own : List (Str × Nat)}
theorem swD_true {gs : List Comprehension} {l : Nat} {env : Env} (hk : env.scope.kind = .function) (hy : env.scope.names.lookup y = some .local) (hl : (py.line == pos.line) = true)
    (ha : (scope.names.any fun (n, k) => n == y && (k == .local || k == .cell)) = false) : swapsWith (.DictComp kx vx gs scope pos) (some (.Name y py)) l env = pure true := by
  have ky : env.kindOf y = some .local := hy
  have hb : env.blockKind = .function := by unfold Env.blockKind; rw [hk]; rfl
  unfold swapsWith
  simp only [hb, ky, ha, Expr.pos, hl]
  rfl
theorem ps_setDc {wi : TI} {g : TG} {tt : TT} {tk tv : TE} (hc : X.calm = true) (hN : X.N.Nodup) (hy : X.N[i]? = some y) (hyl : X.env.scope.names.lookup y = some .local)
    (hsw : swapsWith (.DictComp kx vx [⟨tgt, iter, ifs, 0⟩] scope pos) (some (.Name y py)) spos.line X.env = pure true) (hi : PI X tgt iter wi) (ok : BlkOk X.N X.env.scope scope own)
    (hg : ∀ (s : Shared) (H : Hp) (C : Addr) (cl : List (Str × Addr)) (fp : List Addr), PG (X.blk s H scope (compEnvC scope cl C X.env) fp) tgt g) (ht : ∀ (s : Shared) (H : Hp) (C : Addr) (cl : List (Str × Addr)) (fp : List Addr), PTs (X.blk s H scope (compEnvC scope cl C X.env) fp) ifs tt)
    (hk : ∀ (s : Shared) (H : Hp) (C : Addr) (cl : List (Str × Addr)) (fp : List Addr), PE (X.blk s H scope (compEnvC scope cl C X.env) fp) kx tk)
    (he : ∀ (s : Shared) (H : Hp) (C : Addr) (cl : List (Str × Addr)) (fp : List Addr), PE (X.blk s H scope (compEnvC scope cl C X.env) fp) vx tv) (hs : ∀ x, foldedSetIterable iter X.env x = pure x := by intro _; rfl) :
    PS X (.Assign [.Name y py] (.DictComp kx vx [⟨tgt, iter, ifs, 0⟩] scope pos) spos) (tAsg (tDc wi g tt tk tv (own.map (·.2))) (gName i)) := by
  refine ⟨fun pins s σ H D I h => ?_⟩
  rw [exec_Assign_Name_used _ _ _ _ hsw]
  refine wpAny_bind (wpAny_standAt (wpAny_bind ?_))
  show wpAny _ X.A (do let _ ← comprehension (.DictComp kx vx [⟨tgt, iter, ifs, 0⟩] scope pos) scope X.env (firstIterPos [⟨tgt, iter, ifs, 0⟩] pos) newDict false (eval iter X.env) (some (assign (.Name y py) X.env))) _ _ s
  have h : tDc wi g tt tk tv (own.map (·.2)) σ H (fun x H1 => gName i x σ H1 D.nx) := h
  refine wpAny_bind (thn (dc_core (Qf := fun _ s' => SP X pins D .next s') hc hN I hi ok hg ht hk he hs h fun L C s' m H' I' q hn f => ?_) fun _ s' hq => wpAny_pure (wpAny_pure hq))
  show wpAny _ _ (assign (.Name y py) X.env (.ref L)) _ _ _
  refine wpAny_assign_Name (store_ok2 (v := V.ref L) I' hN hy (.inl hyl) rfl (fun s2 I2 ⟨a, sb, ha⟩ => ?_) (.inr hyl))
  obtain ⟨f0, f1, f2, f3, f4, f5⟩ := f
  have haC : C ≠ a := by
    rcases ha with z | z
    · rw [z]; exact f1
    · exact fun e => f4 y a z e.symm
  refine ⟨m, hn.sameBut sb haC, fun h3 sb3 => ?_⟩
  exact ⟨_, H', I2.turned (t' := s2.toks) (fun b o hb e => (sb3.2 b hb).trans e) f0 f1 f3 f4 f5, q⟩
variable {tg : Tg} {mi : Nv → Sto → Rs ItM} {tt : MT} {mk mv : MV}
theorem ms_setDc (hc : X.calm = true) (hN : X.N.Nodup) (hy : X.N[i]? = some y) (hyl : X.env.scope.names.lookup y = some .local)
    (hsw : swapsWith (.DictComp kx vx [⟨tgt, iter, ifs, 0⟩] scope pos) (some (.Name y py)) spos.line X.env = pure true) (hi : PI X tgt iter (tMI X.K X.mg W mi)) (ok : BlkOk X.N X.env.scope scope own)
    (hg : ∀ (s : Shared) (H : Hp) (C : Addr) (cl : List (Str × Addr)) (fp : List Addr), PG (X.blk s H scope (compEnvC scope cl C X.env) fp) tgt (tTgW X.K X.mg (own.map (·.2)) tg)) (ht : ∀ (s : Shared) (H : Hp) (C : Addr) (cl : List (Str × Addr)) (fp : List Addr), PTs (X.blk s H scope (compEnvC scope cl C X.env) fp) ifs (tMT X.K X.mg wF tt))
    (hk : ∀ (s : Shared) (H : Hp) (C : Addr) (cl : List (Str × Addr)) (fp : List Addr), PE (X.blk s H scope (compEnvC scope cl C X.env) fp) kx (tM X.K X.mg wF mk))
    (he : ∀ (s : Shared) (H : Hp) (C : Addr) (cl : List (Str × Addr)) (fp : List Addr), PE (X.blk s H scope (compEnvC scope cl C X.env) fp) vx (tM X.K X.mg wF mv)) (hs : ∀ x, foldedSetIterable iter X.env x = pure x := by intro _; rfl) :
    PS X (.Assign [.Name y py] (.DictComp kx vx [⟨tgt, iter, ifs, 0⟩] scope pos) spos) (tMS X.K X.mg W (sAsg (mDcC mi tg tt mk mv (own.map (·.2))) (tgN i))) :=
  PS.imp (ps_setDc (i := i) hc hN hy hyl hsw hi ok hg ht hk he hs) fun Dn σ H ⟨ρ, e, S, re, rs, g⟩ => tdc_of σ H _ ⟨ρ, e, S, re, rs, GoodG.bindS re g fun d S1 v H1 ρ1 _ p1 k1 rs1 r1 g1 =>
    g1 _ H1 ρ1 (Pre.refl _) (Keep.refl _) rs1 ((re.mono p1 k1).set i r1)⟩
end
end M2
end

section
set_option Elab.async false
set_option linter.all false
set_option maxRecDepth 100000
set_option maxHeartbeats 2000000
/-! M34: sorted(xs, key=lambda p: (p[1], p[0])) of pairs of numbers. -/
namespace M2
open PySem PySem.Spec PyProof.Rows L2
set_option autoImplicit false
def isTab (P : Addr) (q : Str) : SO → Bool
  | .tab P' q' => decide (P' = P) && decide (q' = q)
  | _ => false
def leSw (p q : Int × Int) : Bool := leP (p.2, p.1) (q.2, q.1)
def mSortSwap (P : Addr) (q : Str) (ma : MV) : MV := fun e S => (ma e S).bind fun d S1 => match d with
  | .loc n => match S1[n]? with
    | some (.lst _ xs) => match pairsOf xs with
      | some ps => if S1.any (isTab P q) = true then .ok (.loc S1.length) (S1 ++ [.lst true ((ps.mergeSort leSw).map embP)]) else .stuck
      | none => .stuck
    | _ => .stuck
  | _ => .stuck
def tabsOf (S : Sto) : List (Addr × Str) := S.filterMap fun o => match o with
  | .tab P q => some (P, q)
  | _ => none
theorem mem_tabs {S : Sto} {p : Addr × Str} : p ∈ tabsOf S ↔ SO.tab p.1 p.2 ∈ S := by
  unfold tabsOf
  rw [List.mem_filterMap]
  constructor
  · rintro ⟨o, ho, e⟩
    cases o with
    | tab P q => cases e; exact ho
    | lst w ds => cases e
    | dic kvs => cases e
    | obj c fs => cases e
  · intro h
    exact ⟨_, h, rfl⟩
section
variable {K : PySem.W.Frag} {mg : Str → Option Value} {ρ : List Addr} {H H' : Hp} {S : Sto}
theorem extN_keep (e : LamX.ExtN H H') : Keep H H' := fun a o h s => e a o h fun ps q => by
  subst q; cases s
theorem rs_tabs (h : RS K mg ρ H S) : LamX.Tabs (tabsOf S) H := fun p hp => by
  obtain ⟨n, hn⟩ := List.getElem?_of_mem (mem_tabs.mp hp)
  obtain ⟨a, _, e, t⟩ := h.addr hn
  exact t
theorem rs_one (h : RS K mg ρ H S) {P : Addr} {q : Str} (hq : SO.tab P q ∈ S) : ∀ p ∈ tabsOf S, p.1 = P → p.2 = q := fun p hp e => by
  obtain ⟨n, hn⟩ := List.getElem?_of_mem (mem_tabs.mp hp)
  obtain ⟨m, hm⟩ := List.getElem?_of_mem hq
  obtain ⟨a, ea, e1, _⟩ := h.addr hn
  obtain ⟨b, eb, e2, _⟩ := h.addr hm
  have : n = m := h.inj n m a _ _ ea (by rw [eb, e2, e1, e]) hn hm rfl rfl
  subst this
  rw [hn] at hm
  injection hm with hm
  injection hm
theorem rs_ext (h : RS K mg ρ H S) (e : LamX.ExtN H H') (t : LamX.Tabs (tabsOf S) H') : RS K mg ρ H' S := by
  refine ⟨h.len, fun n a o ha hs => ?_, h.inj⟩
  have r := h.at_ n a o ha hs
  cases o with
  | tab P q =>
    obtain ⟨rfl, _⟩ := r
    exact ⟨rfl, t (a, q) (mem_tabs.mpr (List.mem_of_getElem? hs))⟩
  | lst w ds =>
    refine r.mono (Pre.refl _) (extN_keep e) fun hw => ?_
    cases w with
    | false => cases hw
    | true =>
      obtain ⟨xs, e1, _⟩ := r
      rw [e1]
      exact e _ _ e1 fun ps q => by cases q
  | dic kvs =>
    refine r.mono (Pre.refl _) (extN_keep e) fun _ => ?_
    obtain ⟨xs, e1, _⟩ := r
    rw [e1]
    exact e _ _ e1 fun ps q => by cases q
  | obj c fs =>
    refine r.mono (Pre.refl _) (extN_keep e) fun _ => ?_
    obtain ⟨C, dx, vs, _, e1, _⟩ := r
    rw [e1]
    exact e _ _ e1 fun ps q => by cases q
end
theorem isTab_mem {S : Sto} {P : Addr} {q : Str} (h : S.any (isTab P q) = true) : SO.tab P q ∈ S := by
  obtain ⟨o, ho, e⟩ := List.any_eq_true.mp h
  cases o with
  | tab P' q' =>
    unfold isTab at e
    simp only [Bool.and_eq_true, decide_eq_true_eq] at e
    rw [← e.1, ← e.2]; exact ho
  | lst w ds => cases e
  | dic kvs => cases e
  | obj c fs => cases e
section
variable {X : Cx} {W : WX} {e : Expr} {ma : MV}
theorem pair_val {ρ : List Addr} {H : Hp} {p : Int × Int} {v : V} (h : RV X.K X.mg ρ H (embP p) v) : ∃ t, v = .ref t ∧ SqT X.K H t [.int p.1, .int p.2] := by
  obtain ⟨t, xs, rfl, h1, h2⟩ := h
  obtain ⟨a, as, rfl, ha, b, bs, rfl, hb, h3⟩ := h2
  rw [show a = .int p.1 from ha, show b = .int p.2 from hb, show bs = [] from h3] at h1
  exact ⟨t, rfl, h1⟩
theorem me_sortSwap {x a : Str} {params : Arguments} {scope : Scope} {p p1 p2 c0 c1 q0 q1 tpos lpos kp pos : Pos} {j0 j1 k : Nat} {c P : Addr} (hu : X.A.units + 64 < cLine) (hdp : X.A.depth < recursionLimit) (TB : LamX.TabB X.base X.mg c P) (hcode : X.env.code = .ref c)
    (hg : Gl X x) (hm : X.mg x = none) (hv : bootBuiltins x = some (.builtin "sorted")) (he : PE X e (tM X.K X.mg W ma)) (hdef : defaultsOf params X.env = ([], [])) (hfree : ∀ y ∈ scope.names, y.2 = .free → ∃ c, X.env.cells.lookup y.1 = some c)
    (hb : ∀ (q : Str) (cl : List (Str × Addr)) (pm cv ctv v : Value), bindArgs (PySem.W.kla_fn "<lambda>" q params (swapE a p1 p2 c0 c1 q0 q1 tpos j0 j1 k) scope cl pm cv ctv) ⟨[v], []⟩ = pure [(a, v)])
    (hk : scope.kind = .function) (hco : scope.isCoroutine = false) (hgen : scope.isGenerator = false) (hcell : ∀ x ∈ scope.names, x.2 ≠ .cell) (ha : scope.names.lookup a = some .local)
    (hn : x ≠ "__name__" := by decide) (hdb : (x == ("__debug__" : Str)) = false := by decide) (hda : (a == ("__debug__" : Str)) = false := by decide)
    (he1 : backTo pos (starEach [e] X.env) = (false, eval e X.env) :: backTo pos (starEach [] X.env) := by rfl) (hpl : (backTo pos (starEach [e] X.env)).any (·.1) = false := by rfl)
    (hall : (backToKw pos (keywordEach [⟨some "key", .Lambda params (swapE a p1 p2 c0 c1 q0 q1 tpos j0 j1 k) scope lpos, kp⟩] X.env)).all (·.1.isSome) = true := by rfl) (hnone : (backToKw pos (keywordEach [⟨some "key", .Lambda params (swapE a p1 p2 c0 c1 q0 q1 tpos j0 j1 k) scope lpos, kp⟩] X.env)).any (·.1.isNone) = false := by rfl)
    (hks : (backToKw pos (keywordEach [⟨some "key", .Lambda params (swapE a p1 p2 c0 c1 q0 q1 tpos j0 j1 k) scope lpos, kp⟩] X.env)).filterMap (·.1) = [Str.ofString "key"] := by rfl) :
    PE X (.Call (.Name x p) [e] [⟨some "key", .Lambda params (swapE a p1 p2 c0 c1 q0 q1 tpos j0 j1 k) scope lpos, kp⟩] pos) (tM X.K X.mg W (mSortSwap P (X.env.qual ++ "<lambda>") ma)) := by
  refine ⟨fun pins s σ H Q I ⟨ρ, ee, S, re, rs, g⟩ => ?_⟩
  refine wpAny_Call_Name_kw (ld_blt I hg hm hv ?_ hn hdb)
  refine PyProof.Rows.callWith_kw ?_ he1 hpl hall hnone
  rw [he1]
  refine Calls.spliced_cons (thn (he.run pins s σ H (fun v H1 => ∃ ρ1 S1 d, Pre ρ ρ1 ∧ Keep H H1 ∧ RS X.K X.mg ρ1 H1 S1 ∧ RV X.K X.mg ρ1 H1 d v ∧ GoodG X.K X.mg W (RV X.K X.mg) σ ρ1 H1 (match d with
    | .loc n => match S1[n]? with
      | some (.lst _ xs) => match pairsOf xs with
        | some ps => if S1.any (isTab P (X.env.qual ++ "<lambda>")) = true then .ok (.loc S1.length) (S1 ++ [.lst true ((ps.mergeSort leSw).map embP)]) else .stuck
        | none => .stuck
      | _ => .stuck
    | _ => .stuck) Q) I ⟨ρ, ee, S, re, rs, GoodG.bind g fun d S1 v H1 ρ1 _ pp kk rs1 r1 g1 => ⟨ρ1, S1, d, pp, kk, rs1, r1, g1⟩⟩) fun u s1 ⟨v, H1, I1, ru, ρ1, S1, d, pp, kk, rs1, r1, g1⟩ => Calls.spliced_nil ?_)
  split at g1
  · rename_i n
    split at g1
    · rename_i w xs e0
      split at g1
      · rename_i ps hps
        split at g1
        · rename_i htab
          have hT := isTab_mem htab
          rw [pairs_emb hps] at e0
          obtain ⟨l, rfl, pl⟩ := r1
          cases ru
          refine PyProof.Rows.kwAll_cons (LamX.lam_make2 I1 TB hcode (T := tabsOf S1) (mem_tabs.mpr hT) (rs_one rs1 hT) (rs_tabs rs1) hdef hfree fun f c' pm ctv H2 s2 I2 eN T2 hf hfn hfr hc2 => PyProof.Rows.kwAll_nil ?_)
          rw [hks]
          have rs2 := rs_ext rs1 eN T2
          obtain ⟨zs, hx, hzs⟩ := rs2.list pl e0
          obtain ⟨its, rz, hlist, hz⟩ := I2.list hx
          have hlen : ps.length = its.length := by
            have h1 := hzs.length
            rw [List.length_map] at h1
            rw [h1, rz.length]
          have ea := each_of (X := X) hzs rz
          obtain ⟨⟨oc, fvs, ft, hoc, hdc, hvc⟩, _, _⟩ := I2.hok c' _ hc2
          have lim : s2.heap.NoLimit := I2.nolimit
          refine PySem.W.sorted_key_data (b := false) (k := fun p : Int × Int => .tuple [.int p.2, .int p.1]) (R := StAs X ρ1 H2 embP) (bs := ps) (f := .ref f) hlist.isList ea (PySem.W.AllAlike.of fun _ _ => by simp [PySem.W.alike, PySem.W.alikeAll]) (PySem.W.Sortable.tuples fun _ => ⟨_, _, rfl⟩)
            (by rw [hlen, ← rz.length]; exact hz) (fun b _ => ?_) (PyProof.Rows.ksk_s1 _ _) (fun _ => PyProof.Rows.ksk_l1 _ _) (fun _ => PyProof.Rows.ksk_t1 _ _) (fun v b ⟨y, ry, hy⟩ _ h tk kp' => ?_) fun out c h' tk kp' hn' hD ho eo => ?_
          · have : (PyData.tuple [.int b.2, .int b.1]).depth = 1 := by simp [PyData.depth, PyData.depthAll]
            omega
          · obtain ⟨t, rfl, ht⟩ := pair_val hy
            cases ry
            obtain ⟨us, ru, hu', _⟩ := I2.tuple ht
            obtain ⟨t1, t2, rfl⟩ := Vals.int2 ru
            obtain ⟨o, h1, h2, h3⟩ := hu'
            exact lam_pair (s := { s2 with heap := h, toks := tk }) hdp (lim.keeps kp') (kp' _ _ hf) ⟨c', oc, fvs, ft, rfl, kp' _ _ hoc, hdc, hvc⟩ (hb _ _ _ _ _ _) hk hco hgen hcell ha ⟨o, kp' _ _ h1, h2, h3⟩ hda
          · obtain ⟨ys, ry, hy⟩ := of_each eo
            have hnn : H2 (s2.heap.objs.size + 1) = none := I2.hok.fresh (Nat.le_succ _)
            have hyl : ys.length ≤ sizeLine := by
              rw [ry.length, ho, hlen, ← rz.length]; exact hz
            rw [PySem.W.dataLe_ii (fun p : Int × Int => p.2) (fun p => p.1)] at hy
            refine ⟨.ref (s2.heap.objs.size + 1), upd H2 (s2.heap.objs.size + 1) (.lst ys), I2.laid (t' := tk) kp' (Nat.le_succ _) ⟨hyl, out, c, ry, hD⟩, rfl, ?_⟩
            have q : Fin X.K X.mg ρ1 H1 (.loc S1.length) (S1 ++ [.lst true ((ps.mergeSort leSw).map embP)]) Q := g1
            have q2 : Fin X.K X.mg ρ1 H2 (.loc S1.length) (S1 ++ [.lst true ((ps.mergeSort leSw).map embP)]) Q := fun v H' ρ' a b c d => q v H' ρ' a ((extN_keep eN).trans b) c d
            exact q2.lnew rs2 hy hnn
        · exact g1.elim
      · exact g1.elim
    · exact g1.elim
  · exact g1.elim
end
end M2
end

section
set_option Elab.async false
set_option linter.all false
set_option maxRecDepth 100000
set_option maxHeartbeats 2000000
/-! M35: a def whose code object is known; the end of a law with one table of code objects. -/
namespace M2
open PySem PySem.Spec PyProof.Rows L2
set_option autoImplicit false
/-- a def of the module, its code object at c -/
structure HasC (K : PySem.W.Frag) (mg : Str → Option Value) (x qual : Str) (st : Stmt) (ps : List Str) (c : Addr) : Prop where
  ex : ∃ (f : Addr) (oc : Value) (od an : Option Addr) (kV doc pm ct : Value) (osl : Array (Option Value)), Fun K x qual st f (PySem.W.fnOf x qual (defArgs st) (defBody st) (defScope st) .none kV doc pm an (.ref c) ct) ∧
    K.lookup f = some ⟨oc, od, .func (PySem.W.fnOf x qual (defArgs st) (defBody st) (defScope st) .none kV doc pm an (.ref c) ct), osl⟩ ∧ PySem.W.codeIn K (.ref c) qual = true ∧ mg x = some (.ref f) ∧ Binds K (PySem.W.fnOf x qual (defArgs st) (defBody st) (defScope st) .none kV doc pm an (.ref c) ct) ps []
section
variable {P : Program} {w : World} {K : PySem.W.Frag} {mg : Str → Option Value} {base : Heap}
theorem HasC.has {x qual : Str} {st : Stmt} {ps : List Str} {c : Addr} (T : HasC K mg x qual st ps c) : HasF K mg x qual st ps := by
  obtain ⟨f, oc, od, an, kV, doc, pm, ct, osl, F, lk, hcd, hm, hb⟩ := T.ex
  exact ⟨f, _, F, hm, hb⟩
/-- the body's mirror, run with the slots -/
theorem FnM.ofC {x qual : Str} {st : Stmt} {N ps : List Str} {k : Nat} {body : MS} {c : Addr} (T : HasC K mg x qual st ps c) (S : FnScope N ps (defScope st))
    (h : ∀ (f : Addr) (A : Around) (outer : List Env) (s : Shared) (H : Hp) (E : XK), MX (cxOf (L2N.CX P w) P w K mg base N qual (defScope st) f (.ref c) A outer s H E) (E2W E) k →
      PSs (cxOf (L2N.CX P w) P w K mg base N qual (defScope st) f (.ref c) A outer s H E) (defBody st) (tMS K mg (E2W E) body)) : FnM P w K mg base x (k + 1) (mDef N.length ps.length body) := by
  obtain ⟨f, oc, od, an, kV, doc, pm, ct, osl, F, lk, hcd, hm, hb⟩ := T.ex
  refine ⟨f, _, ps, hm, F.kp, hb, ?_⟩
  refine fn_of lk hcd S (fun vs H Q E hsp => ?_) fun A outer s H vs Q E hr hsp => ?_
  · obtain ⟨ρ, S', ds, rs, rv, g⟩ := hsp
    rw [← rv.length]
    unfold mDef at g
    split at g
    · assumption
    · exact g.elim
  · refine ⟨_, h f A outer s H E ⟨rfl, S.nd, L2N.takes_of rfl rfl rfl rfl, passes_of rfl, hr.units, un65 hr, hr⟩, ?_⟩
    obtain ⟨ρ, S', ds, rs, rv, g⟩ := hsp
    refine ⟨ρ, startE N.length ds, S', re_start rv, rs, ?_⟩
    unfold mDef at g
    split at g
    · cases hb' : body (startE N.length ds) S' with
      | nx e S1 =>
        rw [hb'] at g
        exact fun σ' H' ρ' p kk rs' re' => g .non H' ρ' p kk rs' rfl
      | rt d S1 =>
        rw [hb'] at g
        exact fun v H' ρ' p kk rs' rv' => g v H' ρ' p kk rs' rv'
      | bk e S1 => rw [hb'] at g; exact g.elim
      | ct e S1 => rw [hb'] at g; exact g.elim
      | exc cc fs e S1 =>
        rw [hb'] at g
        exact fun C dd σ' H' ρ' vs' hm p kk rs' re' hd hf => g C dd H' ρ' vs' hm p kk rs' hd hf
      | stuck => rw [hb'] at g; exact g.elim
    · exact g.elim
end
/-- the law's def, by the function that it keeps, with one table -/
def LawOkT (q : Str) (mf : Addr → MF) : Prop := ∀ ns : List Int, ns.length ≤ 63 → (∀ z ∈ ns, Builtin.Int.intBits z ≤ 1048576) → ∀ (w : Bool) (P : Addr), ∃ S, mf P [.loc 0] [.lst w (ns.map .int), .tab P q] = .ok (.bl true) S
theorem tab_spM {K : PySem.W.Frag} {mg : Str → Option Value} {mf : Addr → MF} {q : Str} {P : Addr} (L : LawOkT q mf) {a : Addr} {ns : List Int} {H : Hp} {Q : VK} {E : XK} (hl : ns.length ≤ 63) (hb : ∀ z ∈ ns, Builtin.Int.intBits z ≤ 1048576) (hP : H P = some (.tbl #[])) (hS : SqL K H a (ns.map V.int)) (hq : ∀ H', Q (.bl true) H') :
    spM K mg (mf P) [.ref a] H Q E := by
  have hd : ∃ w, RO K mg [a, P] H a (.lst w (ns.map .int)) := by
    rcases hS with (z | z) | z
    · exact ⟨true, _, z, ints_rvs ns⟩
    · exact ⟨false, _, .inl z, ints_rvs ns⟩
    · exact ⟨false, _, .inr z, ints_rvs ns⟩
  obtain ⟨w, hd⟩ := hd
  obtain ⟨S, e⟩ := L ns hl hb w P
  have ht : RO K mg [a, P] H P (.tab P q) := ⟨rfl, LamX.TabS.nil hP⟩
  refine ⟨[a, P], [.lst w (ns.map .int), .tab P q], [.loc 0], ⟨rfl, fun n b o e1 e2 => ?_, fun n m b o o' e1 e2 e3 e4 w1 w2 => ?_⟩, ⟨.ref a, [], rfl, ⟨a, rfl, rfl⟩, rfl⟩, ?_⟩
  · match n with
    | 0 =>
      cases e1; cases e2
      exact hd
    | 1 =>
      cases e1; cases e2
      exact ht
    | n + 2 => cases e1
  · have no : w = true → a ≠ P := fun hw hp => by
      subst hw
      obtain ⟨xs, z, _⟩ := hd
      rw [hp, hP] at z
      cases z
    match n, m with
    | 0, 0 => rfl
    | 1, 1 => rfl
    | 0, 1 =>
      cases e1; cases e3; injection e2 with e2
      exact absurd e2.symm (no w1)
    | 1, 0 =>
      cases e1; cases e4; injection e2 with e2
      exact absurd e2 (no w2)
    | n + 2, _ => cases e1
    | 0, m + 2 => cases e2
    | 1, m + 2 => cases e2
  · show Good K mg (E2W E) [] [a, P] H (mf P [.loc 0] [.lst w (ns.map .int), .tab P q]) Q
    rw [e]
    exact fun v H' ρ' _ _ _ r => by
      cases r
      exact hq H'
theorem walkMT {l : PySem.W.OpenLaw} {k : Nat} {qp : Program} {loose : List Str} {XP : (Str → Option Value) → Heap → Prop} {YP : World → Heap → Prop} {d : DefRec} {K : Params → PySem.W.Frag} {mf : Addr → MF} {q qual : Str} {st : Stmt}
    (hn : l.most = some 63) (hdf : d.params.defaults = []) (hr : Room k callerA) (hY : ∀ (w : World) (h : Heap), YP w h → (K w.params).In h) (L : LawOkT q mf)
    (hb : ∀ (s : Shared) (u kV doc pm : Value) (an : Option Addr) (cdv ct : Value), BindsTo s (PySem.W.fnOf "law" qual (defArgs st) (defBody st) (defScope st) .none kV doc pm an cdv ct) ⟨[u], []⟩ [("script", u)])
    (F : ∀ (w : World) (mg : Str → Option Value) (fa : Addr) (h : Heap), YP w h → (K w.params).In h → h.Ns mainGlobals mg → mg d.name = some (.ref fa) →
      ∃ (fd : FuncData) (c P : Addr), h.get? P = some { cls := .none, data := .fields #[] } ∧ (K w.params).lookup P = none ∧ PySem.W.CodeHd h c P ∧ Fun (K w.params) "law" qual st fa fd ∧
        ∀ base : Heap, LamX.TabB base mg c P → FnOk l.prog w (K w.params) mg base (L2N.CX l.prog w) k fa fd ["script"] (spM (K w.params) mg (mf P))) :
    PySem.W.WalkO qp loose XP YP l.row.toRowW d [] (fun f vs => PySem.call f vs) := by
  refine LamX.walk_ofTs (n := 63) (k := k) (x := "script") (CX := fun w => L2N.CX l.prog w) hn (by decide) hdf hr hY (fun w mg fa h Y X G hmg => ?_) fun w H s e s' z => ?_
  · obtain ⟨fd, c, P, hP, nP, C, T, f⟩ := F w mg fa h Y X G hmg
    refine ⟨fd, [(c, P)], spM (K w.params) mg (mf P), fun p hp => ?_, fun p hp => ?_, fun p hp => ?_, fun s u => ?_, fun H a ns hl hb hH hS => ?_, fun base _ _ hT => f base (hT _ (List.mem_singleton.mpr rfl))⟩
    · rw [List.mem_singleton.mp hp]; exact hP
    · rw [List.mem_singleton.mp hp]; exact nP
    · rw [List.mem_singleton.mp hp]; exact C
    · obtain ⟨oc, od, kV, doc, pm, an, cdv, ct, osl, rfl, lk, hcd⟩ := T.ex
      exact hb s u kV doc pm an cdv ct
    · exact tab_spM L hl hb (hH _ (List.mem_singleton.mpr rfl)) hS fun _ => rfl
  · obtain ⟨_, _, _, _, _, _, _, _, _, _, _, _, z⟩ := z
    exact z.elim
section
variable {X : Cx} {W : WX} {k : Nat}
theorem MX.hu64 (hx : MX X W k) : X.A.units + 64 < cLine := by have := hx.room.un; omega
theorem MX.dpt (hx : MX X W k) : X.A.depth < recursionLimit := by have := hx.room.dp; omega
end
section
variable {K : PySem.W.Frag} {mg : Str → Option Value} {h : Heap}
theorem hasC_mk {x qual : Str} {st : Stmt} {ps : List Str} {f c : Addr} {oc : Value} {od an : Option Addr} {osl : Array (Option Value)} {kV doc pm ct : Value} (X : K.In h) (G : h.Ns mainGlobals mg)
    (b : ∀ (kV doc pm : Value) (an : Option Addr) (cdv ct : Value) (us : List Value), us.length = ps.length → bindArgs (PySem.W.fnOf x qual (defArgs st) (defBody st) (defScope st) .none kV doc pm an cdv ct) ⟨us, []⟩ = pure (ps.zip us))
    (a : PySem.W.nsIn K mainGlobals x = some (some (.ref f))) (l : K.lookup f = some ⟨oc, od, .func (PySem.W.fnOf x qual (defArgs st) (defBody st) (defScope st) .none kV doc pm an (.ref c) ct), osl⟩)
    (cc : PySem.W.codeIn K (.ref c) qual = true) (k : PySem.W.keepIn K (.ref f) = true) : HasC K mg x qual st ps c := by
  have F := fun_mk (st := st) l cc k
  exact ⟨f, oc, od, an, kV, doc, pm, ct, osl, F, l, cc, PySem.W.mg_of X G a, F.binds (ps := ps) b⟩
theorem code_mk {c P : Addr} {o : Obj} {vs : Array Value} (X : K.In h) (l : K.lookup c = some o) (hc : o.cls = .type "code") (hd : o.data = .fields vs) (h11 : vs[11]? = some (.ref P)) (g11 : vs.getD 11 .none = .ref P) (g18 : ∃ file tf, vs.getD 18 .none = .str file tf)
    (g7 : ∃ flags tg, vs.getD 7 .none = .int flags tg) (g9 : ∃ b, vs.getD 9 .none = .bool b) (g10 : ∃ t tt, vs.getD 10 .none = .int t tt) (ne : c ≠ P) : PySem.W.CodeHd h c P := by
  obtain ⟨file, tf, g18⟩ := g18
  obtain ⟨flags, tg, g7⟩ := g7
  obtain ⟨b, g9⟩ := g9
  obtain ⟨t, tt, g10⟩ := g10
  exact ⟨o, vs, file, tf, flags, tg, b, t, tt, X _ _ l, hc, hd, h11, g11, g18, g7, g9, g10, ne⟩
theorem endT {PR : Program} {w : World} {k : Nat} {fa : Addr} {qual : Str} {st : Stmt} {mf : Addr → MF} {c P : Addr} (hP : h.get? P = some { cls := .none, data := .fields #[] }) (nP : K.lookup P = none) (C : PySem.W.CodeHd h c P)
    (A : ∃ fd : FuncData, Fun K "law" qual st fa fd ∧ ∀ base : Heap, LamX.TabB base mg c P → FnOk PR w K mg base (L2N.CX PR w) k fa fd ["script"] (spM K mg (mf P))) :
    ∃ (fd : FuncData) (c P : Addr), h.get? P = some { cls := .none, data := .fields #[] } ∧ K.lookup P = none ∧ PySem.W.CodeHd h c P ∧ Fun K "law" qual st fa fd ∧ ∀ base : Heap, LamX.TabB base mg c P → FnOk PR w K mg base (L2N.CX PR w) k fa fd ["script"] (spM K mg (mf P)) := by
  obtain ⟨fd, F, f⟩ := A
  exact ⟨fd, c, P, hP, nP, C, F, f⟩
end
end M2
end

section
set_option Elab.async false
set_option linter.all false
set_option maxRecDepth 100000
/-! V5: running: sorted by the swapping lambda, o[:] = ys, sorted of pairs, max of a list. -/
namespace M2
open PySem PySem.Spec P0
set_option autoImplicit false
section
variable {e : Nv} {S : Sto} {ma mb : MV} {Q : D → Sto → Prop} {X : XQ}
theorem w_sortsw {P : Addr} {q : Str} (h : Ev (ma e S) (fun d S1 => ∃ n w xs ps, d = .loc n ∧ S1[n]? = some (.lst w xs) ∧ pairsOf xs = some ps ∧ S1.any (isTab P q) = true ∧ Q (.loc S1.length) (S1 ++ [.lst true ((ps.mergeSort leSw).map embP)])) X) : Ev (mSortSwap P q ma e S) Q X :=
  Ev.bind (h.imp fun d S1 ⟨n, w, xs, ps, h1, h2, h3, h4, g⟩ => by
    subst h1
    simp only [h2, h3, h4, if_true]
    exact g)
theorem o_sorted2 {n : Nat} {w : Bool} {ps : List (Int × Int)} (h : S[n]? = some (.lst w (ps.map embP))) (hp : pairsOf (ps.map embP) = some ps) (q : Q (.loc S.length) (S ++ [.lst true ((ps.mergeSort leP).map embP)])) : Ev (lift (oSorted2 [.loc n] S)) Q X := by
  have e1 : oSorted2 [.loc n] S = some (.loc S.length, S ++ [.lst true ((ps.mergeSort leP).map embP)]) := by
    unfold oSorted2
    simp only [h, hp]
  rw [e1]
  exact q
theorem pairs_of : ∀ ps : List (Int × Int), pairsOf (ps.map embP) = some ps
  | [] => rfl
  | p :: ps => by
    show (match pairD (embP p) with
      | some p => (pairsOf (ps.map embP)).map (p :: ·)
      | none => none) = some (p :: ps)
    rw [pairs_of ps]
    rfl
theorem o_maxL {n : Nat} {w : Bool} {y : Int} {ys : List Int} (h : S[n]? = some (.lst w ((y :: ys).map .int))) (hi : intsOf ((y :: ys).map D.int) = some (y :: ys)) (q : Q (.int (ys.foldl max y)) S) : Ev (lift (oMaxL [.loc n] S)) Q X := by
  have e1 : oMaxL [.loc n] S = some (.int (ys.foldl max y), S) := by
    unfold oMaxL
    simp only [h, hi]
  rw [e1]
  exact q
variable {N : Nv → Sto → Prop} {R : D → Sto → Prop} {B C : Nv → Sto → Prop} {Z : Str → List (Str × D) → Nv → Sto → Prop}
theorem w_putAll (h : Ev (ma e S) (fun d S1 => Ev (mb e S1) (fun o S2 => ∃ S4, oPutAll o d S2 = some S4 ∧ N e S4) fun c fs S1 => Z c fs e S1) fun c fs S1 => Z c fs e S1) : Es (sPutAll ma mb e S) N R B C Z :=
  Es.bindS (h.imp fun d S1 g => Es.bindS (g.imp fun o S2 ⟨S4, h1, g⟩ => by
    show Es (match oPutAll o d S2 with
      | some S4 => .nx e S4
      | none => .stuck) N R B C Z
    rw [h1]
    exact g))
theorem o_putAll {n m : Nat} {xs ys : List D} (h1 : S[n]? = some (.lst true xs)) (h2 : S[m]? = some (.lst true ys)) (hne : n ≠ m) (hz : xs.length + ys.length ≤ sizeLine) : oPutAll (.loc n) (.loc m) S = some (S.set n (.lst true ys)) := by
  unfold oPutAll
  simp only [h1, h2]
  rw [if_pos ⟨hne, hz⟩]
end
end M2
end

section
set_option Elab.async false
set_option linter.all false
set_option maxRecDepth 100000
/-! V6: {u: True for u in us}, and in over it. -/
namespace M2
open PySem PySem.Spec PyProof.Rows L2
set_option autoImplicit false
def asU (us : List Int) : List (Key × D) := us.foldl (fun a u => putD a (.inl u) (.bl true)) []
theorem putD_has (a : List (Key × D)) (k x : Key) (v : D) : ((putD a k v).any fun kv => decide (kv.1 = x)) = (decide (k = x) || a.any fun kv => decide (kv.1 = x)) := by
  unfold putD
  split
  · rename_i h
    rw [List.any_map]
    have e : ((fun kv : Key × D => decide (kv.1 = x)) ∘ fun kv => if kv.1 = k then (kv.1, v) else kv) = fun kv => decide (kv.1 = x) := by
      funext kv
      show decide ((if kv.1 = k then (kv.1, v) else kv).1 = x) = _
      split <;> rfl
    rw [e]
    by_cases hk : k = x
    · subst hk; rw [h]; simp
    · simp [hk]
  · rw [List.any_append]
    simp [Bool.or_comm]
theorem getD_any (a : List (Key × D)) (x : Key) : (getD' a x).isSome = a.any fun kv => decide (kv.1 = x) := by
  unfold getD'
  rw [Option.isSome_map, Bool.eq_iff_iff, List.find?_isSome, List.any_eq_true]
theorem asU_has (us : List Int) (u : Int) : (getD' (asU us) (.inl u)).isSome = decide (u ∈ us) := by
  rw [getD_any]
  unfold asU
  suffices h : ∀ (us : List Int) (a : List (Key × D)), ((us.foldl (fun a u => putD a (.inl u) (.bl true)) a).any fun kv => decide (kv.1 = .inl u)) = (decide (u ∈ us) || a.any fun kv => decide (kv.1 = .inl u)) by
    rw [h us []]; simp
  intro us
  induction us with
  | nil => intro a; simp
  | cons x us ih =>
    intro a
    rw [List.foldl_cons, ih, putD_has]
    by_cases h1 : u = x
    · subst h1; simp
    · have h2 : ¬ ((.inl x : Key) = .inl u) := fun q => h1 (by injection q with q; exact q.symm)
      simp [h1, h2]
theorem putD_len (a : List (Key × D)) (k : Key) (v : D) : (putD a k v).length ≤ a.length + 1 := by
  unfold putD
  split <;> simp
theorem asU_snoc (us : List Int) (u : Int) : asU (us ++ [u]) = putD (asU us) (.inl u) (.bl true) := by
  unfold asU
  rw [List.foldl_append]
  rfl
theorem asU_len (us : List Int) : (asU us).length ≤ us.length := by
  unfold asU
  suffices h : ∀ (us : List Int) (a : List (Key × D)), (us.foldl (fun a u => putD a (.inl u) (.bl true)) a).length ≤ a.length + us.length by
    have := h us []
    simpa using this
  intro us
  induction us with
  | nil => intro a; simp
  | cons x us ih =>
    intro a
    have h1 := ih (putD a (.inl x) (.bl true))
    have h2 := putD_len a (.inl x) (.bl true)
    rw [List.foldl_cons, List.length_cons]
    omega
theorem loopD_ints {S : Sto} {us : List Int} {i : Nat} {e : Nv} (hi : i < e.length) (hz : us.length ≤ sizeLine) : ∀ (m k : Nat), k + m = us.length →
    loopD (itD (us.map .int)) (tgN i) tOk (mVar i) (mC (.bl true)) S.length e m k (S ++ [.dic (asU (us.take k))]) = .ok (.loc S.length) (S ++ [.dic (asU us)])
  | 0, k, h => by
    unfold loopD
    have e1 : (itD (us.map D.int)).at_ k (S ++ [.dic (asU (us.take k))]) = some none := by
      show some ((us.map D.int)[k]?) = some none
      rw [List.getElem?_eq_none (by rw [List.length_map]; omega)]
    rw [e1, List.take_of_length_le (by omega)]
  | m + 1, k, h => by
    have hk : k < us.length := by omega
    unfold loopD
    have e1 : (itD (us.map D.int)).at_ k (S ++ [.dic (asU (us.take k))]) = some (some (.int us[k])) := by
      show some ((us.map D.int)[k]?) = _
      rw [List.getElem?_map, List.getElem?_eq_getElem hk]; rfl
    have e2 : mVar i (e.set i (some (.int us[k]))) (S ++ [.dic (asU (us.take k))]) = .ok (.int us[k]) (S ++ [.dic (asU (us.take k))]) := by
      unfold mVar
      rw [List.getElem?_set_self hi]
    have e3 : (S ++ [SO.dic (asU (us.take k))])[S.length]? = some (.dic (asU (us.take k))) := by simp
    have e4 : (S ++ [SO.dic (asU (us.take k))]).set S.length (.dic (putD (asU (us.take k)) (.inl us[k]) (.bl true))) = S ++ [.dic (asU (us.take (k + 1)))] := by
      rw [List.set_append_right _ _ (Nat.le_refl _), Nat.sub_self, List.take_add_one, List.getElem?_eq_getElem hk]
      show _ = S ++ [SO.dic (asU (us.take k ++ [us[k]]))]
      rw [asU_snoc]; rfl
    have hl : (asU (us.take k)).length < sizeLine := by
      have := asU_len (us.take k)
      rw [List.length_take] at this
      omega
    rw [e1]
    simp only [tgN, tOk, Rs.bind, if_true, e2, mC, e3, keyD, if_pos hl, e4]
    exact loopD_ints hi hz m (k + 1) (by omega)
theorem dc_ints {S : Sto} {us : List Int} {i j : Nat} {e : Nv} (hj : e[j]? = some (some (.tup (us.map .int)))) (hi : i < e.length) (hz : us.length ≤ sizeLine) :
    mDcC (iAny (mVar j)) (tgN i) tOk (mVar i) (mC (.bl true)) [i] e S = .ok (.loc S.length) (S ++ [.dic (asU us)]) := by
  have e1 : iAny (mVar j) e S = .ok (itD (us.map .int)) S := by
    unfold iAny mVar
    simp only [hj, Rs.bind]
  have e2 := loopD_ints (S := S) (us := us) (i := i) (e := wipeE e [i]) (by show i < (List.set e i none).length; rw [List.length_set]; exact hi) hz us.length 0 (by omega)
  have e3 : (itD (us.map D.int)).cnt = us.length := List.length_map ..
  unfold mDcC
  rw [e1]
  show (loopD (itD (us.map D.int)) (tgN i) tOk (mVar i) (mC (.bl true)) S.length (wipeE e [i]) (itD (us.map D.int)).cnt 0 (S ++ [.dic []])).cold = _
  rw [e3, show ([] : List (Key × D)) = asU (us.take 0) from rfl, e2]
  rfl
end M2
end

section
set_option Elab.async false
set_option linter.all false
set_option maxRecDepth 100000
set_option maxHeartbeats 4000000
/-! M36: tuple * int. -/
namespace M2
open PySem PySem.Spec PyProof.Rows L2
set_option autoImplicit false
theorem tuple_mul0 (l : Addr) (items : Array Value) (n : Nat) (dd : Option Addr) (sl : Array (Option Value)) (x : Int) (u : Tok) (c0 : (decide (x < -(2 ^ 63)) || decide (x ≥ 2 ^ 63)) = false) (c1 : (items.isEmpty || x == 1) = false) (c2 : (decide (x ≤ 0) || items.isEmpty) = true) :
    Meets (Builtin.«tuple.__mul__» ⟨[.ref l, .int x u], []⟩) (fun _ R s => s.heap.get? l = some { cls := .type "tuple", dict := dd, data := .seq items n, slots := sl } ∧
      R (.ok (.ret (Value.ref s.heap.objs.size))) { s with heap := s.heap.push { cls := Value.type "tuple", data := Data.seq #[] }, toks := s.toks }) :=
  .of_wp fun prog w A R s h => by
    obtain ⟨hp, g, d, tk, os⟩ := s
    obtain ⟨hl, h⟩ := h
    have f1 := AutoSeq1.idx_int
    wp_walk using wpAny_loadPart' hl
    repeat (first
      | (refine wpAny_ite_false (decide_eq_false (by rw [c0]; exact Bool.false_ne_true)) ?_; wp_walk using wpAny_loadPart' hl)
      | (refine wpAny_ite_false (decide_eq_false (by rw [c1]; exact Bool.false_ne_true)) ?_; wp_walk using wpAny_loadPart' hl)
      | (refine wpAny_ite_true (decide_eq_true c2) ?_; wp_walk using wpAny_loadPart' hl))
    exact ⟨_, rfl, h⟩
theorem tuple_mul1 (l : Addr) (items : Array Value) (n : Nat) (dd : Option Addr) (sl : Array (Option Value)) (x : Int) (u : Tok) (c0 : (decide (x < -(2 ^ 63)) || decide (x ≥ 2 ^ 63)) = false) (c1 : (items.isEmpty || x == 1) = true) :
    Meets (Builtin.«tuple.__mul__» ⟨[.ref l, .int x u], []⟩) (fun _ R s => s.heap.get? l = some { cls := .type "tuple", dict := dd, data := .seq items n, slots := sl } ∧
      R (.ok (.ret (Value.ref l))) s) :=
  .of_wp fun prog w A R s h => by
    obtain ⟨hp, g, d, tk, os⟩ := s
    obtain ⟨hl, h⟩ := h
    have f1 := AutoSeq1.idx_int
    wp_walk using wpAny_loadPart' hl
    repeat (first
      | (refine wpAny_ite_false (decide_eq_false (by rw [c0]; exact Bool.false_ne_true)) ?_; wp_walk using wpAny_loadPart' hl)
      | (refine wpAny_ite_true (decide_eq_true c1) ?_; wp_walk using wpAny_loadPart' hl))
    exact ⟨_, rfl, h⟩
def rRepA (K : PySem.W.Frag) : R2 := fun x y H Q => ∃ l k xs, x = .ref l ∧ y = .int k ∧ SqT K H l xs ∧ -1000000 ≤ k ∧ k ≤ 1000 ∧ xs.length ≤ 1000 ∧ (xs = [] → Q (.ref l) H) ∧ (k = 1 → Q (.ref l) H) ∧ ∀ p, H p = none → Q (.ref p) (upd H p (.tup (List.replicate k.toNat xs).flatten))
section
variable {X : Cx}
theorem op_repA : OpR X (binaryOp .Mult) (rRepA X.K) := by
  intro pins s σ H x y v u Q I rx ry h
  obtain ⟨l, k, xs, rfl, rfl, hT, hk0, h2, hz, q1, q2, q⟩ := h
  by_cases hs : xs = [] ∨ k = 1
  · cases rx
    obtain ⟨t, rfl⟩ := ry
    obtain ⟨its, r, ⟨⟨cls, dd, data, sl⟩, ho, hc, n, hd⟩, hs0⟩ := I.tuple hT
    simp only at hc hd
    subst hc hd
    have hle : its.length = xs.length := r.length.symm
    have c0 : (decide (k < -(2 ^ 63)) || decide (k ≥ 2 ^ 63)) = false := by
      rw [decide_eq_false (by omega), decide_eq_false (by omega)] <;> rfl
    have c1 : (its.toArray.isEmpty || k == 1) = true := by
      rcases hs with hs | hs
      · have : its = [] := List.eq_nil_of_length_eq_zero (by rw [hle, hs]; rfl)
        rw [this]; rfl
      · rw [hs]; simp
    refine wpAny_binaryOp_repeat_ref (T := "tuple") (U := "int") (by decide) ⟨_, ho, rfl⟩ (fun s' => typeIs_int s' k t) noFill_tuple_mul F.fills_int_mul F.slot_int_rmul repeat_tuple F.slot_int_index.lookup
      (call_meets F.slot_int_rmul (typeIs_int s k t) F.entry_int_rmul (F.args_int_rmul_2 _ _) (int_rmul_tuple k t l its.toArray n dd sl)
        ⟨ho, rfl, ⟨_, ho, rfl⟩, call_meets F.slot_tuple_mul ⟨_, ho, rfl⟩ F.entry_tuple_mul (F.args_tuple_mul_2 _ _) (tuple_mul1 l its.toArray n dd sl k t c0 c1) ⟨ho, ?_⟩⟩)
    exact ⟨.ref l, H, I, rfl, hs.elim q1 q2⟩
  · by_cases hk : k ≤ 0
    · cases rx
      obtain ⟨t, rfl⟩ := ry
      obtain ⟨its, r, ⟨⟨cls, dd, data, sl⟩, ho, hc, n, hd⟩, hs0⟩ := I.tuple hT
      simp only at hc hd
      subst hc hd
      have hle : its.length = xs.length := r.length.symm
      have hi : its.toArray.isEmpty = false := by
        cases its with
        | nil => exact absurd (.inl (List.eq_nil_of_length_eq_zero hle.symm)) hs
        | cons a b => rfl
      have c0 : (decide (k < -(2 ^ 63)) || decide (k ≥ 2 ^ 63)) = false := by
        rw [decide_eq_false (by omega), decide_eq_false (by omega)] <;> rfl
      have c1 : (its.toArray.isEmpty || k == 1) = false := by
        rw [hi, Bool.false_or]
        exact beq_eq_false_iff_ne.mpr (by omega)
      have c2 : (decide (k ≤ 0) || its.toArray.isEmpty) = true := by
        rw [decide_eq_true hk]; rfl
      refine wpAny_binaryOp_repeat_ref (T := "tuple") (U := "int") (by decide) ⟨_, ho, rfl⟩ (fun s' => typeIs_int s' k t) noFill_tuple_mul F.fills_int_mul F.slot_int_rmul repeat_tuple F.slot_int_index.lookup
        (call_meets F.slot_int_rmul (typeIs_int s k t) F.entry_int_rmul (F.args_int_rmul_2 _ _) (int_rmul_tuple k t l its.toArray n dd sl)
          ⟨ho, rfl, ⟨_, ho, rfl⟩, call_meets F.slot_tuple_mul ⟨_, ho, rfl⟩ F.entry_tuple_mul (F.args_tuple_mul_2 _ _) (tuple_mul0 l its.toArray n dd sl k t c0 c1 c2) ⟨ho, ?_⟩⟩)
      have q := q s.heap.objs.size (I.hok.fresh (Nat.le_refl _))
      rw [show k.toNat = 0 by omega] at q
      refine ⟨.ref s.heap.objs.size, _, I.laid (t' := s.toks) (o := .tup []) (fun b ob q => Heap.get?_push_of_some _ q) (Nat.le_refl _) ?_, rfl, q⟩
      exact ⟨Nat.zero_le _, [], .nil, IsTup.new _ _⟩
    · exact op_repT pins s σ H _ _ v u Q I rx ry ⟨l, k, xs, rfl, rfl, hT, fun e => hs (.inl e), by omega, h2, hz, q⟩
def oMulT : Op2 := fun a b S => match a, b with
  | .tup xs, .int k => if -1000000 ≤ k ∧ k ≤ 1000 ∧ xs.length ≤ 1000 then some (.tup (List.replicate k.toNat xs).flatten, S) else none
  | _, _ => none
theorem om_mulT : OpR X (binaryOp .Mult) (rM2 X.K X.mg oMulT) := by
  intro pins s σ H x y v u Q I rx ry ⟨ρ, S, d1, d2, d3, S3, rs, r1, r2, e, q⟩
  unfold oMulT at e
  split at e
  · rename_i xs k
    split at e
    · rename_i h; cases e
      obtain ⟨a, vs, rfl, sa, ra⟩ := r1
      cases r2
      have e1 := ra.length
      refine op_repA pins s σ H _ _ v u Q I rx ry ⟨a, _, vs, rfl, rfl, sa, h.1, h.2.1, by omega, fun z => ?_, fun z => ?_, fun p hp => q.tnew rs ?_ hp⟩
      · subst z
        have : xs = [] := List.length_eq_zero_iff.mp (by simpa using e1)
        subst this
        exact q.now rs ⟨a, [], rfl, sa, by simpa using ra⟩
      · subst z
        exact q.now rs ⟨a, vs, rfl, sa, by simpa using ra⟩
      · generalize Int.toNat _ = n
        induction n with
        | zero => exact rfl
        | succ n ih => rw [List.replicate_succ, List.replicate_succ, List.flatten_cons, List.flatten_cons]; exact ra.append ih
    · cases e
  · cases e
end
end M2
end

section
set_option Elab.async false
set_option linter.all false
set_option maxRecDepth 100000
/-! V7: what stays where a def writes; in over lists of integers and dicts; slices from the end. -/
namespace P0
open PySem PySem.Spec M2
set_option autoImplicit false
/-- all but the places ns stays -/
def Fr (ns : List Nat) (S S' : Sto) : Prop := S.length ≤ S'.length ∧ ∀ n, n < S.length → n ∉ ns → S'[n]? = S[n]?
section
variable {ns ms : List Nat} {S S1 S2 S' : Sto} {n m : Nat} {o o' : SO}
theorem Fr.refl (ns : List Nat) (S : Sto) : Fr ns S S := ⟨Nat.le_refl _, fun _ _ _ => rfl⟩
theorem Fr.trans (h : Fr ns S S1) (k : Fr ns S1 S2) : Fr ns S S2 := ⟨Nat.le_trans h.1 k.1, fun n h1 h2 => (k.2 n (Nat.lt_of_lt_of_le h1 h.1) h2).trans (h.2 n h1 h2)⟩
theorem Fr.get (h : Fr ns S S') (e : S[n]? = some o) (hn : n ∉ ns) : S'[n]? = some o := (h.2 n (List.getElem?_eq_some_iff.mp e).1 hn).trans e
theorem Fr.app (ns : List Nat) (S : Sto) (o : SO) : Fr ns S (S ++ [o]) := ⟨by simp, fun n h _ => List.getElem?_append_left h⟩
theorem Fr.set (hn : n ∈ ns) : Fr ns S (S.set n o) := ⟨by simp, fun m _ h2 => List.getElem?_set_ne fun q => h2 (by rw [← q]; exact hn)⟩
theorem Fr.set_new (h : Fr ns S S') (hn : S.length ≤ n) : Fr ns S (S'.set n o) := ⟨by rw [List.length_set]; exact h.1, fun m h1 h2 => by
  rw [List.getElem?_set_ne (by omega)]; exact h.2 m h1 h2⟩
theorem Fr.sub (h : Fr ns S S') (k : ∀ n ∈ ns, n ∈ ms ∨ S.length ≤ n) : Fr ms S S' := ⟨h.1, fun n h1 h2 => h.2 n h1 fun q => by
  rcases k n q with q | q
  · exact h2 q
  · omega⟩
theorem Gr.fr (h : Gr S S') (ns : List Nat) : Fr ns S S' := by
  obtain ⟨T, rfl⟩ := h
  exact ⟨by simp, fun n h1 _ => List.getElem?_append_left h1⟩
theorem Ext.fr {b : Nat} (h : Ext b S S') : Fr [b] S S' := ⟨h.1, fun n h1 h2 => h.2 n h1 fun q => h2 (by simp [q])⟩
theorem BoxD.fr {b k dl : Nat} {ds : List Int} (B : BoxD S b k dl ds) (h : Fr ns S S') (h1 : b ∉ ns) (h2 : dl ∉ ns) : BoxD S' b k dl ds := ⟨h.get B.at_ h1, h.get B.dig h2, B.ne, B.ok⟩
end
section
variable {S : Sto} {n : Nat} {w : Bool} {Q : D → Sto → Prop} {X : XQ} {i j : Int}
theorem inL_ints {xs : List Int} (h : S[n]? = some (.lst w (xs.map .int))) : inD2 S (.int i) (.loc n) = some (decide (i ∈ xs)) := by
  have e1 : toP 65 S (.loc n) = some (.list (xs.map PyData.int)) := by
    show (match S[n]? with
      | some (.lst _ ds) => (ds.mapM (toP 64 S)).map PyData.list
      | _ => none) = _
    rw [h]
    show ((xs.map D.int).mapM (toP 64 S)).map PyData.list = _
    rw [mapM_emb D.int PyData.int (fun _ => rfl)]; rfl
  obtain ⟨k1, k2⟩ := lay_emb PyData.int xs fun x _ => ⟨rfl, rfl⟩
  have s1 : SeqAt.shaped (.list (xs.map PyData.int)) = true := by
    show (PyData.canLayAll0 (xs.map PyData.int) && decide (PyData.depthAll (xs.map PyData.int) + 1 ≤ 64)) = true
    rw [k1, k2]; rfl
  show (match S[n]? with
    | some (.dic kvs) => (keyD (.int i)).map fun k => (getD' kvs k).isSome
    | _ => inD S (.int i) (.loc n)) = _
  rw [h]
  show (match toP 65 S (.int i), toP 65 S (.loc n) with
      | some p, some (.list ds) => if (SeqAt.shaped p && SeqAt.shaped (.list ds)) = true then some (ds.any fun z => PyData.eqv z p) else none
      | some p, some (.tuple ds) => if (SeqAt.shaped p && SeqAt.shaped (.list ds)) = true then some (ds.any fun z => PyData.eqv z p) else none
      | _, _ => none) = _
  rw [e1]
  show (if (SeqAt.shaped (.int i) && SeqAt.shaped (.list (xs.map PyData.int))) = true then some ((xs.map PyData.int).any fun z => PyData.eqv z (.int i)) else none) = _
  rw [s1]
  show some ((xs.map PyData.int).any fun z => PyData.eqv z (.int i)) = _
  congr 1
  rw [Bool.eq_iff_iff, List.any_eq_true, decide_eq_true_eq]
  constructor
  · rintro ⟨z, hz, e⟩
    obtain ⟨x, hx, rfl⟩ := List.mem_map.mp hz
    have e : (x == i) = true := e
    rw [← beq_iff_eq.mp e]; exact hx
  · intro h
    exact ⟨.int i, List.mem_map.mpr ⟨i, h, rfl⟩, by show (i == i) = true; simp⟩
theorem o_inLI {xs : List Int} (h : S[n]? = some (.lst w (xs.map .int))) (q : Q (.bl (decide (i ∈ xs))) S) : Ev (lift (oIn2 (.int i) (.loc n) S)) Q X :=
  w_lift (d := .bl (decide (i ∈ xs))) (S' := S) (by show (inD2 S (.int i) (.loc n)).map _ = _; rw [inL_ints h]; rfl) q
theorem o_notInLI {xs : List Int} (h : S[n]? = some (.lst w (xs.map .int))) (q : Q (.bl (!decide (i ∈ xs))) S) : Ev (lift (oNotIn2 (.int i) (.loc n) S)) Q X :=
  w_lift (d := .bl (!decide (i ∈ xs))) (S' := S) (by show (inD2 S (.int i) (.loc n)).map _ = _; rw [inL_ints h]; rfl) q
theorem inD_asU {us : List Int} (h : S[n]? = some (.dic (asU us))) : inD2 S (.int i) (.loc n) = some (decide (i ∈ us)) := by
  show (match S[n]? with
    | some (.dic kvs) => (keyD (.int i)).map fun k => (getD' kvs k).isSome
    | _ => inD S (.int i) (.loc n)) = _
  rw [h]
  show some (getD' (asU us) (.inl i)).isSome = _
  rw [asU_has]
theorem o_inDU {us : List Int} (h : S[n]? = some (.dic (asU us))) (q : Q (.bl (decide (i ∈ us))) S) : Ev (lift (oIn2 (.int i) (.loc n) S)) Q X :=
  w_lift (d := .bl (decide (i ∈ us))) (S' := S) (by show (inD2 S (.int i) (.loc n)).map _ = _; rw [inD_asU h]; rfl) q
theorem o_notInDU {us : List Int} (h : S[n]? = some (.dic (asU us))) (q : Q (.bl (!decide (i ∈ us))) S) : Ev (lift (oNotIn2 (.int i) (.loc n) S)) Q X :=
  w_lift (d := .bl (!decide (i ∈ us))) (S' := S) (by show (inD2 S (.int i) (.loc n)).map _ = _; rw [inD_asU h]; rfl) q
theorem o_max2 (q : Q (.int (max i j)) S) : Ev (lift (oMax [.int i, .int j] S)) Q X := w_lift (d := .int (max i j)) (S' := S) (by
  show some (D.int (if j > i then j else i), S) = _
  congr 3
  split <;> omega) q
theorem cut_nl {xs : List D} {k : Nat} (hk : 0 < k) : cutD xs none (some (-(k : Int))) = xs.take (xs.length - k) := by
  unfold cutD
  have e : HT.sIx xs.length xs.length (some (-(k : Int))) = xs.length - k := by
    unfold HT.sIx
    simp only
    split <;> omega
  rw [HT.sIx_none, e]; simp
theorem cut_nr {xs : List D} {k : Nat} (hk : 0 < k) : cutD xs (some (-(k : Int))) none = xs.drop (xs.length - k) := by
  unfold cutD
  have e : HT.sIx xs.length 0 (some (-(k : Int))) = xs.length - k := by
    unfold HT.sIx
    simp only
    split <;> omega
  rw [HT.sIx_none, e, List.take_of_length_le (by rw [List.length_drop]; omega)]
theorem o_slLnl {xs : List D} {k : Nat} (hk : 0 < k) (hn : S[n]? = some (.lst w xs)) (q : Q (.loc S.length) (S ++ [.lst true (xs.take (xs.length - k))])) : Ev (lift (oSl (.loc n) none (some (-(k : Int))) S)) Q X := w_lift (d := .loc S.length) (S' := S ++ [.lst true (xs.take (xs.length - k))]) (by
  show (match S[n]? with
    | some (.lst _ ds) => some (D.loc S.length, S ++ [SO.lst true (cutD ds none (some (-(k : Int))))])
    | _ => none) = _
  rw [hn]; show some (D.loc S.length, S ++ [SO.lst true (cutD xs none (some (-(k : Int))))]) = _
  rw [cut_nl hk]) q
theorem o_slLnr {xs : List D} {k : Nat} (hk : 0 < k) (hn : S[n]? = some (.lst w xs)) (q : Q (.loc S.length) (S ++ [.lst true (xs.drop (xs.length - k))])) : Ev (lift (oSl (.loc n) (some (-(k : Int))) none S)) Q X := w_lift (d := .loc S.length) (S' := S ++ [.lst true (xs.drop (xs.length - k))]) (by
  show (match S[n]? with
    | some (.lst _ ds) => some (D.loc S.length, S ++ [SO.lst true (cutD ds (some (-(k : Int))) none)])
    | _ => none) = _
  rw [hn]; show some (D.loc S.length, S ++ [SO.lst true (cutD xs (some (-(k : Int))) none)]) = _
  rw [cut_nr hk]) q
theorem o_mulT {xs : List D} {k : Nat} (hk : k ≤ 1000) (hx : xs.length ≤ 1000) (q : Q (.tup (List.replicate k xs).flatten) S) : Ev (lift (oMulT (.tup xs) (.int (k : Int)) S)) Q X := w_lift (d := .tup (List.replicate k xs).flatten) (S' := S) (by
  show (if _ then _ else _) = _
  rw [if_pos ⟨by omega, by omega, hx⟩, Int.toNat_natCast]) q
theorem enumT_at {xs : List D} {i : Nat} {S : Sto} : (itET xs).at_ i S = some (xs.mapIdx fun i x => D.tup [.int (i : Nat), x])[i]? := by
  show some (enumAt xs i) = _
  unfold enumAt
  rw [List.getElem?_mapIdx]
end
theorem Ev.nox {α : Type} {r : Rs α} {Q Q' : α → Sto → Prop} {X : XQ} (h : Ev r Q' noX) (k : ∀ a S, Q' a S → Q a S) : Ev r Q X := by
  cases r with
  | ok d S => exact k _ _ h
  | exc c fs S => exact h.elim
  | stuck => exact h
/-- a comprehension in which nothing else is changed, its list by its place -/
theorem w_lcg {mi : Nv → Sto → Rs ItM} {tg : Tg} {tt : MT} {me : MV} {vs : List Nat} {e : Nv} {S : Sto} {Q : D → Sto → Prop} {X : XQ} (t : D → Bool) (g : D → D)
    (h : Ev (mi e S) (fun it S1 => ∃ ys : List D, (∀ i S', Gr S1 S' → it.at_ i S' = some ys[i]?) ∧ it.cnt = ys.length ∧ ys.length ≤ sizeLine ∧
      (∀ (d : D) (S' : Sto), d ∈ ys → Gr S1 S' → ∃ e1, tg d (wipeE e vs) = some e1 ∧ Ev (tt e1 S') (fun k S2 => k = t d ∧ Gr S' S2 ∧ (k = true → Ev (me e1 S2) (fun y S3 => y = g d ∧ Gr S2 S3) noX)) noX) ∧
      ∀ S2, Gr S1 S2 → S2[S1.length]? = some (.lst true ((ys.filter t).map g)) → Q (.loc S1.length) S2) X) : Ev (mLcC mi tg tt me vs e S) Q X :=
  w_lcp t g (h.imp fun it S1 ⟨ys, h1, h2, h3, h4, fin⟩ => ⟨ys, h1, h2, h3, h4, fun T2 => fin _ gr_to get_mid⟩)
/-- all are taken -/
theorem w_lcm {mi : Nv → Sto → Rs ItM} {tg : Tg} {me : MV} {vs : List Nat} {e : Nv} {S : Sto} {Q : D → Sto → Prop} {X : XQ} (g : D → D)
    (h : Ev (mi e S) (fun it S1 => ∃ ys : List D, (∀ i S', Gr S1 S' → it.at_ i S' = some ys[i]?) ∧ it.cnt = ys.length ∧ ys.length ≤ sizeLine ∧
      (∀ (d : D) (S' : Sto), d ∈ ys → Gr S1 S' → ∃ e1, tg d (wipeE e vs) = some e1 ∧ Ev (me e1 S') (fun y S3 => y = g d ∧ Gr S' S3) noX) ∧
      ∀ S2, Gr S1 S2 → S2[S1.length]? = some (.lst true (ys.map g)) → Q (.loc S1.length) S2) X) : Ev (mLcC mi tg tOk me vs e S) Q X :=
  w_lcg (fun _ => true) g (h.imp fun it S1 ⟨ys, h1, h2, h3, h4, fin⟩ => ⟨ys, h1, h2, h3, fun d S' hd hg => by
    obtain ⟨e1, k1, k2⟩ := h4 d S' hd hg
    exact ⟨e1, k1, rfl, Gr.refl _, fun _ => k2⟩, fun S2 g2 h2 => fin S2 g2 (by rw [filter_true] at h2; exact h2)⟩)
/-- the items by a plain list -/
theorem map_of {α : Type} {xs : List α} {emb : α → D} {g : D → D} {f : α → D} (h : ∀ x ∈ xs, g (emb x) = f x) : (xs.map emb).map g = xs.map f := by
  rw [List.map_map]
  exact List.map_congr_left fun x hx => h x hx
theorem filter_of {α : Type} {xs : List α} {emb : α → D} {t : D → Bool} {f : α → Bool} (h : ∀ x ∈ xs, t (emb x) = f x) : (xs.map emb).filter t = (xs.filter f).map emb := by
  rw [List.filter_map]
  congr 1
  exact List.filter_congr fun x hx => h x hx
end P0
end

section
set_option Elab.async false
set_option linter.all false
set_option maxRecDepth 100000
set_option maxHeartbeats 4000000
/-! M37: list.extend of a tuple; statements that are never reached; long tuples by products. -/
namespace M2
open PySem PySem.Spec PyProof.Rows L2
set_option autoImplicit false
def sStuck : MS := fun _ _ => .stuck
section
variable {X : Cx} {W : WX}
theorem ms_stuck {ss : List Stmt} : PSs X ss (tMS X.K X.mg W sStuck) := ⟨fun pins s σ H D I ⟨_, _, _, _, _, g⟩ => g.elim⟩
theorem ms_stuck1 {st : Stmt} : PS X st (tMS X.K X.mg W sStuck) := ⟨fun pins s σ H D I ⟨_, _, _, _, _, g⟩ => g.elim⟩
theorem ext_tup (l : Addr) (items : Array Value) (n : Nat) (b : Addr) (items2 : Array Value) (n2 : Nat) (dd : Option Addr) (sl : Array (Option Value)) (h0 : ¬(!items.isEmpty && Builtin.List.listTooLong (items.size + items2.size)) = true) (h1 : items.size ≤ sizeLine) (h2 : items.size + items2.size ≤ sizeLine + 1) :
    Meets (Builtin.«list.extend» ⟨[.ref l, .ref b], []⟩) (fun _ R s => s.heap.get? l = some { cls := .type "list", dict := none, data := .seq items n, slots := #[] } ∧ s.heap.get? b = some { cls := .type "tuple", dict := dd, data := .seq items2 n2, slots := sl } ∧
      R (.ok (.ret Value.none)) { s with heap := s.heap.update l (Obj.mapSeq fun x => x ++ items2), toks := s.toks }) :=
  .of_wp fun prog w A R s h => by
    obtain ⟨hp, g, d, tk, os⟩ := s
    obtain ⟨hl, hb, h⟩ := h
    have f1 := AutoSeq1.idx_int
    have f2 := AutoSeq1.sub_tuple_tuple
    have f3 := AutoSeq1.sub_list_list
    have f4 := AutoSeq1.sub_tuple_list
    have f5 := AutoSeq1.sub_list_tuple
    have hz : (items ++ items2).size ≤ sizeLine + 1 := by
      rw [Array.size_append]
      exact h2
    wp_walk using (wpAny_updateSeq hl rfl (hz := h1) (_hz' := hz)), wpAny_loadPart' hl, wpAny_loadPart' hb
    exact ⟨_, rfl, h⟩
def rExtT (K : PySem.W.Frag) : V → List V → Hp → VK → Prop := fun x vs H Q => ∃ l b xs zs, x = .ref l ∧ vs = [.ref b] ∧ H l = some (.lst xs) ∧ SqT K H b zs ∧ xs.length + zs.length ≤ sizeLine ∧ Q .non (upd H l (.lst (xs ++ zs)))
theorem mt_extT : MtM X "list.extend" (rExtT X.K) := by
  intro pins s σ H x vs v us Q I rx rv h
  obtain ⟨l, b, xs, zs, rfl, rfl, hH, hB, hz, q⟩ := h
  cases rx
  obtain ⟨u, rfl, ru⟩ := rv.one
  cases ru
  obtain ⟨z, its, n, r, hl, e⟩ := I.lstM hH
  obtain ⟨its2, r2, ⟨⟨cls, dd, data, sl⟩, ho, hc, n2, hd⟩, hs0⟩ := I.tuple hB
  simp only at hc hd
  subst hc hd
  have hl2 : zs.length = its2.length := r2.length
  have hsz : its.toArray.size + its2.toArray.size ≤ sizeLine := by
    rw [List.size_toArray, List.size_toArray]
    omega
  have hlong : ¬ (!its.toArray.isEmpty && Builtin.List.listTooLong (its.toArray.size + its2.toArray.size)) = true := by
    rw [notLongL hsz, Bool.and_false]
    exact Bool.false_ne_true
  refine call_meets F.slot_list_extend ⟨_, e, rfl⟩ F.entry_list_extend (F.args_list_extend_2 _ _) (ext_tup l its.toArray n b its2.toArray n2 dd sl hlong (by rw [List.size_toArray]; omega) (by omega)) ⟨e, ho, ?_⟩
  refine ⟨.non, _, I.lset (its' := its ++ its2) hH e (by simp) (r.append r2) ?_, rfl, q⟩
  rw [List.length_append]
  omega
def oExtend2 : OpM := fun x as S => match x, as with
  | .loc n, [.tup es] => match S[n]? with
    | some (.lst true ds) => if ds.length + es.length ≤ sizeLine then some (.non, S.set n (.lst true (ds ++ es))) else none
    | _ => none
  | _, _ => oExtend x as S
theorem mm_extend2 : MtM X "list.extend" (rMM X.K X.mg oExtend2) := by
  intro pins s σ H x xs v us Q I rx rxs ⟨ρ, S, d, ds, d3, S3, rs, r1, r2, e, q⟩
  unfold oExtend2 at e
  split at e
  · obtain ⟨y, ys, rfl, ⟨b, ws, rfl, sb, hw⟩, r0⟩ := r2
    cases r0
    obtain ⟨a, rfl, pa⟩ := r1
    split at e
    · rename_i ds' e0
      split at e
      · rename_i hc; cases e
        obtain ⟨zs, hx, hv⟩ := rs.at_ _ _ _ pa e0
        exact mt_extT pins s σ H _ _ v us Q I rx rxs ⟨a, b, zs, ws, rfl, rfl, hx, sb, by rw [← hv.length, ← hw.length]; exact hc, q.lset rs pa e0 hx (hv.append hw) rfl⟩
      · cases e
    · cases e
  · exact mm_extend pins s σ H x xs v us Q I rx rxs ⟨ρ, S, d, ds, d3, S3, rs, r1, r2, e, q⟩
/-! long tuples -/
theorem rep_long {its : List Value} {k : Int} (hk : 2 ≤ k) (hm : its.length * k.toNat ≤ 100000) (hx : its ≠ []) : (its.toArray.isEmpty = false) ∧ ¬ ((its.toArray.size : Nat) : Int) * k > (2 ^ 63 - 1) / 8 ∧ Builtin.Tuple.tupleTooMany (((its.toArray.size : Nat) : Int) * k) = false ∧ k ≤ 100000 := by
  have h1 : ((its.toArray.size : Nat) : Int) * k ≤ 100000 := by
    rw [List.size_toArray]
    have := Int.ofNat_le.mpr hm
    rw [Int.natCast_mul] at this
    rw [Int.toNat_of_nonneg (by omega)] at this
    exact this
  have h2 : k.toNat ≤ its.length * k.toNat := Nat.le_mul_of_pos_left _ (by
    cases its with
    | nil => exact absurd rfl hx
    | cons a b => exact Nat.succ_pos _)
  refine ⟨?_, by omega, ?_, by omega⟩
  · cases its with
    | nil => exact absurd rfl hx
    | cons a b => rfl
  · unfold Builtin.Tuple.tupleTooMany
    rw [sizeLine_eq]
    exact decide_eq_false (by omega)
def rRepL (K : PySem.W.Frag) : R2 := fun x y H Q => ∃ l k xs, x = .ref l ∧ y = .int k ∧ SqT K H l xs ∧ xs ≠ [] ∧ 2 ≤ k ∧ xs.length * k.toNat ≤ 100000 ∧ ∀ p, H p = none → Q (.ref p) (upd H p (.tup (List.replicate k.toNat xs).flatten))
theorem op_repL : OpR X (binaryOp .Mult) (rRepL X.K) := by
  intro pins s σ H x y v u Q I rx ry h
  obtain ⟨l, k, xs, rfl, rfl, hT, hne, hk2, hz, q⟩ := h
  cases rx
  obtain ⟨t, rfl⟩ := ry
  obtain ⟨its, r, ⟨⟨cls, dd, data, sl⟩, ho, hc, n, hd⟩, hs0⟩ := I.tuple hT
  simp only at hc hd
  subst hc hd
  have hle : its.length = xs.length := r.length.symm
  have hn : its ≠ [] := fun e => hne (List.eq_nil_of_length_eq_zero (by rw [← hle, e]; rfl))
  obtain ⟨a1, a2, a3, a4⟩ := rep_long hk2 (by rw [hle]; exact hz) hn
  have flen : (List.replicate k.toNat its).flatten.length ≤ sizeLine := by
    rw [PyProof.Rows.lm_len_rep_flat, hle, sizeLine_eq, Nat.mul_comm]
    omega
  have c0 : (decide (k < -(2 ^ 63)) || decide (k ≥ 2 ^ 63)) = false := by
    rw [decide_eq_false (by omega), decide_eq_false (by omega)]
    rfl
  have c1 : (its.toArray.isEmpty || k == 1) = false := by
    rw [a1, Bool.false_or]
    exact beq_eq_false_iff_ne.mpr (by omega)
  have c2 : (decide (k ≤ 0) || its.toArray.isEmpty) = false := by
    rw [a1, Bool.or_false]
    exact decide_eq_false (by omega)
  refine wpAny_binaryOp_repeat_ref (T := "tuple") (U := "int") (by decide) ⟨_, ho, rfl⟩ (fun s' => typeIs_int s' k t) noFill_tuple_mul F.fills_int_mul F.slot_int_rmul repeat_tuple F.slot_int_index.lookup
    (call_meets F.slot_int_rmul (typeIs_int s k t) F.entry_int_rmul (F.args_int_rmul_2 _ _) (int_rmul_tuple k t l its.toArray n dd sl)
      ⟨ho, rfl, ⟨_, ho, rfl⟩, call_meets F.slot_tuple_mul ⟨_, ho, rfl⟩ F.entry_tuple_mul (F.args_tuple_mul_2 _ _) (tuple_mulW l its.toArray n dd sl k t c0 c1 c2 a2 a3 (by rw [size_rep, List.size_toArray]; exact flen)) ⟨ho, ?_⟩⟩)
  rw [size_rep]
  have hq := q s.heap.objs.size (I.hok.fresh (Nat.le_refl _))
  refine ⟨.ref s.heap.objs.size, _, I.laid (t' := s.toks) (o := .tup (List.replicate k.toNat xs).flatten) (fun b ob q => Heap.get?_push_of_some _ q) (Nat.le_refl _) ?_, rfl, hq⟩
  refine ⟨?_, _, r.rep k.toNat, IsTup.new _ _⟩
  rw [PyProof.Rows.lm_len_rep_flat, sizeLine_eq, Nat.mul_comm]
  omega
def oMulU : Op2 := fun a b S => match a, b with
  | .tup xs, .int k => if 2 ≤ k ∧ xs ≠ [] ∧ xs.length * k.toNat ≤ 100000 then some (.tup (List.replicate k.toNat xs).flatten, S) else oMulT a b S
  | _, _ => none
theorem om_mulU : OpR X (binaryOp .Mult) (rM2 X.K X.mg oMulU) := by
  intro pins s σ H x y v u Q I rx ry ⟨ρ, S, d1, d2, d3, S3, rs, r1, r2, e, q⟩
  unfold oMulU at e
  split at e
  · rename_i xs k
    split at e
    · rename_i h; cases e
      obtain ⟨a, vs, rfl, sa, ra⟩ := r1
      cases r2
      have e1 := ra.length
      refine op_repL pins s σ H _ _ v u Q I rx ry ⟨a, _, vs, rfl, rfl, sa, fun z => ?_, h.1, by rw [← e1]; exact h.2.2, fun p hp => q.tnew rs ?_ hp⟩
      · subst z
        exact h.2.1 (List.length_eq_zero_iff.mp (by simpa using e1))
      · generalize Int.toNat _ = n
        induction n with
        | zero => exact rfl
        | succ n ih => rw [List.replicate_succ, List.replicate_succ, List.flatten_cons, List.flatten_cons]; exact ra.append ih
    · exact om_mulT pins s σ H x y v u Q I rx ry ⟨ρ, S, _, _, d3, S3, rs, r1, r2, e, q⟩
  · cases e
def rSumT (K : PySem.W.Frag) : List V → Hp → VK → Prop := fun vs H Q => ∃ (a : Addr) (ns : List Int), vs = [V.ref a] ∧ SqT K H a (ns.map V.int) ∧ Q (.int ns.sum) H
theorem cr_sumT (hc : X.calm = true) : CallR X (.builtin "sum") (rSumT X.K) := by
  intro pins s σ H vs us Q I r h
  obtain ⟨a, ns, rfl, hs, q⟩ := h
  obtain ⟨its, rv, ht, _⟩ := I.tuple hs
  rw [Vals.ref1 r]
  obtain ⟨xs, hx⟩ := (Vals.ints rv).allInts.items
  have hn : numsOf its.toArray.toList = ns := by
    rw [show its.toArray.toList = its from rfl]
    exact (Vals.ints rv).numsOf
  have hl : s.heap.IsTuple a its.toArray := ht
  rw [hx] at hl hn
  rw [nums_intItems] at hn
  refine PySem.W.ktm_sumG (I.ok.hd hc) hl fun h' tk t' hk => ⟨.int _, H, I.kept hk, ⟨_, rfl⟩, ?_⟩
  rw [preSum_eq, List.take_of_length_le (by simp), hn]
  exact q
def oSum2 : OpL := fun ds S => match ds with
  | [.tup xs] => (intsOf xs).map fun ns => (.int ns.sum, S)
  | _ => oSum ds S
theorem cm_sum2 (hc : X.calm = true) : CallR X (.builtin "sum") (rML X.K X.mg oSum2) := by
  intro pins s σ H xs us Q I r ⟨ρ, S, ds, d3, S3, rs, rv, e, q⟩
  unfold oSum2 at e
  split at e
  · obtain ⟨x, ys, rfl, ⟨a, ws, rfl, sa, hw⟩, r0⟩ := rv
    cases r0
    obtain ⟨ns, h, e⟩ := map_some e
    cases e
    have := rvs_ints hw h
    subst this
    exact cr_sumT hc pins s σ H _ us Q I r ⟨a, ns, rfl, sa, q.now rs rfl⟩
  · exact cm_sum hc pins s σ H xs us Q I r ⟨ρ, S, _, d3, S3, rs, rv, e, q⟩
end
end M2
end

section
set_option Elab.async false
set_option linter.all false
set_option maxRecDepth 100000
/-! V8: == of plain data; more operations. -/
namespace P0
open PySem PySem.Spec M2
set_option autoImplicit false
/-- None, integers, texts, tuples of them, so deep at most -/
def PlD : Nat → D → Prop
  | _, .non => True
  | _, .int _ => True
  | _, .str x => PyData.strOk x = true
  | n + 1, .tup ds => ∀ d ∈ ds, PlD n d
  | _, _ => False
def embA : Nat → D → PyData
  | _, .non => .none
  | _, .int i => .int i
  | _, .str x => .str x
  | n + 1, .tup ds => .tuple (ds.map (embA n))
  | _, _ => .none
theorem mapM_mem {α β : Type} {f : α → Option β} {g : α → β} : ∀ {xs : List α}, (∀ x ∈ xs, f x = some (g x)) → xs.mapM f = some (xs.map g)
  | [], _ => rfl
  | x :: xs, h => by
    rw [List.mapM_cons, h x List.mem_cons_self, mapM_mem fun y hy => h y (List.mem_cons_of_mem _ hy)]; rfl
theorem emb_toP : ∀ {n : Nat} {d : D} {S : Sto}, PlD n d → toP (n + 1) S d = some (embA n d)
  | n, .non, S, _ => by cases n <;> rfl
  | n, .int _, S, _ => by cases n <;> rfl
  | n, .str _, S, _ => by cases n <;> rfl
  | n + 1, .tup ds, S, h => by
    show (ds.mapM (toP (n + 1) S)).map PyData.tuple = _
    rw [mapM_mem fun d hd => emb_toP (h d hd)]; rfl
  | 0, .tup ds, S, h => h.elim
  | n, .bl b, S, h => by cases n <;> exact h.elim
  | n, .loc k, S, h => by cases n <;> exact h.elim
  | n, .fn x, S, h => by cases n <;> exact h.elim
  | n, .ty x, S, h => by cases n <;> exact h.elim
theorem layAll {xs : List PyData} {n : Nat} (h : ∀ x ∈ xs, x.canLay0 = true ∧ x.depth ≤ n) : PyData.canLayAll0 xs = true ∧ PyData.depthAll xs ≤ n := by
  induction xs with
  | nil => exact ⟨rfl, Nat.zero_le _⟩
  | cons x xs ih =>
    obtain ⟨a, b⟩ := h x List.mem_cons_self
    obtain ⟨c, d⟩ := ih fun y hy => h y (List.mem_cons_of_mem _ hy)
    refine ⟨?_, ?_⟩
    · show (x.canLay0 && PyData.canLayAll0 xs) = true
      rw [a, c]; rfl
    · show max x.depth (PyData.depthAll xs) ≤ n
      omega
theorem emb_lay : ∀ {n : Nat} {d : D}, PlD n d → (embA n d).canLay0 = true ∧ (embA n d).depth ≤ n
  | n, .non, _ => by cases n <;> exact ⟨rfl, Nat.zero_le _⟩
  | n, .int _, _ => by cases n <;> exact ⟨rfl, Nat.zero_le _⟩
  | n, .str _, h => by cases n <;> exact ⟨h, Nat.zero_le _⟩
  | n + 1, .tup ds, h => by
    obtain ⟨a, b⟩ := layAll (xs := ds.map (embA n)) (n := n) fun x hx => by
      obtain ⟨d, hd, rfl⟩ := List.mem_map.mp hx
      exact emb_lay (h d hd)
    refine ⟨a, ?_⟩
    show PyData.depthAll _ + 1 ≤ n + 1
    omega
  | 0, .tup ds, h => h.elim
  | n, .bl b, h => by cases n <;> exact h.elim
  | n, .loc k, h => by cases n <;> exact h.elim
  | n, .fn x, h => by cases n <;> exact h.elim
  | n, .ty x, h => by cases n <;> exact h.elim
theorem eqvAll_mem {n : Nat} (h : ∀ a b, PlD n a → PlD n b → (PyData.eqv (embA n a) (embA n b) = true ↔ a = b)) : ∀ xs ys : List D, (∀ d ∈ xs, PlD n d) → (∀ d ∈ ys, PlD n d) → (PyData.eqvAll (xs.map (embA n)) (ys.map (embA n)) = true ↔ xs = ys)
  | [], [], _, _ => by simp [PyData.eqvAll]
  | [], y :: ys, _, _ => by simp [PyData.eqvAll]
  | x :: xs, [], _, _ => by simp [PyData.eqvAll]
  | x :: xs, y :: ys, hx, hy => by
    have h1 := h x y (hx x List.mem_cons_self) (hy y List.mem_cons_self)
    have h2 := eqvAll_mem h xs ys (fun d hd => hx d (List.mem_cons_of_mem _ hd)) fun d hd => hy d (List.mem_cons_of_mem _ hd)
    show (PyData.eqv _ _ && PyData.eqvAll _ _) = true ↔ _
    rw [Bool.and_eq_true, h1, h2, List.cons.injEq]
theorem emb_eq : ∀ {n : Nat} (a b : D), PlD n a → PlD n b → (PyData.eqv (embA n a) (embA n b) = true ↔ a = b)
  | 0, a, b, ha, hb => by
    cases a <;> first | exact ha.elim | skip
    all_goals (cases b <;> first | exact hb.elim | skip)
    all_goals simp [embA, PyData.eqv]
  | n + 1, a, b, ha, hb => by
    cases a <;> first | exact ha.elim | skip
    all_goals (cases b <;> first | exact hb.elim | skip)
    case tup.tup xs ys =>
      show PyData.eqvAll (xs.map (embA n)) (ys.map (embA n)) = true ↔ _
      rw [eqvAll_mem (fun a b => emb_eq a b) xs ys ha hb, D.tup.injEq]
    all_goals simp [embA, PyData.eqv]
theorem eq_pl {n : Nat} {a b : D} {S : Sto} (hn : n ≤ 60) (ha : PlD n a) (hb : PlD n b) : ∃ k, eqD S a b = some k ∧ (k = true ↔ a = b) := by
  have e1 := toP_mono (emb_toP (S := S) ha) (m := 65) (by omega) (Gr.refl S)
  have e2 := toP_mono (emb_toP (S := S) hb) (m := 65) (by omega) (Gr.refl S)
  obtain ⟨l1, d1⟩ := emb_lay ha
  obtain ⟨l2, d2⟩ := emb_lay hb
  have s1 : SeqAt.shaped (embA n a) = true := by
    show ((embA n a).canLay0 && decide ((embA n a).depth ≤ 64)) = true
    rw [l1, decide_eq_true (by omega)]; rfl
  have s2 : SeqAt.shaped (embA n b) = true := by
    show ((embA n b).canLay0 && decide ((embA n b).depth ≤ 64)) = true
    rw [l2, decide_eq_true (by omega)]; rfl
  unfold eqD
  split
  · exact ⟨_, rfl, by rw [decide_eq_true_eq, D.int.injEq]⟩
  · exact ⟨_, rfl, by rw [decide_eq_true_eq, D.str.injEq]⟩
  · rw [e1, e2]
    exact ⟨_, if_pos (by rw [s1, s2]; rfl), emb_eq a b ha hb⟩
theorem eq_plL {n a b : Nat} {w w' : Bool} {xs ys : List D} {S : Sto} (hn : n ≤ 60) (ha : S[a]? = some (.lst w xs)) (hb : S[b]? = some (.lst w' ys)) (hx : ∀ d ∈ xs, PlD n d) (hy : ∀ d ∈ ys, PlD n d) : ∃ k, eqD S (.loc a) (.loc b) = some k ∧ (k = true ↔ xs = ys) := by
  have t : ∀ {a : Nat} {w : Bool} {xs : List D}, S[a]? = some (.lst w xs) → (∀ d ∈ xs, PlD n d) → toP 65 S (.loc a) = some (.list (xs.map (embA n))) := by
    intro a w xs h hx
    show (match S[a]? with
      | some (.lst _ ds) => (ds.mapM (toP 64 S)).map PyData.list
      | _ => none) = _
    rw [h]
    show (xs.mapM (toP 64 S)).map PyData.list = _
    rw [mapM_mem fun d hd => toP_mono (emb_toP (S := S) (hx d hd)) (m := 64) (by omega) (Gr.refl S)]; rfl
  have sh : ∀ {xs : List D}, (∀ d ∈ xs, PlD n d) → SeqAt.shaped (.list (xs.map (embA n))) = true := by
    intro xs hx
    obtain ⟨l, d⟩ := layAll (xs := xs.map (embA n)) (n := n) fun x hx' => by
      obtain ⟨d, hd, rfl⟩ := List.mem_map.mp hx'
      exact emb_lay (hx d hd)
    show (PyData.canLayAll0 _ && decide (PyData.depthAll _ + 1 ≤ 64)) = true
    rw [l, decide_eq_true (by omega)]; rfl
  have e : eqD S (.loc a) (.loc b) = some (PyData.eqvAll (xs.map (embA n)) (ys.map (embA n))) := by
    show (match toP 65 S (.loc a), toP 65 S (.loc b) with
      | some p, some q => if (SeqAt.shaped p && SeqAt.shaped q) = true then some (PyData.eqv p q) else none
      | _, _ => none) = _
    rw [t ha hx, t hb hy]
    show (if (SeqAt.shaped (.list (xs.map (embA n))) && SeqAt.shaped (.list (ys.map (embA n)))) = true then some (PyData.eqvAll _ _) else none) = _
    rw [sh hx, sh hy]; rfl
  exact ⟨_, e, eqvAll_mem (fun a b => emb_eq a b) xs ys hx hy⟩
section
variable {S : Sto} {Q : D → Sto → Prop} {X : XQ} {a b : D} {n : Nat}
theorem o_eqP (hn : n ≤ 60) (ha : PlD n a) (hb : PlD n b) (q : ∀ k : Bool, (k = true ↔ a = b) → Q (.bl k) S) : Ev (lift (oEq a b S)) Q X := by
  obtain ⟨k, e, h⟩ := eq_pl (S := S) hn ha hb
  refine w_lift (d := .bl k) (S' := S) ?_ (q k h)
  show (eqD S a b).map _ = _
  rw [e]; rfl
theorem o_neP (hn : n ≤ 60) (ha : PlD n a) (hb : PlD n b) (q : ∀ k : Bool, (k = true ↔ a ≠ b) → Q (.bl k) S) : Ev (lift (oNe a b S)) Q X := by
  obtain ⟨k, e, h⟩ := eq_pl (S := S) hn ha hb
  refine w_lift (d := .bl !k) (S' := S) ?_ (q _ ?_)
  · show (eqD S a b).map _ = _
    rw [e]; rfl
  · rw [ne_eq, ← h]
    cases k <;> simp
theorem o_eqPL {i j : Nat} {w w' : Bool} {xs ys : List D} (hn : n ≤ 60) (hi : S[i]? = some (.lst w xs)) (hj : S[j]? = some (.lst w' ys)) (hx : ∀ d ∈ xs, PlD n d) (hy : ∀ d ∈ ys, PlD n d) (q : ∀ k : Bool, (k = true ↔ xs = ys) → Q (.bl k) S) : Ev (lift (oEq (.loc i) (.loc j) S)) Q X := by
  obtain ⟨k, e, h⟩ := eq_plL hn hi hj hx hy
  refine w_lift (d := .bl k) (S' := S) ?_ (q k h)
  show (eqD S (.loc i) (.loc j)).map _ = _
  rw [e]; rfl
theorem br_iff {k : Bool} {p A B : Prop} (h : k = true ↔ p) (a : p → A) (b : ¬ p → B) : Br k A B := by
  cases k with
  | true => exact a (h.mp rfl)
  | false => exact b fun q => Bool.false_ne_true (h.mpr q)
theorem notIn_strs {x : Str} {ys : List Str} (hx : PyData.strOk x = true) (hy : ∀ y ∈ ys, PyData.strOk y = true) (q : Q (.bl (!decide (x ∈ ys))) S) : Ev (lift (oNotIn2 (.str x) (.tup (ys.map .str)) S)) Q X := by
  have h := in_strs (S := S) hx hy
  refine w_lift (d := .bl (!decide (x ∈ ys))) (S' := S) ?_ q
  unfold oNotIn2
  unfold oIn2 at h
  cases hi : inD2 S (.str x) (.tup (ys.map .str)) with
  | none => rw [hi] at h; cases h
  | some k =>
    rw [hi] at h
    have e : k = decide (x ∈ ys) := by
      have h : some (D.bl k, S) = some (.bl (decide (x ∈ ys)), S) := h
      injection h with h
      injection h with h
      injection h
    rw [e]; rfl
theorem in_intsU {xs : List Int} {i : Int} : oIn2 (.int i) (.tup (xs.map .int)) S = some (.bl (decide (i ∈ xs)), S) := by
  have h := notIn_ints (S := S) (xs := xs) (i := i)
  unfold oNotIn2 at h
  unfold oIn2
  cases hi : inD2 S (.int i) (.tup (xs.map .int)) with
  | none => rw [hi] at h; cases h
  | some k =>
    rw [hi] at h
    have h : some (D.bl (!k), S) = some (.bl (!decide (i ∈ xs)), S) := h
    injection h with h
    injection h with h
    injection h with h
    have e : k = decide (i ∈ xs) := by
      revert h
      cases k <;> cases decide (i ∈ xs) <;> simp
    rw [e]; rfl
theorem o_inUI {xs : List Int} {i : Int} (q : Q (.bl (decide (i ∈ xs))) S) : Ev (lift (oIn2 (.int i) (.tup (xs.map .int)) S)) Q X := w_lift in_intsU q
theorem ss_strsU {xs : List Str} (hl : xs.length < 1000) : sortedSet (.tup (xs.map .str)) S = some (((uniq xs).mergeSort leS).map .str) := by
  unfold sortedSet
  have e0 : itemsOf S (.tup (xs.map .str)) = some (xs.map .str) := rfl
  rw [e0]
  cases xs with
  | nil =>
    show some (((uniq ([] : List Int)).mergeSort leI).map D.int) = some (((uniq ([] : List Str)).mergeSort leS).map D.str)
    rw [show uniq ([] : List Int) = [] from rfl, show uniq ([] : List Str) = [] from rfl, List.mergeSort_nil, List.mergeSort_nil]; rfl
  | cons x xs =>
    have e : intsOf ((x :: xs).map .str) = none := rfl
    simp only [e, strs_of, if_pos hl]
theorem o_mulU {xs : List D} {k : Nat} (hk : xs.length * k ≤ 100000) (h0 : xs ≠ []) (hx : xs.length ≤ 1000) (q : Q (.tup (List.replicate k xs).flatten) S) : Ev (lift (oMulU (.tup xs) (.int (k : Int)) S)) Q X := by
  refine w_lift (d := .tup (List.replicate k xs).flatten) (S' := S) ?_ q
  show (if _ then _ else _) = _
  split
  · rw [Int.toNat_natCast]
  · rename_i h
    show (if _ then _ else _) = _
    rw [Int.toNat_natCast] at h
    have h2 : k ≤ 1 := Classical.byContradiction fun q => h ⟨by omega, h0, hk⟩
    rw [if_pos ⟨by omega, by omega, hx⟩, Int.toNat_natCast]
theorem o_sum2L {n : Nat} {w : Bool} {xs : List Int} (h : S[n]? = some (.lst w (xs.map .int))) (q : Q (.int xs.sum) S) : Ev (lift (oSum2 [.loc n] S)) Q X := w_lift (d := .int xs.sum) (S' := S) (by
  show (match S[n]? with
    | some (.lst _ xs) => (intsOf xs).map fun ns : List Int => (D.int ns.sum, S)
    | _ => none) = _
  rw [h]
  show (intsOf (xs.map D.int)).map _ = _
  rw [ints_of]; rfl) q
theorem o_sum2U {xs : List Int} (q : Q (.int xs.sum) S) : Ev (lift (oSum2 [.tup (xs.map .int)] S)) Q X := w_lift (d := .int xs.sum) (S' := S) (by
  show (intsOf (xs.map D.int)).map _ = _
  rw [ints_of]; rfl) q
theorem o_extendU {n : Nat} {xs ys : List D} (hn : S[n]? = some (.lst true xs)) (h : xs.length + ys.length ≤ sizeLine) (q : Q .non (S.set n (.lst true (xs ++ ys)))) : Ev (lift (oExtend2 (.loc n) [.tup ys] S)) Q X := w_lift (d := .non) (S' := S.set n (.lst true (xs ++ ys))) (by
  show (match S[n]? with
    | some (.lst true ds) => if ds.length + ys.length ≤ sizeLine then some (D.non, S.set n (.lst true (ds ++ ys))) else none
    | _ => none) = _
  rw [hn]; exact if_pos h) q
theorem o_extendL {n m : Nat} {xs ys : List D} (hn : S[n]? = some (.lst true xs)) (hm : S[m]? = some (.lst true ys)) (h : xs.length + ys.length ≤ sizeLine) (q : Q .non (S.set n (.lst true (xs ++ ys)))) : Ev (lift (oExtend2 (.loc n) [.loc m] S)) Q X := o_extend hn hm h q
end
section
variable {N : Nv → Sto → Prop} {R : D → Sto → Prop} {B C : Nv → Sto → Prop} {Z : Str → List (Str × D) → Nv → Sto → Prop} {e : Nv} {S : Sto} {body : MS} {t : MT}
/-- a while loop by an invariant that counts down -/
theorem w_while {n : Nat} (I : Nat → Nv → Sto → Prop) (h0 : I n e S) (no : ∀ e S, ¬ I 0 e S)
    (step : ∀ m e S, I (m + 1) e S → Ev (t e S) (fun k S1 => Br k (Es (body e S1) (I m) R N (I m) Z) (N e S1)) fun c fs S1 => Z c fs e S1) : Es (sWhile n t body e S) N R B C Z := by
  unfold sWhile
  induction n generalizing e S with
  | zero => exact absurd h0 (no e S)
  | succ n ih =>
    unfold whileM
    refine Es.bindS ((step n e S h0).imp fun k S1 h => ?_)
    cases k with
    | false => exact h
    | true =>
      have h : Es (body e S1) (I n) R N (I n) Z := h
      simp only [if_true]
      cases hb : body e S1 with
      | nx e2 S2 => rw [hb] at h; exact ih h
      | ct e2 S2 => rw [hb] at h; exact ih h
      | bk e2 S2 => rw [hb] at h; exact h
      | rt d S2 => rw [hb] at h; exact h
      | exc c fs e2 S2 => rw [hb] at h; exact h
      | stuck => rw [hb] at h; exact h
end
/-- a comprehension by the list that it gives -/
theorem w_lci {mi : Nv → Sto → Rs ItM} {tg : Tg} {me : MV} {vs : List Nat} {e : Nv} {S : Sto} {Q : D → Sto → Prop} {X : XQ}
    (h : Ev (mi e S) (fun it S1 => ∃ ys zs : List D, zs.length = ys.length ∧ (∀ i S', Gr S1 S' → it.at_ i S' = some ys[i]?) ∧ it.cnt = ys.length ∧ ys.length ≤ sizeLine ∧
      (∀ (i : Nat) (d : D) (S' : Sto), ys[i]? = some d → Gr S1 S' → ∃ e1, tg d (wipeE e vs) = some e1 ∧ Ev (me e1 S') (fun y S3 => zs[i]? = some y ∧ Gr S' S3) noX) ∧
      ∀ S2, Gr S1 S2 → S2[S1.length]? = some (.lst true zs) → Q (.loc S1.length) S2) X) : Ev (mLcC mi tg tOk me vs e S) Q X := by
  refine w_lc (h.imp fun it S1 ⟨ys, zs, hl, hit, hc, hz, step, fin⟩ => ⟨ys, fun i acc S' => acc = zs.take i ∧ ∃ T, S' = S1 ++ .lst true acc :: T, ?_, hc, hz, ?_, ⟨rfl, [], rfl⟩, ?_⟩)
  · rintro i acc S' ⟨_, T, rfl⟩
    exact ⟨hit i _ gr_to, get_mid⟩
  · rintro i d acc S' hd ha ⟨rfl, T, rfl⟩
    obtain ⟨e1, h1, h2⟩ := step i d _ hd gr_to
    refine ⟨e1, h1, ?_⟩
    show Ev (me e1 _) _ noX
    refine h2.imp fun y S3 ⟨hy, hg⟩ => ?_
    obtain ⟨T3, rfl⟩ := gr_mid hg
    refine ⟨get_mid, ?_, T3, set_mid⟩
    rw [take_snoc hy]
  · rintro acc S' ⟨rfl, T, rfl⟩
    rw [← hl, List.take_of_length_le (Nat.le_refl _)]
    exact fin _ gr_to (by
      have := get_mid (S := S1) (T := T) (o := .lst true (zs.take ys.length))
      rw [← hl, List.take_of_length_le (Nat.le_refl _)] at this
      exact this)
theorem o_isNotBl {S : Sto} {d : D} {k j : Bool} {Q : D → Sto → Prop} {X : XQ} (h : isD d (.bl k) = some j) (q : Q (.bl (!j)) S) : Ev (lift (oIsNot d (.bl k) S)) Q X := w_lift (d := .bl (!j)) (S' := S) (by
  show (isD d (.bl k)).map _ = _
  rw [h]; rfl) q
end P0
end

section
set_option Elab.async false
set_option linter.all false
set_option maxRecDepth 100000
set_option maxHeartbeats 4000000
/-! M38: instances of own classes: fields, methods, making. -/
namespace M2
open PySem PySem.Spec PyProof.Rows L2
set_option autoImplicit false
def putFD (f : Str) (d : D) : List (Str × D) → List (Str × D)
  | [] => [(f, d)]
  | (g, x) :: r => if g = f then (g, d) :: r else (g, x) :: putFD f d r
section
variable {K : PySem.W.Frag} {mg : Str → Option Value} {ρ : List Addr} {H : Hp}
theorem rfs_look : ∀ {fs : List (Str × D)} {vs : List (Str × V)} (f : Str), RFs K mg ρ H fs vs → (∀ d, fs.lookup f = some d → ∃ v, vs.lookup f = some v ∧ RV K mg ρ H d v) ∧ (fs.lookup f = none → vs.lookup f = none)
  | [], vs, f, h => by
    rw [show vs = [] from h]
    exact ⟨fun d q => (by cases q), fun _ => rfl⟩
  | p :: fs, vs, f, h => by
    obtain ⟨x, xs, rfl, h1, h2⟩ := h
    obtain ⟨a, b⟩ := rfs_look f h2
    rw [List.lookup_cons, List.lookup_cons]
    cases f == p.1 with
    | true => exact ⟨fun d q => (by cases q; exact ⟨x, rfl, h1⟩), fun q => (by cases q)⟩
    | false => exact ⟨a, b⟩
theorem rfs_put : ∀ {fs : List (Str × D)} {vs : List (Str × V)} {f : Str} {d : D} {v : V}, RFs K mg ρ H fs vs → RV K mg ρ H d v → RFs K mg ρ H (putFD f d fs) (putF f v vs)
  | [], vs, f, d, v, h, r => by
    rw [show vs = [] from h]
    exact ⟨v, [], rfl, r, rfl⟩
  | (g, y) :: fs, vs, f, d, v, h, r => by
    obtain ⟨x, xs, rfl, h1, h2⟩ := h
    unfold putFD putF
    split
    · exact ⟨v, xs, rfl, r, h2⟩
    · exact ⟨x, _, rfl, h1, rfs_put h2 r⟩
theorem rfs_len : ∀ {fs : List (Str × D)} {vs : List (Str × V)}, RFs K mg ρ H fs vs → fs.length = vs.length
  | [], vs, h => by rw [show vs = [] from h]; rfl
  | p :: fs, vs, h => by
    obtain ⟨x, xs, rfl, h1, h2⟩ := h
    rw [List.length_cons, List.length_cons, rfs_len h2]
end
/-- an own class whose instances have these fields -/
structure ClsO (K : PySem.W.Frag) (mg : Str → Option Value) (c : Str) (flds : List Str) : Prop where
  ok : ∀ C, mg c = some (.ref C) → Cls K C ∧ ∀ f ∈ flds, NoAttr K C f
def oGetF (c f : Str) : Op1 := fun a S => match a with
  | .loc n => match S[n]? with
    | some (.obj c' fs) => if c' = c then (fs.lookup f).map fun d => (d, S) else none
    | _ => none
  | _ => none
def oPutF (c f : Str) (o d : D) (S : Sto) : Option Sto := match o with
  | .loc n => match S[n]? with
    | some (.obj c' fs) => if c' = c ∧ fs.length < 1000 then some (S.set n (.obj c' (putFD f d fs))) else none
    | _ => none
  | _ => none
def sPutF (c f : Str) (mv mo_ : MV) : MS := fun e S => (mv e S).bindS e fun d S1 => (mo_ e S1).bindS e fun o S2 => match oPutF c f o d S2 with
  | some S3 => .nx e S3
  | none => .stuck
/-- o.f += an integer -/
def sAugFI (c f : Str) (mo_ mv : MV) : MS := fun e S => (mo_ e S).bindS e fun o S1 => match oGetF c f o S1 with
  | some (.int i, _) => (mv e S1).bindS e fun d S2 => match d with
    | .int j => match oPutF c f o (.int (i + j)) S2 with
      | some S3 => .nx e S3
      | none => .stuck
    | _ => .stuck
  | _ => .stuck
def isO (S : Sto) (c m : Str) (d : D) : Bool := match d with
  | .loc n => match S[n]? with
    | some (.obj c' fs) => decide (c' = c) && (fs.lookup m).isNone
    | _ => false
  | _ => false
/-- o.m(args) -/
def mMet (c m : Str) (mf : MF) (mo_ : MV) (mr : MA) : MV := fun e S => (mo_ e S).bind fun x S1 => if isO S1 c m x = true then (mr e S1).bind fun ds S2 => mf (x :: ds) S2 else .stuck
/-- C(args) -/
def mMake (c : Str) (mf : MF) (mr : MA) : MV := fun e S => (mr e S).bind fun ds S1 => ((mf (.loc S1.length :: ds) (S1 ++ [.obj c []])).cold).bind fun v S2 => match v with
  | .non => .ok (.loc S1.length) S2
  | _ => .stuck
structure MetM (P : Program) (w : World) (K : PySem.W.Frag) (mg : Str → Option Value) (base : Heap) (c m : Str) (k : Nat) (mf : MF) : Prop where
  ex : ∃ (f : Addr) (fd : FuncData) (ps : List Str), (∀ C, mg c = some (.ref C) → Meth K C m f) ∧ Binds K fd ps [] ∧ FnOk P w K mg base (L2N.CX P w) k f fd ps (spM K mg mf)
structure MkM (P : Program) (w : World) (K : PySem.W.Frag) (mg : Str → Option Value) (base : Heap) (c : Str) (k : Nat) (mf : MF) : Prop where
  ex : ∃ (C f : Addr) (fd : FuncData) (ps : List Str), mg c = some (.ref C) ∧ Mk K C f ∧ Binds K fd ps [] ∧ FnOk P w K mg base (L2N.CX P w) k f fd ps (spM K mg mf)
theorem MetM.mono {P : Program} {w : World} {K : PySem.W.Frag} {mg : Str → Option Value} {base : Heap} {c m : Str} {j k : Nat} {mf : MF} (F : MetM P w K mg base c m j mf) (h : j ≤ k) : MetM P w K mg base c m k mf := by
  obtain ⟨f, fd, ps, a, b, d⟩ := F.ex
  exact ⟨f, fd, ps, a, b, d.mono h⟩
theorem RS.obj {K : PySem.W.Frag} {mg : Str → Option Value} {ρ : List Addr} {H : Hp} {S : Sto} {n : Nat} {a : Addr} {c : Str} {fs : List (Str × D)} (rs : RS K mg ρ H S) (ha : ρ[n]? = some a) (hs : S[n]? = some (.obj c fs)) : ∃ C dx vs, mg c = some (.ref C) ∧ H a = some (.ins C dx vs) ∧ RFs K mg ρ H fs vs := rs.at_ n a _ ha hs
section
variable {X : Cx} {W : WX} {k : Nat} {o e value : Expr} {es : List Expr} {c f m x : Str} {flds : List Str} {ma mv mo_ : MV} {mr : MA} {mf : MF} {p pos pos' tpos apos : Pos}
theorem me_getF (T : ClsO X.K X.mg c flds) (hf : f ∈ flds) (he : PE X o (tM X.K X.mg W mo_)) (hb : attributeBase o f X.env (eval o X.env) = eval o X.env := by rfl) : PE X (.Attribute o f pos) (tM X.K X.mg W (mUn (oGetF c f) mo_)) := by
  refine PE.imp (pe_fld he hb) fun σ H Q ⟨ρ, e, S, re, rs, g⟩ => ⟨ρ, e, S, re, rs, GoodG.bind g fun d S1 v H1 ρ1 _ p1 k1 rs1 r1 g1 => ?_⟩
  cases ho : oGetF c f d S1 with
  | none => rw [ho] at g1; exact g1.elim
  | some q =>
    rw [ho] at g1
    unfold oGetF at ho
    split at ho
    · rename_i n
      obtain ⟨a, rfl, pa⟩ := r1
      split at ho
      · rename_i c' fs hs
        split at ho
        · rename_i hc
          subst hc
          obtain ⟨C, dx, vs, hm, hH, hv⟩ := rs1.obj pa hs
          obtain ⟨d', hd, e1⟩ := map_some ho
          obtain ⟨v', ev, rv⟩ := (rfs_look f hv).1 d' hd
          obtain ⟨hcl, hno⟩ := T.ok C hm
          subst e1
          exact ⟨a, C, dx, vs, v', rfl, hH, hcl, hno f hf, ev, g1 v' H1 ρ1 (Pre.refl _) (Keep.refl _) rs1 rv⟩
        · cases ho
      · cases ho
    · cases ho
theorem ms_putF (T : ClsO X.K X.mg c flds) (hf : f ∈ flds) (ho : PE X o (tM X.K X.mg W mo_)) (hv : PE X value (tM X.K X.mg W mv)) (hs : swapsWith value (some (.Attribute o f pos')) pos.line X.env = pure false := by rfl) :
    PS X (.Assign [.Attribute o f pos'] value pos) (tMS X.K X.mg W (sPutF c f mv mo_)) := by
  refine PS.imp (ps_fld ho hv hs) fun Dn σ H ⟨ρ, e, S, re, rs, g⟩ => ⟨ρ, e, S, re, rs, GoodG.bindS re g fun d S1 y H1 ρ1 _ p1 k1 rs1 r1 g1 => ⟨ρ1, e, S1, re.mono p1 k1, rs1, GoodG.bindS (re.mono p1 k1) g1 fun o' S2 z H2 ρ2 _ p2 k2 rs2 r2 g2 => ?_⟩⟩
  cases hp : oPutF c f o' d S2 with
  | none => rw [hp] at g2; exact g2.elim
  | some S3 =>
    rw [hp] at g2
    unfold oPutF at hp
    split at hp
    · rename_i n
      obtain ⟨a, rfl, pa⟩ := r2
      split at hp
      · rename_i c' fs hs'
        split at hp
        · rename_i hc
          cases hp
          obtain ⟨rfl, hl⟩ := hc
          obtain ⟨C, dx, vs, hm, hH, hvs⟩ := rs2.obj pa hs'
          obtain ⟨hcl, hno⟩ := T.ok C hm
          have kp : Keep H2 (upd H2 a (.ins C dx (putF f y vs))) := Keep.mut hH rfl
          refine ⟨a, C, dx, vs, rfl, hH, hcl, hno f hf, by rw [← rfs_len hvs]; exact hl, ?_⟩
          refine g2 σ _ ρ2 (Pre.refl _) kp (rs2.set pa hs' rfl ⟨C, dx, _, hm, upd_same, rfs_put (RFs.mono (Pre.refl _) kp _ _ hvs) ((r1.mono p2 k2).mono (Pre.refl _) kp)⟩ rfl) (((re.mono p1 k1).mono p2 k2).mono (Pre.refl _) kp)
        · cases hp
      · cases hp
    · cases hp
theorem ms_augFI (T : ClsO X.K X.mg c flds) (hf : f ∈ flds) (ho : PE X o (tM X.K X.mg W mo_)) (hv : PE X value (tM X.K X.mg W mv)) : PS X (.AugAssign (.Attribute o f tpos) .Add value pos) (tMS X.K X.mg W (sAugFI c f mo_ mv)) := by
  refine PS.imp (ps_fldaug ho hv in_add) fun Dn σ H ⟨ρ, e, S, re, rs, g⟩ => ⟨ρ, e, S, re, rs, GoodG.bindS re g fun d S1 y H1 ρ1 he1 p1 k1 rs1 r1 g1 => ?_⟩
  clear he1
  cases hp : oGetF c f d S1 with
  | none => rw [hp] at g1; exact g1.elim
  | some q =>
    obtain ⟨z, Sz⟩ := q
    rw [hp] at g1
    cases z with
    | int i =>
      unfold oGetF at hp
      split at hp
      · rename_i n
        obtain ⟨a, rfl, pa⟩ := r1
        split at hp
        · rename_i c' fs hs
          split at hp
          · rename_i hc
            subst hc
            obtain ⟨C, dx, vs, hm, hH, hvs⟩ := rs1.obj pa hs
            obtain ⟨d', hd, e1⟩ := map_some hp
            cases e1
            obtain ⟨v', ev, rv⟩ := (rfs_look f hvs).1 _ hd
            obtain ⟨hcl, hno⟩ := T.ok C hm
            rw [show v' = .int i from rv] at ev
            refine ⟨a, C, dx, vs, .int i, rfl, hH, hcl, hno f hf, ev, ρ1, e, S1, re.mono p1 k1, rs1, GoodG.bindS (re.mono p1 k1) g1 fun d2 S2 y2 H2 ρ2 he2 p2 k2 rs2 r2 g2 => ?_⟩
            clear he2
            cases d2 with
            | int j =>
              have hy : y2 = .int j := r2
              subst hy
              refine ⟨i, j, rfl, rfl, ?_⟩
              have g3 : GoodS X.K X.mg W ρ2 H2 (match oPutF c' f (.loc n) (.int (i + j)) S2 with
                | some S3 => .nx e S3
                | none => .stuck) Dn := g2
              clear g2
              cases hq : oPutF c' f (.loc n) (.int (i + j)) S2 with
              | none => rw [hq] at g3; exact g3.elim
              | some S3 =>
                rw [hq] at g3
                cases hs2 : S2[n]? with
                | none => simp only [oPutF, hs2] at hq; cases hq
                | some so =>
                  cases so with
                  | obj c2 fs2 =>
                    simp only [oPutF, hs2] at hq
                    split at hq
                    · rename_i hc2
                      cases hq
                      obtain ⟨rfl, hl⟩ := hc2
                      have pa2 := p2 _ _ pa
                      obtain ⟨C2, dx2, vs2, hm2, hH2, hvs2⟩ := rs2.obj pa2 hs2
                      rw [hm] at hm2
                      cases hm2
                      have kp : Keep H2 (upd H2 a (.ins C dx2 (putF f (.int (i + j)) vs2))) := Keep.mut hH2 rfl
                      refine ⟨dx2, vs2, hH2, by rw [← rfs_len hvs2]; exact hl, ?_⟩
                      exact g3 σ _ ρ2 (Pre.refl _) kp (rs2.set pa2 hs2 rfl ⟨C, dx2, _, hm, upd_same, rfs_put (RFs.mono (Pre.refl _) kp _ _ hvs2) rfl⟩ rfl) (((re.mono p1 k1).mono p2 k2).mono (Pre.refl _) kp)
                    · cases hq
                  | _ => simp only [oPutF, hs2] at hq; cases hq
            | _ => exact g2.elim
          · cases hp
        · cases hp
      · cases hp
    | _ => exact g1.elim
def tMethSD (c : Str) (mg : Str → Option Value) (m : Str) (sp : Sp) (E : St → XK) (ta : TE) (t : TA) : TE := fun σ H Q => ta σ H fun x H1 => ∃ a C dx fs, x = .ref a ∧ mg c = some (.ref C) ∧ H1 a = some (.ins C dx fs) ∧ fs.lookup m = none ∧ t σ H1 fun vs H2 => sp (x :: vs) H2 Q (E σ)
theorem pe_methSD {pl : Sem Bool} {fa : Addr} {fd : FuncData} {ps : List Str} {sp : Sp} {E : St → XK} {ta : TE} {t : TA} (he : PE X o ta) (hc : ∀ C, X.mg c = some (.ref C) → Cls X.K C ∧ Meth X.K C m fa) (F : FnOk X.prog X.w X.K X.mg X.base (L2N.CX X.prog X.w) k fa fd ps sp) (hr : Room k X.A) (hb : Binds X.K fd ps [])
    (hx : ∀ σ, PassesAt (L2N.CX X.prog X.w) X σ (E σ)) (ha : PA X (e :: es) t) (hst : starEach (e :: es) X.env = (false, eval e X.env) :: starEach es X.env := by rfl) (hpl : (backTo pos (starEach es X.env)).any (·.1) = false := by rfl)
    (ht : eval (.Call (.Attribute o m apos) (e :: es) [] pos) X.env = (do
      let ov ← eval o X.env
      standAt apos.atName
      let (f, first) ← holding [ov] (getMethod ov m pl)
      callWith pos f first (backTo pos (starEach (e :: es) X.env)) (backToKw pos (keywordEach [] X.env))) := by rfl) :
    PE X (.Call (.Attribute o m apos) (e :: es) [] pos) (tMethSD c X.mg m sp E ta t) := by
  refine ⟨fun pins s σ H Q I h => PySem.W.methodCall_KW (pl := pl) (thn (he.run pins s σ H _ I h) fun u s1 hh => ?_) ht⟩
  obtain ⟨x, H1, I1, rx, a, C, dx, fs, ex, em, ea, l, q⟩ := hh
  subst ex
  have hu : u = Value.ref a := rx
  subst hu
  obtain ⟨hcl, hmt⟩ := hc C em
  refine getmeth_ok I1 ea hcl hmt l (PySem.W.callWith_K (first := [.ref a]) (h₀ := X.base) I.ok.mod.kin hmt.kp (thn (ha.run pos pins s1 σ H1 _ I1 q) fun us s2 hh2 => ?_) hst hpl)
  obtain ⟨vs, H2, I2, r, q2⟩ := hh2
  have hs : sp ((V.ref a :: vs) ++ []) H2 Q (E σ) := by rw [List.append_nil]; exact q2
  exact ⟨I2.kIn, run_fnSD (us := .ref a :: us) (vs := .ref a :: vs) F hr hb .nil (hx σ) I2 (.cons rfl r) hs⟩
theorem pe_methSD0 {pl : Sem Bool} {fa : Addr} {fd : FuncData} {ps : List Str} {sp : Sp} {E : St → XK} {ta : TE} (he : PE X o ta) (hc : ∀ C, X.mg c = some (.ref C) → Cls X.K C ∧ Meth X.K C m fa) (F : FnOk X.prog X.w X.K X.mg X.base (L2N.CX X.prog X.w) k fa fd ps sp) (hr : Room k X.A) (hb : Binds X.K fd ps [])
    (hx : ∀ σ, PassesAt (L2N.CX X.prog X.w) X σ (E σ))
    (ht : eval (.Call (.Attribute o m apos) [] [] pos) X.env = (do
      let ov ← eval o X.env
      standAt apos.atName
      let (f, first) ← holding [ov] (getMethod ov m pl)
      callWith pos f first (backTo pos (starEach [] X.env)) (backToKw pos (keywordEach [] X.env))) := by rfl) :
    PE X (.Call (.Attribute o m apos) [] [] pos) (tMethSD c X.mg m sp E ta tNil) := by
  refine ⟨fun pins s σ H Q I h => PySem.W.methodCall_KW (pl := pl) (thn (he.run pins s σ H _ I h) fun u s1 hh => ?_) ht⟩
  obtain ⟨x, H1, I1, rx, a, C, dx, fs, ex, em, ea, l, q⟩ := hh
  subst ex
  have hu : u = Value.ref a := rx
  subst hu
  obtain ⟨hcl, hmt⟩ := hc C em
  refine getmeth_ok I1 ea hcl hmt l ?_
  have hs : sp ([V.ref a] ++ []) H1 Q (E σ) := q
  exact PySem.W.callWith_K0 (first := [.ref a]) I1.kIn hmt.kp (run_fnSD (us := [.ref a]) (vs := [.ref a]) F hr hb .nil (hx σ) I1 (.cons rfl .nil) hs)
theorem is_obj {S : Sto} {d : D} {ρ : List Addr} {H : Hp} {v : V} (rs : RS X.K X.mg ρ H S) (h : isO S c m d = true) (r : RV X.K X.mg ρ H d v) : ∃ a C dx vs, v = .ref a ∧ X.mg c = some (.ref C) ∧ H a = some (.ins C dx vs) ∧ vs.lookup m = none := by
  unfold isO at h
  split at h
  · rename_i n
    obtain ⟨a, rfl, pa⟩ := r
    split at h
    · rename_i c' fs hs
      simp only [Bool.and_eq_true, decide_eq_true_eq] at h
      obtain ⟨rfl, hn⟩ := h
      obtain ⟨C, dx, vs, hm, hH, hv⟩ := rs.obj pa hs
      refine ⟨a, C, dx, vs, rfl, hm, hH, (rfs_look m hv).2 ?_⟩
      cases hl : fs.lookup m with
      | none => rfl
      | some z => rw [hl] at hn; cases hn
    · cases h
  · cases h
theorem me_met {pl : Sem Bool} (T : ClsO X.K X.mg c flds) (F : MetM X.prog X.w X.K X.mg X.base c m k mf) (hr : Room k X.A) (tk : L2N.Takes X W) (he : PE X o (tM X.K X.mg W mo_)) (ha : PA X (e :: es) (tMA X.K X.mg W mr)) (hst : starEach (e :: es) X.env = (false, eval e X.env) :: starEach es X.env := by rfl) (hpl : (backTo pos (starEach es X.env)).any (·.1) = false := by rfl)
    (ht : eval (.Call (.Attribute o m apos) (e :: es) [] pos) X.env = (do
      let ov ← eval o X.env
      standAt apos.atName
      let (f, first) ← holding [ov] (getMethod ov m pl)
      callWith pos f first (backTo pos (starEach (e :: es) X.env)) (backToKw pos (keywordEach [] X.env))) := by rfl) :
    PE X (.Call (.Attribute o m apos) (e :: es) [] pos) (tM X.K X.mg W (mMet c m mf mo_ mr)) := by
  obtain ⟨fa, fd, ps, hm, hb, F⟩ := F.ex
  refine PE.imp (pe_methSD (c := c) (E := WE W) he (fun C hC => ⟨(T.ok C hC).1, hm C hC⟩) F hr hb (fun σ => L2N.passAt tk σ) ha hst hpl ht) fun σ H Q ⟨ρ, e, S, re, rs, g⟩ => ⟨ρ, e, S, re, rs, GoodG.bind g fun d S1 x H1 ρ1 _ p1 k1 rs1 r1 g1 => ?_⟩
  split at g1
  · rename_i hi
    obtain ⟨a, C, dx, vs, rfl, hmc, hH, hl⟩ := is_obj rs1 hi r1
    refine ⟨a, C, dx, vs, rfl, hmc, hH, hl, ρ1, e, S1, re.mono p1 k1, rs1, GoodG.bind g1 fun ds S2 xs H2 ρ2 _ p2 k2 rs2 r2 g2 => ?_⟩
    exact ⟨ρ2, S2, d :: ds, rs2, ⟨_, _, rfl, r1.mono p2 k2, r2⟩, good_E2W g2⟩
  · exact g1.elim
theorem me_met0 {pl : Sem Bool} (T : ClsO X.K X.mg c flds) (F : MetM X.prog X.w X.K X.mg X.base c m k mf) (hr : Room k X.A) (tk : L2N.Takes X W) (he : PE X o (tM X.K X.mg W mo_))
    (ht : eval (.Call (.Attribute o m apos) [] [] pos) X.env = (do
      let ov ← eval o X.env
      standAt apos.atName
      let (f, first) ← holding [ov] (getMethod ov m pl)
      callWith pos f first (backTo pos (starEach [] X.env)) (backToKw pos (keywordEach [] X.env))) := by rfl) :
    PE X (.Call (.Attribute o m apos) [] [] pos) (tM X.K X.mg W (mMet c m mf mo_ aNil)) := by
  obtain ⟨fa, fd, ps, hm, hb, F⟩ := F.ex
  refine PE.imp (pe_methSD0 (c := c) (E := WE W) he (fun C hC => ⟨(T.ok C hC).1, hm C hC⟩) F hr hb (fun σ => L2N.passAt tk σ) ht) fun σ H Q ⟨ρ, e, S, re, rs, g⟩ => ⟨ρ, e, S, re, rs, GoodG.bind g fun d S1 x H1 ρ1 _ p1 k1 rs1 r1 g1 => ?_⟩
  split at g1
  · rename_i hi
    obtain ⟨a, C, dx, vs, rfl, hmc, hH, hl⟩ := is_obj rs1 hi r1
    refine ⟨a, C, dx, vs, rfl, hmc, hH, hl, ?_⟩
    exact ⟨ρ1, S1, [d], rs1, ⟨_, _, rfl, r1, rfl⟩, good_E2W g1⟩
  · exact g1.elim
theorem mk_good {σ : St} {ρ : List Addr} {H : Hp} {S : Sto} {ds : List D} {vs : List V} {Q : VK} (hx : ∃ C, X.mg c = some (.ref C)) (rs : RS X.K X.mg ρ H S) (r : RVs X.K X.mg ρ H ds vs)
    (g : GoodG X.K X.mg W (RV X.K X.mg) σ ρ H (((mf (.loc S.length :: ds) (S ++ [.obj c []])).cold).bind fun v S2 => match v with
      | .non => .ok (.loc S.length) S2
      | _ => .stuck) Q) (C : Addr) (hC : X.mg c = some (.ref C)) (a dx : Addr) (na : H a = none) (nd : H dx = none) (ne : dx ≠ a) :
    spM X.K X.mg mf (.ref a :: (vs ++ [])) (upd (upd H dx (.own a)) a (.ins C dx [])) (fun v H2 => v = .non ∧ Q (.ref a) H2) (fun _ _ _ => False) := by
  rw [List.append_nil]
  have k1 : Keep H (upd H dx (.own a)) := Keep.new nd
  have na2 : upd H dx (.own a) a = none := by rw [upd_ne (Ne.symm ne)]; exact na
  have k2 : Keep (upd H dx (.own a)) (upd (upd H dx (.own a)) a (.ins C dx [])) := Keep.new na2
  have rs2 : RS X.K X.mg (ρ ++ [a]) (upd (upd H dx (.own a)) a (.ins C dx [])) (S ++ [.obj c []]) := (rs.new nd).alloc na2 ⟨C, dx, [], hC, upd_same, rfl⟩
  have ra : (ρ ++ [a])[S.length]? = some a := by rw [← rs.len]; simp
  refine ⟨ρ ++ [a], S ++ [.obj c []], .loc S.length :: ds, rs2, ⟨_, _, rfl, ⟨a, rfl, ra⟩, RVs.mono (Pre.app _ _) (k1.trans k2) _ _ r⟩, ?_⟩
  cases hm : mf (.loc S.length :: ds) (S ++ [.obj c []]) with
  | ok d S2 =>
    rw [hm] at g
    intro v H' ρ' p kk rs' rv
    cases d with
    | non =>
      refine ⟨rv, ?_⟩
      exact g (.ref a) H' ρ' ((Pre.app _ _).trans p) ((k1.trans k2).trans kk) rs' ⟨a, rfl, p _ _ ra⟩
    | _ => exact g.elim
  | exc cc fs S2 => rw [hm] at g; exact g.elim
  | stuck => rw [hm] at g; exact g.elim
theorem me_make (F : MkM X.prog X.w X.K X.mg X.base c k mf) (hr : Room (k + 1) X.A) (hg : Gl X c) (ha : PA X (e :: es) (tMA X.K X.mg W mr)) (hdb : (c == ("__debug__" : Str)) = false := by decide) (he : starEach (e :: es) X.env = (false, eval e X.env) :: starEach es X.env := by rfl) (hpl : (backTo pos (starEach es X.env)).any (·.1) = false := by rfl) :
    PE X (.Call (.Name c p) (e :: es) [] pos) (tM X.K X.mg W (mMake c mf mr)) := by
  obtain ⟨C, fa, fd, ps, hC, M, hb, F⟩ := F.ex
  refine PE.imp (pe_make (ds := []) (dvs := []) M F hr hg hC hb .nil passN ha hdb he hpl) fun σ H Q ⟨ρ, e, S, re, rs, g⟩ => ⟨ρ, e, S, re, rs, GoodG.bind g fun ds S1 vs H1 ρ1 _ p1 k1 rs1 r1 g1 => ?_⟩
  exact fun a dx na nd ne => mk_good ⟨C, hC⟩ rs1 r1 g1 C hC a dx na nd ne
theorem me_make0 (F : MkM X.prog X.w X.K X.mg X.base c k mf) (hr : Room (k + 1) X.A) (hg : Gl X c) (hdb : (c == ("__debug__" : Str)) = false := by decide) :
    PE X (.Call (.Name c p) [] [] pos) (tM X.K X.mg W (mMake c mf aNil)) := by
  obtain ⟨C, fa, fd, ps, hC, M, hb, F⟩ := F.ex
  refine PE.imp (pe_make0 (ds := []) (dvs := []) M F hr hg hC hb .nil passN hdb) fun σ H Q ⟨ρ, e, S, re, rs, g⟩ => ?_
  exact fun a dx na nd ne => mk_good (vs := []) ⟨C, hC⟩ rs (show RVs X.K X.mg ρ H [] [] from rfl) g C hC a dx na nd ne
end
/-! ### the facts of methods -/
structure HasM (K : PySem.W.Frag) (mg : Str → Option Value) (c m qual : Str) (st : Stmt) (ps : List Str) : Prop where
  ex : ∃ (C f : Addr) (fd : FuncData), mg c = some (.ref C) ∧ Meth K C m f ∧ Fun K m qual st f fd ∧ Binds K fd ps []
structure HasI (K : PySem.W.Frag) (mg : Str → Option Value) (c qual : Str) (st : Stmt) (ps : List Str) : Prop where
  ex : ∃ (C f : Addr) (fd : FuncData), mg c = some (.ref C) ∧ Mk K C f ∧ Fun K "__init__" qual st f fd ∧ Binds K fd ps []
section
variable {P : Program} {w : World} {K : PySem.W.Frag} {mg : Str → Option Value} {base : Heap}
theorem MetM.ofH {c m qual : Str} {st : Stmt} {N ps : List Str} {k : Nat} {body : MS} (T : HasM K mg c m qual st ps) (S : FnScope N ps (defScope st))
    (h : ∀ (f : Addr) (cdv : Value) (A : Around) (outer : List Env) (s : Shared) (H : Hp) (E : XK), MX (cxOf (L2N.CX P w) P w K mg base N qual (defScope st) f cdv A outer s H E) (E2W E) k →
      PSs (cxOf (L2N.CX P w) P w K mg base N qual (defScope st) f cdv A outer s H E) (defBody st) (tMS K mg (E2W E) body)) : MetM P w K mg base c m (k + 1) (mDef N.length ps.length body) := by
  obtain ⟨C, f, fd, hC, hM, F, hb⟩ := T.ex
  refine ⟨f, fd, ps, fun C' hC' => ?_, hb, FnM.okOf F S fun cdv A outer s H E hx => h f cdv A outer s H E hx⟩
  rw [hC] at hC'
  cases hC'
  exact hM
theorem MetM.bot {c m qual : Str} {st : Stmt} {N ps : List Str} {k : Nat} (T : HasM K mg c m qual st ps) (S : FnScope N ps (defScope st)) : MetM P w K mg base c m (k + 1) (fun _ _ => .stuck) := by
  obtain ⟨C, f, fd, hC, hM, F, hb⟩ := T.ex
  refine ⟨f, fd, ps, fun C' hC' => ?_, hb, ?_⟩
  · rw [hC] at hC'
    cases hC'
    exact hM
  · obtain ⟨oc, od, kV, doc, pm, an, cdv, ct, osl, rfl, lk, hcd⟩ := F.ex
    refine fn_of lk hcd S (fun vs H Q E hsp => ?_) fun A outer s H vs Q E hr hsp => ?_
    · obtain ⟨ρ, S', ds, rs, rv, g⟩ := hsp
      exact g.elim
    · obtain ⟨ρ, S', ds, rs, rv, g⟩ := hsp
      exact g.elim
theorem MkM.ofH {c qual : Str} {st : Stmt} {N ps : List Str} {k : Nat} {body : MS} (T : HasI K mg c qual st ps) (S : FnScope N ps (defScope st))
    (h : ∀ (f : Addr) (cdv : Value) (A : Around) (outer : List Env) (s : Shared) (H : Hp) (E : XK), MX (cxOf (L2N.CX P w) P w K mg base N qual (defScope st) f cdv A outer s H E) (E2W E) k →
      PSs (cxOf (L2N.CX P w) P w K mg base N qual (defScope st) f cdv A outer s H E) (defBody st) (tMS K mg (E2W E) body)) : MkM P w K mg base c (k + 1) (mDef N.length ps.length body) := by
  obtain ⟨C, f, fd, hC, hM, F, hb⟩ := T.ex
  exact ⟨C, f, fd, ps, hC, hM, hb, FnM.okOf F S fun cdv A outer s H E hx => h f cdv A outer s H E hx⟩
variable {h : Heap}
theorem clsO_mk {c : Str} {flds : List Str} {C : Addr} (X : K.In h) (G : h.Ns mainGlobals mg) (a : PySem.W.nsIn K mainGlobals c = some (some (.ref C))) (pg : PySem.W.plainGet K C Str.empty = true) (hd : PySem.W.hasDictIn K C = true) (po : PySem.W.plainOver K C = true)
    (sa : PySem.W.findIn K (.ref C) "__setattr__" = some (some (.builtin "object.__setattr__"))) (no : ∀ f ∈ flds, PySem.W.findIn K (.ref C) f = some none) : ClsO K mg c flds := ⟨fun C' hC' => by
  have e := (PySem.W.mg_of X G a).symm.trans hC'
  cases e
  exact ⟨⟨pg, hd, po, sa⟩, no⟩⟩
theorem hasM_mk {c m qual : Str} {st : Stmt} {ps : List Str} {C f : Addr} {oc : Value} {od an : Option Addr} {osl : Array (Option Value)} {kV doc pm cdv ct : Value} (X : K.In h) (G : h.Ns mainGlobals mg)
    (b : ∀ (kV doc pm : Value) (an : Option Addr) (cdv ct : Value) (us : List Value), us.length = ps.length → bindArgs (PySem.W.fnOf m qual (defArgs st) (defBody st) (defScope st) .none kV doc pm an cdv ct) ⟨us, []⟩ = pure (ps.zip us))
    (a : PySem.W.nsIn K mainGlobals c = some (some (.ref C))) (at_ : PySem.W.findIn K (.ref C) m = some (some (.ref f))) (fn : PySem.W.isFn K (.ref f) = true) (l : K.lookup f = some ⟨oc, od, .func (PySem.W.fnOf m qual (defArgs st) (defBody st) (defScope st) .none kV doc pm an cdv ct), osl⟩)
    (cc : PySem.W.codeIn K cdv qual = true) (k : PySem.W.keepIn K (.ref f) = true) : HasM K mg c m qual st ps := by
  have F := fun_mk (st := st) l cc k
  exact ⟨C, f, _, PySem.W.mg_of X G a, ⟨at_, fn, k⟩, F, F.binds (ps := ps) b⟩
theorem hasI_mk {c qual : Str} {st : Stmt} {ps : List Str} {C f : Addr} {oc : Value} {od an : Option Addr} {osl : Array (Option Value)} {kV doc pm cdv ct : Value} (X : K.In h) (G : h.Ns mainGlobals mg)
    (b : ∀ (kV doc pm : Value) (an : Option Addr) (cdv ct : Value) (us : List Value), us.length = ps.length → bindArgs (PySem.W.fnOf "__init__" qual (defArgs st) (defBody st) (defScope st) .none kV doc pm an cdv ct) ⟨us, []⟩ = pure (ps.zip us))
    (a : PySem.W.nsIn K mainGlobals c = some (some (.ref C))) (at_ : PySem.W.findIn K (.ref C) "__init__" = some (some (.ref f))) (fn : PySem.W.isFn K (.ref f) = true) (l : K.lookup f = some ⟨oc, od, .func (PySem.W.fnOf "__init__" qual (defArgs st) (defBody st) (defScope st) .none kV doc pm an cdv ct), osl⟩)
    (cc : PySem.W.codeIn K cdv qual = true) (k : PySem.W.keepIn K (.ref f) = true) (mk : PySem.W.makesIn K C = true) (kc : PySem.W.keepIn K (.ref C) = true) : HasI K mg c qual st ps := by
  have F := fun_mk (st := st) l cc k
  exact ⟨C, f, _, PySem.W.mg_of X G a, ⟨mk, at_, fn, kc⟩, F, F.binds (ps := ps) b⟩
end
end M2
end

section
set_option Elab.async false
set_option linter.all false
set_option maxRecDepth 100000
set_option maxHeartbeats 4000000
/-! M39: find with bounds. -/
namespace M2
open PySem PySem.Spec PyProof.Rows L2
set_option autoImplicit false
def oFind2 : OpM := fun x as S => match x, as with
  | .str a, [.str b, .int i] => some (.int (Txt.find3 a b i), S)
  | .str a, [.str b, .int i, .int j] => some (.int (Txt.findIn a b i j), S)
  | _, _ => oFind x as S
section
variable {X : Cx}
theorem mm_find2 : MtR X "str.find" (rMM X.K X.mg oFind2) := by
  intro pins s σ H x xs v us Q I rx rxs ⟨ρ, S, d, ds, d3, S3, rs, r1, r2, e, q⟩
  unfold oFind2 at e
  split at e
  · obtain ⟨y, ys, rfl, ry, z, zs, rfl, rz, r0⟩ := r2
    cases r1; cases ry; cases rz; cases r0; cases e
    exact mt_find3 pins s σ H _ _ v us Q I rx rxs ⟨_, _, _, rfl, rfl, q.now rs rfl⟩
  · obtain ⟨y, ys, rfl, ry, z, zs, rfl, rz, z2, zs2, rfl, rz2, r0⟩ := r2
    cases r1; cases ry; cases rz; cases rz2; cases r0; cases e
    exact mt_find4 pins s σ H _ _ v us Q I rx rxs ⟨_, _, _, _, rfl, rfl, q.now rs rfl⟩
  · exact mm_find pins s σ H x xs v us Q I rx rxs ⟨ρ, S, d, ds, d3, S3, rs, r1, r2, e, q⟩
end
/-! the first place of a sign -/
theorem occ_stop (s sub : Str) (hi : Nat) : ∀ (l : List Nat) (st : Array Nat × Nat), 1 ≤ st.fst.size → (forIn l st (StrLaws.occBody s sub hi 1)).run.fst = st.fst
  | [], st, h => rfl
  | a :: l, st, h => by
    rw [List.forIn_cons]
    unfold StrLaws.occBody
    rw [if_neg (fun q => by have := q.1.1.1; omega)]
    exact occ_stop s sub hi l st h
theorem occ_first (s sub : Str) (hi : Nat) : ∀ (l : List Nat) (free : Nat), (∀ i ∈ l, free ≤ i) →
    (forIn l ((#[] : Array Nat), free) (StrLaws.occBody s sub hi 1)).run.fst.toList = (l.find? fun i => decide (i + sub.length ≤ hi ∧ Builtin.Str.subAt s sub i = true)).toList
  | [], free, _ => rfl
  | a :: l, free, hf => by
    rw [List.forIn_cons]
    have ha : free ≤ a := hf a List.mem_cons_self
    by_cases hc : a + sub.length ≤ hi ∧ Builtin.Str.subAt s sub a = true
    · rw [List.find?_cons_of_pos (by simpa using hc)]
      unfold StrLaws.occBody
      rw [if_pos ⟨⟨⟨by simp, ha⟩, hc.1⟩, hc.2⟩]
      have := occ_stop s sub hi l ((#[] : Array Nat).push a, a + sub.length) (by simp)
      show (forIn l ((#[] : Array Nat).push a, a + sub.length) (StrLaws.occBody s sub hi 1)).run.fst.toList = _
      rw [this]
      rfl
    · rw [List.find?_cons_of_neg (by simpa using hc)]
      unfold StrLaws.occBody
      rw [if_neg (fun q => hc ⟨q.1.2, q.2⟩)]
      exact occ_first s sub hi l free fun i hi' => hf i (List.mem_cons_of_mem _ hi')
/-- a sign's first place from i on, ahead of j -/
def FndP (c : Nat) (a : List Nat) (i j : Nat) (r : Int) : Prop := (r = -1 ∧ ∀ k, i ≤ k → k < j → a[k]? ≠ some c) ∨ ∃ k : Nat, r = (k : Int) ∧ i ≤ k ∧ k < j ∧ a[k]? = some c ∧ ∀ m, i ≤ m → m < k → a[m]? ≠ some c
theorem find_range {p : Nat → Bool} : ∀ {n lo : Nat}, ((List.range' lo n).find? p = none ∧ ∀ k, lo ≤ k → k < lo + n → p k = false) ∨ ∃ k, (List.range' lo n).find? p = some k ∧ lo ≤ k ∧ k < lo + n ∧ p k = true ∧ ∀ m, lo ≤ m → m < k → p m = false
  | 0, lo => .inl ⟨rfl, fun k h1 h2 => by omega⟩
  | n + 1, lo => by
    rw [List.range'_succ]
    cases hp : p lo with
    | true => exact .inr ⟨lo, by rw [List.find?_cons_of_pos hp], Nat.le_refl _, by omega, hp, fun m h1 h2 => by omega⟩
    | false =>
      rw [List.find?_cons_of_neg (by rw [hp]; exact Bool.false_ne_true)]
      rcases find_range (p := p) (n := n) (lo := lo + 1) with ⟨h1, h2⟩ | ⟨k, h1, h2, h3, h4, h5⟩
      · refine .inl ⟨h1, fun k a b => ?_⟩
        by_cases hk : k = lo
        · rw [hk]; exact hp
        · exact h2 k (by omega) (by omega)
      · refine .inr ⟨k, h1, by omega, by omega, h4, fun m a b => ?_⟩
        by_cases hk : m = lo
        · rw [hk]; exact hp
        · exact h5 m (by omega) b
theorem fnd_in {a : Str} {c i j : Nat} : FndP c a.cps.toList i (min j a.length) (Txt.findIn a ⟨#[c]⟩ (i : Int) (j : Int)) := by
  have ei : fromIndex a.length (i : Int) = i := by
    unfold fromIndex
    rw [if_neg (by omega)]; omega
  have ej : toIndexW a.length (j : Int) = min j a.length := by
    unfold toIndexW
    rw [if_neg (by omega)]; omega
  unfold Txt.findIn
  rw [ei, ej, StrLaws.occ_eq, occ_first _ _ _ _ _ (fun k hk => by rw [List.mem_range'_1] at hk; omega)]
  generalize hn : min j a.length = n
  have hle : n ≤ a.length := by omega
  have hl : (⟨#[c]⟩ : Str).length = 1 := rfl
  have key : ∀ k, decide (k + (⟨#[c]⟩ : Str).length ≤ n ∧ Builtin.Str.subAt a ⟨#[c]⟩ k = true) = decide (k < n ∧ a.cps.toList[k]? = some c) := fun k => by
    rw [decide_eq_decide, hl]
    have h1 := StrLaws.subAt_one a c k
    rw [hl] at h1
    constructor
    · rintro ⟨h2, h3⟩
      exact ⟨by omega, h1.mp ⟨by omega, h3⟩⟩
    · rintro ⟨h2, h3⟩
      exact ⟨by omega, (h1.mpr h3).2⟩
  rcases find_range (p := fun k => decide (k + (⟨#[c]⟩ : Str).length ≤ n ∧ Builtin.Str.subAt a ⟨#[c]⟩ k = true)) (n := n + 1 - i) (lo := i) with ⟨h1, h2⟩ | ⟨k, h1, h2, h3, h4, h5⟩
  · rw [h1]
    refine .inl ⟨rfl, fun k a1 a2 => ?_⟩
    have h3 := h2 k a1 (by omega)
    rw [key, decide_eq_false_iff_not] at h3
    exact fun q => h3 ⟨a2, q⟩
  · rw [h1]
    rw [key, decide_eq_true_eq] at h4
    refine .inr ⟨k, rfl, h2, h4.1, h4.2, fun m a1 a2 => ?_⟩
    have h6 := h5 m a1 a2
    rw [key, decide_eq_false_iff_not] at h6
    exact fun q => h6 ⟨by omega, q⟩
theorem fnd_3 {a : Str} {c i : Nat} : FndP c a.cps.toList i a.length (Txt.find3 a ⟨#[c]⟩ (i : Int)) := by
  have h := fnd_in (a := a) (c := c) (i := i) (j := a.length)
  rw [Nat.min_self] at h
  have e : Txt.findIn a ⟨#[c]⟩ (i : Int) (a.length : Int) = Txt.find3 a ⟨#[c]⟩ (i : Int) := by
    unfold Txt.findIn Txt.find3
    have ej : toIndexW a.length (a.length : Int) = a.length := by
      unfold toIndexW
      rw [if_neg (by omega)]; omega
    rw [ej]
    cases Builtin.Str.occurrences a ⟨#[c]⟩ (fromIndex a.length (i : Int)) a.length 1 <;> rfl
  rw [e] at h
  exact h
end M2
end

section
set_option Elab.async false
set_option linter.all false
set_option maxRecDepth 100000
/-! V9: running objects; finds. -/
namespace P0
open PySem PySem.Spec M2
set_option autoImplicit false
theorem lk_no {f g : Str} {d : D} {fs : List (Str × D)} (h : ¬ g = f) : List.lookup f ((g, d) :: fs) = List.lookup f fs := by
  rw [List.lookup_cons, show (f == g) = false from beq_eq_false_iff_ne.mpr (Ne.symm h)]
theorem lk_yes {f : Str} {d : D} {fs : List (Str × D)} : List.lookup f ((f, d) :: fs) = some d := by
  rw [List.lookup_cons, beq_self_eq_true]
section
variable {S : Sto} {n : Nat} {c f m : Str} {fs fs' : List (Str × D)} {d : D} {Q : D → Sto → Prop} {X : XQ}
theorem get_obj (h : S[n]? = some (.obj c fs)) (hf : fs.lookup f = some d) (q : Q d S) : Ev (lift (oGetF c f (.loc n) S)) Q X := by
  refine w_lift (d := d) (S' := S) ?_ q
  unfold oGetF
  simp only [h, if_true, hf]
  rfl
theorem put_obj (h : S[n]? = some (.obj c fs)) (hl : fs.length < 1000) (e : putFD f d fs = fs') : oPutF c f (.loc n) d S = some (S.set n (.obj c fs')) := by
  unfold oPutF
  simp only [h]
  rw [if_pos ⟨trivial, hl⟩, e]
theorem is_obj_of (h : S[n]? = some (.obj c fs)) (hf : fs.lookup m = none) : isO S c m (.loc n) = true := by
  unfold isO
  simp only [h, hf]
  simp
variable {e : Nv} {ma mb : MV} {mr : MA} {mf : MF}
theorem w_met (h : Ev (ma e S) (fun x S1 => isO S1 c m x = true ∧ Ev (mr e S1) (fun ds S2 => Ev (mf (x :: ds) S2) Q X) X) X) : Ev (mMet c m mf ma mr e S) Q X := Ev.bind (h.imp fun x S1 ⟨h1, h2⟩ => by
  show Ev (if isO S1 c m x = true then _ else _) Q X
  rw [if_pos h1]
  exact Ev.bind h2)
theorem w_make (h : Ev (mr e S) (fun ds S1 => Ev (mf (.loc S1.length :: ds) (S1 ++ [.obj c []])) (fun d S2 => d = .non ∧ Q (.loc S1.length) S2) noX) X) : Ev (mMake c mf mr e S) Q X := Ev.bind (h.imp fun ds S1 h1 => Ev.bind (Ev.cold (h1.imp fun d S2 ⟨h2, h3⟩ => by
  subst h2
  exact h3)))
variable {N : Nv → Sto → Prop} {R : D → Sto → Prop} {B C : Nv → Sto → Prop} {Z : Str → List (Str × D) → Nv → Sto → Prop}
theorem w_putF (h : Ev (ma e S) (fun d S1 => Ev (mb e S1) (fun o S2 => ∃ S3, oPutF c f o d S2 = some S3 ∧ N e S3) fun c fs S1 => Z c fs e S1) fun c fs S1 => Z c fs e S1) : Es (sPutF c f ma mb e S) N R B C Z :=
  Es.bindS (h.imp fun d S1 g => Es.bindS (g.imp fun o S2 ⟨S3, h1, g⟩ => by
    show Es (match oPutF c f o d S2 with
      | some S3 => .nx e S3
      | none => .stuck) N R B C Z
    rw [h1]; exact g))
/-- o.f += i where the value leaves the store -/
theorem w_augFI (h : Ev (ma e S) (fun o S1 => ∃ i j : Int, oGetF c f o S1 = some (.int i, S1) ∧ mb e S1 = .ok (.int j) S1 ∧ ∃ S3, oPutF c f o (.int (i + j)) S1 = some S3 ∧ N e S3) fun c fs S1 => Z c fs e S1) : Es (sAugFI c f ma mb e S) N R B C Z :=
  Es.bindS (h.imp fun o S1 ⟨i, j, h1, h2, S3, h3, g⟩ => by
    show Es (match oGetF c f o S1 with
      | some (.int i, _) => (mb e S1).bindS e fun d S2 => match d with
        | .int j => match oPutF c f o (.int (i + j)) S2 with
          | some S3 => .nx e S3
          | none => .stuck
        | _ => .stuck
      | _ => .stuck) N R B C Z
    rw [h1]
    simp only [h2, Rs.bindS, h3]
    exact g)
theorem o_find4 {a : List Nat} {ch i j : Nat} (q : ∀ r : Int, FndP ch a i (min j a.length) r → Q (.int r) S) : Ev (lift (oFind2 (.str (T a)) [.str (T [ch]), .int (i : Int), .int (j : Int)] S)) Q X := by
  refine w_lift (d := .int (Txt.findIn (T a) (T [ch]) (i : Int) (j : Int))) (S' := S) rfl (q _ ?_)
  have h := fnd_in (a := T a) (c := ch) (i := i) (j := j)
  rw [T_len, T_cps] at h
  exact h
theorem o_find3 {a : List Nat} {ch i : Nat} (q : ∀ r : Int, FndP ch a i a.length r → Q (.int r) S) : Ev (lift (oFind2 (.str (T a)) [.str (T [ch]), .int (i : Int)] S)) Q X := by
  refine w_lift (d := .int (Txt.find3 (T a) (T [ch]) (i : Int))) (S' := S) rfl (q _ ?_)
  have h := fnd_3 (a := T a) (c := ch) (i := i)
  rw [T_len, T_cps] at h
  exact h
end
theorem pre_one {c : Nat} {l : List Nat} : TL.pre [c] l = decide (l.head? = some c) := by
  cases l with
  | nil => rfl
  | cons a r =>
    show ([a] == [c]) = _
    rw [Bool.eq_iff_iff]
    simp
theorem o_starts1 {S : Sto} {Q : D → Sto → Prop} {X : XQ} {a : List Nat} {c : Nat} (q : Q (.bl (decide (a.head? = some c))) S) : Ev (lift (oStartswith (.str (T a)) [.str (T [c])] S)) Q X := o_starts (List.cons_ne_nil _ _) (by rw [pre_one]; exact q)
theorem ends_one {a : List Nat} {c : Nat} : Txt.endswith (T a) (T [c]) = decide (a.getLast? = some c) := by
  have e : Txt.endswith (T a) (T [c]) = (decide (0 + (T [c]).length ≤ (T a).length) && Builtin.Str.subAt (T a) (T [c]) ((T a).length - (T [c]).length)) := rfl
  rw [e, T_len, T_len, List.length_singleton, List.getLast?_eq_getElem?]
  have h := StrLaws.subAt_one (T a) c (a.length - 1)
  rw [T_len, show ((⟨#[c]⟩ : Str)).length = 1 from rfl, T_cps] at h
  rw [Bool.eq_iff_iff, Bool.and_eq_true, decide_eq_true_eq, decide_eq_true_eq]
  constructor
  · rintro ⟨h1, h2⟩
    exact h.mp ⟨by omega, h2⟩
  · intro h1
    have h2 := h.mpr h1
    exact ⟨by omega, h2.2⟩
theorem o_ends1 {S : Sto} {Q : D → Sto → Prop} {X : XQ} {a : List Nat} {c : Nat} (q : Q (.bl (decide (a.getLast? = some c))) S) : Ev (lift (oEndswith (.str (T a)) [.str (T [c])] S)) Q X := w_lift (d := .bl (decide (a.getLast? = some c))) (S' := S) (by
  show some (D.bl (Txt.endswith (T a) (T [c])), S) = _
  rw [ends_one]) q
theorem any_mem {n : Nat} {d : D} (hd : PlD n d) : ∀ {xs : List D}, (∀ x ∈ xs, PlD n x) → ((xs.map (embA n)).any (fun z => PyData.eqv z (embA n d)) = true ↔ d ∈ xs)
  | [], _ => by simp
  | x :: xs, h => by
    rw [List.map_cons, List.any_cons, Bool.or_eq_true, emb_eq x d (h x List.mem_cons_self) hd, any_mem hd fun y hy => h y (List.mem_cons_of_mem _ hy), List.mem_cons]
    exact or_congr ⟨Eq.symm, Eq.symm⟩ Iff.rfl
/-- in a list of plain data -/
theorem o_inPL {S : Sto} {Q : D → Sto → Prop} {X : XQ} {n i : Nat} {w : Bool} {d : D} {xs : List D} (hn : n ≤ 60) (h : S[i]? = some (.lst w xs)) (hx : ∀ d ∈ xs, PlD n d) (hd : PlD n d) (q : ∀ k : Bool, (k = true ↔ d ∈ xs) → Q (.bl k) S) : Ev (lift (oIn2 d (.loc i) S)) Q X := by
  have e1 : toP 65 S (.loc i) = some (.list (xs.map (embA n))) := by
    show (match S[i]? with
      | some (.lst _ ds) => (ds.mapM (toP 64 S)).map PyData.list
      | _ => none) = _
    rw [h]
    show (xs.mapM (toP 64 S)).map PyData.list = _
    rw [mapM_mem fun d hd => toP_mono (emb_toP (S := S) (hx d hd)) (m := 64) (by omega) (Gr.refl S)]; rfl
  have e2 := toP_mono (emb_toP (S := S) hd) (m := 65) (by omega) (Gr.refl S)
  have s1 : SeqAt.shaped (.list (xs.map (embA n))) = true := by
    obtain ⟨l, d⟩ := layAll (xs := xs.map (embA n)) (n := n) fun x hx' => by
      obtain ⟨d, hd, rfl⟩ := List.mem_map.mp hx'
      exact emb_lay (hx d hd)
    show (PyData.canLayAll0 _ && decide (PyData.depthAll _ + 1 ≤ 64)) = true
    rw [l, decide_eq_true (by omega)]; rfl
  have s2 : SeqAt.shaped (embA n d) = true := by
    obtain ⟨l2, d2⟩ := emb_lay hd
    show ((embA n d).canLay0 && decide ((embA n d).depth ≤ 64)) = true
    rw [l2, decide_eq_true (by omega)]; rfl
  have e : inD2 S d (.loc i) = some ((xs.map (embA n)).any fun z => PyData.eqv z (embA n d)) := by
    show (match S[i]? with
      | some (.dic kvs) => (keyD d).map fun k => (getD' kvs k).isSome
      | _ => inD S d (.loc i)) = _
    rw [h]
    show (match toP 65 S d, toP 65 S (.loc i) with
      | some p, some (.list ds) => if (SeqAt.shaped p && SeqAt.shaped (.list ds)) = true then some (ds.any fun z => PyData.eqv z p) else none
      | some p, some (.tuple ds) => if (SeqAt.shaped p && SeqAt.shaped (.tuple ds)) = true then some (ds.any fun z => PyData.eqv z p) else none
      | _, _ => none) = _
    rw [e1, e2]
    simp only [s1, s2]
    rfl
  refine w_lift (d := .bl ((xs.map (embA n)).any fun z => PyData.eqv z (embA n d))) (S' := S) ?_ (q _ (any_mem hd hx))
  show (inD2 S d (.loc i)).map _ = _
  rw [e]; rfl
theorem o_ixLastN {S : Sto} {Q : D → Sto → Prop} {X : XQ} {i : Nat} {w : Bool} {ws : List (List Nat)} (h : S[i]? = some (.lst w (strT ws))) (hne : ws ≠ []) (q : Q (.str (T (ws.getLastD []))) S) : Ev (lift (oIx (.loc i) (.int (-1)) S)) Q X := by
  have e : ws = ws.dropLast ++ [ws.getLastD []] := by
    rw [List.getLastD_eq_getLast?, List.getLast?_eq_some_getLast hne]
    exact (List.dropLast_concat_getLast hne).symm
  have e2 : strT ws = strT ws.dropLast ++ [.str (T (ws.getLastD []))] := by
    conv => lhs; rw [e]
    exact List.map_append
  rw [e2] at h
  exact o_ixLast h q
theorem spl_ne {c : Nat} (w : List Nat) : splC c w ≠ [] := by
  have key : ∀ (l acc : List Nat), TL.spl [c] 0 acc l ≠ [] := by
    intro l
    induction l with
    | nil => intro acc; rw [TL.spl_nil]; exact List.cons_ne_nil _ _
    | cons a r ih =>
      intro acc
      by_cases k : TL.pre [c] (a :: r) = true
      · rw [TL.spl_hit k]; exact List.cons_ne_nil _ _
      · rw [TL.spl_miss (by simpa using k)]; exact ih _
  exact key w []
theorem spl_sum {c : Nat} : ∀ (l acc : List Nat), ((TL.spl [c] 0 acc l).map List.length).sum ≤ acc.length + l.length ∧ (TL.spl [c] 0 acc l).length ≤ l.length + 1
  | [], acc => by rw [TL.spl_nil]; simp
  | a :: r, acc => by
    by_cases k : TL.pre [c] (a :: r) = true
    · have h := spl_sum (c := c) r []
      rw [TL.spl_hit k]
      simp at h ⊢
      omega
    · have h := spl_sum (c := c) r (acc ++ [a])
      rw [TL.spl_miss (by simpa using k)]
      simp at h ⊢
      omega
theorem spl_chs {c : Nat} {P : Nat → Prop} : ∀ (l acc : List Nat), (∀ x ∈ l, P x) → (∀ x ∈ acc, P x) → ∀ p ∈ TL.spl [c] 0 acc l, ∀ x ∈ p, P x
  | [], acc, hl, ha, p, hp => by
    rw [TL.spl_nil] at hp
    rw [List.mem_singleton.mp hp]; exact ha
  | a :: r, acc, hl, ha, p, hp => by
    have hr : ∀ x ∈ r, P x := fun x hx => hl x (List.mem_cons_of_mem _ hx)
    by_cases k : TL.pre [c] (a :: r) = true
    · rw [TL.spl_hit k] at hp
      rcases List.mem_cons.mp hp with rfl | hp
      · exact ha
      · exact spl_chs r [] hr (fun _ h => absurd h List.not_mem_nil) p (by simpa using hp)
    · rw [TL.spl_miss (by simpa using k)] at hp
      refine spl_chs r (acc ++ [a]) hr (fun x hx => ?_) p hp
      rcases List.mem_append.mp hx with h | h
      · exact ha x h
      · rw [List.mem_singleton.mp h]; exact hl a List.mem_cons_self
theorem mem_len {l : List (List Nat)} {w : List Nat} (h : w ∈ l) : w.length ≤ (l.map List.length).sum := by
  induction l with
  | nil => cases h
  | cons a r ih =>
    rw [List.map_cons, List.sum_cons]
    rcases List.mem_cons.mp h with rfl | h
    · omega
    · have := ih h; omega
/-- any slice of a text, by the places of its bounds -/
theorem sl_Tg {S : Sto} {a : List Nat} {lo hi : Option Int} {x y : Nat} (hx : HT.sIx a.length 0 lo = x) (hy : HT.sIx a.length a.length hi = y) (hz : a.length ≤ sizeLine) : oSl (.str (T a)) lo hi S = some (.str (T ((a.take y).drop x)), S) := by
  show (if (T a).length ≤ sizeLine then some (D.str (L2.cutS (T a) lo hi), S) else none) = _
  rw [T_len, if_pos hz]
  have e : L2.cutS (T a) lo hi = T ((a.take y).drop x) := by
    unfold L2.cutS
    rw [T_len, T_cps, hx, hy]
    show T _ = T _
    rw [List.drop_take]
  rw [e]
theorem six_neg1 {n : Nat} (d : Nat) : HT.sIx n d (some (-1)) = n - 1 := by
  unfold HT.sIx
  simp only
  split <;> omega
theorem o_slTm {S : Sto} {Q : D → Sto → Prop} {X : XQ} {a : List Nat} {x : Nat} (hx : x ≤ a.length) (hz : a.length ≤ sizeLine) (q : Q (.str (T ((a.take (a.length - 1)).drop x))) S) : Ev (lift (oSl (.str (T a)) (some (x : Int)) (some (-1)) S)) Q X :=
  w_lift (sl_Tg (x := x) (y := a.length - 1) (by rw [HT.sIx_nat]; omega) (six_neg1 _) hz) q
theorem o_slLm {S : Sto} {Q : D → Sto → Prop} {X : XQ} {n : Nat} {w : Bool} {xs : List D} (hn : S[n]? = some (.lst w xs)) (q : Q (.loc S.length) (S ++ [.lst true xs.dropLast])) : Ev (lift (oSl (.loc n) none (some (-1)) S)) Q X := by
  rw [List.dropLast_eq_take] at q
  exact o_slLnl (k := 1) (by decide) hn q
end P0
end

section
set_option Elab.async false
set_option linter.all false
set_option maxRecDepth 100000
set_option maxHeartbeats 4000000
/-! M40: replace of written texts: a token is out. -/
namespace M2
open PySem PySem.Spec PyProof.Rows L2
set_option autoImplicit false
def oRepl (y z : Str) : Op1 := fun a S => match a with
  | .str x => if x.length + (x.length + 1) * z.length ≤ 16777216 then some (.str (Txt.replace x y z), S) else none
  | _ => none
theorem PET.imp {X : Cx} {e : Expr} {t t' : TE} (h : PET X e t) (k : ∀ σ H Q, t' σ H Q → t σ H Q) : PET X e t' := fun pins s σ H Q h0 I q => h pins s σ H Q h0 I (k _ _ _ q)
theorem PST.imp {X : Cx} {e : Stmt} {t t' : TS} (h : PST X e t) (k : ∀ D σ H, t' D σ H → t D σ H) : PST X e t' := fun pins s σ H D h0 I q => h pins s σ H D h0 I (k _ _ _ q)
theorem PSsT.imp {X : Cx} {e : List Stmt} {t t' : TS} (h : PSsT X e t) (k : ∀ D σ H, t' D σ H → t D σ H) : PSsT X e t' := fun pins s σ H D h0 I q => h pins s σ H D h0 I (k _ _ _ q)
section
variable {X : Cx} {W : WX} {e a b c o : Expr} {ma mb mc : MV} {ta : MT} {pos apos c0 c1 : Pos} {y z y' z' : Str} {j k : Nat} {sa sb : MS} {st : Stmt} {ss rr : List Stmt}
theorem tm_rep (σ : St) (H : Hp) (Q : VK) (h : tM X.K X.mg W (mUn (oRepl y z) ma) σ H Q) : CwR.tReplC (tM X.K X.mg W ma) y z σ H Q := by
  obtain ⟨ρ, e, S, re, rs, g⟩ := h
  refine ⟨ρ, e, S, re, rs, GoodG.bind g fun d S1 v H1 ρ1 _ p1 k1 rs1 r1 g1 => ?_⟩
  unfold lift oRepl at g1
  cases d with
  | str x =>
    cases r1
    simp only at g1
    by_cases hb : x.length + (x.length + 1) * z.length ≤ 16777216
    · rw [if_pos hb] at g1
      exact ⟨x, rfl, hb, GoodG.ok g1 rs1 rfl⟩
    · rw [if_neg hb] at g1
      exact g1.elim
  | _ => exact g1.elim
theorem met_rep (hy : y = y') (hz : z = z') (ho : PET X o (tM X.K X.mg W ma)) (hyz : (y == z) = false := by decide)
    (hst : starEach [.Constant (.str y) j c0, .Constant (.str z) k c1] X.env = [(false, eval (.Constant (.str y) j c0) X.env), (false, eval (.Constant (.str z) k c1) X.env)] := by rfl)
    (hbase : attributeBase o "replace" X.env (eval o X.env) = eval o X.env := by rfl) (hline : (apos.endLine == pos.line) = true := by rfl) :
    PET X (.Call (.Attribute o "replace" apos) [.Constant (.str y) j c0, .Constant (.str z) k c1] [] pos) (tM X.K X.mg W (mUn (oRepl y' z') ma)) := by
  subst hy
  subst hz
  exact PET.imp (CwR.pet_replT ho hyz hst hbase hline) tm_rep
theorem met_bin {op : Operator} {mo : Op2} (ho : OpR X (binaryOp op) (rM2 X.K X.mg mo)) (ha : PET X a (tM X.K X.mg W ma)) (hb : PET X b (tM X.K X.mg W mb)) : PET X (.BinOp a op b pos) (tM X.K X.mg W (mBin mo ma mb)) := PET.imp (CwR.pet_op ho ha hb) tm_op
theorem mst_cons (h1 : PST X st (tMS X.K X.mg W sa)) (h2 : PSsT X ss (tMS X.K X.mg W sb)) : PSsT X (st :: ss) (tMS X.K X.mg W (sSeq sa sb)) := PSsT.imp (psst_cons h1 h2) ts_seq
theorem mst_nil : PSsT X [] (tMS X.K X.mg W sNx) := PSsT.of ms_nil
theorem mst_one (h1 : PST X st (tMS X.K X.mg W sa)) : PSsT X [st] (tMS X.K X.mg W sa) := by
  have h := CwR.psst_one h1
  exact h
theorem mst_ret (he : PET X e (tM X.K X.mg W ma)) : PST X (.Return (some e) pos) (tMS X.K X.mg W (sRet ma)) :=
  PST.imp (CwR.pst_ret he) fun Dn σ H ⟨ρ, e, S, re, rs, g⟩ => ⟨ρ, e, S, re, rs, GoodG.bindS re g fun d S1 v H1 ρ1 _ p1 k1 rs1 r1 g1 => g1 v H1 ρ1 (Pre.refl _) (Keep.refl _) rs1 r1⟩
theorem pst_set {i : Nat} {x : Str} {e : Expr} {te : TE} {pos' : Pos} (hN : X.N.Nodup) (hi : X.N[i]? = some x) (hx : Loc X.env.scope x) (he : PET X e te) (hs : swapsWith e (some (.Name x pos')) pos.line X.env = pure false := by rfl) (hf : X.fn x = true ∨ X.env.scope.names.lookup x = some .local := by first | exact .inl rfl | exact .inr rfl | assumption) :
    PST X (.Assign [.Name x pos'] e pos) (tAsg te (gName i)) := by
  intro pins s σ H D h0 I h
  refine wpAny_Assign_Name (thn (he pins s σ H _ h0 I h) fun v s1 ⟨y, H1, I1, r1, q1⟩ => ?_) hs
  exact store_ok I1 hN hi hx r1 (fun s2 I2 => ⟨_, H1, I2, q1⟩) hf
theorem mst_set {i : Nat} {x : Str} {pos' : Pos} (hN : X.N.Nodup) (hi : X.N[i]? = some x) (hx : Loc X.env.scope x) (he : PET X e (tM X.K X.mg W ma)) (hs : swapsWith e (some (.Name x pos')) pos.line X.env = pure false := by rfl) (hf : X.fn x = true ∨ X.env.scope.names.lookup x = some .local := by first | exact .inl rfl | exact .inr rfl | assumption) :
    PST X (.Assign [.Name x pos'] e pos) (tMS X.K X.mg W (sAsg ma (tgN i))) :=
  PST.imp (pst_set (i := i) hN hi hx he hs hf) fun Dn σ H ⟨ρ, e, S, re, rs, g⟩ => ⟨ρ, e, S, re, rs, GoodG.bindS re g fun d S1 v H1 ρ1 _ p1 k1 rs1 r1 g1 =>
    g1 _ H1 ρ1 (Pre.refl _) (Keep.refl _) rs1 ((re.mono p1 k1).set i r1)⟩
theorem mst_if (hc : PT X c (tMT X.K X.mg W ta)) (ha : PSsT X ss (tMS X.K X.mg W sa)) (hb : PSsT X rr (tMS X.K X.mg W sb)) : PST X (.If c ss rr pos) (tMS X.K X.mg W (sIf ta sa sb)) :=
  PST.imp (CwR.pst_if hc ha hb) fun Dn σ H ⟨ρ, e, S, re, rs, g⟩ => ⟨ρ, e, S, re, rs, GoodG.bindS re g fun d1 S1 x H1 ρ1 _ p1 k1 rs1 r1 g1 => by
    cases r1
    try dsimp only at g1
    cases d1 with
    | true =>
      rw [if_pos rfl] at g1 ⊢
      exact ⟨ρ1, e, S1, re.mono p1 k1, rs1, g1⟩
    | false =>
      rw [if_neg Bool.false_ne_true] at g1 ⊢
      exact ⟨ρ1, e, S1, re.mono p1 k1, rs1, g1⟩⟩
end
section
variable {P : Program} {w : World} {K : PySem.W.Frag} {mg : Str → Option Value} {base : Heap}
theorem FnM.ofT {x qual : Str} {st : Stmt} {N ps : List Str} {k : Nat} {body : MS} (T : HasF K mg x qual st ps) (S : FnScope N ps (defScope st)) (hnc : ∀ y ∈ (defScope st).names, y.2 ≠ .cell) (hps : 1 ≤ ps.length)
    (h : ∀ (f : Addr) (cdv : Value) (A : Around) (outer : List Env) (s : Shared) (H : Hp) (E : XK), MX (cxOf (L2N.CX P w) P w K mg base N qual (defScope st) f cdv A outer s H E) (E2W E) k →
      PSsT (cxOf (L2N.CX P w) P w K mg base N qual (defScope st) f cdv A outer s H E) (defBody st) (tMS K mg (E2W E) body)) : FnM P w K mg base x (k + 1) (mDef N.length ps.length body) := by
  obtain ⟨f, fd, F, hm, hb⟩ := T.ex
  refine ⟨f, fd, ps, hm, F.kp, hb, ?_⟩
  obtain ⟨oc, od, kV, doc, pm, an, cdv, ct, osl, rfl, lk, hcd⟩ := F.ex
  refine fn_ofT lk hcd S hnc hps (fun vs H Q E hsp => ?_) fun A outer s H vs Q E hr hsp => ?_
  · obtain ⟨ρ, S', ds, rs, rv, g⟩ := hsp
    rw [← rv.length]
    unfold mDef at g
    split at g
    · assumption
    · exact g.elim
  · refine ⟨_, h f cdv A outer s H E ⟨rfl, S.nd, L2N.takes_of rfl rfl rfl rfl, passes_of rfl, hr.units, un65 hr, hr⟩, ?_⟩
    obtain ⟨ρ, S', ds, rs, rv, g⟩ := hsp
    refine ⟨ρ, startE N.length ds, S', re_start rv, rs, ?_⟩
    unfold mDef at g
    split at g
    · cases hb' : body (startE N.length ds) S' with
      | nx e S1 =>
        rw [hb'] at g
        exact fun σ' H' ρ' p kk rs' re' => g .non H' ρ' p kk rs' rfl
      | rt d S1 =>
        rw [hb'] at g
        exact fun v H' ρ' p kk rs' r' => g v H' ρ' p kk rs' r'
      | exc c fs e S1 =>
        rw [hb'] at g
        exact fun C dd σ' H' ρ' vs' hm p kk rs' re' hd hf => g C dd H' ρ' vs' hm p kk rs' hd hf
      | bk e S1 => rw [hb'] at g; exact g.elim
      | ct e S1 => rw [hb'] at g; exact g.elim
      | stuck => rw [hb'] at g; exact g.elim
    · exact g.elim
end
end M2
end

section
set_option Elab.async false
set_option linter.all false
set_option maxRecDepth 100000
set_option maxHeartbeats 4000000
/-! M41: in a module's dict. -/
namespace M2
open PySem PySem.Spec PyProof.Rows L2
set_option autoImplicit false
def mKin (tb : List (Str × D)) (ma : MV) : MV := fun e S => (ma e S).bind fun d S1 => match d with
  | .str z => .ok (.bl (getT tb z).isSome) S1
  | _ => .stuck
def mKnin (tb : List (Str × D)) (ma : MV) : MV := fun e S => (ma e S).bind fun d S1 => match d with
  | .str z => .ok (.bl (!(getT tb z).isSome)) S1
  | _ => .stuck
theorem kent_noref {K : PySem.W.Frag} {mg : Str → Option Value} : ∀ {es : List DictEntry} {tb : List (Str × D)}, KEnt K mg es tb → es.any (·.refKey) = false
  | [], [], _ => rfl
  | e :: es, t :: ts, h => by
    obtain ⟨⟨tk, hk⟩, _, h2⟩ := h
    rw [List.any_cons, kent_noref h2, Bool.or_false]
    show e.refKey = false
    unfold DictEntry.refKey
    rw [hk]
theorem kent_ns {K : PySem.W.Frag} {mg : Str → Option Value} {w : World} {d : Addr} {es : Array DictEntry} {n : Nat} {tb : List (Str × D)} (dk : KDict K w d es n) (hE : KEnt K mg es.toList tb) (z : Str) : ∃ r, PySem.W.nsIn K d z = some r ∧ r.isSome = (getT tb z).isSome := by
  have hz := kent_get z hE
  unfold PySem.W.nsIn
  rw [dk.at_]
  have e2 : es.toList.find? (fun e => e.key.isStr z) = es.toList.find? fun e => Value.isStrOf z e.key := by
    congr 1; funext e; exact isStr_of _ _
  show ∃ r, (match es.toList.find? (fun e => e.key.isStr z) with
    | some e => some (some e.val)
    | none => if es.toList.any (·.refKey) then none else some none) = some r ∧ _
  rw [e2]
  cases hg : getT tb z with
  | some dd =>
    rw [hg] at hz
    obtain ⟨u, v, e1, _⟩ := hz
    obtain ⟨en, h1, h2⟩ := Option.map_eq_some_iff.mp e1
    rw [h1]
    exact ⟨_, rfl, rfl⟩
  | none =>
    rw [hg] at hz
    have h1 := Option.map_eq_none_iff.mp hz
    rw [h1, kent_noref hE]
    exact ⟨_, rfl, rfl⟩
section
variable {X : Cx} {W : WX} {e : Expr} {ma : MV} {p pos : Pos} {x : Str} {tb : List (Str × D)} {d : Addr} {es : Array DictEntry} {n : Nat}
theorem tm_kin (dk : KDict X.K X.w d es n) (hE : KEnt X.K X.mg es.toList tb) (σ : St) (H : Hp) (Q : VK) (h : tM X.K X.mg W (mKin tb ma) σ H Q) :
    tOp (fun x y H Q => ∃ (z : Str) (r : Option Value), x = .str z ∧ y = .ref d ∧ PySem.W.nsIn X.K d z = some r ∧ Q (.bl r.isSome) H) (tM X.K X.mg W ma) (tC (.ref d)) σ H Q := by
  obtain ⟨ρ, e, S, re, rs, g⟩ := h
  refine ⟨ρ, e, S, re, rs, GoodG.bind g fun d1 S1 v H1 ρ1 _ p1 k1 rs1 r1 g1 => ?_⟩
  try dsimp only at g1
  split at g1
  · rename_i z _
    cases r1
    obtain ⟨r, e1, e2⟩ := kent_ns dk hE z
    rw [← e2] at g1
    exact ⟨z, r, rfl, rfl, e1, GoodG.ok g1 rs1 rfl⟩
  · exact g1.elim
theorem tm_knin (dk : KDict X.K X.w d es n) (hE : KEnt X.K X.mg es.toList tb) (σ : St) (H : Hp) (Q : VK) (h : tM X.K X.mg W (mKnin tb ma) σ H Q) :
    tOp (fun x y H Q => ∃ (z : Str) (r : Option Value), x = .str z ∧ y = .ref d ∧ PySem.W.nsIn X.K d z = some r ∧ Q (.bl (!r.isSome)) H) (tM X.K X.mg W ma) (tC (.ref d)) σ H Q := by
  obtain ⟨ρ, e, S, re, rs, g⟩ := h
  refine ⟨ρ, e, S, re, rs, GoodG.bind g fun d1 S1 v H1 ρ1 _ p1 k1 rs1 r1 g1 => ?_⟩
  try dsimp only at g1
  split at g1
  · rename_i z _
    cases r1
    obtain ⟨r, e1, e2⟩ := kent_ns dk hE z
    rw [← e2] at g1
    exact ⟨z, r, rfl, rfl, e1, GoodG.ok g1 rs1 rfl⟩
  · exact g1.elim
theorem me_kin (T : KTab X.K X.w X.mg x tb) (hg : Gl X x) (he : PE X e (tM X.K X.mg W ma)) (hdb : (x == ("__debug__" : Str)) = false := by decide) (hm : behindInMarks .In (.Name x p) = false := by with_unfolding_all rfl) :
    PE X (.Compare e [.In] [.Name x p] pos) (tM X.K X.mg W (mKin tb ma)) := by
  obtain ⟨dd, es, n, hmg, dk, hE⟩ := T.ex
  exact PE.imp (pe_cmpR (op_in_kd dk) he (pe_glob (v := .ref dd) hg hmg rfl hdb) hm) (tm_kin dk hE)
theorem me_knin (T : KTab X.K X.w X.mg x tb) (hg : Gl X x) (he : PE X e (tM X.K X.mg W ma)) (hdb : (x == ("__debug__" : Str)) = false := by decide) (hm : behindInMarks .NotIn (.Name x p) = false := by with_unfolding_all rfl) :
    PE X (.Compare e [.NotIn] [.Name x p] pos) (tM X.K X.mg W (mKnin tb ma)) := by
  obtain ⟨dd, es, n, hmg, dk, hE⟩ := T.ex
  exact PE.imp (pe_cmpR (op_notIn_kd dk) he (pe_glob (v := .ref dd) hg hmg rfl hdb) hm) (tm_knin dk hE)
theorem mt_kin (T : KTab X.K X.w X.mg x tb) (hg : Gl X x) (he : PE X e (tM X.K X.mg W ma)) (hdb : (x == ("__debug__" : Str)) = false := by decide) (hm : behindInMarks .In (.Name x p) = false := by with_unfolding_all rfl) :
    PT X (.Compare e [.In] [.Name x p] pos) (tMT X.K X.mg W (tBl (mKin tb ma))) := by
  obtain ⟨dd, es, n, hmg, dk, hE⟩ := T.ex
  exact PT.imp (pt_cmpR (op_in_kd dk) he (pe_glob (v := .ref dd) hg hmg rfl hdb) hm) fun σ H Q h => tBl_ok σ H Q (fun Q => tm_kin dk hE σ H Q) h
theorem mt_knin (T : KTab X.K X.w X.mg x tb) (hg : Gl X x) (he : PE X e (tM X.K X.mg W ma)) (hdb : (x == ("__debug__" : Str)) = false := by decide) (hm : behindInMarks .NotIn (.Name x p) = false := by with_unfolding_all rfl) :
    PT X (.Compare e [.NotIn] [.Name x p] pos) (tMT X.K X.mg W (tBl (mKnin tb ma))) := by
  obtain ⟨dd, es, n, hmg, dk, hE⟩ := T.ex
  exact PT.imp (pt_cmpR (op_notIn_kd dk) he (pe_glob (v := .ref dd) hg hmg rfl hdb) hm) fun σ H Q h => tBl_ok σ H Q (fun Q => tm_knin dk hE σ H Q) h
end
end M2
end

section
set_option Elab.async false
set_option linter.all false
set_option maxRecDepth 100000
set_option maxHeartbeats 4000000
/-! M42: str and int of numbers of up to 4300 digits. -/
namespace PySem.W.KIN
open PySem PySem.Calls PySem.NumText PyProof.Rows
theorem wp_textL {M : Model} {A : Around} {E : Value → Shared → Prop} {s : Shared} {Q : Value → Shared → Prop} {v : Value} {text : List Nat} {n : Int} (hd : s.heap.NoDigits)
    (hs : ¬ (text.takeWhile (· != 0)).length ≤ 640) (hr : (int_private% "readNumeral") 4300 10 (text.takeWhile (· != 0)) = (int_private% "Numeral.value") n)
    (ha : ((text.takeWhile (· != 0)).length == text.length) = true) (h : Q (.int n s.toks) { s with toks := s.toks + 1 }) :
    wpAny M A ((int_private% "intFromText") v text 10) Q E s := by
  obtain ⟨mc, hns, hnone⟩ := hd
  obtain ⟨hp, g, d, tk, os⟩ := s
  have hm : ∀ {Q : Nat → Shared → Prop}, Q 4300 ⟨hp, g, d, tk, os⟩ → wpAny M A Builtin.intMaxStrDigits Q E ⟨hp, g, d, tk, os⟩ := fun {Q} q => by
    unfold Builtin.intMaxStrDigits
    refine wpAny_bind (wpAny_nsGet hns ?_)
    rw [hnone]
    exact wpAny_pure q
  repeat (any_goals (first
    | assumption
    | (with_reducible refine wpAny_ite_false (decide_eq_false hs) ?_)
    | (with_reducible refine wpAny_ite_true (decide_eq_true ha) ?_)
    | (with_reducible refine hm ?_)
    | wp_step))
  all_goals (try rw [hr])
  all_goals (try dsimp only)
  repeat (any_goals (first
    | assumption
    | (with_reducible refine wpAny_ite_false (decide_eq_false hs) ?_)
    | (with_reducible refine wpAny_ite_true (decide_eq_true ha) ?_)
    | (with_reducible refine hm ?_)
    | wp_step))
end PySem.W.KIN
namespace PySem.W.KIN
open PySem PySem.Calls PySem.NumText PyProof.Rows
theorem meets_textL {x : PySem.Str} {u : Tok} {n : Int} (hz : x.length ≤ sizeLine) (hn : PySem.intText? x = some n) :
    Meets (Builtin.«int.__new__» ⟨[.type "int", .str x u], []⟩) (fun _ R s => s.heap.NoDigits ∧ R (.ok (.ret (.int n s.toks))) { s with toks := s.toks + 1 }) := by
  by_cases hl : (numSeenOf x).length ≤ 640
  · have hr : (int_private% "readNumeral") 0 10 (numSeenOf x) = (int_private% "Numeral.value") n ∧ ((numSeenOf x).length == (numTextOf x).length) = true := by
      rcases read0 x hl with ⟨m, h1, h2, h3⟩ | ⟨h1, _⟩
      · rw [hn] at h1
        injection h1 with h1
        subst h1
        exact ⟨h3, h2⟩
      · rw [hn] at h1
        cases h1
    refine Meets.of_imp (Gives.meets (m := .int n) (.of_wp fun M A E s Q h => ?_)) fun A R s h => h.2
    obtain ⟨hp, g, d, tk, os⟩ := s
    have f1 := F.conv_sub_int
    have f2 := F.madeHere_int
    have f3 := str_int
    have f4 := str_idx
    have f5 := str_trunc
    have f6 : typeOf (.str x u) = pure (.type "str") := rfl
    have hk := Hid.mk (And.intro hl hr)
    clear hl hr hn
    repeat (any_goals (first
      | assumption
      | ((with_reducible show wpAny _ _ ((int_private% "intFromText") _ _ _) _ _ _); refine wp_text hk.out.1 hk.out.2.1 hk.out.2.2 ?_)
      | wp_step))
    all_goals first | exact ⟨_, rfl, h⟩ | skip
  · have hr : (int_private% "readNumeral") 4300 10 (numSeenOf x) = (int_private% "Numeral.value") n ∧ ((numSeenOf x).length == (numTextOf x).length) = true := by
      rcases read4300 x hz with ⟨m, h1, h2, h3⟩ | ⟨h1, _⟩
      · rw [hn] at h1
        injection h1 with h1
        subst h1
        exact ⟨h3, h2⟩
      · rw [hn] at h1
        cases h1
    intro prog w A R s ⟨hd, h⟩
    have key : ∀ (Q : Value → Shared → Prop) (E : Value → Shared → Prop), Q (.int n s.toks) { s with toks := s.toks + 1 } →
        wpAny (model prog w) A.in1 (Builtin.«int.__new__» ⟨[.type "int", .str x u], []⟩) (fun fin s' => ∃ v, fin = .done (.ret v) ∧ Q v s') E s := by
      intro Q E h
      obtain ⟨hp, g, d, tk, os⟩ := s
      have f1 := F.conv_sub_int
      have f2 := F.madeHere_int
      have f3 := str_int
      have f4 := str_idx
      have f5 := str_trunc
      have f6 : typeOf (.str x u) = pure (.type "str") := rfl
      have hk := Hid.mk (And.intro hl hr)
      have hdk := Hid.mk hd
      clear hl hr hn hd
      repeat (any_goals (first
        | assumption
        | ((with_reducible show wpAny _ _ ((int_private% "intFromText") _ _ _) _ _ _); refine wp_textL hdk.out hk.out.1 hk.out.2.1 hk.out.2.2 ?_)
        | wp_step))
      all_goals first | exact ⟨_, rfl, h⟩ | skip
    exact wpAny_mono (key (fun v s' => R (.ok (.ret v)) s') _ h) (fun fin s' h' => by obtain ⟨v, rfl, hv⟩ := h'; exact hv) fun _ _ x => x
theorem call_textL {prog : Program} {w : World} {A : Around} {E : Value → Shared → Prop} {s : Shared} {Q : Value → Shared → Prop} {x : PySem.Str} {t : Tok} {n : Int} (hd : s.heap.NoDigits) (hn : PySem.intText? x = some n) (hz : x.length ≤ sizeLine)
    (h : Q (.int n s.toks) { s with toks := s.toks + 1 }) : wpAny (model prog w) A (call (.type "int") [.str x t]) Q E s :=
  call_int_1 (meets_textL hz hn) ⟨hd, ⟨rfl, h⟩⟩
end PySem.W.KIN
namespace M2
open PySem PySem.Spec PyProof.Rows L2
set_option autoImplicit false
/-- the digits' bound is the built one -/
structure Dig0 (K : PySem.W.Frag) : Prop where
  no : PySem.W.nsIn K cStatics "sys.int_max_str_digits" = some none
theorem noDigits_of {K : PySem.W.Frag} {h : Heap} (X : K.In h) (L : h.NoLimit) (d : Dig0 K) : h.NoDigits := by
  obtain ⟨mc, hns, _⟩ := L
  refine ⟨mc, hns, ?_⟩
  have e := d.no
  obtain ⟨o, es, ep, ho, hd, _, hf⟩ := hns
  unfold PySem.W.nsIn at e
  split at e
  · rename_i c d es' n' sl q
    have := X _ _ q
    rw [ho] at this
    cases this
    cases hd
    split at e
    · cases e
    · rename_i he
      rw [← hf]
      unfold nsFind findBy
      rw [← Array.find?_toList, he]
      rfl
  · cases e
def big43 : Nat := 10 ^ 4300
/-- str of an integer of up to 4300 digits, or a text -/
def oStrB : OpL := fun ds S => match ds with
  | [.int i] => if i.natAbs < big43 then some (.str (toString i), S) else none
  | [.str x] => some (.str x, S)
  | _ => none
def oIntB : OpL := fun ds S => match ds with
  | [.int i] => some (.int i, S)
  | [.bl k] => some (.int (if k then 1 else 0), S)
  | [.str a] => if a.length ≤ sizeLine then (PySem.intText? a).map fun n => (.int n, S) else none
  | _ => none
section
variable {X : Cx}
theorem cm_strB (hc : X.calm = true) (dg : Dig0 X.K) : CallR X (.type "str") (rML X.K X.mg oStrB) := by
  intro pins s σ H xs us Q I r ⟨ρ, S, ds, d3, S3, rs, rv, e, q⟩
  unfold oStrB at e
  split at e
  · obtain ⟨x, ys, rfl, r1, r0⟩ := rv
    cases r1; cases r0
    split at e
    · rename_i hb
      cases e
      cases r with
      | cons r1 rs' =>
        cases rs'
        obtain ⟨t, rfl⟩ := r1
        refine str_of_int_or (I.ok.hd hc) (noDigits_of I.kIn I.nolimit dg) (fun _ => ⟨.str (toString _), H, I.tok _, ⟨_, rfl⟩, q.now rs rfl⟩) fun hge => absurd hb (Nat.not_lt.mpr hge)
    · cases e
  · obtain ⟨x, ys, rfl, r1, r0⟩ := rv
    cases r1; cases r0; cases e
    exact SkE.call_str_str pins s σ H _ us Q I r ⟨_, rfl, q.now rs rfl⟩
  · cases e
theorem cm_intB (dg : Dig0 X.K) : CallR X (.type "int") (rML X.K X.mg oIntB) := by
  intro pins s σ H xs us Q I r ⟨ρ, S, ds, d3, S3, rs, rv, e, q⟩
  unfold oIntB at e
  split at e
  · exact cm_int pins s σ H xs us Q I r ⟨ρ, S, _, d3, S3, rs, rv, e, q⟩
  · exact cm_int pins s σ H xs us Q I r ⟨ρ, S, _, d3, S3, rs, rv, e, q⟩
  · obtain ⟨x, ys, rfl, r1, r0⟩ := rv
    cases r1; cases r0
    split at e
    · rename_i hl
      obtain ⟨n, hn, e'⟩ := Option.map_eq_some_iff.mp e
      cases e'
      cases r with
      | cons r1 rs' =>
        cases rs'
        obtain ⟨t, rfl⟩ := r1
        exact PySem.W.KIN.call_textL (noDigits_of I.kIn I.nolimit dg) hn hl ⟨.int _, H, I.tok _, ⟨_, rfl⟩, q.now rs rfl⟩
    · cases e
  · cases e
end
end M2
end

section
set_option Elab.async false
set_option linter.all false
set_option maxRecDepth 100000
set_option maxHeartbeats 4000000
/-! V10: replace of one sign; long numbers; in a module's dict. -/
namespace P0
open PySem PySem.Spec M2
set_option autoImplicit false
def subC (c : Nat) (z l : List Nat) : List Nat := l.flatMap fun x => if x = c then z else [x]
theorem replL_one {c : Nat} {z : List Nat} : ∀ l : List Nat, StrLaws.replL [c] z l = subC c z l
  | [] => StrLaws.replL_nil
  | x :: r => by
    by_cases h : x = c
    · subst h
      rw [StrLaws.replL_hit (List.cons_ne_nil _ _) rfl]
      show z ++ StrLaws.replL [x] z r = _
      rw [replL_one r]
      simp [subC]
    · rw [StrLaws.replL_miss (fun q => h (by
        have q : [x] = [c] := q
        exact List.head_eq_of_cons_eq q)), replL_one r]
      simp [subC, h]
theorem repl_T {c : Nat} {z l : List Nat} : Txt.replace (T l) (T [c]) (T z) = T (subC c z l) := by
  refine TL.ext_tl ?_
  have := StrLaws.replace_list (x := T l) (y := T [c]) (z := T z) (Nat.le_refl 1)
  show (Txt.replace (T l) (T [c]) (T z)).cps.toList = _
  rw [this]
  exact replL_one l
section
variable {S : Sto} {Q : D → Sto → Prop} {X : XQ}
theorem o_repl {c : Nat} {z l : List Nat} (h : l.length + (l.length + 1) * z.length ≤ 16777216) (q : Q (.str (T (subC c z l))) S) : Ev (lift (oRepl (T [c]) (T z) (.str (T l)) S)) Q X := by
  refine w_lift (d := .str (T (subC c z l))) (S' := S) ?_ q
  show (if (T l).length + ((T l).length + 1) * (T z).length ≤ 16777216 then some (D.str (Txt.replace (T l) (T [c]) (T z)), S) else none) = _
  rw [T_len, T_len, if_pos h, repl_T]
theorem o_strB {i : Int} (h : i.natAbs < big43) (q : Q (.str (T (decL i))) S) : Ev (lift (oStrB [.int i] S)) Q X := by
  refine w_lift (d := .str (T (decL i))) (S' := S) ?_ q
  show (if i.natAbs < big43 then some (D.str (Str.ofString (toString i)), S) else none) = _
  rw [if_pos h, str_int]
theorem o_intB {a : List Nat} {n : Int} (h : PySem.intText? (T a) = some n) (hl : a.length ≤ sizeLine) (q : Q (.int n) S) : Ev (lift (oIntB [.str (T a)] S)) Q X := by
  refine w_lift (d := .int n) (S' := S) ?_ q
  show (if (T a).length ≤ sizeLine then (PySem.intText? (T a)).map fun n => (D.int n, S) else none) = _
  rw [T_len, if_pos hl, h]; rfl
theorem o_intBi {i : Int} (q : Q (.int i) S) : Ev (lift (oIntB [.int i] S)) Q X := q
variable {e : Nv} {ma : MV} {tb : List (Str × D)}
theorem w_kin (h : Ev (ma e S) (fun d S1 => ∃ z, d = .str z ∧ Q (.bl (getT tb z).isSome) S1) X) : Ev (mKin tb ma e S) Q X := Ev.bind (h.imp fun d S1 ⟨z, h1, q⟩ => by subst h1; exact q)
theorem w_knin (h : Ev (ma e S) (fun d S1 => ∃ z, d = .str z ∧ Q (.bl (!(getT tb z).isSome)) S1) X) : Ev (mKnin tb ma e S) Q X := Ev.bind (h.imp fun d S1 ⟨z, h1, q⟩ => by subst h1; exact q)
end
end P0
end

section
set_option Elab.async false
set_option linter.all false
set_option maxRecDepth 100000
set_option maxHeartbeats 4000000
namespace K38
open PySem PySem.Spec PyProof.Rows L2 M2 NdefX
set_option autoImplicit false
def top (i : Nat) : Stmt := PySem.Challenge.pw_oncemail_k38_plain_there_and_back.main.body.getD i (.Pass ⟨0, 0, 0, 0⟩)
def fuelW : Nat := 100000
theorem lit_0 : ("" : Str) = P0.T [] := by decide +kernel
theorem lit_1 : (" !\"#$&'()*+,-./0189:;<=>?@AZ[\\]^_`az{|}~\nnTFN" : Str) = P0.T [32, 33, 34, 35, 36, 38, 39, 40, 41, 42, 43, 44, 45, 46, 47, 48, 49, 56, 57, 58, 59, 60, 61, 62, 63, 64, 65, 90, 91, 92, 93, 94, 95, 96, 97, 122, 123, 124, 125, 126, 10, 110, 84, 70, 78] := by decide +kernel
theorem lit_2 : ("1" : Str) = P0.T [49] := by decide +kernel
theorem lit_3 : ("0" : Str) = P0.T [48] := by decide +kernel
theorem lit_4 : ("\"" : Str) = P0.T [34] := by decide +kernel
theorem lit_5 : ("\\" : Str) = P0.T [92] := by decide +kernel
theorem lit_6 : ("\\\\" : Str) = P0.T [92, 92] := by decide +kernel
theorem lit_7 : ("\\\"" : Str) = P0.T [92, 34] := by decide +kernel
theorem lit_8 : ("\n" : Str) = P0.T [10] := by decide +kernel
theorem lit_9 : ("\\n" : Str) = P0.T [92, 110] := by decide +kernel
theorem lit_10 : ("(" : Str) = P0.T [40] := by decide +kernel
theorem lit_11 : (" " : Str) = P0.T [32] := by decide +kernel
theorem lit_12 : (")" : Str) = P0.T [41] := by decide +kernel
theorem lit_13 : ("F" : Str) = P0.T [70] := by decide +kernel
theorem lit_14 : ("T" : Str) = P0.T [84] := by decide +kernel
theorem lit_15 : ("N" : Str) = P0.T [78] := by decide +kernel
theorem lit_16 : ("\n !\"#$&'()*+,-./0123456789:;<=>?@ABCDEFGHIJKLMNOPQRSTUVWXYZ[\\]^_`abcdefghijklmnopqrstuvwxyz{|}~" : Str) = P0.T [10, 32, 33, 34, 35, 36, 38, 39, 40, 41, 42, 43, 44, 45, 46, 47, 48, 49, 50, 51, 52, 53, 54, 55, 56, 57, 58, 59, 60, 61, 62, 63, 64, 65, 66, 67, 68, 69, 70, 71, 72, 73, 74, 75, 76, 77, 78, 79, 80, 81, 82, 83, 84, 85, 86, 87, 88, 89, 90, 91, 92, 93, 94, 95, 96, 97, 98, 99, 100, 101, 102, 103, 104, 105, 106, 107, 108, 109, 110, 111, 112, 113, 114, 115, 116, 117, 118, 119, 120, 121, 122, 123, 124, 125, 126] := by decide +kernel
theorem lit_17 : ("0123456789" : Str) = P0.T [48, 49, 50, 51, 52, 53, 54, 55, 56, 57] := by decide +kernel
theorem lit_18 : ("-" : Str) = P0.T [45] := by decide +kernel
theorem lit_19 : ("123456789" : Str) = P0.T [49, 50, 51, 52, 53, 54, 55, 56, 57] := by decide +kernel
/-! ### the texts -/
abbrev s__law_cell : Stmt := top 17
theorem sc__law_cell : FnScope ["script", "k"] ["script", "k"] (defScope s__law_cell) := ⟨rfl, rfl, rfl, by decide +kernel, rfl, by decide +kernel, by decide +kernel⟩
abbrev s__law_digits : Stmt := top 18
theorem sc__law_digits : FnScope ["script", "first", "last", "digits", "k", "cell", "turn", "seed"] ["script", "first", "last"] (defScope s__law_digits) := ⟨rfl, rfl, rfl, by decide +kernel, rfl, by decide +kernel, by decide +kernel⟩
abbrev s__law_draw : Stmt := top 19
theorem sc__law_draw : FnScope ["box", "many", "at"] ["box", "many"] (defScope s__law_draw) := ⟨rfl, rfl, rfl, by decide +kernel, rfl, by decide +kernel, by decide +kernel⟩
abbrev s__law_value : Stmt := top 22
theorem sc__law_value : FnScope ["box", "deep", "kind", "k", "number", "signs"] ["box", "deep"] (defScope s__law_value) := ⟨rfl, rfl, rfl, by decide +kernel, rfl, by decide +kernel, by decide +kernel⟩
abbrev s__law_plain : Stmt := top 21
theorem sc__law_plain : FnScope ["value", "one"] ["value"] (defScope s__law_plain) := ⟨rfl, rfl, rfl, by decide +kernel, rfl, by decide +kernel, by decide +kernel⟩
abbrev s__law_same : Stmt := top 20
theorem sc__law_same : FnScope ["actual", "due", "k"] ["actual", "due"] (defScope s__law_same) := ⟨rfl, rfl, rfl, by decide +kernel, rfl, by decide +kernel, by decide +kernel⟩
abbrev s_quoted : Stmt := top 13
theorem sc_quoted : FnScope ["text", "inner"] ["text"] (defScope s_quoted) := ⟨rfl, rfl, rfl, by decide +kernel, rfl, by decide +kernel, by decide +kernel⟩
abbrev s_show_plain : Stmt := top 12
theorem sc_show_plain : FnScope ["value", "parts", "part"] ["value"] (defScope s_show_plain) := ⟨rfl, rfl, rfl, by decide +kernel, rfl, by decide +kernel, by decide +kernel⟩
abbrev s_PlainReader__sign : Stmt := inClass (top 15) 3
theorem sc_PlainReader__sign : FnScope ["self"] ["self"] (defScope s_PlainReader__sign) := ⟨rfl, rfl, rfl, by decide +kernel, rfl, by decide +kernel, by decide +kernel⟩
abbrev s_PlainReader__read_tuple : Stmt := inClass (top 15) 4
theorem sc_PlainReader__read_tuple : FnScope ["self", "depth", "parts", "sign"] ["self", "depth"] (defScope s_PlainReader__read_tuple) := ⟨rfl, rfl, rfl, by decide +kernel, rfl, by decide +kernel, by decide +kernel⟩
abbrev s_consists_of : Stmt := top 6
theorem sc_consists_of : FnScope ["text", "signs"] ["text", "signs"] (defScope s_consists_of) := ⟨rfl, rfl, rfl, by decide +kernel, rfl, by decide +kernel, by decide +kernel⟩
abbrev s_PlainReader__piece : Stmt := inClass (top 15) 8
theorem sc_PlainReader__piece : FnScope ["self", "end", "piece", "at", "sign"] ["self", "end"] (defScope s_PlainReader__piece) := ⟨rfl, rfl, rfl, by decide +kernel, rfl, by decide +kernel, by decide +kernel⟩
abbrev s_PlainReader__place_of_quote : Stmt := inClass (top 15) 7
theorem sc_PlainReader__place_of_quote : FnScope ["self", "place"] ["self"] (defScope s_PlainReader__place_of_quote) := ⟨rfl, rfl, rfl, by decide +kernel, rfl, by decide +kernel, by decide +kernel⟩
abbrev s_PlainReader__read_text : Stmt := inClass (top 15) 6
theorem sc_PlainReader__read_text : FnScope ["self", "pieces", "quote", "escape", "sign"] ["self"] (defScope s_PlainReader__read_text) := ⟨rfl, rfl, rfl, by decide +kernel, rfl, by decide +kernel, by decide +kernel⟩
abbrev s_PlainReader__read_integer : Stmt := inClass (top 15) 5
theorem sc_PlainReader__read_integer : FnScope ["self", "sign", "begin", "end"] ["self", "sign"] (defScope s_PlainReader__read_integer) := ⟨rfl, rfl, rfl, by decide +kernel, rfl, by decide +kernel, by decide +kernel⟩
abbrev s_PlainReader_read_value : Stmt := inClass (top 15) 1
theorem sc_PlainReader_read_value : FnScope ["self", "depth", "sign"] ["self", "depth"] (defScope s_PlainReader_read_value) := ⟨rfl, rfl, rfl, by decide +kernel, rfl, by decide +kernel, by decide +kernel⟩
abbrev s_PlainReader_read_end : Stmt := inClass (top 15) 2
theorem sc_PlainReader_read_end : FnScope ["self"] ["self"] (defScope s_PlainReader_read_end) := ⟨rfl, rfl, rfl, by decide +kernel, rfl, by decide +kernel, by decide +kernel⟩
abbrev s_PlainReader___init__ : Stmt := inClass (top 15) 0
theorem sc_PlainReader___init__ : FnScope ["self", "text"] ["self", "text"] (defScope s_PlainReader___init__) := ⟨rfl, rfl, rfl, by decide +kernel, rfl, by decide +kernel, by decide +kernel⟩
abbrev s_read_plain : Stmt := top 14
theorem sc_read_plain : FnScope ["text", "reader", "value"] ["text"] (defScope s_read_plain) := ⟨rfl, rfl, rfl, by decide +kernel, rfl, by decide +kernel, by decide +kernel⟩
abbrev s_law : Stmt := top 23
theorem sc_law : FnScope ["script", "box", "turn", "value", "k", "text"] ["script"] (defScope s_law) := ⟨rfl, rfl, rfl, by decide +kernel, rfl, by decide +kernel, by decide +kernel⟩
abbrev s_BadPlain : Stmt := clsInit (top 2)
theorem sc_BadPlain : NScope ["self", "place", "__class__"] ["self", "place"] ["__class__"] (defScope s_BadPlain) := nscope_by rfl
def l_sub : List ((Str × Str) × Bool) := []
/-! ### the functions -/
def c_WORDS : List (Str × D) := [("T", (.bl true)), ("F", (.bl false)), ("N", .non)]
def c_ESCAPES : List (Str × D) := [("\\", (.str "\\")), ("\"", (.str "\"")), ("n", (.str "\n"))]
def b__law_cell : MS := (sSeq (sIf (tBl (mBin oLt (mVar 1) (mL oLen (aCons (mVar 0) aNil)))) (sRet (mBin oIx (mVar 0) (mVar 1))) sNx) (sRet (mC (.int 0))))
def m__law_cell : MF := mDef 2 2 b__law_cell
def b__law_digits : MS := (sSeq (sAsg (mLst aNil) (tgN 3)) (sSeq (sFor (iRg2 (aCons (mVar 1) (aCons (mVar 2) aNil))) (tgN 4) (sSeq (sIf (tBl (mBin oGt (mL oLen (aCons (mVar 3) aNil)) (mC (.int 1500)))) sBk sNx) (sSeq (sAsg (mCall m__law_cell (aCons (mVar 0) (aCons (mVar 4) aNil))) (tgN 5)) (sSeq (sIf (tBl (mBin oLt (mVar 5) (mC (.int 0)))) (sAsg (mBin oSub (mC (.int 1)) (mBin oMul (mC (.int 2)) (mVar 5))) (tgN 5)) sNx) (sIf (tBl (mBin oGe (mVar 5) (mBin oPow (mC (.int 10)) (mC (.int 18))))) (sFor (iRg1 (aCons (mC (.int 60)) aNil)) (tgN 6) (sIf (tBl (mBin oGt (mVar 5) (mC (.int 0)))) (sSeq (sExpr (mMeth "list" oAppend (mVar 3) (aCons (mBin oMod (mL oInt (aCons (mVar 5) aNil)) (mC (.int 1000))) aNil))) (sAsg (mBin oFdiv (mVar 5) (mC (.int 1000))) (tgN 5))) sNx)) (sSeq (sAsg (mBin oMod (mL oInt (aCons (mBin oAdd (mBin oAdd (mBin oMul (mVar 5) (mC (.int 48271))) (mBin oMul (mVar 4) (mC (.int 69621)))) (mC (.int 11))) aNil)) (mC (.int 2147483647))) (tgN 7)) (sFor (iRg1 (aCons (mC (.int 12)) aNil)) (tgN 6) (sSeq (sAsg (mBin oMod (mL oInt (aCons (mBin oAdd (mBin oAdd (mBin oMul (mVar 7) (mC (.int 16807))) (mBin oMul (mC (.int 7)) (mVar 6))) (mC (.int 1))) aNil)) (mC (.int 2147483647))) (tgN 7)) (sExpr (mMeth "list" oAppend (mVar 3) (aCons (mBin oMod (mL oInt (aCons (mBin oFdiv (mVar 7) (mC (.int 997))) aNil)) (mC (.int 1000))) aNil))))))))))) (sRet (mVar 3))))
def m__law_digits : MF := mDef 8 3 b__law_digits
def b__law_draw : MS := (sSeq (sAsg (mBin oIx (mVar 0) (mC (.int 1))) (tgN 2)) (sSeq (sPut (mBin oAdd (mVar 2) (mC (.int 1))) (mVar 0) (mC (.int 1))) (sSeq (sIf (tBl (mBin oLt (mVar 2) (mL oLen (aCons (mBin oIx (mVar 0) (mC (.int 0))) aNil)))) (sRet (mBin oMod (mL oInt (aCons (mBin oIx (mBin oIx (mVar 0) (mC (.int 0))) (mVar 2)) aNil)) (mVar 1))) sNx) (sRet (mBin oMod (mL oInt (aCons (mBin oMul (mVar 2) (mC (.int 7))) aNil)) (mVar 1))))))
def m__law_draw : MF := mDef 3 2 b__law_draw
def m__law_value : Nat → MF
  | 0 => fun _ _ => .stuck
  | n + 1 => mDef 6 2 (sSeq (sAsg (mCall m__law_draw (aCons (mVar 0) (aCons (mC (.int 9)) aNil))) (tgN 2)) (sSeq (sIf (tAnd2 (tBl (mBin oLt (mVar 2) (mC (.int 3)))) (tBl (mBin oGt (mVar 1) (mC (.int 0))))) (sRet (mL oTuple (aCons (mLcC (iRg1 (aCons (mCall m__law_draw (aCons (mVar 0) (aCons (mC (.int 4)) aNil))) aNil)) (tgN 3) tOk (mCallC (m__law_value n) (aCons (mVar 0) (aCons (mBin oSub (mVar 1) (mC (.int 1))) aNil))) [3]) aNil))) sNx) (sSeq (sIf (tBl (mBin oEq (mVar 2) (mC (.int 3)))) (sRet (mBin oIx (mLst (aCons (mC .non) (aCons (mC (.bl true)) (aCons (mC (.bl false)) aNil)))) (mCall m__law_draw (aCons (mVar 0) (aCons (mC (.int 3)) aNil))))) sNx) (sSeq (sIf (tBl (mBin oEq (mVar 2) (mC (.int 4)))) (sSeq (sAsg (mBin oSub (mBin oAdd (mBin oMul (mCall m__law_draw (aCons (mVar 0) (aCons (mC (.int 900)) aNil))) (mBin oPow (mC (.int 10)) (mC (.int 20)))) (mCall m__law_draw (aCons (mVar 0) (aCons (mC (.int 900)) aNil)))) (mC (.int 450))) (tgN 4)) (sRet (mBin oIx (mLst (aCons (mVar 4) (aCons (mBin oSub (mC (.int 0)) (mVar 4)) (aCons (mBin oAdd (mL oIntB (aCons (mBin oAdd (mC (.str (P0.T [49]))) (mBin oMul (mC (.str (P0.T [48]))) (mC (.int 3999)))) aNil)) (mVar 4)) (aCons (mC (.int 0)) aNil))))) (mCall m__law_draw (aCons (mVar 0) (aCons (mC (.int 4)) aNil)))))) sNx) (sSeq (sIf (tBl (mBin oEq (mVar 2) (mC (.int 5)))) (sRet (mBin oSub (mCall m__law_draw (aCons (mVar 0) (aCons (mC (.int 30)) aNil))) (mC (.int 15)))) sNx) (sSeq (sAsg (mC (.str (P0.T [32, 33, 34, 35, 36, 38, 39, 40, 41, 42, 43, 44, 45, 46, 47, 48, 49, 56, 57, 58, 59, 60, 61, 62, 63, 64, 65, 90, 91, 92, 93, 94, 95, 96, 97, 122, 123, 124, 125, 126, 10, 110, 84, 70, 78]))) (tgN 5)) (sRet (mMeth "str" oJoin (mC (.str (P0.T []))) (aCons (mLcC (iRg1 (aCons (mCall m__law_draw (aCons (mVar 0) (aCons (mC (.int 9)) aNil))) aNil)) (tgN 3) tOk (mBin oIx (mVar 5) (mBin oMod (mL oIntB (aCons (mCallC m__law_draw (aCons (mVar 0) (aCons (mC (.int 900)) aNil))) aNil)) (mL oLen (aCons (mVar 5) aNil)))) [3]) aNil)))))))))
def m__law_plain : Nat → MF
  | 0 => fun _ _ => .stuck
  | n + 1 => mDef 2 1 (sSeq (sIf (tBl (mBin oIs (mVar 0) (mC .non))) (sRet (mC (.str (P0.T [78])))) sNx) (sSeq (sIf (tBl (mBin oIs (mVar 0) (mC (.bl true)))) (sRet (mC (.str (P0.T [84])))) sNx) (sSeq (sIf (tBl (mBin oIs (mVar 0) (mC (.bl false)))) (sRet (mC (.str (P0.T [70])))) sNx) (sSeq (sIf (tVal (mL oIsi (aCons (mVar 0) (aCons (mC (.ty "int")) aNil)))) (sRet (mL oStrB (aCons (mVar 0) aNil))) sNx) (sSeq (sIf (tVal (mL oIsi (aCons (mVar 0) (aCons (mC (.ty "tuple")) aNil)))) (sRet (mBin oAdd (mBin oAdd (mC (.str (P0.T [40]))) (mMeth "str" oJoin (mC (.str (P0.T [32]))) (aCons (mLcC (iAny (mVar 0)) (tgN 1) tOk (mCallC (m__law_plain n) (aCons (mVar 1) aNil)) [1]) aNil))) (mC (.str (P0.T [41]))))) sNx) (sRet (mBin oAdd (mBin oAdd (mC (.str (P0.T [34]))) (mUn (oRepl (P0.T [10]) (P0.T [92, 110])) (mUn (oRepl (P0.T [34]) (P0.T [92, 34])) (mUn (oRepl (P0.T [92]) (P0.T [92, 92])) (mVar 0))))) (mC (.str (P0.T [34]))))))))))
def m__law_same : Nat → MF
  | 0 => fun _ _ => .stuck
  | n + 1 => mDef 3 2 (sSeq (sIf (tVal (mL oIsi (aCons (mVar 1) (aCons (mC (.ty "tuple")) aNil)))) (sSeq (sIf (tOr2 (tNot2 (tVal (mL oIsi (aCons (mVar 0) (aCons (mC (.ty "tuple")) aNil))))) (tBl (mBin oNe (mL oLen (aCons (mVar 0) aNil)) (mL oLen (aCons (mVar 1) aNil))))) (sRet (mC (.bl false))) sNx) (sSeq (sFor (iRg1 (aCons (mL oLen (aCons (mVar 1) aNil)) aNil)) (tgN 2) (sIf (tNot2 (tVal (mCall (m__law_same n) (aCons (mBin oIx (mVar 0) (mVar 2)) (aCons (mBin oIx (mVar 1) (mVar 2)) aNil))))) (sRet (mC (.bl false))) sNx)) (sRet (mC (.bl true))))) sNx) (sSeq (sIf (tBl (mBin oIs (mVar 1) (mC .non))) (sRet (mBin oIs (mVar 0) (mC .non))) sNx) (sSeq (sIf (tBl (mBin oIs (mVar 1) (mC (.bl true)))) (sRet (mBin oIs (mVar 0) (mC (.bl true)))) sNx) (sSeq (sIf (tBl (mBin oIs (mVar 1) (mC (.bl false)))) (sRet (mBin oIs (mVar 0) (mC (.bl false)))) sNx) (sSeq (sIf (tVal (mL oIsi (aCons (mVar 1) (aCons (mC (.ty "int")) aNil)))) (sRet (mAnd2 (mL oIsi (aCons (mVar 0) (aCons (mC (.ty "int")) aNil))) (mAnd2 (mNot (mL oIsi (aCons (mVar 0) (aCons (mC (.ty "bool")) aNil)))) (mBin oEq (mVar 0) (mVar 1))))) sNx) (sRet (mAnd2 (mL oIsi (aCons (mVar 0) (aCons (mC (.ty "str")) aNil))) (mBin oEq (mVar 0) (mVar 1)))))))))
def b_quoted : MS := (sSeq (sAsg (mUn (oRepl (P0.T [10]) (P0.T [92, 110])) (mUn (oRepl (P0.T [34]) (P0.T [92, 34])) (mUn (oRepl (P0.T [92]) (P0.T [92, 92])) (mVar 0)))) (tgN 1)) (sRet (mBin oAdd (mBin oAdd (mC (.str (P0.T [34]))) (mVar 1)) (mC (.str (P0.T [34]))))))
def m_quoted : MF := mDef 2 1 b_quoted
def m_show_plain : Nat → MF
  | 0 => fun _ _ => .stuck
  | n + 1 => mDef 3 1 (sSeq (sIf (tBl (mBin oIs (mVar 0) (mC .non))) (sRet (mC (.str (P0.T [78])))) sNx) (sSeq (sIf (tOr2 (tBl (mBin oIs (mVar 0) (mC (.bl true)))) (tBl (mBin oIs (mVar 0) (mC (.bl false))))) (sRet (mIf (tVal (mVar 0)) (mC (.str (P0.T [84]))) (mC (.str (P0.T [70]))))) sNx) (sSeq (sIf (tVal (mL oIsi (aCons (mVar 0) (aCons (mC (.ty "int")) aNil)))) (sRet (mL oStrB (aCons (mVar 0) aNil))) sNx) (sSeq (sIf (tVal (mL oIsi (aCons (mVar 0) (aCons (mC (.ty "str")) aNil)))) (sRet (mCall m_quoted (aCons (mVar 0) aNil))) sNx) (sSeq (sAsg (mMeth "str" oJoin (mC (.str (P0.T [32]))) (aCons (mLcC (iAny (mVar 0)) (tgN 2) tOk (mCallC (m_show_plain n) (aCons (mVar 2) aNil)) [2]) aNil)) (tgN 1)) (sRet (mJs [(mC (.str (P0.T [40]))), (mFmt (mVar 1)), (mC (.str (P0.T [41])))] Str.empty)))))))
def b_PlainReader__sign : MS := (sSeq (sIf (tBl (mBin oEq (mUn (oGetF "PlainReader" "_at") (mVar 0)) (mL oLen (aCons (mUn (oGetF "PlainReader" "_text") (mVar 0)) aNil)))) (sRaise "BadPlain" (mkE [true] ["place"]) (aCons (mUn (oGetF "PlainReader" "_at") (mVar 0)) aNil)) sNx) (sRet (mBin oIx (mUn (oGetF "PlainReader" "_text") (mVar 0)) (mUn (oGetF "PlainReader" "_at") (mVar 0)))))
def m_PlainReader__sign : MF := mDef 1 1 b_PlainReader__sign
def b_consists_of : MS := (sRet (mBin oEq (mMeth "str" oStrip1 (mVar 0) (aCons (mVar 1) aNil)) (mC (.str (P0.T [])))))
def m_consists_of : MF := mDef 2 2 b_consists_of
def b_PlainReader__piece : MS := (sSeq (sAsg (mSl (mUn (oGetF "PlainReader" "_text") (mVar 0)) (pAt (mUn (oGetF "PlainReader" "_at") (mVar 0))) (pAt (mVar 1))) (tgN 2)) (sSeq (sIf (tOr2 (tNot2 (tVal (mCall m_consists_of (aCons (mVar 2) (aCons (mC (.str (P0.T [10, 32, 33, 34, 35, 36, 38, 39, 40, 41, 42, 43, 44, 45, 46, 47, 48, 49, 50, 51, 52, 53, 54, 55, 56, 57, 58, 59, 60, 61, 62, 63, 64, 65, 66, 67, 68, 69, 70, 71, 72, 73, 74, 75, 76, 77, 78, 79, 80, 81, 82, 83, 84, 85, 86, 87, 88, 89, 90, 91, 92, 93, 94, 95, 96, 97, 98, 99, 100, 101, 102, 103, 104, 105, 106, 107, 108, 109, 110, 111, 112, 113, 114, 115, 116, 117, 118, 119, 120, 121, 122, 123, 124, 125, 126]))) aNil))))) (tBl (mBin oIn2 (mC (.str (P0.T [10]))) (mVar 2)))) (sFor (iEnumM (aCons (mVar 2) aNil)) (tgT [(tgN 3), (tgN 4)]) (sIf (tOr2 (tBl (mBin oEq (mVar 4) (mC (.str (P0.T [10]))))) (tBl (mBin oNotIn2 (mVar 4) (mC (.str (P0.T [10, 32, 33, 34, 35, 36, 38, 39, 40, 41, 42, 43, 44, 45, 46, 47, 48, 49, 50, 51, 52, 53, 54, 55, 56, 57, 58, 59, 60, 61, 62, 63, 64, 65, 66, 67, 68, 69, 70, 71, 72, 73, 74, 75, 76, 77, 78, 79, 80, 81, 82, 83, 84, 85, 86, 87, 88, 89, 90, 91, 92, 93, 94, 95, 96, 97, 98, 99, 100, 101, 102, 103, 104, 105, 106, 107, 108, 109, 110, 111, 112, 113, 114, 115, 116, 117, 118, 119, 120, 121, 122, 123, 124, 125, 126])))))) (sRaise "BadPlain" (mkE [true] ["place"]) (aCons (mBin oAdd (mUn (oGetF "PlainReader" "_at") (mVar 0)) (mVar 3)) aNil)) sNx)) sNx) (sRet (mVar 2))))
def m_PlainReader__piece : MF := mDef 5 2 b_PlainReader__piece
def b_PlainReader__place_of_quote : MS := (sSeq (sAsg (mMeth "str" oFind2 (mUn (oGetF "PlainReader" "_text") (mVar 0)) (aCons (mC (.str (P0.T [34]))) (aCons (mUn (oGetF "PlainReader" "_at") (mVar 0)) aNil))) (tgN 1)) (sRet (mIf (tBl (mBin oEq (mVar 1) (mUn oNeg (mC (.int 1))))) (mL oLen (aCons (mUn (oGetF "PlainReader" "_text") (mVar 0)) aNil)) (mVar 1))))
def m_PlainReader__place_of_quote : MF := mDef 2 1 b_PlainReader__place_of_quote
def b_PlainReader__read_text : MS := (sSeq (sAsg (mLst aNil) (tgN 1)) (sSeq (sAsg (mUn (oGetF "PlainReader" "_at") (mVar 0)) (tgN 2)) (sSeq (sAugFI "PlainReader" "_at" (mVar 0) (mC (.int 1))) (sSeq (sWhile fuelW (tVal (mC (.bl true))) (sSeq (sIf (tBl (mBin oLt (mVar 2) (mUn (oGetF "PlainReader" "_at") (mVar 0)))) (sAsg (mMet "PlainReader" "_place_of_quote" m_PlainReader__place_of_quote (mVar 0) aNil) (tgN 2)) sNx) (sSeq (sAsg (mMeth "str" oFind2 (mUn (oGetF "PlainReader" "_text") (mVar 0)) (aCons (mC (.str (P0.T [92]))) (aCons (mUn (oGetF "PlainReader" "_at") (mVar 0)) (aCons (mVar 2) aNil)))) (tgN 3)) (sSeq (sIf (tBl (mBin oEq (mVar 3) (mUn oNeg (mC (.int 1))))) sBk sNx) (sSeq (sExpr (mMeth "list" oAppend (mVar 1) (aCons (mMet "PlainReader" "_piece" m_PlainReader__piece (mVar 0) (aCons (mVar 3) aNil)) aNil))) (sSeq (sPutF "PlainReader" "_at" (mBin oAdd (mVar 3) (mC (.int 1))) (mVar 0)) (sSeq (sAsg (mMet "PlainReader" "_sign" m_PlainReader__sign (mVar 0) aNil) (tgN 4)) (sSeq (sIf (tBl (mKnin c_ESCAPES (mVar 4))) (sRaise "BadPlain" (mkE [true] ["place"]) (aCons (mUn (oGetF "PlainReader" "_at") (mVar 0)) aNil)) sNx) (sSeq (sExpr (mMeth "list" oAppend (mVar 1) (aCons (mKix c_ESCAPES (mVar 4)) aNil))) (sAugFI "PlainReader" "_at" (mVar 0) (mC (.int 1)))))))))))) (sSeq (sExpr (mMeth "list" oAppend (mVar 1) (aCons (mMet "PlainReader" "_piece" m_PlainReader__piece (mVar 0) (aCons (mVar 2) aNil)) aNil))) (sSeq (sPutF "PlainReader" "_at" (mVar 2) (mVar 0)) (sSeq (sExpr (mMet "PlainReader" "_sign" m_PlainReader__sign (mVar 0) aNil)) (sSeq (sAugFI "PlainReader" "_at" (mVar 0) (mC (.int 1))) (sRet (mMeth "str" oJoin (mC (.str (P0.T []))) (aCons (mVar 1) aNil)))))))))))
def m_PlainReader__read_text : MF := mDef 5 1 b_PlainReader__read_text
def b_PlainReader__read_integer : MS := (sSeq (sAsg (mUn (oGetF "PlainReader" "_at") (mVar 0)) (tgN 2)) (sSeq (sIf (tBl (mBin oEq (mVar 1) (mC (.str (P0.T [45]))))) (sSeq (sAugFI "PlainReader" "_at" (mVar 0) (mC (.int 1))) (sIf (tBl (mBin oNotIn2 (mMet "PlainReader" "_sign" m_PlainReader__sign (mVar 0) aNil) (mC (.str (P0.T [49, 50, 51, 52, 53, 54, 55, 56, 57]))))) (sRaise "BadPlain" (mkE [true] ["place"]) (aCons (mUn (oGetF "PlainReader" "_at") (mVar 0)) aNil)) sNx)) (sIf (tBl (mBin oEq (mVar 1) (mC (.str (P0.T [48]))))) (sSeq (sAugFI "PlainReader" "_at" (mVar 0) (mC (.int 1))) (sRet (mC (.int 0)))) sNx)) (sSeq (sAsg (mL oMin (aCons (mBin oAdd (mUn (oGetF "PlainReader" "_at") (mVar 0)) (mC (.int 4000))) (aCons (mL oLen (aCons (mUn (oGetF "PlainReader" "_text") (mVar 0)) aNil)) aNil))) (tgN 3)) (sSeq (sWhile fuelW (tAnd2 (tBl (mBin oLt (mUn (oGetF "PlainReader" "_at") (mVar 0)) (mVar 3))) (tBl (mBin oIn2 (mBin oIx (mUn (oGetF "PlainReader" "_text") (mVar 0)) (mUn (oGetF "PlainReader" "_at") (mVar 0))) (mC (.str (P0.T [48, 49, 50, 51, 52, 53, 54, 55, 56, 57])))))) (sAugFI "PlainReader" "_at" (mVar 0) (mC (.int 1)))) (sRet (mL oIntB (aCons (mSl (mUn (oGetF "PlainReader" "_text") (mVar 0)) (pAt (mVar 2)) (pAt (mUn (oGetF "PlainReader" "_at") (mVar 0)))) aNil)))))))
def m_PlainReader__read_integer : MF := mDef 4 2 b_PlainReader__read_integer
mutual
def m_PlainReader__read_tuple : Nat → MF
  | 0 => fun _ _ => .stuck
  | n + 1 => mDef 4 2 (sSeq (sAsg (mLst aNil) (tgN 2)) (sSeq (sAugFI "PlainReader" "_at" (mVar 0) (mC (.int 1))) (sSeq (sIf (tBl (mBin oEq (mMet "PlainReader" "_sign" m_PlainReader__sign (mVar 0) aNil) (mC (.str (P0.T [41]))))) (sSeq (sAugFI "PlainReader" "_at" (mVar 0) (mC (.int 1))) (sRet (mTup aNil))) sNx) (sWhile fuelW (tVal (mC (.bl true))) (sSeq (sExpr (mMeth "list" oAppend (mVar 2) (aCons (mMet "PlainReader" "read_value" (m_PlainReader_read_value n) (mVar 0) (aCons (mVar 1) aNil)) aNil))) (sSeq (sAsg (mMet "PlainReader" "_sign" m_PlainReader__sign (mVar 0) aNil) (tgN 3)) (sSeq (sIf (tAnd2 (tBl (mBin oNe (mVar 3) (mC (.str (P0.T [32]))))) (tBl (mBin oNe (mVar 3) (mC (.str (P0.T [41])))))) (sRaise "BadPlain" (mkE [true] ["place"]) (aCons (mUn (oGetF "PlainReader" "_at") (mVar 0)) aNil)) sNx) (sSeq (sAugFI "PlainReader" "_at" (mVar 0) (mC (.int 1))) (sIf (tBl (mBin oEq (mVar 3) (mC (.str (P0.T [41]))))) (sRet (mL oTuple (aCons (mVar 2) aNil))) sNx)))))))))
def m_PlainReader_read_value : Nat → MF
  | 0 => fun _ _ => .stuck
  | n + 1 => mDef 3 2 (sSeq (sAsg (mMet "PlainReader" "_sign" m_PlainReader__sign (mVar 0) aNil) (tgN 2)) (sSeq (sIf (tAnd2 (tBl (mBin oEq (mVar 2) (mC (.str (P0.T [40]))))) (tBl (mBin oLt (mVar 1) (mC (.int 60))))) (sRet (mMet "PlainReader" "_read_tuple" (m_PlainReader__read_tuple n) (mVar 0) (aCons (mBin oAdd (mVar 1) (mC (.int 1))) aNil))) sNx) (sSeq (sIf (tBl (mBin oEq (mVar 2) (mC (.str (P0.T [34]))))) (sRet (mMet "PlainReader" "_read_text" m_PlainReader__read_text (mVar 0) aNil)) sNx) (sSeq (sIf (tOr2 (tBl (mBin oEq (mVar 2) (mC (.str (P0.T [45]))))) (tBl (mBin oIn2 (mVar 2) (mC (.str (P0.T [48, 49, 50, 51, 52, 53, 54, 55, 56, 57])))))) (sRet (mMet "PlainReader" "_read_integer" m_PlainReader__read_integer (mVar 0) (aCons (mVar 2) aNil))) sNx) (sSeq (sIf (tBl (mKnin c_WORDS (mVar 2))) (sRaise "BadPlain" (mkE [true] ["place"]) (aCons (mUn (oGetF "PlainReader" "_at") (mVar 0)) aNil)) sNx) (sSeq (sAugFI "PlainReader" "_at" (mVar 0) (mC (.int 1))) (sRet (mKix c_WORDS (mVar 2)))))))))
end
def b_PlainReader_read_end : MS := (sIf (tBl (mBin oLt (mUn (oGetF "PlainReader" "_at") (mVar 0)) (mL oLen (aCons (mUn (oGetF "PlainReader" "_text") (mVar 0)) aNil)))) (sRaise "BadPlain" (mkE [true] ["place"]) (aCons (mUn (oGetF "PlainReader" "_at") (mVar 0)) aNil)) sNx)
def m_PlainReader_read_end : MF := mDef 1 1 b_PlainReader_read_end
def b_PlainReader___init__ : MS := (sSeq (sPutF "PlainReader" "_text" (mVar 1) (mVar 0)) (sPutF "PlainReader" "_at" (mC (.int 0)) (mVar 0)))
def m_PlainReader___init__ : MF := mDef 2 2 b_PlainReader___init__
def b_read_plain : MS := (sSeq (sAsg (mMake "PlainReader" m_PlainReader___init__ (aCons (mVar 0) aNil)) (tgN 1)) (sSeq (sAsg (mMet "PlainReader" "read_value" (m_PlainReader_read_value 125) (mVar 1) (aCons (mC (.int 0)) aNil)) (tgN 2)) (sSeq (sExpr (mMet "PlainReader" "read_end" m_PlainReader_read_end (mVar 1) aNil)) (sRet (mVar 2)))))
def m_read_plain : MF := mDef 3 1 b_read_plain
def b_law : MS := (sSeq (sAsg (mLst (aCons (mCall m__law_digits (aCons (mVar 0) (aCons (mC (.int 0)) (aCons (mC (.int 63)) aNil)))) (aCons (mC (.int 0)) aNil))) (tgN 1)) (sSeq (sFor (iRg1 (aCons (mC (.int 6)) aNil)) (tgN 2) (sSeq (sAsg (mCall (m__law_value 125) (aCons (mVar 1) (aCons (mC (.int 4)) aNil))) (tgN 3)) (sSeq (sFor (iRg1 (aCons (mBin oIx (mLst (aCons (mC (.int 0)) (aCons (mC (.int 0)) (aCons (mC (.int 0)) (aCons (mC (.int 56)) aNil))))) (mCall m__law_draw (aCons (mVar 1) (aCons (mC (.int 4)) aNil)))) aNil)) (tgN 4) (sAsg (mTup (aCons (mVar 3) aNil)) (tgN 3))) (sSeq (sAsg (mCall (m__law_plain 125) (aCons (mVar 3) aNil)) (tgN 5)) (sIf (tOr2 (tNot2 (tVal (mCall (m__law_same 125) (aCons (mCall (m_show_plain 125) (aCons (mVar 3) aNil)) (aCons (mVar 5) aNil))))) (tNot2 (tVal (mCall (m__law_same 125) (aCons (mCall m_read_plain (aCons (mVar 5) aNil)) (aCons (mVar 3) aNil)))))) (sRet (mC (.bl false))) sNx))))) (sRet (mC (.bl true)))))
def m_law : MF := mDef 6 1 b_law
/-! ### the facts -/
structure Txt (P : Program) (K : PySem.W.Frag) (w : World) (mg : Str → Option Value) : Prop where
  e_BadPlain : ErrF P K mg "BadPlain" "BadPlain.__init__" s_BadPlain "self" ["place"]
  h_sub : SubAll K mg l_sub
  f__law_cell : HasF K mg "_law_cell" "_law_cell" s__law_cell ["script", "k"]
  f__law_digits : HasF K mg "_law_digits" "_law_digits" s__law_digits ["script", "first", "last"]
  f__law_draw : HasF K mg "_law_draw" "_law_draw" s__law_draw ["box", "many"]
  f__law_value : HasF K mg "_law_value" "_law_value" s__law_value ["box", "deep"]
  f__law_plain : HasF K mg "_law_plain" "_law_plain" s__law_plain ["value"]
  f__law_same : HasF K mg "_law_same" "_law_same" s__law_same ["actual", "due"]
  f_quoted : HasF K mg "quoted" "quoted" s_quoted ["text"]
  f_show_plain : HasF K mg "show_plain" "show_plain" s_show_plain ["value"]
  f_PlainReader__sign : HasM K mg "PlainReader" "_sign" "PlainReader._sign" s_PlainReader__sign ["self"]
  f_PlainReader__read_tuple : HasM K mg "PlainReader" "_read_tuple" "PlainReader._read_tuple" s_PlainReader__read_tuple ["self", "depth"]
  f_consists_of : HasF K mg "consists_of" "consists_of" s_consists_of ["text", "signs"]
  f_PlainReader__piece : HasM K mg "PlainReader" "_piece" "PlainReader._piece" s_PlainReader__piece ["self", "end"]
  f_PlainReader__place_of_quote : HasM K mg "PlainReader" "_place_of_quote" "PlainReader._place_of_quote" s_PlainReader__place_of_quote ["self"]
  f_PlainReader__read_text : HasM K mg "PlainReader" "_read_text" "PlainReader._read_text" s_PlainReader__read_text ["self"]
  f_PlainReader__read_integer : HasM K mg "PlainReader" "_read_integer" "PlainReader._read_integer" s_PlainReader__read_integer ["self", "sign"]
  f_PlainReader_read_value : HasM K mg "PlainReader" "read_value" "PlainReader.read_value" s_PlainReader_read_value ["self", "depth"]
  f_PlainReader_read_end : HasM K mg "PlainReader" "read_end" "PlainReader.read_end" s_PlainReader_read_end ["self"]
  f_PlainReader___init__ : HasI K mg "PlainReader" "PlainReader.__init__" s_PlainReader___init__ ["self", "text"]
  f_read_plain : HasF K mg "read_plain" "read_plain" s_read_plain ["text"]
  f_law : HasF K mg "law" "law" s_law ["script"]
  k_PlainReader : ClsO K mg "PlainReader" ["_text", "_at"]
  n__dg : Dig0 K
  n_bool : mg "bool" = none
  n_enumerate : mg "enumerate" = none
  n_int : mg "int" = none
  n_isinstance : mg "isinstance" = none
  n_len : mg "len" = none
  n_min : mg "min" = none
  n_range : mg "range" = none
  n_str : mg "str" = none
  n_tuple : mg "tuple" = none
  c_DIGITS : ∃ t, mg "DIGITS" = some (.str "0123456789" t)
  c_SIGNS : ∃ t, mg "SIGNS" = some (.str "\n !\"#$&'()*+,-./0123456789:;<=>?@ABCDEFGHIJKLMNOPQRSTUVWXYZ[\\]^_`abcdefghijklmnopqrstuvwxyz{|}~" t)
  c_MOST_DIGITS : ∃ t, mg "MOST_DIGITS" = some (.int 4000 t)
  c_MOST_DEPTH : ∃ t, mg "MOST_DEPTH" = some (.int 60 t)
  c_WORDS : KTab K w mg "WORDS" c_WORDS
  c_ESCAPES : KTab K w mg "ESCAPES" c_ESCAPES
variable {P : Program} {w : World} {K : PySem.W.Frag} {mg : Str → Option Value} {base : Heap}
theorem er_BadPlain (T : Txt P K w mg) : ErrM P w K mg base "BadPlain" 2 (mkE [true] ["place"]) := by
  obtain ⟨C, fI, cc, c, doc, pm, ctv, oc, od, osl, hm, lk, hcd, sup, hini, hfun, hbn, noF, _⟩ := T.e_BadPlain.ex
  exact errM_of (k := 1) (F := nfOf s_BadPlain "BadPlain.__init__" cc c) (N := ["self", "place", "__class__"]) (ps := ["self", "place"]) (ks := [true]) (fl := ["place"]) (ta := tPrts [.lit "sign ", .fld 0]) sc_BadPlain lk hcd rfl sup rfl rfl rfl (by decide) rfl rfl hm hini hfun hbn noF (prts_ok [.lit "sign ", .fld 0] [true] (by decide) (by decide)) fun A outer s H E hr => ⟨rfl, rfl, rfl, rfl, pe_joined (.cons pe_str (.cons (pe_fmt (pe_var (i := 1) rfl (.inl rfl) (by decide) (by decide))) .nil)), init1 rfl (.inl rfl) rfl (.inl rfl) (by decide) (by decide) (by decide) (by decide) rfl⟩
theorem ok__law_cell (T : Txt P K w mg) : FnM P w K mg base "_law_cell" 1 m__law_cell := FnM.ofH (k := 0) (N := ["script", "k"]) (ps := ["script", "k"]) (body := b__law_cell) T.f__law_cell sc__law_cell fun f cdv A outer s H E hx =>
    (ms_cons (ms_if (mt_cmp om_lt (me_var (i := 1) rfl) (me_callB cm_len rfl T.n_len bt_len (ma_cons (me_var (i := 0) rfl) ma_nil))) (ms_one (ms_ret (me_ix hx.hu (me_var (i := 0) rfl) (me_var (i := 1) rfl)))) ms_nil)
    (ms_one (ms_ret me_int)))
theorem ok__law_digits (T : Txt P K w mg) : FnM P w K mg base "_law_digits" 2 m__law_digits := FnM.ofH (k := 1) (N := ["script", "first", "last", "digits", "k", "cell", "turn", "seed"]) (ps := ["script", "first", "last"]) (body := b__law_digits) T.f__law_digits sc__law_digits fun f cdv A outer s H E hx =>
    (ms_cons (ms_set (i := 3) sc__law_digits.nd rfl (Or.inl rfl) (me_lst ma_nil))
    (ms_cons (ms_for hx.po hx.calm (mi_range2 rfl T.n_range (ma_cons (me_var (i := 1) rfl) (ma_cons (me_var (i := 2) rfl) ma_nil))) (mg_name (i := 4) sc__law_digits.nd rfl (Or.inl rfl)) (ms_cons (ms_if (mt_cmp om_gt (me_callB cm_len rfl T.n_len bt_len (ma_cons (me_var (i := 3) rfl) ma_nil)) me_int) (ms_one ms_break) ms_nil)
    (ms_cons (ms_set (i := 5) sc__law_digits.nd rfl (Or.inl rfl) (me_call (ok__law_cell T) (hx.room.mono (by omega)) rfl hx.tk (ma_cons (me_var (i := 0) rfl) (ma_cons (me_var (i := 4) rfl) ma_nil))))
    (ms_cons (ms_if (mt_cmp om_lt (me_var (i := 5) rfl) me_int) (ms_one (ms_set (i := 5) sc__law_digits.nd rfl (Or.inl rfl) (me_bin om_sub me_int (me_bin om_mul me_int (me_var (i := 5) rfl))))) ms_nil)
    (ms_one (ms_if (mt_cmp om_ge (me_var (i := 5) rfl) (me_bin om_pow me_int me_int)) (ms_one (ms_for hx.po hx.calm (mi_range1 rfl T.n_range (ma_cons me_int ma_nil)) (mg_name (i := 6) sc__law_digits.nd rfl (Or.inl rfl)) (ms_one (ms_if (mt_cmp om_gt (me_var (i := 5) rfl) me_int) (ms_cons (ms_expr (me_bm PySem.F.plainAttrs_list PySem.F.slot_list_append PySem.F.type_list_append mm_append (me_var (i := 3) rfl) (ma_cons (me_bin om_mod (me_callTy cm_int rfl T.n_int bt_int (ma_cons (me_var (i := 5) rfl) ma_nil)) me_int) ma_nil)))
    (ms_one (ms_set (i := 5) sc__law_digits.nd rfl (Or.inl rfl) (me_bin om_fdiv (me_var (i := 5) rfl) me_int)))) ms_nil)))) (ms_cons (ms_set (i := 7) sc__law_digits.nd rfl (Or.inl rfl) (me_bin om_mod (me_callTy cm_int rfl T.n_int bt_int (ma_cons (me_bin om_add (me_bin om_add (me_bin om_mul (me_var (i := 5) rfl) me_int) (me_bin om_mul (me_var (i := 4) rfl) me_int)) me_int) ma_nil)) me_int))
    (ms_one (ms_for hx.po hx.calm (mi_range1 rfl T.n_range (ma_cons me_int ma_nil)) (mg_name (i := 6) sc__law_digits.nd rfl (Or.inl rfl)) (ms_cons (ms_set (i := 7) sc__law_digits.nd rfl (Or.inl rfl) (me_bin om_mod (me_callTy cm_int rfl T.n_int bt_int (ma_cons (me_bin om_add (me_bin om_add (me_bin om_mul (me_var (i := 7) rfl) me_int) (me_bin om_mul me_int (me_var (i := 6) rfl))) me_int) ma_nil)) me_int))
    (ms_one (ms_expr (me_bm PySem.F.plainAttrs_list PySem.F.slot_list_append PySem.F.type_list_append mm_append (me_var (i := 3) rfl) (ma_cons (me_bin om_mod (me_callTy cm_int rfl T.n_int bt_int (ma_cons (me_bin om_fdiv (me_var (i := 7) rfl) me_int) ma_nil)) me_int) ma_nil))))))))))))))
    (ms_one (ms_ret (me_var (i := 3) rfl)))))
theorem ok__law_draw (T : Txt P K w mg) : FnM P w K mg base "_law_draw" 1 m__law_draw := FnM.ofH (k := 0) (N := ["box", "many", "at"]) (ps := ["box", "many"]) (body := b__law_draw) T.f__law_draw sc__law_draw fun f cdv A outer s H E hx =>
    (ms_cons (ms_set (i := 2) sc__law_draw.nd rfl (Or.inl rfl) (me_ix hx.hu (me_var (i := 0) rfl) me_int))
    (ms_cons (ms_put hx.hu1 (me_bin om_add (me_var (i := 2) rfl) me_int) (me_var (i := 0) rfl) me_int)
    (ms_cons (ms_if (mt_cmp om_lt (me_var (i := 2) rfl) (me_callB cm_len rfl T.n_len bt_len (ma_cons (me_ix hx.hu (me_var (i := 0) rfl) me_int) ma_nil))) (ms_one (ms_ret (me_bin om_mod (me_callTy cm_int rfl T.n_int bt_int (ma_cons (me_ix hx.hu (me_ix hx.hu (me_var (i := 0) rfl) me_int) (me_var (i := 2) rfl)) ma_nil)) (me_var (i := 1) rfl)))) ms_nil)
    (ms_one (ms_ret (me_bin om_mod (me_callTy cm_int rfl T.n_int bt_int (ma_cons (me_bin om_mul (me_var (i := 2) rfl) me_int) ma_nil)) (me_var (i := 1) rfl)))))))
theorem ok__law_value (T : Txt P K w mg) : ∀ n : Nat, FnM P w K mg base "_law_value" (2 + n) (m__law_value n)
  | 0 => FnM.bot (k := 1) T.f__law_value sc__law_value
  | n + 1 => by
    have ih : FnM P w K mg base "_law_value" (2 + n) (m__law_value n) := ok__law_value T n
    exact FnM.ofH (k := 2 + n) (N := ["box", "deep", "kind", "k", "number", "signs"]) (ps := ["box", "deep"]) (body := (sSeq (sAsg (mCall m__law_draw (aCons (mVar 0) (aCons (mC (.int 9)) aNil))) (tgN 2)) (sSeq (sIf (tAnd2 (tBl (mBin oLt (mVar 2) (mC (.int 3)))) (tBl (mBin oGt (mVar 1) (mC (.int 0))))) (sRet (mL oTuple (aCons (mLcC (iRg1 (aCons (mCall m__law_draw (aCons (mVar 0) (aCons (mC (.int 4)) aNil))) aNil)) (tgN 3) tOk (mCallC (m__law_value n) (aCons (mVar 0) (aCons (mBin oSub (mVar 1) (mC (.int 1))) aNil))) [3]) aNil))) sNx) (sSeq (sIf (tBl (mBin oEq (mVar 2) (mC (.int 3)))) (sRet (mBin oIx (mLst (aCons (mC .non) (aCons (mC (.bl true)) (aCons (mC (.bl false)) aNil)))) (mCall m__law_draw (aCons (mVar 0) (aCons (mC (.int 3)) aNil))))) sNx) (sSeq (sIf (tBl (mBin oEq (mVar 2) (mC (.int 4)))) (sSeq (sAsg (mBin oSub (mBin oAdd (mBin oMul (mCall m__law_draw (aCons (mVar 0) (aCons (mC (.int 900)) aNil))) (mBin oPow (mC (.int 10)) (mC (.int 20)))) (mCall m__law_draw (aCons (mVar 0) (aCons (mC (.int 900)) aNil)))) (mC (.int 450))) (tgN 4)) (sRet (mBin oIx (mLst (aCons (mVar 4) (aCons (mBin oSub (mC (.int 0)) (mVar 4)) (aCons (mBin oAdd (mL oIntB (aCons (mBin oAdd (mC (.str (P0.T [49]))) (mBin oMul (mC (.str (P0.T [48]))) (mC (.int 3999)))) aNil)) (mVar 4)) (aCons (mC (.int 0)) aNil))))) (mCall m__law_draw (aCons (mVar 0) (aCons (mC (.int 4)) aNil)))))) sNx) (sSeq (sIf (tBl (mBin oEq (mVar 2) (mC (.int 5)))) (sRet (mBin oSub (mCall m__law_draw (aCons (mVar 0) (aCons (mC (.int 30)) aNil))) (mC (.int 15)))) sNx) (sSeq (sAsg (mC (.str (P0.T [32, 33, 34, 35, 36, 38, 39, 40, 41, 42, 43, 44, 45, 46, 47, 48, 49, 56, 57, 58, 59, 60, 61, 62, 63, 64, 65, 90, 91, 92, 93, 94, 95, 96, 97, 122, 123, 124, 125, 126, 10, 110, 84, 70, 78]))) (tgN 5)) (sRet (mMeth "str" oJoin (mC (.str (P0.T []))) (aCons (mLcC (iRg1 (aCons (mCall m__law_draw (aCons (mVar 0) (aCons (mC (.int 9)) aNil))) aNil)) (tgN 3) tOk (mBin oIx (mVar 5) (mBin oMod (mL oIntB (aCons (mCallC m__law_draw (aCons (mVar 0) (aCons (mC (.int 900)) aNil))) aNil)) (mL oLen (aCons (mVar 5) aNil)))) [3]) aNil)))))))))) T.f__law_value sc__law_value fun f cdv A outer s H E hx =>
    (ms_cons (ms_set (i := 2) sc__law_value.nd rfl (Or.inl rfl) (me_call (ok__law_draw T) (hx.room.mono (by omega)) rfl hx.tk (ma_cons (me_var (i := 0) rfl) (ma_cons me_int ma_nil))))
    (ms_cons (ms_if (mt_w (mw_and (mt_cmp om_lt (me_var (i := 2) rfl) me_int) (mw_and1 (mt_cmp om_gt (me_var (i := 1) rfl) me_int)))) (ms_one (ms_ret (me_callTy cm_tuple rfl T.n_tuple bt_tuple (ma_cons (me_lc (own := [("k", 3)]) hx.calm sc__law_value.nd (mi_range1 rfl T.n_range (ma_cons (me_call (ok__law_draw T) (hx.room.mono (by omega)) rfl hx.tk (ma_cons (me_var (i := 0) rfl) (ma_cons me_int ma_nil))) ma_nil)) (blkOk_by (by kernel_rfl)) (fun _ _ _ _ _ => (mw_name (i := 3) (by decide) sc__law_value.nd rfl (Or.inl rfl))) (fun _ _ _ _ _ => mp_nil) (fun _ _ _ _ _ => (me_callK ih (hx.room.mono (by omega)) rfl (ma_cons (me_var (i := 0) rfl) (ma_cons (me_bin om_sub (me_var (i := 1) rfl) me_int) ma_nil))))) ma_nil)))) ms_nil)
    (ms_cons (ms_if (mt_cmp (om_eq hx.hu) (me_var (i := 2) rfl) me_int) (ms_one (ms_ret (me_ix hx.hu (me_lst (ma_cons me_non (ma_cons me_bl (ma_cons me_bl ma_nil)))) (me_call (ok__law_draw T) (hx.room.mono (by omega)) rfl hx.tk (ma_cons (me_var (i := 0) rfl) (ma_cons me_int ma_nil)))))) ms_nil)
    (ms_cons (ms_if (mt_cmp (om_eq hx.hu) (me_var (i := 2) rfl) me_int) (ms_cons (ms_set (i := 4) sc__law_value.nd rfl (Or.inl rfl) (me_bin om_sub (me_bin om_add (me_bin om_mul (me_call (ok__law_draw T) (hx.room.mono (by omega)) rfl hx.tk (ma_cons (me_var (i := 0) rfl) (ma_cons me_int ma_nil))) (me_bin om_pow me_int me_int)) (me_call (ok__law_draw T) (hx.room.mono (by omega)) rfl hx.tk (ma_cons (me_var (i := 0) rfl) (ma_cons me_int ma_nil)))) me_int))
    (ms_one (ms_ret (me_ix hx.hu (me_lst (ma_cons (me_var (i := 4) rfl) (ma_cons (me_bin om_sub me_int (me_var (i := 4) rfl)) (ma_cons (me_bin om_add (me_callTy (cm_intB T.n__dg) rfl T.n_int bt_int (ma_cons (me_bin om_add (me_eqT lit_2 me_str) (me_bin om_mul (me_eqT lit_3 me_str) me_int)) ma_nil)) (me_var (i := 4) rfl)) (ma_cons me_int ma_nil))))) (me_call (ok__law_draw T) (hx.room.mono (by omega)) rfl hx.tk (ma_cons (me_var (i := 0) rfl) (ma_cons me_int ma_nil))))))) ms_nil)
    (ms_cons (ms_if (mt_cmp (om_eq hx.hu) (me_var (i := 2) rfl) me_int) (ms_one (ms_ret (me_bin om_sub (me_call (ok__law_draw T) (hx.room.mono (by omega)) rfl hx.tk (ma_cons (me_var (i := 0) rfl) (ma_cons me_int ma_nil))) me_int))) ms_nil)
    (ms_cons (ms_set (i := 5) sc__law_value.nd rfl (Or.inr rfl) (me_eqT lit_1 me_str))
    (ms_one (ms_ret (me_bm PySem.F.plainAttrs_str PySem.F.slot_str_join PySem.F.type_str_join mm_join (me_eqT lit_0 me_str) (ma_cons (me_lc (own := [("k", 3)]) hx.calm sc__law_value.nd (mi_range1 rfl T.n_range (ma_cons (me_call (ok__law_draw T) (hx.room.mono (by omega)) rfl hx.tk (ma_cons (me_var (i := 0) rfl) (ma_cons me_int ma_nil))) ma_nil)) (blkOk_by (by kernel_rfl)) (fun _ _ _ _ _ => (mw_name (i := 3) (by decide) sc__law_value.nd rfl (Or.inl rfl))) (fun _ _ _ _ _ => mp_nil) (fun _ _ _ _ _ => (me_ix hx.hu (me_var (i := 5) rfl) (me_bin om_mod (me_callTy (cm_intB T.n__dg) rfl T.n_int bt_int (ma_cons (me_callK (ok__law_draw T) (hx.room.mono (by omega)) rfl (ma_cons (me_var (i := 0) rfl) (ma_cons me_int ma_nil))) ma_nil)) (me_callB cm_len rfl T.n_len bt_len (ma_cons (me_var (i := 5) rfl) ma_nil)))))) ma_nil))))))))))
theorem ok__law_plain (T : Txt P K w mg) : ∀ n : Nat, FnM P w K mg base "_law_plain" (1 + n) (m__law_plain n)
  | 0 => FnM.bot (k := 0) T.f__law_plain sc__law_plain
  | n + 1 => by
    have ih : FnM P w K mg base "_law_plain" (1 + n) (m__law_plain n) := ok__law_plain T n
    exact FnM.ofT (k := 1 + n) (N := ["value", "one"]) (ps := ["value"]) (body := (sSeq (sIf (tBl (mBin oIs (mVar 0) (mC .non))) (sRet (mC (.str (P0.T [78])))) sNx) (sSeq (sIf (tBl (mBin oIs (mVar 0) (mC (.bl true)))) (sRet (mC (.str (P0.T [84])))) sNx) (sSeq (sIf (tBl (mBin oIs (mVar 0) (mC (.bl false)))) (sRet (mC (.str (P0.T [70])))) sNx) (sSeq (sIf (tVal (mL oIsi (aCons (mVar 0) (aCons (mC (.ty "int")) aNil)))) (sRet (mL oStrB (aCons (mVar 0) aNil))) sNx) (sSeq (sIf (tVal (mL oIsi (aCons (mVar 0) (aCons (mC (.ty "tuple")) aNil)))) (sRet (mBin oAdd (mBin oAdd (mC (.str (P0.T [40]))) (mMeth "str" oJoin (mC (.str (P0.T [32]))) (aCons (mLcC (iAny (mVar 0)) (tgN 1) tOk (mCallC (m__law_plain n) (aCons (mVar 1) aNil)) [1]) aNil))) (mC (.str (P0.T [41]))))) sNx) (sRet (mBin oAdd (mBin oAdd (mC (.str (P0.T [34]))) (mUn (oRepl (P0.T [10]) (P0.T [92, 110])) (mUn (oRepl (P0.T [34]) (P0.T [92, 34])) (mUn (oRepl (P0.T [92]) (P0.T [92, 92])) (mVar 0))))) (mC (.str (P0.T [34]))))))))))) T.f__law_plain sc__law_plain (by decide +kernel) (by decide) fun f cdv A outer s H E hx =>
    (mst_cons (PST.of (ms_if (mt_cmp om_is (me_var (i := 0) rfl) me_non) (ms_one (ms_ret (me_eqT lit_15 me_str))) ms_nil))
    (mst_cons (PST.of (ms_if (mt_cmp om_is (me_var (i := 0) rfl) me_bl) (ms_one (ms_ret (me_eqT lit_14 me_str))) ms_nil))
    (mst_cons (PST.of (ms_if (mt_cmp om_is (me_var (i := 0) rfl) me_bl) (ms_one (ms_ret (me_eqT lit_13 me_str))) ms_nil))
    (mst_cons (PST.of (ms_if (mt_val (me_callB cm_isi rfl T.n_isinstance bt_isinstance (ma_cons (me_var (i := 0) rfl) (ma_cons (me_ty (n := "int") rfl T.n_int bt_int) ma_nil)))) (ms_one (ms_ret (me_callTy (cm_strB hx.calm T.n__dg) rfl T.n_str bt_str (ma_cons (me_var (i := 0) rfl) ma_nil)))) ms_nil))
    (mst_cons (PST.of (ms_if (mt_val (me_callB cm_isi rfl T.n_isinstance bt_isinstance (ma_cons (me_var (i := 0) rfl) (ma_cons (me_ty (n := "tuple") rfl T.n_tuple bt_tuple) ma_nil)))) (ms_one (ms_ret (me_bin om_add (me_bin om_add (me_eqT lit_10 me_str) (me_bm PySem.F.plainAttrs_str PySem.F.slot_str_join PySem.F.type_str_join mm_join (me_eqT lit_11 me_str) (ma_cons (me_lc (own := [("one", 1)]) hx.calm sc__law_plain.nd (mi_any (me_var (i := 0) rfl)) (blkOk_by (by kernel_rfl)) (fun _ _ _ _ _ => (mw_name (i := 1) (by decide) sc__law_plain.nd rfl (Or.inl rfl))) (fun _ _ _ _ _ => mp_nil) (fun _ _ _ _ _ => (me_callK ih (hx.room.mono (by omega)) rfl (ma_cons (me_var (i := 1) rfl) ma_nil)))) ma_nil))) (me_eqT lit_12 me_str)))) ms_nil))
    (mst_one (mst_ret (met_bin om_add (met_bin om_add (CwR.PET.of (me_eqT lit_4 me_str)) (met_rep lit_8 lit_9 (met_rep lit_4 lit_7 (met_rep lit_5 lit_6 (CwR.PET.of (me_var (i := 0) rfl)) (by decide +kernel)) (by decide +kernel)) (by decide +kernel))) (CwR.PET.of (me_eqT lit_4 me_str))))))))))
theorem ok__law_same (T : Txt P K w mg) : ∀ n : Nat, FnM P w K mg base "_law_same" (1 + n) (m__law_same n)
  | 0 => FnM.bot (k := 0) T.f__law_same sc__law_same
  | n + 1 => by
    have ih : FnM P w K mg base "_law_same" (1 + n) (m__law_same n) := ok__law_same T n
    exact FnM.ofH (k := 1 + n) (N := ["actual", "due", "k"]) (ps := ["actual", "due"]) (body := (sSeq (sIf (tVal (mL oIsi (aCons (mVar 1) (aCons (mC (.ty "tuple")) aNil)))) (sSeq (sIf (tOr2 (tNot2 (tVal (mL oIsi (aCons (mVar 0) (aCons (mC (.ty "tuple")) aNil))))) (tBl (mBin oNe (mL oLen (aCons (mVar 0) aNil)) (mL oLen (aCons (mVar 1) aNil))))) (sRet (mC (.bl false))) sNx) (sSeq (sFor (iRg1 (aCons (mL oLen (aCons (mVar 1) aNil)) aNil)) (tgN 2) (sIf (tNot2 (tVal (mCall (m__law_same n) (aCons (mBin oIx (mVar 0) (mVar 2)) (aCons (mBin oIx (mVar 1) (mVar 2)) aNil))))) (sRet (mC (.bl false))) sNx)) (sRet (mC (.bl true))))) sNx) (sSeq (sIf (tBl (mBin oIs (mVar 1) (mC .non))) (sRet (mBin oIs (mVar 0) (mC .non))) sNx) (sSeq (sIf (tBl (mBin oIs (mVar 1) (mC (.bl true)))) (sRet (mBin oIs (mVar 0) (mC (.bl true)))) sNx) (sSeq (sIf (tBl (mBin oIs (mVar 1) (mC (.bl false)))) (sRet (mBin oIs (mVar 0) (mC (.bl false)))) sNx) (sSeq (sIf (tVal (mL oIsi (aCons (mVar 1) (aCons (mC (.ty "int")) aNil)))) (sRet (mAnd2 (mL oIsi (aCons (mVar 0) (aCons (mC (.ty "int")) aNil))) (mAnd2 (mNot (mL oIsi (aCons (mVar 0) (aCons (mC (.ty "bool")) aNil)))) (mBin oEq (mVar 0) (mVar 1))))) sNx) (sRet (mAnd2 (mL oIsi (aCons (mVar 0) (aCons (mC (.ty "str")) aNil))) (mBin oEq (mVar 0) (mVar 1)))))))))) T.f__law_same sc__law_same fun f cdv A outer s H E hx =>
    (ms_cons (ms_if (mt_val (me_callB cm_isi rfl T.n_isinstance bt_isinstance (ma_cons (me_var (i := 1) rfl) (ma_cons (me_ty (n := "tuple") rfl T.n_tuple bt_tuple) ma_nil)))) (ms_cons (ms_if (mt_w (mw_or (mt_not (mt_val (me_callB cm_isi rfl T.n_isinstance bt_isinstance (ma_cons (me_var (i := 0) rfl) (ma_cons (me_ty (n := "tuple") rfl T.n_tuple bt_tuple) ma_nil))))) (mw_or1 (mt_cmp (om_ne hx.hu) (me_callB cm_len rfl T.n_len bt_len (ma_cons (me_var (i := 0) rfl) ma_nil)) (me_callB cm_len rfl T.n_len bt_len (ma_cons (me_var (i := 1) rfl) ma_nil)))))) (ms_one (ms_ret me_bl)) ms_nil)
    (ms_cons (ms_for hx.po hx.calm (mi_range1 rfl T.n_range (ma_cons (me_callB cm_len rfl T.n_len bt_len (ma_cons (me_var (i := 1) rfl) ma_nil)) ma_nil)) (mg_name (i := 2) sc__law_same.nd rfl (Or.inl rfl)) (ms_one (ms_if (mt_not (mt_val (me_call ih (hx.room.mono (by omega)) rfl hx.tk (ma_cons (me_ix hx.hu (me_var (i := 0) rfl) (me_var (i := 2) rfl)) (ma_cons (me_ix hx.hu (me_var (i := 1) rfl) (me_var (i := 2) rfl)) ma_nil))))) (ms_one (ms_ret me_bl)) ms_nil)))
    (ms_one (ms_ret me_bl)))) ms_nil)
    (ms_cons (ms_if (mt_cmp om_is (me_var (i := 1) rfl) me_non) (ms_one (ms_ret (me_cmp om_is (me_var (i := 0) rfl) me_non))) ms_nil)
    (ms_cons (ms_if (mt_cmp om_is (me_var (i := 1) rfl) me_bl) (ms_one (ms_ret (me_cmp om_is (me_var (i := 0) rfl) me_bl))) ms_nil)
    (ms_cons (ms_if (mt_cmp om_is (me_var (i := 1) rfl) me_bl) (ms_one (ms_ret (me_cmp om_is (me_var (i := 0) rfl) me_bl))) ms_nil)
    (ms_cons (ms_if (mt_val (me_callB cm_isi rfl T.n_isinstance bt_isinstance (ma_cons (me_var (i := 1) rfl) (ma_cons (me_ty (n := "int") rfl T.n_int bt_int) ma_nil)))) (ms_one (ms_ret (me_and (me_callB cm_isi rfl T.n_isinstance bt_isinstance (ma_cons (me_var (i := 0) rfl) (ma_cons (me_ty (n := "int") rfl T.n_int bt_int) ma_nil))) (me_and (me_not (me_callB cm_isi rfl T.n_isinstance bt_isinstance (ma_cons (me_var (i := 0) rfl) (ma_cons (me_ty (n := "bool") rfl T.n_bool bt_bool) ma_nil)))) (me_one (me_cmp (om_eq hx.hu) (me_var (i := 0) rfl) (me_var (i := 1) rfl))))))) ms_nil)
    (ms_one (ms_ret (me_and (me_callB cm_isi rfl T.n_isinstance bt_isinstance (ma_cons (me_var (i := 0) rfl) (ma_cons (me_ty (n := "str") rfl T.n_str bt_str) ma_nil))) (me_one (me_cmp (om_eq hx.hu) (me_var (i := 0) rfl) (me_var (i := 1) rfl)))))))))))
theorem ok_quoted (T : Txt P K w mg) : FnM P w K mg base "quoted" 1 m_quoted := FnM.ofT (k := 0) (N := ["text", "inner"]) (ps := ["text"]) (body := b_quoted) T.f_quoted sc_quoted (by decide +kernel) (by decide) fun f cdv A outer s H E hx =>
    (mst_cons (mst_set (i := 1) sc_quoted.nd rfl (Or.inl rfl) (met_rep lit_8 lit_9 (met_rep lit_4 lit_7 (met_rep lit_5 lit_6 (CwR.PET.of (me_var (i := 0) rfl)) (by decide +kernel)) (by decide +kernel)) (by decide +kernel)))
    (mst_one (PST.of (ms_ret (me_bin om_add (me_bin om_add (me_eqT lit_4 me_str) (me_var (i := 1) rfl)) (me_eqT lit_4 me_str))))))
theorem ok_show_plain (T : Txt P K w mg) : ∀ n : Nat, FnM P w K mg base "show_plain" (2 + n) (m_show_plain n)
  | 0 => FnM.bot (k := 1) T.f_show_plain sc_show_plain
  | n + 1 => by
    have ih : FnM P w K mg base "show_plain" (2 + n) (m_show_plain n) := ok_show_plain T n
    exact FnM.ofH (k := 2 + n) (N := ["value", "parts", "part"]) (ps := ["value"]) (body := (sSeq (sIf (tBl (mBin oIs (mVar 0) (mC .non))) (sRet (mC (.str (P0.T [78])))) sNx) (sSeq (sIf (tOr2 (tBl (mBin oIs (mVar 0) (mC (.bl true)))) (tBl (mBin oIs (mVar 0) (mC (.bl false))))) (sRet (mIf (tVal (mVar 0)) (mC (.str (P0.T [84]))) (mC (.str (P0.T [70]))))) sNx) (sSeq (sIf (tVal (mL oIsi (aCons (mVar 0) (aCons (mC (.ty "int")) aNil)))) (sRet (mL oStrB (aCons (mVar 0) aNil))) sNx) (sSeq (sIf (tVal (mL oIsi (aCons (mVar 0) (aCons (mC (.ty "str")) aNil)))) (sRet (mCall m_quoted (aCons (mVar 0) aNil))) sNx) (sSeq (sAsg (mMeth "str" oJoin (mC (.str (P0.T [32]))) (aCons (mLcC (iAny (mVar 0)) (tgN 2) tOk (mCallC (m_show_plain n) (aCons (mVar 2) aNil)) [2]) aNil)) (tgN 1)) (sRet (mJs [(mC (.str (P0.T [40]))), (mFmt (mVar 1)), (mC (.str (P0.T [41])))] Str.empty)))))))) T.f_show_plain sc_show_plain fun f cdv A outer s H E hx =>
    (ms_cons (ms_if (mt_cmp om_is (me_var (i := 0) rfl) me_non) (ms_one (ms_ret (me_eqT lit_15 me_str))) ms_nil)
    (ms_cons (ms_if (mt_w (mw_or (mt_cmp om_is (me_var (i := 0) rfl) me_bl) (mw_or1 (mt_cmp om_is (me_var (i := 0) rfl) me_bl)))) (ms_one (ms_ret (me_if (mt_val (me_var (i := 0) rfl)) (me_eqT lit_14 me_str) (me_eqT lit_13 me_str)))) ms_nil)
    (ms_cons (ms_if (mt_val (me_callB cm_isi rfl T.n_isinstance bt_isinstance (ma_cons (me_var (i := 0) rfl) (ma_cons (me_ty (n := "int") rfl T.n_int bt_int) ma_nil)))) (ms_one (ms_ret (me_callTy (cm_strB hx.calm T.n__dg) rfl T.n_str bt_str (ma_cons (me_var (i := 0) rfl) ma_nil)))) ms_nil)
    (ms_cons (ms_if (mt_val (me_callB cm_isi rfl T.n_isinstance bt_isinstance (ma_cons (me_var (i := 0) rfl) (ma_cons (me_ty (n := "str") rfl T.n_str bt_str) ma_nil)))) (ms_one (ms_ret (me_call (ok_quoted T) (hx.room.mono (by omega)) rfl hx.tk (ma_cons (me_var (i := 0) rfl) ma_nil)))) ms_nil)
    (ms_cons (ms_set (i := 1) sc_show_plain.nd rfl (Or.inl rfl) (me_bm PySem.F.plainAttrs_str PySem.F.slot_str_join PySem.F.type_str_join mm_join (me_eqT lit_11 me_str) (ma_cons (me_lc (own := [("part", 2)]) hx.calm sc_show_plain.nd (mi_any (me_var (i := 0) rfl)) (blkOk_by (by kernel_rfl)) (fun _ _ _ _ _ => (mw_name (i := 2) (by decide) sc_show_plain.nd rfl (Or.inl rfl))) (fun _ _ _ _ _ => mp_nil) (fun _ _ _ _ _ => (me_callK ih (hx.room.mono (by omega)) rfl (ma_cons (me_var (i := 2) rfl) ma_nil)))) ma_nil)))
    (ms_one (ms_ret (me_joined (.cons (me_eqT lit_10 me_str) (.cons (me_fmt (me_var (i := 1) rfl)) (.cons (me_eqT lit_12 me_str) .nil)))))))))))
theorem ok_PlainReader__sign (T : Txt P K w mg) : MetM P w K mg base "PlainReader" "_sign" 4 m_PlainReader__sign := MetM.ofH (k := 3) (N := ["self"]) (ps := ["self"]) (body := b_PlainReader__sign) T.f_PlainReader__sign sc_PlainReader__sign fun f cdv A outer s H E hx =>
    (ms_cons (ms_if (mt_cmp (om_eq hx.hu) (me_getF T.k_PlainReader (by decide +kernel) (me_var (i := 0) rfl)) (me_callB cm_len rfl T.n_len bt_len (ma_cons (me_getF T.k_PlainReader (by decide +kernel) (me_var (i := 0) rfl)) ma_nil))) (ms_one (ms_raise (er_BadPlain T) hx.calm (hx.room.mono (by omega)) rfl hx.tk (ma_cons (me_getF T.k_PlainReader (by decide +kernel) (me_var (i := 0) rfl)) ma_nil))) ms_nil)
    (ms_one (ms_ret (me_ix hx.hu (me_getF T.k_PlainReader (by decide +kernel) (me_var (i := 0) rfl)) (me_getF T.k_PlainReader (by decide +kernel) (me_var (i := 0) rfl))))))
theorem ok_consists_of (T : Txt P K w mg) : FnM P w K mg base "consists_of" 1 m_consists_of := FnM.ofH (k := 0) (N := ["text", "signs"]) (ps := ["text", "signs"]) (body := b_consists_of) T.f_consists_of sc_consists_of fun f cdv A outer s H E hx =>
    (ms_one (ms_ret (me_cmp (om_eq hx.hu) (me_bm PySem.F.plainAttrs_str PySem.F.slot_str_strip PySem.F.type_str_strip mm_strip1 (me_var (i := 0) rfl) (ma_cons (me_var (i := 1) rfl) ma_nil)) (me_eqT lit_0 me_str))))
theorem ok_PlainReader__piece (T : Txt P K w mg) : MetM P w K mg base "PlainReader" "_piece" 4 m_PlainReader__piece := MetM.ofH (k := 3) (N := ["self", "end", "piece", "at", "sign"]) (ps := ["self", "end"]) (body := b_PlainReader__piece) T.f_PlainReader__piece sc_PlainReader__piece fun f cdv A outer s H E hx =>
    (ms_cons (ms_set (i := 2) sc_PlainReader__piece.nd rfl (Or.inl rfl) (me_slice (me_getF T.k_PlainReader (by decide +kernel) (me_var (i := 0) rfl)) (mo_some (me_getF T.k_PlainReader (by decide +kernel) (me_var (i := 0) rfl))) (mo_some (me_var (i := 1) rfl))))
    (ms_cons (ms_if (mt_w (mw_or (mt_not (mt_val (me_call (ok_consists_of T) (hx.room.mono (by omega)) rfl hx.tk (ma_cons (me_var (i := 2) rfl) (ma_cons (me_eqT lit_16 (me_gstrE rfl T.c_SIGNS)) ma_nil))))) (mw_or1 (mt_cmp (om_in2 hx.hu5) (me_eqT lit_8 me_str) (me_var (i := 2) rfl))))) (ms_one (ms_for hx.po hx.calm (mi_enum rfl T.n_enumerate (ma_cons (me_var (i := 2) rfl) ma_nil)) (mg_tup hx.calm (mgs_cons (mg_name (i := 3) sc_PlainReader__piece.nd rfl (Or.inl rfl)) (mgs_cons (mg_name (i := 4) sc_PlainReader__piece.nd rfl (Or.inl rfl)) mgs_nil))) (ms_one (ms_if (mt_w (mw_or (mt_cmp (om_eq hx.hu) (me_var (i := 4) rfl) (me_eqT lit_8 me_str)) (mw_or1 (mt_cmp (om_notIn2 hx.hu5) (me_var (i := 4) rfl) (me_eqT lit_16 (me_gstrE rfl T.c_SIGNS)))))) (ms_one (ms_raise (er_BadPlain T) hx.calm (hx.room.mono (by omega)) rfl hx.tk (ma_cons (me_bin om_add (me_getF T.k_PlainReader (by decide +kernel) (me_var (i := 0) rfl)) (me_var (i := 3) rfl)) ma_nil))) ms_nil)))) ms_nil)
    (ms_one (ms_ret (me_var (i := 2) rfl)))))
theorem ok_PlainReader__place_of_quote (T : Txt P K w mg) : MetM P w K mg base "PlainReader" "_place_of_quote" 1 m_PlainReader__place_of_quote := MetM.ofH (k := 0) (N := ["self", "place"]) (ps := ["self"]) (body := b_PlainReader__place_of_quote) T.f_PlainReader__place_of_quote sc_PlainReader__place_of_quote fun f cdv A outer s H E hx =>
    (ms_cons (ms_set (i := 1) sc_PlainReader__place_of_quote.nd rfl (Or.inl rfl) (me_bm PySem.F.plainAttrs_str PySem.F.slot_str_find PySem.F.type_str_find mm_find2 (me_getF T.k_PlainReader (by decide +kernel) (me_var (i := 0) rfl)) (ma_cons (me_eqT lit_4 me_str) (ma_cons (me_getF T.k_PlainReader (by decide +kernel) (me_var (i := 0) rfl)) ma_nil))))
    (ms_one (ms_ret (me_if (mt_cmp (om_eq hx.hu) (me_var (i := 1) rfl) (me_un om_neg me_int)) (me_callB cm_len rfl T.n_len bt_len (ma_cons (me_getF T.k_PlainReader (by decide +kernel) (me_var (i := 0) rfl)) ma_nil)) (me_var (i := 1) rfl)))))
theorem ok_PlainReader__read_text (T : Txt P K w mg) : MetM P w K mg base "PlainReader" "_read_text" 5 m_PlainReader__read_text := MetM.ofH (k := 4) (N := ["self", "pieces", "quote", "escape", "sign"]) (ps := ["self"]) (body := b_PlainReader__read_text) T.f_PlainReader__read_text sc_PlainReader__read_text fun f cdv A outer s H E hx =>
    (ms_cons (ms_set (i := 1) sc_PlainReader__read_text.nd rfl (Or.inl rfl) (me_lst ma_nil))
    (ms_cons (ms_set (i := 2) sc_PlainReader__read_text.nd rfl (Or.inl rfl) (me_getF T.k_PlainReader (by decide +kernel) (me_var (i := 0) rfl)))
    (ms_cons (ms_augFI T.k_PlainReader (by decide +kernel) (me_var (i := 0) rfl) me_int)
    (ms_cons (ms_while hx.po (mt_val me_bl) (ms_cons (ms_if (mt_cmp om_lt (me_var (i := 2) rfl) (me_getF T.k_PlainReader (by decide +kernel) (me_var (i := 0) rfl))) (ms_one (ms_set (i := 2) sc_PlainReader__read_text.nd rfl (Or.inl rfl) (me_met0 T.k_PlainReader (ok_PlainReader__place_of_quote T) (hx.room.mono (by omega)) hx.tk (me_var (i := 0) rfl)))) ms_nil)
    (ms_cons (ms_set (i := 3) sc_PlainReader__read_text.nd rfl (Or.inl rfl) (me_bm PySem.F.plainAttrs_str PySem.F.slot_str_find PySem.F.type_str_find mm_find2 (me_getF T.k_PlainReader (by decide +kernel) (me_var (i := 0) rfl)) (ma_cons (me_eqT lit_5 me_str) (ma_cons (me_getF T.k_PlainReader (by decide +kernel) (me_var (i := 0) rfl)) (ma_cons (me_var (i := 2) rfl) ma_nil)))))
    (ms_cons (ms_if (mt_cmp (om_eq hx.hu) (me_var (i := 3) rfl) (me_un om_neg me_int)) (ms_one ms_break) ms_nil)
    (ms_cons (ms_expr (me_bm PySem.F.plainAttrs_list PySem.F.slot_list_append PySem.F.type_list_append mm_append (me_var (i := 1) rfl) (ma_cons (me_met T.k_PlainReader (ok_PlainReader__piece T) (hx.room.mono (by omega)) hx.tk (me_var (i := 0) rfl) (ma_cons (me_var (i := 3) rfl) ma_nil)) ma_nil)))
    (ms_cons (ms_putF T.k_PlainReader (by decide +kernel) (me_var (i := 0) rfl) (me_bin om_add (me_var (i := 3) rfl) me_int))
    (ms_cons (ms_set (i := 4) sc_PlainReader__read_text.nd rfl (Or.inl rfl) (me_met0 T.k_PlainReader (ok_PlainReader__sign T) (hx.room.mono (by omega)) hx.tk (me_var (i := 0) rfl)))
    (ms_cons (ms_if (mt_knin T.c_ESCAPES rfl (me_var (i := 4) rfl)) (ms_one (ms_raise (er_BadPlain T) hx.calm (hx.room.mono (by omega)) rfl hx.tk (ma_cons (me_getF T.k_PlainReader (by decide +kernel) (me_var (i := 0) rfl)) ma_nil))) ms_nil)
    (ms_cons (ms_expr (me_bm PySem.F.plainAttrs_list PySem.F.slot_list_append PySem.F.type_list_append mm_append (me_var (i := 1) rfl) (ma_cons (me_kix T.c_ESCAPES rfl (me_var (i := 4) rfl)) ma_nil)))
    (ms_one (ms_augFI T.k_PlainReader (by decide +kernel) (me_var (i := 0) rfl) me_int)))))))))))
    (ms_cons (ms_expr (me_bm PySem.F.plainAttrs_list PySem.F.slot_list_append PySem.F.type_list_append mm_append (me_var (i := 1) rfl) (ma_cons (me_met T.k_PlainReader (ok_PlainReader__piece T) (hx.room.mono (by omega)) hx.tk (me_var (i := 0) rfl) (ma_cons (me_var (i := 2) rfl) ma_nil)) ma_nil)))
    (ms_cons (ms_putF T.k_PlainReader (by decide +kernel) (me_var (i := 0) rfl) (me_var (i := 2) rfl))
    (ms_cons (ms_expr (me_met0 T.k_PlainReader (ok_PlainReader__sign T) (hx.room.mono (by omega)) hx.tk (me_var (i := 0) rfl)))
    (ms_cons (ms_augFI T.k_PlainReader (by decide +kernel) (me_var (i := 0) rfl) me_int)
    (ms_one (ms_ret (me_bm PySem.F.plainAttrs_str PySem.F.slot_str_join PySem.F.type_str_join mm_join (me_eqT lit_0 me_str) (ma_cons (me_var (i := 1) rfl) ma_nil))))))))))))
theorem ok_PlainReader__read_integer (T : Txt P K w mg) : MetM P w K mg base "PlainReader" "_read_integer" 5 m_PlainReader__read_integer := MetM.ofH (k := 4) (N := ["self", "sign", "begin", "end"]) (ps := ["self", "sign"]) (body := b_PlainReader__read_integer) T.f_PlainReader__read_integer sc_PlainReader__read_integer fun f cdv A outer s H E hx =>
    (ms_cons (ms_set (i := 2) sc_PlainReader__read_integer.nd rfl (Or.inl rfl) (me_getF T.k_PlainReader (by decide +kernel) (me_var (i := 0) rfl)))
    (ms_cons (ms_if (mt_cmp (om_eq hx.hu) (me_var (i := 1) rfl) (me_eqT lit_18 me_str)) (ms_cons (ms_augFI T.k_PlainReader (by decide +kernel) (me_var (i := 0) rfl) me_int)
    (ms_one (ms_if (mt_cmp (om_notIn2 hx.hu5) (me_met0 T.k_PlainReader (ok_PlainReader__sign T) (hx.room.mono (by omega)) hx.tk (me_var (i := 0) rfl)) (me_eqT lit_19 me_str)) (ms_one (ms_raise (er_BadPlain T) hx.calm (hx.room.mono (by omega)) rfl hx.tk (ma_cons (me_getF T.k_PlainReader (by decide +kernel) (me_var (i := 0) rfl)) ma_nil))) ms_nil))) (ms_one (ms_if (mt_cmp (om_eq hx.hu) (me_var (i := 1) rfl) (me_eqT lit_3 me_str)) (ms_cons (ms_augFI T.k_PlainReader (by decide +kernel) (me_var (i := 0) rfl) me_int)
    (ms_one (ms_ret me_int))) ms_nil)))
    (ms_cons (ms_set (i := 3) sc_PlainReader__read_integer.nd rfl (Or.inl rfl) (me_callB (cm_min hx.calm) rfl T.n_min bt_min (ma_cons (me_bin om_add (me_getF T.k_PlainReader (by decide +kernel) (me_var (i := 0) rfl)) (me_gintE rfl T.c_MOST_DIGITS)) (ma_cons (me_callB cm_len rfl T.n_len bt_len (ma_cons (me_getF T.k_PlainReader (by decide +kernel) (me_var (i := 0) rfl)) ma_nil)) ma_nil))))
    (ms_cons (ms_while hx.po (mt_w (mw_and (mt_cmp om_lt (me_getF T.k_PlainReader (by decide +kernel) (me_var (i := 0) rfl)) (me_var (i := 3) rfl)) (mw_and1 (mt_cmp (om_in2 hx.hu5) (me_ix hx.hu (me_getF T.k_PlainReader (by decide +kernel) (me_var (i := 0) rfl)) (me_getF T.k_PlainReader (by decide +kernel) (me_var (i := 0) rfl))) (me_eqT lit_17 (me_gstrE rfl T.c_DIGITS)))))) (ms_one (ms_augFI T.k_PlainReader (by decide +kernel) (me_var (i := 0) rfl) me_int)))
    (ms_one (ms_ret (me_callTy (cm_intB T.n__dg) rfl T.n_int bt_int (ma_cons (me_slice (me_getF T.k_PlainReader (by decide +kernel) (me_var (i := 0) rfl)) (mo_some (me_var (i := 2) rfl)) (mo_some (me_getF T.k_PlainReader (by decide +kernel) (me_var (i := 0) rfl)))) ma_nil))))))))
theorem ok_scc_PlainReader_read_value (T : Txt P K w mg) : ∀ n : Nat, (MetM P w K mg base "PlainReader" "_read_tuple" (6 + n) (m_PlainReader__read_tuple n)) ∧ (MetM P w K mg base "PlainReader" "read_value" (6 + n) (m_PlainReader_read_value n))
  | 0 => ⟨MetM.bot (k := 5) T.f_PlainReader__read_tuple sc_PlainReader__read_tuple, MetM.bot (k := 5) T.f_PlainReader_read_value sc_PlainReader_read_value⟩
  | n + 1 => by
    have ih := ok_scc_PlainReader_read_value T n
    have ih_PlainReader__read_tuple : MetM P w K mg base "PlainReader" "_read_tuple" (6 + n) (m_PlainReader__read_tuple n) := ih.1
    have ih_PlainReader_read_value : MetM P w K mg base "PlainReader" "read_value" (6 + n) (m_PlainReader_read_value n) := ih.2
    exact ⟨MetM.ofH (k := 6 + n) (N := ["self", "depth", "parts", "sign"]) (ps := ["self", "depth"]) (body := (sSeq (sAsg (mLst aNil) (tgN 2)) (sSeq (sAugFI "PlainReader" "_at" (mVar 0) (mC (.int 1))) (sSeq (sIf (tBl (mBin oEq (mMet "PlainReader" "_sign" m_PlainReader__sign (mVar 0) aNil) (mC (.str (P0.T [41]))))) (sSeq (sAugFI "PlainReader" "_at" (mVar 0) (mC (.int 1))) (sRet (mTup aNil))) sNx) (sWhile fuelW (tVal (mC (.bl true))) (sSeq (sExpr (mMeth "list" oAppend (mVar 2) (aCons (mMet "PlainReader" "read_value" (m_PlainReader_read_value n) (mVar 0) (aCons (mVar 1) aNil)) aNil))) (sSeq (sAsg (mMet "PlainReader" "_sign" m_PlainReader__sign (mVar 0) aNil) (tgN 3)) (sSeq (sIf (tAnd2 (tBl (mBin oNe (mVar 3) (mC (.str (P0.T [32]))))) (tBl (mBin oNe (mVar 3) (mC (.str (P0.T [41])))))) (sRaise "BadPlain" (mkE [true] ["place"]) (aCons (mUn (oGetF "PlainReader" "_at") (mVar 0)) aNil)) sNx) (sSeq (sAugFI "PlainReader" "_at" (mVar 0) (mC (.int 1))) (sIf (tBl (mBin oEq (mVar 3) (mC (.str (P0.T [41]))))) (sRet (mL oTuple (aCons (mVar 2) aNil))) sNx)))))))))) T.f_PlainReader__read_tuple sc_PlainReader__read_tuple fun f cdv A outer s H E hx =>
    (ms_cons (ms_set (i := 2) sc_PlainReader__read_tuple.nd rfl (Or.inl rfl) (me_lst ma_nil))
    (ms_cons (ms_augFI T.k_PlainReader (by decide +kernel) (me_var (i := 0) rfl) me_int)
    (ms_cons (ms_if (mt_cmp (om_eq hx.hu) (me_met0 T.k_PlainReader (ok_PlainReader__sign T) (hx.room.mono (by omega)) hx.tk (me_var (i := 0) rfl)) (me_eqT lit_12 me_str)) (ms_cons (ms_augFI T.k_PlainReader (by decide +kernel) (me_var (i := 0) rfl) me_int)
    (ms_one (ms_ret (me_tup ma_nil)))) ms_nil)
    (ms_one (ms_while hx.po (mt_val me_bl) (ms_cons (ms_expr (me_bm PySem.F.plainAttrs_list PySem.F.slot_list_append PySem.F.type_list_append mm_append (me_var (i := 2) rfl) (ma_cons (me_met T.k_PlainReader ih_PlainReader_read_value (hx.room.mono (by omega)) hx.tk (me_var (i := 0) rfl) (ma_cons (me_var (i := 1) rfl) ma_nil)) ma_nil)))
    (ms_cons (ms_set (i := 3) sc_PlainReader__read_tuple.nd rfl (Or.inl rfl) (me_met0 T.k_PlainReader (ok_PlainReader__sign T) (hx.room.mono (by omega)) hx.tk (me_var (i := 0) rfl)))
    (ms_cons (ms_if (mt_w (mw_and (mt_cmp (om_ne hx.hu) (me_var (i := 3) rfl) (me_eqT lit_11 me_str)) (mw_and1 (mt_cmp (om_ne hx.hu) (me_var (i := 3) rfl) (me_eqT lit_12 me_str))))) (ms_one (ms_raise (er_BadPlain T) hx.calm (hx.room.mono (by omega)) rfl hx.tk (ma_cons (me_getF T.k_PlainReader (by decide +kernel) (me_var (i := 0) rfl)) ma_nil))) ms_nil)
    (ms_cons (ms_augFI T.k_PlainReader (by decide +kernel) (me_var (i := 0) rfl) me_int)
    (ms_one (ms_if (mt_cmp (om_eq hx.hu) (me_var (i := 3) rfl) (me_eqT lit_12 me_str)) (ms_one (ms_ret (me_callTy cm_tuple rfl T.n_tuple bt_tuple (ma_cons (me_var (i := 2) rfl) ma_nil)))) ms_nil))))))))))),
    MetM.ofH (k := 6 + n) (N := ["self", "depth", "sign"]) (ps := ["self", "depth"]) (body := (sSeq (sAsg (mMet "PlainReader" "_sign" m_PlainReader__sign (mVar 0) aNil) (tgN 2)) (sSeq (sIf (tAnd2 (tBl (mBin oEq (mVar 2) (mC (.str (P0.T [40]))))) (tBl (mBin oLt (mVar 1) (mC (.int 60))))) (sRet (mMet "PlainReader" "_read_tuple" (m_PlainReader__read_tuple n) (mVar 0) (aCons (mBin oAdd (mVar 1) (mC (.int 1))) aNil))) sNx) (sSeq (sIf (tBl (mBin oEq (mVar 2) (mC (.str (P0.T [34]))))) (sRet (mMet "PlainReader" "_read_text" m_PlainReader__read_text (mVar 0) aNil)) sNx) (sSeq (sIf (tOr2 (tBl (mBin oEq (mVar 2) (mC (.str (P0.T [45]))))) (tBl (mBin oIn2 (mVar 2) (mC (.str (P0.T [48, 49, 50, 51, 52, 53, 54, 55, 56, 57])))))) (sRet (mMet "PlainReader" "_read_integer" m_PlainReader__read_integer (mVar 0) (aCons (mVar 2) aNil))) sNx) (sSeq (sIf (tBl (mKnin c_WORDS (mVar 2))) (sRaise "BadPlain" (mkE [true] ["place"]) (aCons (mUn (oGetF "PlainReader" "_at") (mVar 0)) aNil)) sNx) (sSeq (sAugFI "PlainReader" "_at" (mVar 0) (mC (.int 1))) (sRet (mKix c_WORDS (mVar 2)))))))))) T.f_PlainReader_read_value sc_PlainReader_read_value fun f cdv A outer s H E hx =>
    (ms_cons (ms_set (i := 2) sc_PlainReader_read_value.nd rfl (Or.inl rfl) (me_met0 T.k_PlainReader (ok_PlainReader__sign T) (hx.room.mono (by omega)) hx.tk (me_var (i := 0) rfl)))
    (ms_cons (ms_if (mt_w (mw_and (mt_cmp (om_eq hx.hu) (me_var (i := 2) rfl) (me_eqT lit_10 me_str)) (mw_and1 (mt_cmp om_lt (me_var (i := 1) rfl) (me_gintE rfl T.c_MOST_DEPTH))))) (ms_one (ms_ret (me_met T.k_PlainReader ih_PlainReader__read_tuple (hx.room.mono (by omega)) hx.tk (me_var (i := 0) rfl) (ma_cons (me_bin om_add (me_var (i := 1) rfl) me_int) ma_nil)))) ms_nil)
    (ms_cons (ms_if (mt_cmp (om_eq hx.hu) (me_var (i := 2) rfl) (me_eqT lit_4 me_str)) (ms_one (ms_ret (me_met0 T.k_PlainReader (ok_PlainReader__read_text T) (hx.room.mono (by omega)) hx.tk (me_var (i := 0) rfl)))) ms_nil)
    (ms_cons (ms_if (mt_w (mw_or (mt_cmp (om_eq hx.hu) (me_var (i := 2) rfl) (me_eqT lit_18 me_str)) (mw_or1 (mt_cmp (om_in2 hx.hu5) (me_var (i := 2) rfl) (me_eqT lit_17 (me_gstrE rfl T.c_DIGITS)))))) (ms_one (ms_ret (me_met T.k_PlainReader (ok_PlainReader__read_integer T) (hx.room.mono (by omega)) hx.tk (me_var (i := 0) rfl) (ma_cons (me_var (i := 2) rfl) ma_nil)))) ms_nil)
    (ms_cons (ms_if (mt_knin T.c_WORDS rfl (me_var (i := 2) rfl)) (ms_one (ms_raise (er_BadPlain T) hx.calm (hx.room.mono (by omega)) rfl hx.tk (ma_cons (me_getF T.k_PlainReader (by decide +kernel) (me_var (i := 0) rfl)) ma_nil))) ms_nil)
    (ms_cons (ms_augFI T.k_PlainReader (by decide +kernel) (me_var (i := 0) rfl) me_int)
    (ms_one (ms_ret (me_kix T.c_WORDS rfl (me_var (i := 2) rfl))))))))))⟩
theorem ok_PlainReader__read_tuple (T : Txt P K w mg) (n : Nat) : MetM P w K mg base "PlainReader" "_read_tuple" (6 + n) (m_PlainReader__read_tuple n) := (ok_scc_PlainReader_read_value T n).1
theorem ok_PlainReader_read_value (T : Txt P K w mg) (n : Nat) : MetM P w K mg base "PlainReader" "read_value" (6 + n) (m_PlainReader_read_value n) := (ok_scc_PlainReader_read_value T n).2
theorem ok_PlainReader_read_end (T : Txt P K w mg) : MetM P w K mg base "PlainReader" "read_end" 4 m_PlainReader_read_end := MetM.ofH (k := 3) (N := ["self"]) (ps := ["self"]) (body := b_PlainReader_read_end) T.f_PlainReader_read_end sc_PlainReader_read_end fun f cdv A outer s H E hx =>
    (ms_one (ms_if (mt_cmp om_lt (me_getF T.k_PlainReader (by decide +kernel) (me_var (i := 0) rfl)) (me_callB cm_len rfl T.n_len bt_len (ma_cons (me_getF T.k_PlainReader (by decide +kernel) (me_var (i := 0) rfl)) ma_nil))) (ms_one (ms_raise (er_BadPlain T) hx.calm (hx.room.mono (by omega)) rfl hx.tk (ma_cons (me_getF T.k_PlainReader (by decide +kernel) (me_var (i := 0) rfl)) ma_nil))) ms_nil))
theorem ok_PlainReader___init__ (T : Txt P K w mg) : MkM P w K mg base "PlainReader" 1 m_PlainReader___init__ := MkM.ofH (k := 0) (N := ["self", "text"]) (ps := ["self", "text"]) (body := b_PlainReader___init__) T.f_PlainReader___init__ sc_PlainReader___init__ fun f cdv A outer s H E hx =>
    (ms_cons (ms_putF T.k_PlainReader (by decide +kernel) (me_var (i := 0) rfl) (me_var (i := 1) rfl))
    (ms_one (ms_putF T.k_PlainReader (by decide +kernel) (me_var (i := 0) rfl) me_int)))
theorem ok_read_plain (T : Txt P K w mg) : FnM P w K mg base "read_plain" 132 m_read_plain := FnM.ofH (k := 131) (N := ["text", "reader", "value"]) (ps := ["text"]) (body := b_read_plain) T.f_read_plain sc_read_plain fun f cdv A outer s H E hx =>
    (ms_cons (ms_set (i := 1) sc_read_plain.nd rfl (Or.inl rfl) (me_make (ok_PlainReader___init__ T) (hx.room.mono (by omega)) rfl (ma_cons (me_var (i := 0) rfl) ma_nil)))
    (ms_cons (ms_set (i := 2) sc_read_plain.nd rfl (Or.inl rfl) (me_met T.k_PlainReader (ok_PlainReader_read_value T 125) (hx.room.mono (by omega)) hx.tk (me_var (i := 1) rfl) (ma_cons me_int ma_nil)))
    (ms_cons (ms_expr (me_met0 T.k_PlainReader (ok_PlainReader_read_end T) (hx.room.mono (by omega)) hx.tk (me_var (i := 1) rfl)))
    (ms_one (ms_ret (me_var (i := 2) rfl))))))
theorem okF_law (T : Txt P K w mg) {f : Addr} {fd : FuncData} (F : Fun K "law" "law" s_law f fd) : FnOk P w K mg base (L2N.CX P w) 133 f fd ["script"] (spM K mg m_law) := FnM.okOf (k := 132) (N := ["script", "box", "turn", "value", "k", "text"]) (ps := ["script"]) (body := b_law) F sc_law fun cdv A outer s H E hx =>
    (ms_cons (ms_set (i := 1) sc_law.nd rfl (Or.inl rfl) (me_lst (ma_cons (me_call (ok__law_digits T) (hx.room.mono (by omega)) rfl hx.tk (ma_cons (me_var (i := 0) rfl) (ma_cons me_int (ma_cons me_int ma_nil)))) (ma_cons me_int ma_nil))))
    (ms_cons (ms_for hx.po hx.calm (mi_range1 rfl T.n_range (ma_cons me_int ma_nil)) (mg_name (i := 2) sc_law.nd rfl (Or.inl rfl)) (ms_cons (ms_set (i := 3) sc_law.nd rfl (Or.inl rfl) (me_call (ok__law_value T 125) (hx.room.mono (by omega)) rfl hx.tk (ma_cons (me_var (i := 1) rfl) (ma_cons me_int ma_nil))))
    (ms_cons (ms_for hx.po hx.calm (mi_range1 rfl T.n_range (ma_cons (me_ix hx.hu (me_lst (ma_cons me_int (ma_cons me_int (ma_cons me_int (ma_cons me_int ma_nil))))) (me_call (ok__law_draw T) (hx.room.mono (by omega)) rfl hx.tk (ma_cons (me_var (i := 1) rfl) (ma_cons me_int ma_nil)))) ma_nil)) (mg_name (i := 4) sc_law.nd rfl (Or.inl rfl)) (ms_one (ms_set (i := 3) sc_law.nd rfl (Or.inl rfl) (me_tup (ma_cons (me_var (i := 3) rfl) ma_nil)))))
    (ms_cons (ms_set (i := 5) sc_law.nd rfl (Or.inl rfl) (me_call (ok__law_plain T 125) (hx.room.mono (by omega)) rfl hx.tk (ma_cons (me_var (i := 3) rfl) ma_nil)))
    (ms_one (ms_if (mt_w (mw_or (mt_not (mt_val (me_call (ok__law_same T 125) (hx.room.mono (by omega)) rfl hx.tk (ma_cons (me_call (ok_show_plain T 125) (hx.room.mono (by omega)) rfl hx.tk (ma_cons (me_var (i := 3) rfl) ma_nil)) (ma_cons (me_var (i := 5) rfl) ma_nil))))) (mw_or1 (mt_not (mt_val (me_call (ok__law_same T 125) (hx.room.mono (by omega)) rfl hx.tk (ma_cons (me_call (ok_read_plain T) (hx.room.mono (by omega)) rfl hx.tk (ma_cons (me_var (i := 5) rfl) ma_nil)) (ma_cons (me_var (i := 3) rfl) ma_nil)))))))) (ms_one (ms_ret me_bl)) ms_nil))))))
    (ms_one (ms_ret me_bl))))
theorem all_mk {l : PySem.W.OpenLaw} {w : World} {K : PySem.W.Frag} {h : Heap} {mg : Str → Option Value} {fa : Addr} (KX : K.In h) (G : h.Ns mainGlobals mg) (hmg : mg "law" = some (.ref fa))
    (f__law_cell : HasF K mg "_law_cell" "_law_cell" s__law_cell ["script", "k"])
    (f__law_digits : HasF K mg "_law_digits" "_law_digits" s__law_digits ["script", "first", "last"])
    (f__law_draw : HasF K mg "_law_draw" "_law_draw" s__law_draw ["box", "many"])
    (f__law_value : HasF K mg "_law_value" "_law_value" s__law_value ["box", "deep"])
    (f__law_plain : HasF K mg "_law_plain" "_law_plain" s__law_plain ["value"])
    (f__law_same : HasF K mg "_law_same" "_law_same" s__law_same ["actual", "due"])
    (f_quoted : HasF K mg "quoted" "quoted" s_quoted ["text"])
    (f_show_plain : HasF K mg "show_plain" "show_plain" s_show_plain ["value"])
    (f_PlainReader__sign : HasM K mg "PlainReader" "_sign" "PlainReader._sign" s_PlainReader__sign ["self"])
    (f_PlainReader__read_tuple : HasM K mg "PlainReader" "_read_tuple" "PlainReader._read_tuple" s_PlainReader__read_tuple ["self", "depth"])
    (f_consists_of : HasF K mg "consists_of" "consists_of" s_consists_of ["text", "signs"])
    (f_PlainReader__piece : HasM K mg "PlainReader" "_piece" "PlainReader._piece" s_PlainReader__piece ["self", "end"])
    (f_PlainReader__place_of_quote : HasM K mg "PlainReader" "_place_of_quote" "PlainReader._place_of_quote" s_PlainReader__place_of_quote ["self"])
    (f_PlainReader__read_text : HasM K mg "PlainReader" "_read_text" "PlainReader._read_text" s_PlainReader__read_text ["self"])
    (f_PlainReader__read_integer : HasM K mg "PlainReader" "_read_integer" "PlainReader._read_integer" s_PlainReader__read_integer ["self", "sign"])
    (f_PlainReader_read_value : HasM K mg "PlainReader" "read_value" "PlainReader.read_value" s_PlainReader_read_value ["self", "depth"])
    (f_PlainReader_read_end : HasM K mg "PlainReader" "read_end" "PlainReader.read_end" s_PlainReader_read_end ["self"])
    (f_PlainReader___init__ : HasI K mg "PlainReader" "PlainReader.__init__" s_PlainReader___init__ ["self", "text"])
    (f_read_plain : HasF K mg "read_plain" "read_plain" s_read_plain ["text"])
    (f_law : HasF K mg "law" "law" s_law ["script"])
    (k_PlainReader : ClsO K mg "PlainReader" ["_text", "_at"])
    (e_BadPlain : ErrF l.prog K mg "BadPlain" "BadPlain.__init__" s_BadPlain "self" ["place"])
    (h_sub : SubAll K mg l_sub)
    (n__dg : Dig0 K)
    (n_bool : mg "bool" = none)
    (n_enumerate : mg "enumerate" = none)
    (n_int : mg "int" = none)
    (n_isinstance : mg "isinstance" = none)
    (n_len : mg "len" = none)
    (n_min : mg "min" = none)
    (n_range : mg "range" = none)
    (n_str : mg "str" = none)
    (n_tuple : mg "tuple" = none)
    (c_DIGITS : ∃ t, mg "DIGITS" = some (.str "0123456789" t))
    (c_SIGNS : ∃ t, mg "SIGNS" = some (.str "\n !\"#$&'()*+,-./0123456789:;<=>?@ABCDEFGHIJKLMNOPQRSTUVWXYZ[\\]^_`abcdefghijklmnopqrstuvwxyz{|}~" t))
    (c_MOST_DIGITS : ∃ t, mg "MOST_DIGITS" = some (.int 4000 t))
    (c_MOST_DEPTH : ∃ t, mg "MOST_DEPTH" = some (.int 60 t))
    (c_WORDS : KTab K w mg "WORDS" c_WORDS)
    (c_ESCAPES : KTab K w mg "ESCAPES" c_ESCAPES)
    : ∃ fd : FuncData, Fun K "law" "law" s_law fa fd ∧ ∀ base : Heap, FnOk l.prog w K mg base (L2N.CX l.prog w) 133 fa fd ["script"] (spM K mg m_law) := by
  have T : Txt l.prog K w mg := ⟨e_BadPlain, h_sub, f__law_cell, f__law_digits, f__law_draw, f__law_value, f__law_plain, f__law_same, f_quoted, f_show_plain, f_PlainReader__sign, f_PlainReader__read_tuple, f_consists_of, f_PlainReader__piece, f_PlainReader__place_of_quote, f_PlainReader__read_text, f_PlainReader__read_integer, f_PlainReader_read_value, f_PlainReader_read_end, f_PlainReader___init__, f_read_plain, f_law, k_PlainReader, n__dg, n_bool, n_enumerate, n_int, n_isinstance, n_len, n_min, n_range, n_str, n_tuple, c_DIGITS, c_SIGNS, c_MOST_DIGITS, c_MOST_DEPTH, c_WORDS, c_ESCAPES⟩
  obtain ⟨f, fd, F, hm, hb⟩ := f_law.ex
  have e := hmg.symm.trans hm
  cases e
  exact ⟨fd, F, fun base => okF_law T F⟩
end K38
end

section
set_option Elab.async false
set_option linter.all false
set_option maxRecDepth 100000
set_option maxHeartbeats 4000000
/-! C0: k38: the reader's object; plain values and their texts. -/
namespace K38
open PySem PySem.Spec M2 P0
set_option autoImplicit false
def O_PlainReader (d0 d1 : D) : SO := .obj "PlainReader" [("_text", d0), ("_at", d1)]
theorem ne_PlainReader_0_1 : ¬ (("_text" : Str) = "_at") := by decide +kernel
theorem ne_PlainReader_0_2 : ¬ (("_text" : Str) = "read_value") := by decide +kernel
theorem ne_PlainReader_0_3 : ¬ (("_text" : Str) = "read_end") := by decide +kernel
theorem ne_PlainReader_0_4 : ¬ (("_text" : Str) = "_sign") := by decide +kernel
theorem ne_PlainReader_0_5 : ¬ (("_text" : Str) = "_read_tuple") := by decide +kernel
theorem ne_PlainReader_0_6 : ¬ (("_text" : Str) = "_read_integer") := by decide +kernel
theorem ne_PlainReader_0_7 : ¬ (("_text" : Str) = "_read_text") := by decide +kernel
theorem ne_PlainReader_0_8 : ¬ (("_text" : Str) = "_place_of_quote") := by decide +kernel
theorem ne_PlainReader_0_9 : ¬ (("_text" : Str) = "_piece") := by decide +kernel
theorem ne_PlainReader_1_0 : ¬ (("_at" : Str) = "_text") := by decide +kernel
theorem ne_PlainReader_1_2 : ¬ (("_at" : Str) = "read_value") := by decide +kernel
theorem ne_PlainReader_1_3 : ¬ (("_at" : Str) = "read_end") := by decide +kernel
theorem ne_PlainReader_1_4 : ¬ (("_at" : Str) = "_sign") := by decide +kernel
theorem ne_PlainReader_1_5 : ¬ (("_at" : Str) = "_read_tuple") := by decide +kernel
theorem ne_PlainReader_1_6 : ¬ (("_at" : Str) = "_read_integer") := by decide +kernel
theorem ne_PlainReader_1_7 : ¬ (("_at" : Str) = "_read_text") := by decide +kernel
theorem ne_PlainReader_1_8 : ¬ (("_at" : Str) = "_place_of_quote") := by decide +kernel
theorem ne_PlainReader_1_9 : ¬ (("_at" : Str) = "_piece") := by decide +kernel
section
variable {S : Sto} {n : Nat} {d0 d1 d : D} {Q : D → Sto → Prop} {X : XQ}
theorem get_PlainReader_text (h : S[n]? = some (O_PlainReader d0 d1)) (q : Q d0 S) : Ev (lift (oGetF "PlainReader" "_text" (.loc n) S)) Q X := get_obj h (by rw [lk_yes]) q
theorem get_PlainReader_at (h : S[n]? = some (O_PlainReader d0 d1)) (q : Q d1 S) : Ev (lift (oGetF "PlainReader" "_at" (.loc n) S)) Q X := get_obj h (by rw [lk_no ne_PlainReader_0_1, lk_yes]) q
theorem put_PlainReader_text (h : S[n]? = some (O_PlainReader d0 d1)) : oPutF "PlainReader" "_text" (.loc n) d S = some (S.set n (O_PlainReader d d1)) := put_obj h (Nat.lt_of_succ_le (Nat.le_of_ble_eq_true rfl)) (by simp only [putFD, if_true])
theorem put_PlainReader_at (h : S[n]? = some (O_PlainReader d0 d1)) : oPutF "PlainReader" "_at" (.loc n) d S = some (S.set n (O_PlainReader d0 d)) := put_obj h (Nat.lt_of_succ_le (Nat.le_of_ble_eq_true rfl)) (by simp only [putFD, if_neg ne_PlainReader_0_1, if_true])
theorem ini_PlainReader_text (h : S[n]? = some (.obj "PlainReader" [])) : oPutF "PlainReader" "_text" (.loc n) d S = some (S.set n (.obj "PlainReader" [("_text", d)])) := put_obj h (Nat.lt_of_succ_le (Nat.le_of_ble_eq_true rfl)) (by simp only [putFD])
theorem ini_PlainReader_at (h : S[n]? = some (.obj "PlainReader" [("_text", d0)])) : oPutF "PlainReader" "_at" (.loc n) d S = some (S.set n (.obj "PlainReader" [("_text", d0), ("_at", d)])) := put_obj h (Nat.lt_of_succ_le (Nat.le_of_ble_eq_true rfl)) (by simp only [putFD, if_neg ne_PlainReader_0_1])
theorem is_PlainReader_read_value (h : S[n]? = some (O_PlainReader d0 d1)) : isO S "PlainReader" "read_value" (.loc n) = true := is_obj_of h (by rw [lk_no ne_PlainReader_0_2, lk_no ne_PlainReader_1_2]; rfl)
theorem is_PlainReader_read_end (h : S[n]? = some (O_PlainReader d0 d1)) : isO S "PlainReader" "read_end" (.loc n) = true := is_obj_of h (by rw [lk_no ne_PlainReader_0_3, lk_no ne_PlainReader_1_3]; rfl)
theorem is_PlainReader__sign (h : S[n]? = some (O_PlainReader d0 d1)) : isO S "PlainReader" "_sign" (.loc n) = true := is_obj_of h (by rw [lk_no ne_PlainReader_0_4, lk_no ne_PlainReader_1_4]; rfl)
theorem is_PlainReader__read_tuple (h : S[n]? = some (O_PlainReader d0 d1)) : isO S "PlainReader" "_read_tuple" (.loc n) = true := is_obj_of h (by rw [lk_no ne_PlainReader_0_5, lk_no ne_PlainReader_1_5]; rfl)
theorem is_PlainReader__read_integer (h : S[n]? = some (O_PlainReader d0 d1)) : isO S "PlainReader" "_read_integer" (.loc n) = true := is_obj_of h (by rw [lk_no ne_PlainReader_0_6, lk_no ne_PlainReader_1_6]; rfl)
theorem is_PlainReader__read_text (h : S[n]? = some (O_PlainReader d0 d1)) : isO S "PlainReader" "_read_text" (.loc n) = true := is_obj_of h (by rw [lk_no ne_PlainReader_0_7, lk_no ne_PlainReader_1_7]; rfl)
theorem is_PlainReader__place_of_quote (h : S[n]? = some (O_PlainReader d0 d1)) : isO S "PlainReader" "_place_of_quote" (.loc n) = true := is_obj_of h (by rw [lk_no ne_PlainReader_0_8, lk_no ne_PlainReader_1_8]; rfl)
theorem is_PlainReader__piece (h : S[n]? = some (O_PlainReader d0 d1)) : isO S "PlainReader" "_piece" (.loc n) = true := is_obj_of h (by rw [lk_no ne_PlainReader_0_9, lk_no ne_PlainReader_1_9]; rfl)
end
/-! ### texts -/
def escC (c : Nat) : List Nat := if c = 92 then [92, 92] else if c = 34 then [92, 34] else if c = 10 then [92, 110] else [c]
def esc (l : List Nat) : List Nat := l.flatMap escC
theorem esc_chain (l : List Nat) : subC 10 [92, 110] (subC 34 [92, 34] (subC 92 [92, 92] l)) = esc l := by
  unfold subC esc
  rw [List.flatMap_assoc, List.flatMap_assoc]
  congr 1
  funext c
  unfold escC
  by_cases h1 : c = 92
  · subst h1; rfl
  · by_cases h2 : c = 34
    · subst h2; rfl
    · by_cases h3 : c = 10
      · subst h3; rfl
      · simp [h1, h2, h3]
theorem escC_len (c : Nat) : (escC c).length ≤ 2 := by
  unfold escC
  split
  · exact Nat.le_refl _
  · split
    · exact Nat.le_refl _
    · split
      · exact Nat.le_refl _
      · show 1 ≤ 2; decide
theorem esc_cons (c : Nat) (l : List Nat) : esc (c :: l) = escC c ++ esc l := rfl
theorem esc_app (a b : List Nat) : esc (a ++ b) = esc a ++ esc b := List.flatMap_append
theorem esc_len : ∀ l : List Nat, (esc l).length ≤ 2 * l.length
  | [] => Nat.le_refl _
  | c :: r => by
    have h1 := esc_len r
    have h2 := escC_len c
    rw [esc_cons, List.length_append, List.length_cons]; omega
theorem sub_len {c : Nat} {z : List Nat} (hz : z.length ≤ 2) : ∀ l : List Nat, (subC c z l).length ≤ 2 * l.length
  | [] => Nat.le_refl _
  | x :: r => by
    have h1 := sub_len (c := c) hz r
    show ((if x = c then z else [x]) ++ subC c z r).length ≤ _
    rw [List.length_append, List.length_cons]
    split
    · omega
    · show 1 + _ ≤ _; omega
/-- signs that stand as they are -/
def pln (c : Nat) : Prop := c ≠ 92 ∧ c ≠ 34 ∧ c ≠ 10
theorem esc_pln : ∀ {l : List Nat}, (∀ c ∈ l, pln c) → esc l = l
  | [], _ => rfl
  | c :: r, h => by
    obtain ⟨h1, h2, h3⟩ := h c List.mem_cons_self
    rw [esc_cons, esc_pln fun x hx => h x (List.mem_cons_of_mem _ hx)]
    unfold escC
    rw [if_neg h1, if_neg h2, if_neg h3]; rfl
/-- the first sign that does not -/
theorem esc_split : ∀ l : List Nat, (∀ c ∈ l, pln c) ∨ ∃ a c b, l = a ++ c :: b ∧ (∀ x ∈ a, pln x) ∧ ¬ pln c
  | [] => .inl fun _ h => absurd h List.not_mem_nil
  | c :: r => by
    by_cases hc : c ≠ 92 ∧ c ≠ 34 ∧ c ≠ 10
    · rcases esc_split r with h | ⟨a, x, b, rfl, h1, h2⟩
      · refine .inl fun y hy => ?_
        rcases List.mem_cons.mp hy with rfl | hy
        · exact hc
        · exact h y hy
      · refine .inr ⟨c :: a, x, b, rfl, fun y hy => ?_, h2⟩
        rcases List.mem_cons.mp hy with rfl | hy
        · exact hc
        · exact h1 y hy
    · exact .inr ⟨[], c, r, rfl, fun _ h => absurd h List.not_mem_nil, hc⟩
/-! ### values -/
def SGN : List Nat := [10, 32, 33, 34, 35, 36, 38, 39, 40, 41, 42, 43, 44, 45, 46, 47, 48, 49, 50, 51, 52, 53, 54, 55, 56, 57, 58, 59, 60, 61, 62, 63, 64, 65, 66, 67, 68, 69, 70, 71, 72, 73, 74, 75, 76, 77, 78, 79, 80, 81, 82, 83, 84, 85, 86, 87, 88, 89, 90, 91, 92, 93, 94, 95, 96, 97, 98, 99, 100, 101, 102, 103, 104, 105, 106, 107, 108, 109, 110, 111, 112, 113, 114, 115, 116, 117, 118, 119, 120, 121, 122, 123, 124, 125, 126]
def big40 : Nat := 10 ^ 4000
def PV : Nat → D → Prop
  | _, .non => True
  | _, .bl _ => True
  | _, .int i => i.natAbs < big40
  | _, .str x => ∃ l, x = T l ∧ l.length ≤ 20 ∧ ∀ c ∈ l, c ∈ SGN
  | n + 1, .tup ds => ds.length ≤ 3 ∧ ∀ d ∈ ds, PV n d
  | _, _ => False
def plT : Nat → D → List Nat
  | _, .non => [78]
  | _, .bl b => if b = true then [84] else [70]
  | _, .int i => decL i
  | _, .str x => [34] ++ esc x.cps.toList ++ [34]
  | n + 1, .tup ds => [40] ++ joinC [32] (ds.map (plT n)) ++ [41]
  | _, _ => []
theorem big_43 : big40 ≤ big43 := by
  unfold big40 big43
  exact Nat.pow_le_pow_right (by decide) (by decide)
theorem numL_40 {n : Nat} (h : n < big40) : (TL.numL n).length ≤ 4000 := TL.numL_len (by decide) h
theorem decL_len {i : Int} (h : i.natAbs < big40) : (decL i).length ≤ 4001 := by
  have := numL_40 h
  unfold decL
  split
  · rw [List.length_cons]; omega
  · omega
theorem decL_read {i : Int} (h : i.natAbs < big40) : PySem.intText? (T (decL i)) = some i := by
  have hl := numL_40 h
  by_cases h0 : i < 0
  · have e : decL i = 45 :: TL.numL i.natAbs := by unfold decL; rw [if_pos h0]
    rw [e]
    have := PySem.intText_neg (x := T (45 :: TL.numL i.natAbs)) (cs := TL.numL i.natAbs) (T_cps _) (TL.numL_digits _) (TL.numL_ne _) (by rw [T_len, List.length_cons]; omega)
    rw [this, TL.numL_val]
    congr 1
    omega
  · have e : decL i = TL.numL i.natAbs := by unfold decL; rw [if_neg h0]
    rw [e]
    have := PySem.intText_digits (x := T (TL.numL i.natAbs)) (by rw [T_cps]; exact TL.numL_digits _) (by rw [T_cps]; exact TL.numL_ne _) (by rw [T_len]; omega)
    rw [this, T_cps, TL.numL_val]
    congr 1
    omega
end K38
end

section
set_option Elab.async false
set_option linter.all false
set_option maxRecDepth 100000
set_option maxHeartbeats 4000000
/-! C1: k38: both writers give the text. -/
namespace K38
open PySem PySem.Spec M2 P0
set_option autoImplicit false
local macro_rules | `(tactic| fail) => `(tactic| first
  | with_reducible refine w_seq ?_
  | with_reducible refine w_asg ?_
  | with_reducible refine w_sif ?_
  | with_reducible refine w_ret ?_
  | with_reducible refine w_retN ?_
  | with_reducible refine w_expr ?_
  | with_reducible refine w_nx ?_
  | with_reducible refine w_bk ?_
  | with_reducible refine w_ct ?_
  | with_reducible refine w_put ?_
  | with_reducible refine w_for ?_
  | with_reducible refine w_bin ?_
  | with_reducible refine w_un ?_
  | with_reducible refine w_nil ?_
  | with_reducible refine w_cons ?_
  | with_reducible refine w_l ?_
  | with_reducible refine w_tup ?_
  | with_reducible refine w_lst ?_
  | with_reducible refine w_if ?_
  | with_reducible refine w_tval ?_
  | with_reducible refine tru_bl ?_
  | with_reducible refine isB_bl ?_
  | with_reducible refine isI_int ?_
  | with_reducible refine isT_T ?_
  | with_reducible refine isS_s ?_
  | with_reducible refine w_tbl ?_
  | with_reducible refine w_and ?_
  | with_reducible refine w_or ?_
  | with_reducible refine w_not ?_
  | with_reducible refine w_mand ?_
  | with_reducible refine w_mor ?_
  | with_reducible refine w_mnot ?_
  | with_reducible refine w_chain ?_
  | with_reducible refine w_meth ?_
  | with_reducible refine rcv_str' ?_
  | with_reducible refine w_call ?_
  | with_reducible refine w_callC ?_
  | with_reducible refine w_call0 ?_
  | with_reducible refine w_no ?_
  | with_reducible refine w_at ?_
  | with_reducible refine w_sl ?_
  | with_reducible refine w_fmt ?_
  | with_reducible refine w_js1 ?_
  | with_reducible refine w_js0 ?_
  | with_reducible refine w_js ?_
  | with_reducible refine w_lrg ?_
  | with_reducible refine w_trg ?_
  | with_reducible refine w_rg1 ?_
  | with_reducible refine w_rg2 ?_
  | with_reducible refine w_kget ?_
  | with_reducible refine w_kix ?_
  | with_reducible refine w_sset ?_
  | with_reducible refine w_c ?_
  | with_reducible refine br_tt ?_
  | with_reducible refine br_ff ?_
  | with_reducible refine br_not ?_
  | with_reducible refine w_any ?_
  | with_reducible refine w_irg1 ?_
  | with_reducible refine w_irg2 ?_
  | with_reducible refine w_ienum ?_
  | ((with_reducible apply w_var); rfl)
  | ((with_reducible refine szL ?_ ?_); rfl)
  | with_reducible refine o_add ?_
  | with_reducible refine o_sub ?_
  | with_reducible refine o_neg ?_
  | with_reducible refine o_lt ?_
  | with_reducible refine o_le ?_
  | with_reducible refine o_gt ?_
  | with_reducible refine o_ge ?_
  | with_reducible refine o_eq ?_
  | with_reducible refine o_ne ?_
  | with_reducible refine o_eqT ?_
  | with_reducible refine o_neT ?_
  | with_reducible refine o_lenU ?_
  | with_reducible refine o_isN ?_
  | with_reducible refine o_isNotN ?_
  | with_reducible refine o_isTy ?_
  | with_reducible refine o_isNotTy ?_
  | with_reducible refine o_int ?_
  | with_reducible refine o_intA ?_
  | with_reducible refine o_strT ?_
  | with_reducible refine o_inT ?_
  | with_reducible refine o_notInT ?_
  | with_reducible refine o_tupleU ?_
  | with_reducible refine o_listU ?_
  | with_reducible refine o_slU ?_
  | with_reducible refine o_slUl ?_
  | with_reducible refine o_slUr ?_
  | ((with_reducible apply o_lenL); (first | assumption | exact get_new | exact get_set (by first | assumption | exact get_new) | exact get_app (by first | assumption | exact get_new)))
  | ((with_reducible apply tru_l); (first | assumption | exact get_new | exact get_set (by first | assumption | exact get_new) | exact get_app (by first | assumption | exact get_new)))
  | ((with_reducible apply rcv_lst); (first | assumption | exact get_new | exact get_set (by first | assumption | exact get_new) | exact get_app (by first | assumption | exact get_new)))
  | ((with_reducible apply o_tupleL); (first | assumption | exact get_new | exact get_set (by first | assumption | exact get_new) | exact get_app (by first | assumption | exact get_new)))
  | ((with_reducible apply o_slLl); (first | assumption | exact get_new | exact get_set (by first | assumption | exact get_new) | exact get_app (by first | assumption | exact get_new)))
  | ((with_reducible apply o_slLr); (first | assumption | exact get_new | exact get_set (by first | assumption | exact get_new) | exact get_app (by first | assumption | exact get_new)))
  | ((with_reducible refine o_lenT ?_ ?_); (first | assumption | omega | (rw [sizeLine_eq]; omega) | (simp only [List.length_append, List.length_cons, List.length_nil, List.length_map, List.length_take, List.length_drop] <;> first | omega | (rw [sizeLine_eq]; omega))))
  | ((with_reducible refine o_addT ?_ ?_); (first | assumption | omega | (rw [sizeLine_eq]; omega) | (simp only [List.length_append, List.length_cons, List.length_nil, List.length_map, List.length_take, List.length_drop] <;> first | omega | (rw [sizeLine_eq]; omega))))
  | ((with_reducible refine o_addU ?_ ?_); (first | assumption | omega | (rw [sizeLine_eq]; omega) | (simp only [List.length_append, List.length_cons, List.length_nil, List.length_map, List.length_take, List.length_drop] <;> first | omega | (rw [sizeLine_eq]; omega))))
  | ((with_reducible refine o_slT ?_ ?_); (first | assumption | omega | (rw [sizeLine_eq]; omega) | (simp only [List.length_append, List.length_cons, List.length_nil, List.length_map, List.length_take, List.length_drop] <;> first | omega | (rw [sizeLine_eq]; omega))))
  | ((with_reducible refine o_slTl ?_ ?_); (first | assumption | omega | (rw [sizeLine_eq]; omega) | (simp only [List.length_append, List.length_cons, List.length_nil, List.length_map, List.length_take, List.length_drop] <;> first | omega | (rw [sizeLine_eq]; omega))))
  | ((with_reducible refine o_slTr ?_ ?_); (first | assumption | omega | (rw [sizeLine_eq]; omega) | (simp only [List.length_append, List.length_cons, List.length_nil, List.length_map, List.length_take, List.length_drop] <;> first | omega | (rw [sizeLine_eq]; omega))))
  | ((with_reducible refine o_mod ?_ ?_); (first | assumption | omega | (rw [sizeLine_eq]; omega) | (simp only [List.length_append, List.length_cons, List.length_nil, List.length_map, List.length_take, List.length_drop] <;> first | omega | (rw [sizeLine_eq]; omega))))
  | ((with_reducible refine o_str ?_ ?_); (first | assumption | omega | (rw [sizeLine_eq]; omega) | (simp only [List.length_append, List.length_cons, List.length_nil, List.length_map, List.length_take, List.length_drop] <;> first | omega | (rw [sizeLine_eq]; omega))))
  | ((with_reducible refine o_strA ?_ ?_); (first | assumption | omega | (rw [sizeLine_eq]; omega) | (simp only [List.length_append, List.length_cons, List.length_nil, List.length_map, List.length_take, List.length_drop] <;> first | omega | (rw [sizeLine_eq]; omega))))
  | ((with_reducible refine o_parT ?_ ?_); (first | assumption | omega | (rw [sizeLine_eq]; omega) | (simp only [List.length_append, List.length_cons, List.length_nil, List.length_map, List.length_take, List.length_drop] <;> first | omega | (rw [sizeLine_eq]; omega))))
  | ((with_reducible refine fmtI ?_ ?_); (first | assumption | omega | (rw [sizeLine_eq]; omega) | (simp only [List.length_append, List.length_cons, List.length_nil, List.length_map, List.length_take, List.length_drop] <;> first | omega | (rw [sizeLine_eq]; omega))))
  | ((with_reducible refine fmtT ?_ ?_); (first | assumption | omega | (rw [sizeLine_eq]; omega) | (simp only [List.length_append, List.length_cons, List.length_nil, List.length_map, List.length_take, List.length_drop] <;> first | omega | (rw [sizeLine_eq]; omega))))
  | ((with_reducible refine leS_ ?_ ?_); (first | assumption | omega | (rw [sizeLine_eq]; omega) | (simp only [List.length_append, List.length_cons, List.length_nil, List.length_map, List.length_take, List.length_drop] <;> first | omega | (rw [sizeLine_eq]; omega))))
  | ((with_reducible apply o_append); (first | assumption | exact get_new | exact get_set (by first | assumption | exact get_new) | exact get_app (by first | assumption | exact get_new)); (first | assumption | omega | (rw [sizeLine_eq]; omega) | (simp only [List.length_append, List.length_cons, List.length_nil, List.length_map, List.length_take, List.length_drop] <;> first | omega | (rw [sizeLine_eq]; omega))))
  | ((with_reducible refine o_fdiv ?_ ?_ ?_); (first | assumption | omega | (rw [sizeLine_eq]; omega) | (simp only [List.length_append, List.length_cons, List.length_nil, List.length_map, List.length_take, List.length_drop] <;> first | omega | (rw [sizeLine_eq]; omega))); (first | assumption | omega | (rw [sizeLine_eq]; omega) | (simp only [List.length_append, List.length_cons, List.length_nil, List.length_map, List.length_take, List.length_drop] <;> first | omega | (rw [sizeLine_eq]; omega))))
  | ((with_reducible refine o_mul ?_ ?_ ?_); (first | assumption | omega | (rw [sizeLine_eq]; omega) | (simp only [List.length_append, List.length_cons, List.length_nil, List.length_map, List.length_take, List.length_drop] <;> first | omega | (rw [sizeLine_eq]; omega))); (first | assumption | omega | (rw [sizeLine_eq]; omega) | (simp only [List.length_append, List.length_cons, List.length_nil, List.length_map, List.length_take, List.length_drop] <;> first | omega | (rw [sizeLine_eq]; omega))))
  | ((with_reducible refine br_y ?_ ?_); first | assumption | omega | decide)
  | ((with_reducible refine br_n ?_ ?_); first | assumption | omega | decide))
theorem PV_zero {v : D} {n : Nat} (h : PV 0 v) : PV n v := by
  cases v with
  | tup ds => exact h.elim
  | loc k => exact h.elim
  | fn x => exact h.elim
  | ty x => exact h.elim
  | non => cases n <;> trivial
  | bl b => cases n <;> trivial
  | int i => cases n <;> exact h
  | str x => cases n <;> exact h
theorem join_mem_len {s : List Nat} {w : List Nat} : ∀ {ls : List (List Nat)}, w ∈ ls → w.length ≤ (TL.joinL s ls).length
  | [], h => by cases h
  | [x], h => by
    rw [List.mem_singleton.mp h]
    exact Nat.le_refl _
  | x :: y :: r, h => by
    show _ ≤ (x ++ (s ++ TL.joinL s (y :: r))).length
    rw [List.length_append, List.length_append]
    rcases List.mem_cons.mp h with rfl | h
    · omega
    · have := join_mem_len (s := s) h
      omega
theorem join_sum_le {s : List Nat} : ∀ {ls : List (List Nat)}, (ls.map List.length).sum ≤ (TL.joinL s ls).length
  | [] => Nat.le_refl _
  | [x] => by simp [TL.joinL]
  | x :: y :: r => by
    show _ ≤ (x ++ (s ++ TL.joinL s (y :: r))).length
    have := join_sum_le (s := s) (ls := y :: r)
    rw [List.map_cons, List.sum_cons, List.length_append, List.length_append]
    omega
theorem quoted_ok {l : List Nat} {S : Sto} (h : l.length ≤ 20) : m_quoted [.str (T l)] S = .ok (.str (T ([34] ++ esc l ++ [34]))) S := by
  have h1 := sub_len (c := 92) (z := [92, 92]) (Nat.le_refl 2) l
  have h2 := sub_len (c := 34) (z := [92, 34]) (Nat.le_refl 2) (subC 92 [92, 92] l)
  have h3 := esc_len l
  have e := esc_chain l
  refine pure_of (w_def rfl ?_)
  unfold b_quoted
  repeat fail
  refine o_repl (by show _ + _ * 2 ≤ _; omega) ?_
  generalize subC 92 [92, 92] l = l1 at h1 h2 e ⊢
  refine o_repl (by show _ + _ * 2 ≤ _; omega) ?_
  generalize subC 34 [92, 34] l1 = l2 at h2 e ⊢
  refine o_repl (by show _ + _ * 2 ≤ _; omega) ?_
  rw [e]
  repeat fail
  exact ⟨rfl, rfl⟩
abbrev Wr (n N : Nat) (m : Nat → MF) : Prop := ∀ (v : D) (S : Sto), PV n v → n < N → (plT n v).length ≤ 1000000 → Ev (m N [v] S) (fun d S' => Gr S S' ∧ d = .str (T (plT n v))) noX
theorem show_ok : ∀ n N : Nat, Wr n N m_show_plain
  | n, 0, v, S, _, hN, _ => absurd hN (Nat.not_lt_zero _)
  | n, N + 1, v, S, hv, hN, hl => by
    have e0 : startE 3 [v] = [some v, none, none] := rfl
    cases v with
    | loc k => cases n <;> exact hv.elim
    | fn x => cases n <;> exact hv.elim
    | ty x => cases n <;> exact hv.elim
    | non =>
      have e : plT n .non = [78] := by cases n <;> rfl
      rw [e]
      unfold m_show_plain
      refine w_def rfl ?_
      repeat fail
      show Br true _ _
      repeat fail
      exact ⟨Gr.refl _, rfl⟩
    | bl b =>
      have e : plT n (.bl b) = if b = true then [84] else [70] := by cases n <;> rfl
      rw [e]
      unfold m_show_plain
      refine w_def rfl ?_
      repeat fail
      show Br false _ _
      repeat fail
      refine o_isBl (j := decide (b = true)) rfl ?_
      cases b with
      | true =>
        show isB (.bl true) _
        repeat fail
        exact ⟨Gr.refl _, rfl⟩
      | false =>
        show isB (.bl false) _
        repeat fail
        refine o_isBl (j := true) rfl ?_
        repeat fail
        exact ⟨Gr.refl _, rfl⟩
    | int i =>
      have hi : i.natAbs < big40 := by cases n <;> exact hv
      have e : plT n (.int i) = decL i := by cases n <;> rfl
      rw [e]
      unfold m_show_plain
      refine w_def rfl ?_
      repeat fail
      show Br false _ _
      repeat fail
      refine o_isBl (j := false) rfl ?_
      repeat fail
      refine o_isBl (j := false) rfl ?_
      repeat fail
      refine o_isi (t := "int") (k := true) rfl rfl ?_
      repeat fail
      refine o_strB (Nat.lt_of_lt_of_le hi big_43) ?_
      exact ⟨Gr.refl _, rfl⟩
    | str x =>
      have hx : ∃ l, x = T l ∧ l.length ≤ 20 ∧ ∀ c ∈ l, c ∈ SGN := by cases n <;> exact hv
      obtain ⟨l, rfl, h1, h2⟩ := hx
      have e : plT n (.str (T l)) = [34] ++ esc l ++ [34] := by cases n <;> rfl
      rw [e]
      unfold m_show_plain
      refine w_def rfl ?_
      repeat fail
      show Br false _ _
      repeat fail
      refine o_isBl (j := false) rfl ?_
      repeat fail
      refine o_isBl (j := false) rfl ?_
      repeat fail
      refine o_isi (t := "str") (k := false) rfl rfl ?_
      repeat fail
      refine o_isi (t := "str") (k := true) rfl rfl ?_
      repeat fail
      refine ev_pure (quoted_ok h1) ?_
      exact ⟨Gr.refl _, rfl⟩
    | tup ds =>
      cases n with
      | zero => exact hv.elim
      | succ n =>
        obtain ⟨h3, hds⟩ := hv
        have e : plT (n + 1) (.tup ds) = [40] ++ joinC [32] (ds.map (plT n)) ++ [41] := rfl
        rw [e] at hl ⊢
        rw [List.length_append, List.length_append] at hl
        have hj : (joinC [32] (ds.map (plT n))).length ≤ 1000000 := by omega
        have hsum : ((ds.map (plT n)).map List.length).sum ≤ (joinC [32] (ds.map (plT n))).length := join_sum_le
        unfold m_show_plain
        refine w_def rfl ?_
        rw [e0]
        refine w_seqc (fun e' S' => S = S' ∧ e' = [some (.tup ds), none, none]) ?_ ?_
        · repeat fail
          show Br false _ _
          repeat fail
          exact ⟨rfl, rfl⟩
        rintro _ _ ⟨rfl, rfl⟩
        refine w_seqc (fun e' S' => S = S' ∧ e' = [some (.tup ds), none, none]) ?_ ?_
        · repeat fail
          refine o_isBl (j := false) rfl ?_
          repeat fail
          refine o_isBl (j := false) rfl ?_
          repeat fail
          exact ⟨rfl, rfl⟩
        rintro _ _ ⟨rfl, rfl⟩
        refine w_seqc (fun e' S' => S = S' ∧ e' = [some (.tup ds), none, none]) ?_ ?_
        · repeat fail
          refine o_isi (t := "tuple") (k := false) rfl rfl ?_
          repeat fail
          exact ⟨rfl, rfl⟩
        rintro _ _ ⟨rfl, rfl⟩
        refine w_seqc (fun e' S' => S = S' ∧ e' = [some (.tup ds), none, none]) ?_ ?_
        · repeat fail
          refine o_isi (t := "tuple") (k := false) rfl rfl ?_
          repeat fail
          exact ⟨rfl, rfl⟩
        rintro _ _ ⟨rfl, rfl⟩
        refine w_seqc (fun e' S' => Gr S S' ∧ ∃ y2, e' = [some (.tup ds), some (.str (T (joinC [32] (ds.map (plT n))))), y2]) ?_ ?_
        · repeat fail
          refine w_lci ?_
          repeat fail
          refine ⟨ds, ds.map fun d => .str (T (plT n d)), by simp, fun i S' g => rfl, rfl, by rw [sizeLine_eq]; omega, ?_, fun S3 g3 hS3 => ?_⟩
          · intro i d S' hd gg
            have hm := List.mem_of_getElem? hd
            refine ⟨_, rfl, ?_⟩
            repeat fail
            have hle : (plT n d).length ≤ 1000000 := Nat.le_trans (join_mem_len (s := [32]) (List.mem_map_of_mem hm)) hj
            refine Ev.nox (show_ok n N d S' (hds d hm) (by omega) hle) ?_
            rintro y S4 ⟨g4, rfl⟩
            exact ⟨by rw [List.getElem?_map, hd]; rfl, g4⟩
          · repeat fail
            have hit : S3[S.length]? = some (.lst true (strT (ds.map (plT n)))) := by
              rw [hS3, strT, List.map_map]; rfl
            refine o_joinT (items_L hit) (by rw [List.length_map, List.length_singleton]; omega) ?_
            exact ⟨g3, _, rfl⟩
        rintro _ S5 ⟨g5, y2, rfl⟩
        generalize joinC [32] (ds.map (plT n)) = J at hj ⊢
        repeat fail
        exact ⟨g5, rfl⟩
theorem plain_ok : ∀ n N : Nat, Wr n N m__law_plain
  | n, 0, v, S, _, hN, _ => absurd hN (Nat.not_lt_zero _)
  | n, N + 1, v, S, hv, hN, hl => by
    have e0 : startE 2 [v] = [some v, none] := rfl
    cases v with
    | loc k => cases n <;> exact hv.elim
    | fn x => cases n <;> exact hv.elim
    | ty x => cases n <;> exact hv.elim
    | non =>
      have e : plT n .non = [78] := by cases n <;> rfl
      rw [e]
      unfold m__law_plain
      refine w_def rfl ?_
      repeat fail
      show Br true _ _
      repeat fail
      exact ⟨Gr.refl _, rfl⟩
    | bl b =>
      have e : plT n (.bl b) = if b = true then [84] else [70] := by cases n <;> rfl
      rw [e]
      unfold m__law_plain
      refine w_def rfl ?_
      repeat fail
      show Br false _ _
      repeat fail
      refine o_isBl (j := decide (b = true)) rfl ?_
      cases b with
      | true =>
        show isB (.bl true) _
        repeat fail
        exact ⟨Gr.refl _, rfl⟩
      | false =>
        show isB (.bl false) _
        repeat fail
        refine o_isBl (j := true) rfl ?_
        repeat fail
        exact ⟨Gr.refl _, rfl⟩
    | int i =>
      have hi : i.natAbs < big40 := by cases n <;> exact hv
      have e : plT n (.int i) = decL i := by cases n <;> rfl
      rw [e]
      unfold m__law_plain
      refine w_def rfl ?_
      repeat fail
      show Br false _ _
      repeat fail
      refine o_isBl (j := false) rfl ?_
      repeat fail
      refine o_isBl (j := false) rfl ?_
      repeat fail
      refine o_isi (t := "int") (k := true) rfl rfl ?_
      repeat fail
      refine o_strB (Nat.lt_of_lt_of_le hi big_43) ?_
      exact ⟨Gr.refl _, rfl⟩
    | str x =>
      have hx : ∃ l, x = T l ∧ l.length ≤ 20 ∧ ∀ c ∈ l, c ∈ SGN := by cases n <;> exact hv
      obtain ⟨l, rfl, hl1, hl2⟩ := hx
      have e : plT n (.str (T l)) = [34] ++ esc l ++ [34] := by cases n <;> rfl
      rw [e]
      have h1 := sub_len (c := 92) (z := [92, 92]) (Nat.le_refl 2) l
      have h2 := sub_len (c := 34) (z := [92, 34]) (Nat.le_refl 2) (subC 92 [92, 92] l)
      have h3 := esc_len l
      have e2 := esc_chain l
      unfold m__law_plain
      refine w_def rfl ?_
      repeat fail
      show Br false _ _
      repeat fail
      refine o_isBl (j := false) rfl ?_
      repeat fail
      refine o_isBl (j := false) rfl ?_
      repeat fail
      refine o_isi (t := "str") (k := false) rfl rfl ?_
      repeat fail
      refine o_isi (t := "str") (k := false) rfl rfl ?_
      repeat fail
      refine o_repl (by show _ + _ * 2 ≤ _; omega) ?_
      generalize subC 92 [92, 92] l = l1 at h1 h2 e2 ⊢
      refine o_repl (by show _ + _ * 2 ≤ _; omega) ?_
      generalize subC 34 [92, 34] l1 = l2 at h2 e2 ⊢
      refine o_repl (by show _ + _ * 2 ≤ _; omega) ?_
      rw [e2]
      repeat fail
      exact ⟨Gr.refl _, rfl⟩
    | tup ds =>
      cases n with
      | zero => exact hv.elim
      | succ n =>
        obtain ⟨h3, hds⟩ := hv
        have e : plT (n + 1) (.tup ds) = [40] ++ joinC [32] (ds.map (plT n)) ++ [41] := rfl
        rw [e] at hl ⊢
        rw [List.length_append, List.length_append] at hl
        have hj : (joinC [32] (ds.map (plT n))).length ≤ 1000000 := by omega
        have hsum : ((ds.map (plT n)).map List.length).sum ≤ (joinC [32] (ds.map (plT n))).length := join_sum_le
        unfold m__law_plain
        refine w_def rfl ?_
        rw [e0]
        refine w_seqc (fun e' S' => S = S' ∧ e' = [some (.tup ds), none]) ?_ ?_
        · repeat fail
          show Br false _ _
          repeat fail
          exact ⟨rfl, rfl⟩
        rintro _ _ ⟨rfl, rfl⟩
        refine w_seqc (fun e' S' => S = S' ∧ e' = [some (.tup ds), none]) ?_ ?_
        · repeat fail
          refine o_isBl (j := false) rfl ?_
          repeat fail
          exact ⟨rfl, rfl⟩
        rintro _ _ ⟨rfl, rfl⟩
        refine w_seqc (fun e' S' => S = S' ∧ e' = [some (.tup ds), none]) ?_ ?_
        · repeat fail
          refine o_isBl (j := false) rfl ?_
          repeat fail
          exact ⟨rfl, rfl⟩
        rintro _ _ ⟨rfl, rfl⟩
        refine w_seqc (fun e' S' => S = S' ∧ e' = [some (.tup ds), none]) ?_ ?_
        · repeat fail
          refine o_isi (t := "tuple") (k := false) rfl rfl ?_
          repeat fail
          exact ⟨rfl, rfl⟩
        rintro _ _ ⟨rfl, rfl⟩
        refine w_seqc (fun _ _ => False) ?_ (fun _ _ h => h.elim)
        repeat fail
        refine o_isi (t := "tuple") (k := true) rfl rfl ?_
        repeat fail
        refine w_lci ?_
        repeat fail
        refine ⟨ds, ds.map fun d => .str (T (plT n d)), by simp, fun i S' g => rfl, rfl, by rw [sizeLine_eq]; omega, ?_, fun S3 g3 hS3 => ?_⟩
        · intro i d S' hd gg
          have hm := List.mem_of_getElem? hd
          refine ⟨_, rfl, ?_⟩
          repeat fail
          have hle : (plT n d).length ≤ 1000000 := Nat.le_trans (join_mem_len (s := [32]) (List.mem_map_of_mem hm)) hj
          refine Ev.nox (plain_ok n N d S' (hds d hm) (by omega) hle) ?_
          rintro y S4 ⟨g4, rfl⟩
          exact ⟨by rw [List.getElem?_map, hd]; rfl, g4⟩
        · repeat fail
          have hit : S3[S.length]? = some (.lst true (strT (ds.map (plT n)))) := by
            rw [hS3, strT, List.map_map]; rfl
          refine o_joinT (items_L hit) (by rw [List.length_map, List.length_singleton]; omega) ?_
          generalize joinC [32] (ds.map (plT n)) = J at hj ⊢
          repeat fail
          exact ⟨g3, rfl⟩
end K38
end

section
set_option Elab.async false
set_option linter.all false
set_option maxRecDepth 100000
set_option maxHeartbeats 4000000
/-! C2: k38: the reader's steps. -/
namespace K38
open PySem PySem.Spec M2 P0
set_option autoImplicit false
local macro_rules | `(tactic| fail) => `(tactic| first
  | with_reducible refine w_seq ?_
  | with_reducible refine w_asg ?_
  | with_reducible refine w_sif ?_
  | with_reducible refine w_ret ?_
  | with_reducible refine w_retN ?_
  | with_reducible refine w_expr ?_
  | with_reducible refine w_nx ?_
  | with_reducible refine w_bk ?_
  | with_reducible refine w_ct ?_
  | with_reducible refine w_put ?_
  | with_reducible refine w_for ?_
  | with_reducible refine w_bin ?_
  | with_reducible refine w_un ?_
  | with_reducible refine w_nil ?_
  | with_reducible refine w_cons ?_
  | with_reducible refine w_l ?_
  | with_reducible refine w_tup ?_
  | with_reducible refine w_lst ?_
  | with_reducible refine w_if ?_
  | with_reducible refine w_tval ?_
  | with_reducible refine tru_bl ?_
  | with_reducible refine isB_bl ?_
  | with_reducible refine isI_int ?_
  | with_reducible refine isT_T ?_
  | with_reducible refine isS_s ?_
  | with_reducible refine w_tbl ?_
  | with_reducible refine w_and ?_
  | with_reducible refine w_or ?_
  | with_reducible refine w_not ?_
  | with_reducible refine w_mand ?_
  | with_reducible refine w_mor ?_
  | with_reducible refine w_mnot ?_
  | with_reducible refine w_chain ?_
  | with_reducible refine w_meth ?_
  | with_reducible refine rcv_str' ?_
  | with_reducible refine w_call ?_
  | with_reducible refine w_callC ?_
  | with_reducible refine w_call0 ?_
  | with_reducible refine w_no ?_
  | with_reducible refine w_at ?_
  | with_reducible refine w_sl ?_
  | with_reducible refine w_fmt ?_
  | with_reducible refine w_js1 ?_
  | with_reducible refine w_js0 ?_
  | with_reducible refine w_js ?_
  | with_reducible refine w_lrg ?_
  | with_reducible refine w_trg ?_
  | with_reducible refine w_rg1 ?_
  | with_reducible refine w_rg2 ?_
  | with_reducible refine w_kget ?_
  | with_reducible refine w_kix ?_
  | with_reducible refine w_sset ?_
  | with_reducible refine w_c ?_
  | with_reducible refine br_tt ?_
  | with_reducible refine br_ff ?_
  | with_reducible refine br_not ?_
  | with_reducible refine w_any ?_
  | with_reducible refine w_irg1 ?_
  | with_reducible refine w_irg2 ?_
  | with_reducible refine w_ienum ?_
  | ((with_reducible apply w_var); rfl)
  | ((with_reducible refine szL ?_ ?_); rfl)
  | with_reducible refine o_add ?_
  | with_reducible refine o_sub ?_
  | with_reducible refine o_neg ?_
  | with_reducible refine o_lt ?_
  | with_reducible refine o_le ?_
  | with_reducible refine o_gt ?_
  | with_reducible refine o_ge ?_
  | with_reducible refine o_eq ?_
  | with_reducible refine o_ne ?_
  | with_reducible refine o_eqT ?_
  | with_reducible refine o_neT ?_
  | with_reducible refine o_lenU ?_
  | with_reducible refine o_isN ?_
  | with_reducible refine o_isNotN ?_
  | with_reducible refine o_isTy ?_
  | with_reducible refine o_isNotTy ?_
  | with_reducible refine o_int ?_
  | with_reducible refine o_intA ?_
  | with_reducible refine o_strT ?_
  | with_reducible refine o_inT ?_
  | with_reducible refine o_notInT ?_
  | with_reducible refine o_tupleU ?_
  | with_reducible refine o_listU ?_
  | with_reducible refine o_slU ?_
  | with_reducible refine o_slUl ?_
  | with_reducible refine o_slUr ?_
  | ((with_reducible apply o_lenL); (first | assumption | exact get_new | exact get_set (by first | assumption | exact get_new) | exact get_app (by first | assumption | exact get_new)))
  | ((with_reducible apply tru_l); (first | assumption | exact get_new | exact get_set (by first | assumption | exact get_new) | exact get_app (by first | assumption | exact get_new)))
  | ((with_reducible apply rcv_lst); (first | assumption | exact get_new | exact get_set (by first | assumption | exact get_new) | exact get_app (by first | assumption | exact get_new)))
  | ((with_reducible apply o_tupleL); (first | assumption | exact get_new | exact get_set (by first | assumption | exact get_new) | exact get_app (by first | assumption | exact get_new)))
  | ((with_reducible apply o_slLl); (first | assumption | exact get_new | exact get_set (by first | assumption | exact get_new) | exact get_app (by first | assumption | exact get_new)))
  | ((with_reducible apply o_slLr); (first | assumption | exact get_new | exact get_set (by first | assumption | exact get_new) | exact get_app (by first | assumption | exact get_new)))
  | ((with_reducible refine o_lenT ?_ ?_); (first | assumption | omega | (rw [sizeLine_eq]; omega) | (simp only [List.length_append, List.length_cons, List.length_nil, List.length_map, List.length_take, List.length_drop] <;> first | omega | (rw [sizeLine_eq]; omega))))
  | ((with_reducible refine o_addT ?_ ?_); (first | assumption | omega | (rw [sizeLine_eq]; omega) | (simp only [List.length_append, List.length_cons, List.length_nil, List.length_map, List.length_take, List.length_drop] <;> first | omega | (rw [sizeLine_eq]; omega))))
  | ((with_reducible refine o_addU ?_ ?_); (first | assumption | omega | (rw [sizeLine_eq]; omega) | (simp only [List.length_append, List.length_cons, List.length_nil, List.length_map, List.length_take, List.length_drop] <;> first | omega | (rw [sizeLine_eq]; omega))))
  | ((with_reducible refine o_slT ?_ ?_); (first | assumption | omega | (rw [sizeLine_eq]; omega) | (simp only [List.length_append, List.length_cons, List.length_nil, List.length_map, List.length_take, List.length_drop] <;> first | omega | (rw [sizeLine_eq]; omega))))
  | ((with_reducible refine o_slTl ?_ ?_); (first | assumption | omega | (rw [sizeLine_eq]; omega) | (simp only [List.length_append, List.length_cons, List.length_nil, List.length_map, List.length_take, List.length_drop] <;> first | omega | (rw [sizeLine_eq]; omega))))
  | ((with_reducible refine o_slTr ?_ ?_); (first | assumption | omega | (rw [sizeLine_eq]; omega) | (simp only [List.length_append, List.length_cons, List.length_nil, List.length_map, List.length_take, List.length_drop] <;> first | omega | (rw [sizeLine_eq]; omega))))
  | ((with_reducible refine o_mod ?_ ?_); (first | assumption | omega | (rw [sizeLine_eq]; omega) | (simp only [List.length_append, List.length_cons, List.length_nil, List.length_map, List.length_take, List.length_drop] <;> first | omega | (rw [sizeLine_eq]; omega))))
  | ((with_reducible refine o_str ?_ ?_); (first | assumption | omega | (rw [sizeLine_eq]; omega) | (simp only [List.length_append, List.length_cons, List.length_nil, List.length_map, List.length_take, List.length_drop] <;> first | omega | (rw [sizeLine_eq]; omega))))
  | ((with_reducible refine o_strA ?_ ?_); (first | assumption | omega | (rw [sizeLine_eq]; omega) | (simp only [List.length_append, List.length_cons, List.length_nil, List.length_map, List.length_take, List.length_drop] <;> first | omega | (rw [sizeLine_eq]; omega))))
  | ((with_reducible refine o_parT ?_ ?_); (first | assumption | omega | (rw [sizeLine_eq]; omega) | (simp only [List.length_append, List.length_cons, List.length_nil, List.length_map, List.length_take, List.length_drop] <;> first | omega | (rw [sizeLine_eq]; omega))))
  | ((with_reducible refine fmtI ?_ ?_); (first | assumption | omega | (rw [sizeLine_eq]; omega) | (simp only [List.length_append, List.length_cons, List.length_nil, List.length_map, List.length_take, List.length_drop] <;> first | omega | (rw [sizeLine_eq]; omega))))
  | ((with_reducible refine fmtT ?_ ?_); (first | assumption | omega | (rw [sizeLine_eq]; omega) | (simp only [List.length_append, List.length_cons, List.length_nil, List.length_map, List.length_take, List.length_drop] <;> first | omega | (rw [sizeLine_eq]; omega))))
  | ((with_reducible refine leS_ ?_ ?_); (first | assumption | omega | (rw [sizeLine_eq]; omega) | (simp only [List.length_append, List.length_cons, List.length_nil, List.length_map, List.length_take, List.length_drop] <;> first | omega | (rw [sizeLine_eq]; omega))))
  | ((with_reducible apply o_append); (first | assumption | exact get_new | exact get_set (by first | assumption | exact get_new) | exact get_app (by first | assumption | exact get_new)); (first | assumption | omega | (rw [sizeLine_eq]; omega) | (simp only [List.length_append, List.length_cons, List.length_nil, List.length_map, List.length_take, List.length_drop] <;> first | omega | (rw [sizeLine_eq]; omega))))
  | ((with_reducible refine o_fdiv ?_ ?_ ?_); (first | assumption | omega | (rw [sizeLine_eq]; omega) | (simp only [List.length_append, List.length_cons, List.length_nil, List.length_map, List.length_take, List.length_drop] <;> first | omega | (rw [sizeLine_eq]; omega))); (first | assumption | omega | (rw [sizeLine_eq]; omega) | (simp only [List.length_append, List.length_cons, List.length_nil, List.length_map, List.length_take, List.length_drop] <;> first | omega | (rw [sizeLine_eq]; omega))))
  | ((with_reducible refine o_mul ?_ ?_ ?_); (first | assumption | omega | (rw [sizeLine_eq]; omega) | (simp only [List.length_append, List.length_cons, List.length_nil, List.length_map, List.length_take, List.length_drop] <;> first | omega | (rw [sizeLine_eq]; omega))); (first | assumption | omega | (rw [sizeLine_eq]; omega) | (simp only [List.length_append, List.length_cons, List.length_nil, List.length_map, List.length_take, List.length_drop] <;> first | omega | (rw [sizeLine_eq]; omega))))
  | ((with_reducible refine br_y ?_ ?_); first | assumption | omega | decide)
  | ((with_reducible refine br_n ?_ ?_); first | assumption | omega | decide))
abbrev RO (tx : List Nat) (p : Nat) : SO := O_PlainReader (.str (T tx)) (.int (p : Int))
section
variable {S : Sto} {r p : Nat} {tx : List Nat}
theorem sign_ok {c : Nat} (h : S[r]? = some (RO tx p)) (hz : tx.length ≤ 1000000) (hc : tx[p]? = some c) : m_PlainReader__sign [.loc r] S = .ok (.str (T [c])) S := by
  have hp := (List.getElem?_eq_some_iff.mp hc).1
  refine pure_of (w_def rfl ?_)
  unfold b_PlainReader__sign
  repeat fail
  refine get_PlainReader_at h ?_
  repeat fail
  refine get_PlainReader_text h ?_
  repeat fail
  refine get_PlainReader_text h ?_
  repeat fail
  refine get_PlainReader_at h ?_
  repeat fail
  refine o_ixT hc (by rw [sizeLine_eq]; omega) ?_
  exact ⟨rfl, rfl⟩
theorem getE_at (h : S[r]? = some (RO tx p)) : oGetF "PlainReader" "_at" (.loc r) S = some (.int (p : Int), S) := by
  show (match S[r]? with
    | some (.obj c' fs) => if c' = "PlainReader" then (List.lookup ("_at" : Str) fs).map fun d => (d, S) else none
    | _ => none) = _
  rw [h]
  show (if ("PlainReader" : Str) = "PlainReader" then (List.lookup ("_at" : Str) [("_text", D.str (T tx)), ("_at", .int (p : Int))]).map fun d => (d, S) else none) = _
  rw [if_pos rfl, lk_no ne_PlainReader_0_1, lk_yes]; rfl
variable {e : Nv} {N : Nv → Sto → Prop} {R : D → Sto → Prop} {B C : Nv → Sto → Prop} {Z : Str → List (Str × D) → Nv → Sto → Prop}
theorem aug_at (he : e[0]? = some (some (.loc r))) (h : S[r]? = some (RO tx p)) (q : N e (S.set r (RO tx (p + 1)))) : Es (sAugFI "PlainReader" "_at" (mVar 0) (mC (.int 1)) e S) N R B C Z := by
  refine w_augFI (w_var he ⟨(p : Int), 1, getE_at h, rfl, _, put_PlainReader_at h, ?_⟩)
  exact q
theorem quote_ok {k : Nat} (h : S[r]? = some (RO tx p)) (hz : tx.length ≤ 1000000) (hp : p ≤ k) (hk : tx[k]? = some 34) (hn : ∀ m, p ≤ m → m < k → tx[m]? ≠ some 34) : m_PlainReader__place_of_quote [.loc r] S = .ok (.int (k : Int)) S := by
  have hl := (List.getElem?_eq_some_iff.mp hk).1
  refine pure_of (w_def rfl ?_)
  unfold b_PlainReader__place_of_quote
  refine w_seqc (fun e' S' => S = S' ∧ e' = [some (.loc r), some (.int (k : Int))]) ?_ ?_
  · repeat fail
    refine get_PlainReader_text h ?_
    repeat fail
    refine get_PlainReader_at h ?_
    repeat fail
    refine o_find3 fun x hx => ?_
    have : x = (k : Int) := by
      rcases hx with ⟨_, h2⟩ | ⟨j, rfl, h1, h2, h3, h4⟩
      · exact absurd hk (h2 k hp hl)
      · have : j = k := by
          rcases Nat.lt_trichotomy j k with q | q | q
          · exact absurd h3 (hn j h1 q)
          · exact q
          · exact absurd hk (h4 k hp q)
        rw [this]
    subst this
    exact ⟨rfl, rfl⟩
  rintro _ _ ⟨rfl, rfl⟩
  repeat fail
  exact ⟨rfl, rfl⟩
theorem piece_ok {x : Nat} {a : List Nat} (h : S[r]? = some (RO tx p)) (hz : tx.length ≤ 1000000) (ha : (tx.take x).drop p = a) (hs : ∀ c ∈ a, c ∈ SGN ∧ c ≠ 10) : m_PlainReader__piece [.loc r, .int (x : Int)] S = .ok (.str (T a)) S := by
  have hal : a.length ≤ 1000000 := by rw [← ha, List.length_drop, List.length_take]; omega
  refine pure_of (w_def rfl ?_)
  unfold b_PlainReader__piece
  refine w_seqc (fun e' S' => S = S' ∧ e' = [some (.loc r), some (.int (x : Int)), some (.str (T a)), none, none]) ?_ ?_
  · repeat fail
    refine get_PlainReader_text h ?_
    repeat fail
    refine get_PlainReader_at h ?_
    repeat fail
    rw [ha]
    exact ⟨rfl, rfl⟩
  rintro _ _ ⟨rfl, rfl⟩
  repeat fail
  refine ev_pure (consists_eq (by rw [T_len, sizeLine_eq]; omega)) ?_
  have hall : allIn (T a) (T SGN) = true := by
    unfold allIn
    rw [T_cps, T_cps, List.all_eq_true]
    exact fun c hc => decide_eq_true (hs c hc).1
  generalize hG : allIn (T a) _ = g
  have hg : g = true := by rw [← hG]; exact hall
  rw [hg]
  repeat fail
  refine br_i (fun q => absurd rfl (hs 10 q).2) fun q => ?_
  repeat fail
  exact ⟨rfl, rfl⟩
end
end K38
end

section
set_option Elab.async false
set_option linter.all false
set_option maxRecDepth 100000
set_option maxHeartbeats 4000000
/-! C3: k38: a text is read. -/
namespace K38
open PySem PySem.Spec M2 P0
set_option autoImplicit false
local macro_rules | `(tactic| fail) => `(tactic| first
  | with_reducible refine w_seq ?_
  | with_reducible refine w_asg ?_
  | with_reducible refine w_sif ?_
  | with_reducible refine w_ret ?_
  | with_reducible refine w_retN ?_
  | with_reducible refine w_expr ?_
  | with_reducible refine w_nx ?_
  | with_reducible refine w_bk ?_
  | with_reducible refine w_ct ?_
  | with_reducible refine w_put ?_
  | with_reducible refine w_for ?_
  | with_reducible refine w_bin ?_
  | with_reducible refine w_un ?_
  | with_reducible refine w_nil ?_
  | with_reducible refine w_cons ?_
  | with_reducible refine w_l ?_
  | with_reducible refine w_tup ?_
  | with_reducible refine w_lst ?_
  | with_reducible refine w_if ?_
  | with_reducible refine w_tval ?_
  | with_reducible refine tru_bl ?_
  | with_reducible refine isB_bl ?_
  | with_reducible refine isI_int ?_
  | with_reducible refine isT_T ?_
  | with_reducible refine isS_s ?_
  | with_reducible refine w_tbl ?_
  | with_reducible refine w_and ?_
  | with_reducible refine w_or ?_
  | with_reducible refine w_not ?_
  | with_reducible refine w_mand ?_
  | with_reducible refine w_mor ?_
  | with_reducible refine w_mnot ?_
  | with_reducible refine w_chain ?_
  | with_reducible refine w_meth ?_
  | with_reducible refine rcv_str' ?_
  | with_reducible refine w_call ?_
  | with_reducible refine w_callC ?_
  | with_reducible refine w_call0 ?_
  | with_reducible refine w_no ?_
  | with_reducible refine w_at ?_
  | with_reducible refine w_sl ?_
  | with_reducible refine w_fmt ?_
  | with_reducible refine w_js1 ?_
  | with_reducible refine w_js0 ?_
  | with_reducible refine w_js ?_
  | with_reducible refine w_lrg ?_
  | with_reducible refine w_trg ?_
  | with_reducible refine w_rg1 ?_
  | with_reducible refine w_rg2 ?_
  | with_reducible refine w_kget ?_
  | with_reducible refine w_kix ?_
  | with_reducible refine w_sset ?_
  | with_reducible refine w_c ?_
  | with_reducible refine br_tt ?_
  | with_reducible refine br_ff ?_
  | with_reducible refine br_not ?_
  | with_reducible refine w_any ?_
  | with_reducible refine w_irg1 ?_
  | with_reducible refine w_irg2 ?_
  | with_reducible refine w_ienum ?_
  | ((with_reducible apply w_var); rfl)
  | ((with_reducible refine szL ?_ ?_); rfl)
  | with_reducible refine o_add ?_
  | with_reducible refine o_sub ?_
  | with_reducible refine o_neg ?_
  | with_reducible refine o_lt ?_
  | with_reducible refine o_le ?_
  | with_reducible refine o_gt ?_
  | with_reducible refine o_ge ?_
  | with_reducible refine o_eq ?_
  | with_reducible refine o_ne ?_
  | with_reducible refine o_eqT ?_
  | with_reducible refine o_neT ?_
  | with_reducible refine o_lenU ?_
  | with_reducible refine o_isN ?_
  | with_reducible refine o_isNotN ?_
  | with_reducible refine o_isTy ?_
  | with_reducible refine o_isNotTy ?_
  | with_reducible refine o_int ?_
  | with_reducible refine o_intA ?_
  | with_reducible refine o_strT ?_
  | with_reducible refine o_inT ?_
  | with_reducible refine o_notInT ?_
  | with_reducible refine o_tupleU ?_
  | with_reducible refine o_listU ?_
  | with_reducible refine o_slU ?_
  | with_reducible refine o_slUl ?_
  | with_reducible refine o_slUr ?_
  | ((with_reducible apply o_lenL); (first | assumption | exact get_new | exact get_set (by first | assumption | exact get_new) | exact get_app (by first | assumption | exact get_new)))
  | ((with_reducible apply tru_l); (first | assumption | exact get_new | exact get_set (by first | assumption | exact get_new) | exact get_app (by first | assumption | exact get_new)))
  | ((with_reducible apply rcv_lst); (first | assumption | exact get_new | exact get_set (by first | assumption | exact get_new) | exact get_app (by first | assumption | exact get_new)))
  | ((with_reducible apply o_tupleL); (first | assumption | exact get_new | exact get_set (by first | assumption | exact get_new) | exact get_app (by first | assumption | exact get_new)))
  | ((with_reducible apply o_slLl); (first | assumption | exact get_new | exact get_set (by first | assumption | exact get_new) | exact get_app (by first | assumption | exact get_new)))
  | ((with_reducible apply o_slLr); (first | assumption | exact get_new | exact get_set (by first | assumption | exact get_new) | exact get_app (by first | assumption | exact get_new)))
  | ((with_reducible refine o_lenT ?_ ?_); (first | assumption | omega | (rw [sizeLine_eq]; omega) | (simp only [List.length_append, List.length_cons, List.length_nil, List.length_map, List.length_take, List.length_drop] <;> first | omega | (rw [sizeLine_eq]; omega))))
  | ((with_reducible refine o_addT ?_ ?_); (first | assumption | omega | (rw [sizeLine_eq]; omega) | (simp only [List.length_append, List.length_cons, List.length_nil, List.length_map, List.length_take, List.length_drop] <;> first | omega | (rw [sizeLine_eq]; omega))))
  | ((with_reducible refine o_addU ?_ ?_); (first | assumption | omega | (rw [sizeLine_eq]; omega) | (simp only [List.length_append, List.length_cons, List.length_nil, List.length_map, List.length_take, List.length_drop] <;> first | omega | (rw [sizeLine_eq]; omega))))
  | ((with_reducible refine o_slT ?_ ?_); (first | assumption | omega | (rw [sizeLine_eq]; omega) | (simp only [List.length_append, List.length_cons, List.length_nil, List.length_map, List.length_take, List.length_drop] <;> first | omega | (rw [sizeLine_eq]; omega))))
  | ((with_reducible refine o_slTl ?_ ?_); (first | assumption | omega | (rw [sizeLine_eq]; omega) | (simp only [List.length_append, List.length_cons, List.length_nil, List.length_map, List.length_take, List.length_drop] <;> first | omega | (rw [sizeLine_eq]; omega))))
  | ((with_reducible refine o_slTr ?_ ?_); (first | assumption | omega | (rw [sizeLine_eq]; omega) | (simp only [List.length_append, List.length_cons, List.length_nil, List.length_map, List.length_take, List.length_drop] <;> first | omega | (rw [sizeLine_eq]; omega))))
  | ((with_reducible refine o_mod ?_ ?_); (first | assumption | omega | (rw [sizeLine_eq]; omega) | (simp only [List.length_append, List.length_cons, List.length_nil, List.length_map, List.length_take, List.length_drop] <;> first | omega | (rw [sizeLine_eq]; omega))))
  | ((with_reducible refine o_str ?_ ?_); (first | assumption | omega | (rw [sizeLine_eq]; omega) | (simp only [List.length_append, List.length_cons, List.length_nil, List.length_map, List.length_take, List.length_drop] <;> first | omega | (rw [sizeLine_eq]; omega))))
  | ((with_reducible refine o_strA ?_ ?_); (first | assumption | omega | (rw [sizeLine_eq]; omega) | (simp only [List.length_append, List.length_cons, List.length_nil, List.length_map, List.length_take, List.length_drop] <;> first | omega | (rw [sizeLine_eq]; omega))))
  | ((with_reducible refine o_parT ?_ ?_); (first | assumption | omega | (rw [sizeLine_eq]; omega) | (simp only [List.length_append, List.length_cons, List.length_nil, List.length_map, List.length_take, List.length_drop] <;> first | omega | (rw [sizeLine_eq]; omega))))
  | ((with_reducible refine fmtI ?_ ?_); (first | assumption | omega | (rw [sizeLine_eq]; omega) | (simp only [List.length_append, List.length_cons, List.length_nil, List.length_map, List.length_take, List.length_drop] <;> first | omega | (rw [sizeLine_eq]; omega))))
  | ((with_reducible refine fmtT ?_ ?_); (first | assumption | omega | (rw [sizeLine_eq]; omega) | (simp only [List.length_append, List.length_cons, List.length_nil, List.length_map, List.length_take, List.length_drop] <;> first | omega | (rw [sizeLine_eq]; omega))))
  | ((with_reducible refine leS_ ?_ ?_); (first | assumption | omega | (rw [sizeLine_eq]; omega) | (simp only [List.length_append, List.length_cons, List.length_nil, List.length_map, List.length_take, List.length_drop] <;> first | omega | (rw [sizeLine_eq]; omega))))
  | ((with_reducible apply o_append); (first | assumption | exact get_new | exact get_set (by first | assumption | exact get_new) | exact get_app (by first | assumption | exact get_new)); (first | assumption | omega | (rw [sizeLine_eq]; omega) | (simp only [List.length_append, List.length_cons, List.length_nil, List.length_map, List.length_take, List.length_drop] <;> first | omega | (rw [sizeLine_eq]; omega))))
  | ((with_reducible refine o_fdiv ?_ ?_ ?_); (first | assumption | omega | (rw [sizeLine_eq]; omega) | (simp only [List.length_append, List.length_cons, List.length_nil, List.length_map, List.length_take, List.length_drop] <;> first | omega | (rw [sizeLine_eq]; omega))); (first | assumption | omega | (rw [sizeLine_eq]; omega) | (simp only [List.length_append, List.length_cons, List.length_nil, List.length_map, List.length_take, List.length_drop] <;> first | omega | (rw [sizeLine_eq]; omega))))
  | ((with_reducible refine o_mul ?_ ?_ ?_); (first | assumption | omega | (rw [sizeLine_eq]; omega) | (simp only [List.length_append, List.length_cons, List.length_nil, List.length_map, List.length_take, List.length_drop] <;> first | omega | (rw [sizeLine_eq]; omega))); (first | assumption | omega | (rw [sizeLine_eq]; omega) | (simp only [List.length_append, List.length_cons, List.length_nil, List.length_map, List.length_take, List.length_drop] <;> first | omega | (rw [sizeLine_eq]; omega))))
  | ((with_reducible refine br_y ?_ ?_); first | assumption | omega | decide)
  | ((with_reducible refine br_n ?_ ?_); first | assumption | omega | decide))
def escE (c : Nat) : Nat := if c = 10 then 110 else c
theorem escC_sp {c : Nat} (h : ¬ pln c) : escC c = [92, escE c] ∧ (c = 92 ∨ c = 34 ∨ c = 10) := by
  have hc : c = 92 ∨ c = 34 ∨ c = 10 := by
    unfold pln at h
    omega
  refine ⟨?_, hc⟩
  rcases hc with rfl | rfl | rfl <;> rfl
theorem get_esc {c : Nat} (h : c = 92 ∨ c = 34 ∨ c = 10) : getT c_ESCAPES (T [escE c]) = some (.str (T [c])) := by
  have n1 : ¬ (("\\" : Str) = T [34]) := by decide +kernel
  have n2 : ¬ (("\\" : Str) = T [110]) := by decide +kernel
  have n3 : ¬ (("\"" : Str) = T [110]) := by decide +kernel
  have y1 : (("\\" : Str) = T [92]) := by decide +kernel
  have y2 : (("\"" : Str) = T [34]) := by decide +kernel
  have y3 : (("n" : Str) = T [110]) := by decide +kernel
  have y4 : (("\n" : Str) = T [10]) := by decide +kernel
  unfold getT c_ESCAPES
  rcases h with rfl | rfl | rfl
  · show (List.find? (fun t : Str × D => decide (t.1 = T [92])) _).map _ = _
    rw [List.find?_cons_of_pos (by rw [decide_eq_true_eq]; exact y1)]
    show some (D.str "\\") = _
    rw [y1]
  · show (List.find? (fun t : Str × D => decide (t.1 = T [34])) _).map _ = _
    rw [List.find?_cons_of_neg (by rw [decide_eq_true_eq]; exact n1), List.find?_cons_of_pos (by rw [decide_eq_true_eq]; exact y2)]
    show some (D.str "\"") = _
    rw [y2]
  · show (List.find? (fun t : Str × D => decide (t.1 = T [110])) _).map _ = _
    rw [List.find?_cons_of_neg (by rw [decide_eq_true_eq]; exact n2), List.find?_cons_of_neg (by rw [decide_eq_true_eq]; exact n3), List.find?_cons_of_pos (by rw [decide_eq_true_eq]; exact y3)]
    show some (D.str "\n") = _
    rw [y4]
def FQ (tx : List Nat) (at_ q : Nat) : Prop := at_ ≤ q ∧ tx[q]? = some 34 ∧ ∀ k, at_ ≤ k → k < q → tx[k]? ≠ some 34
theorem at_drop {tx L : List Nat} {a i : Nat} (h : tx.drop a = L) : tx[a + i]? = L[i]? := by rw [← h, List.getElem?_drop]
theorem fq_uniq {tx : List Nat} {a q q' : Nat} (h : FQ tx a q) (h' : FQ tx a q') : q = q' := by
  rcases Nat.lt_trichotomy q q' with x | x | x
  · exact absurd h.2.1 (h'.2.2 q h.1 x)
  · exact x
  · exact absurd h'.2.1 (h.2.2 q' h'.1 x)
/-- there is a first one -/
theorem fq_ex {tx : List Nat} {a k : Nat} (h1 : a ≤ k) (h2 : tx[k]? = some 34) : ∃ q, FQ tx a q ∧ q ≤ k := by
  induction k using Nat.strongRecOn with
  | _ k ih =>
    by_cases h : ∃ j, a ≤ j ∧ j < k ∧ tx[j]? = some 34
    · obtain ⟨j, j1, j2, j3⟩ := h
      obtain ⟨q, q1, q2⟩ := ih j j2 j1 j3
      exact ⟨q, q1, by omega⟩
    · exact ⟨k, ⟨h1, h2, fun j j1 j2 j3 => h ⟨j, j1, j2, j3⟩⟩, Nat.le_refl _⟩
theorem fq_pln {tx a rest : List Nat} {p : Nat} (h : tx.drop p = a ++ [34] ++ rest) (ha : ∀ c ∈ a, pln c) : FQ tx p (p + a.length) := by
  refine ⟨Nat.le_add_right _ _, ?_, fun k h1 h2 q => ?_⟩
  · rw [at_drop h, List.append_assoc, List.getElem?_append_right (Nat.le_refl _), Nat.sub_self]; rfl
  · have e : k = p + (k - p) := by omega
    rw [e, at_drop h, List.append_assoc, List.getElem?_append_left (by omega)] at q
    exact (ha 34 (List.mem_of_getElem? q)).2.1 rfl
theorem take_drop_of {tx a L : List Nat} {p : Nat} (h : tx.drop p = a ++ L) : (tx.take (p + a.length)).drop p = a := by
  rw [List.drop_take, h, Nat.add_sub_cancel_left]
  exact List.take_left
abbrev bTxt : MS := (sSeq (sIf (tBl (mBin oLt (mVar 2) (mUn (oGetF "PlainReader" "_at") (mVar 0)))) (sAsg (mMet "PlainReader" "_place_of_quote" m_PlainReader__place_of_quote (mVar 0) aNil) (tgN 2)) sNx) (sSeq (sAsg (mMeth "str" oFind2 (mUn (oGetF "PlainReader" "_text") (mVar 0)) (aCons (mC (.str (P0.T [92]))) (aCons (mUn (oGetF "PlainReader" "_at") (mVar 0)) (aCons (mVar 2) aNil)))) (tgN 3)) (sSeq (sIf (tBl (mBin oEq (mVar 3) (mUn oNeg (mC (.int 1))))) sBk sNx) (sSeq (sExpr (mMeth "list" oAppend (mVar 1) (aCons (mMet "PlainReader" "_piece" m_PlainReader__piece (mVar 0) (aCons (mVar 3) aNil)) aNil))) (sSeq (sPutF "PlainReader" "_at" (mBin oAdd (mVar 3) (mC (.int 1))) (mVar 0)) (sSeq (sAsg (mMet "PlainReader" "_sign" m_PlainReader__sign (mVar 0) aNil) (tgN 4)) (sSeq (sIf (tBl (mKnin c_ESCAPES (mVar 4))) (sRaise "BadPlain" (mkE [true] ["place"]) (aCons (mUn (oGetF "PlainReader" "_at") (mVar 0)) aNil)) sNx) (sSeq (sExpr (mMeth "list" oAppend (mVar 1) (aCons (mKix c_ESCAPES (mVar 4)) aNil))) (sAugFI "PlainReader" "_at" (mVar 0) (mC (.int 1)))))))))))
/-- ahead of a turn -/
def TI (tx : List Nat) (p : Nat) (l : List Nat) (r pl : Nat) (S0 : Sto) (m : Nat) (e : Nv) (S' : Sto) : Prop :=
  ∃ (done l' : List Nat) (qv : Nat) (ps : List (List Nat)) (y3 y4 : Option D), l = done ++ l' ∧ ps.flatten = done ∧ ps.length ≤ 2 * done.length ∧ e = [some (.loc r), some (.loc pl), some (.int (qv : Int)), y3, y4] ∧
    S'[r]? = some (RO tx (p + 1 + (esc done).length)) ∧ S'[pl]? = some (.lst true (strT ps)) ∧ (qv < p + 1 + (esc done).length ∨ FQ tx (p + 1 + (esc done).length) qv) ∧ Fr [r, pl] S0 S' ∧ fuelW ≤ m + done.length
def TF (tx : List Nat) (p : Nat) (l : List Nat) (r pl : Nat) (S0 : Sto) (e : Nv) (S' : Sto) : Prop :=
  ∃ (a : List Nat) (ps : List (List Nat)) (at_ : Nat) (y3 y4 : Option D), l = ps.flatten ++ a ∧ ps.length ≤ 40 ∧ e = [some (.loc r), some (.loc pl), some (.int ((at_ + a.length : Nat) : Int)), y3, y4] ∧ S'[r]? = some (RO tx at_) ∧ S'[pl]? = some (.lst true (strT ps)) ∧
    (tx.take (at_ + a.length)).drop at_ = a ∧ tx[at_ + a.length]? = some 34 ∧ (∀ c ∈ a, pln c) ∧ at_ + a.length = p + 1 + (esc l).length ∧ Fr [r, pl] S0 S'
theorem turn_text {tx l rest : List Nat} {p r pl m : Nat} {S0 : Sto} (hz : tx.length ≤ 1000000) (hd : tx.drop (p + 1) = esc l ++ [34] ++ rest) (hl : l.length ≤ 20) (hs : ∀ c ∈ l, c ∈ SGN) (hne : r ≠ pl) (hplt : pl < S0.length)
    {e : Nv} {S : Sto} (h : TI tx p l r pl S0 (m + 1) e S) {R : D → Sto → Prop} {C : Nv → Sto → Prop} {Z : Str → List (Str × D) → Nv → Sto → Prop} : Es (bTxt e S) (TI tx p l r pl S0 m) R (TF tx p l r pl S0) C Z := by
  obtain ⟨done, l', qv, ps, y3, y4, hl1, hps, hpl, rfl, hr, hp, hq, hf, hm⟩ := h
  generalize hat : p + 1 + (esc done).length = at_ at hr hq
  have hdr : tx.drop at_ = esc l' ++ [34] ++ rest := by
    rw [← hat, ← List.drop_drop, hd, hl1, esc_app]
    simp [List.append_assoc]
  have hdl : done.length + l'.length ≤ 20 := by
    have := congrArg List.length hl1
    rw [List.length_append] at this
    omega
  have hql : tx[at_ + (esc l').length]? = some 34 := by
    rw [at_drop hdr, List.append_assoc, List.getElem?_append_right (Nat.le_refl _), Nat.sub_self]; rfl
  have hqlt := (List.getElem?_eq_some_iff.mp hql).1
  obtain ⟨q, hFQ, hqle⟩ := fq_ex (Nat.le_add_right at_ _) hql
  have hr0 : r ∉ [pl] := by rw [List.mem_singleton]; exact hne
  refine w_seqc (fun e' S' => S = S' ∧ e' = [some (.loc r), some (.loc pl), some (.int (q : Int)), y3, y4]) ?_ ?_
  · repeat fail
    refine get_PlainReader_at hr ?_
    repeat fail
    refine br_i (fun h1 => ?_) fun h1 => ?_
    · refine w_asg (w_met ?_)
      repeat fail
      refine ⟨is_PlainReader__place_of_quote hr, ?_⟩
      repeat fail
      refine ev_pure (quote_ok hr hz hFQ.1 hFQ.2.1 hFQ.2.2) ?_
      exact ⟨rfl, rfl⟩
    · repeat fail
      rcases hq with hq | hq
      · omega
      · rw [fq_uniq hFQ hq]
        exact ⟨rfl, rfl⟩
  rintro _ _ ⟨rfl, rfl⟩
  rcases esc_split l' with hpln | ⟨a, c, b, rfl, ha, hc⟩
  · -- nothing more
    rw [esc_pln hpln] at hdr
    have hqe : q = at_ + l'.length := fq_uniq hFQ (fq_pln hdr hpln)
    have hl'l := hdl
    refine w_seqc (fun e' S' => S = S' ∧ e' = [some (.loc r), some (.loc pl), some (.int (q : Int)), some (.int (-1)), y4]) ?_ ?_
    · repeat fail
      refine get_PlainReader_text hr ?_
      repeat fail
      refine get_PlainReader_at hr ?_
      repeat fail
      refine o_find4 fun x hx => ?_
      have : x = -1 := by
        rcases hx with ⟨h1, _⟩ | ⟨k, rfl, h1, h2, h3, _⟩
        · exact h1
        · exfalso
          have e : k = at_ + (k - at_) := by omega
          rw [e, at_drop hdr, List.append_assoc, List.getElem?_append_left (by omega)] at h3
          exact (hpln 92 (List.mem_of_getElem? h3)).1 rfl
      subst this
      exact ⟨rfl, rfl⟩
    rintro _ _ ⟨rfl, rfl⟩
    refine w_seqc (fun _ _ => False) ?_ (fun _ _ h => h.elim)
    repeat fail
    refine ⟨l', ps, at_, _, _, by rw [hps]; exact hl1, by omega, by rw [hqe], hr, hp, take_drop_of (by rw [hdr, List.append_assoc]), by rw [← hqe]; exact hFQ.2.1, hpln, ?_, hf⟩
    rw [hl1, esc_app, esc_pln hpln, List.length_append]; omega
  · -- an escape
    obtain ⟨hec, hcc⟩ := escC_sp hc
    have hdr2 : tx.drop at_ = a ++ ([92, escE c] ++ (esc b ++ [34] ++ rest)) := by
      rw [hdr, esc_app, esc_pln ha, esc_cons, hec]
      simp [List.append_assoc]
    have h92 : tx[at_ + a.length]? = some 92 := by
      rw [at_drop hdr2, List.getElem?_append_right (Nat.le_refl _), Nat.sub_self]; rfl
    have hsg : tx[at_ + a.length + 1]? = some (escE c) := by
      rw [Nat.add_assoc, at_drop hdr2, List.getElem?_append_right (by omega), show a.length + 1 - a.length = 1 by omega]; rfl
    have hqgt : at_ + a.length < q := by
      rcases Nat.lt_or_ge (at_ + a.length) q with x | x
      · exact x
      · exfalso
        have h34 := hFQ.2.1
        have h0 := hFQ.1
        by_cases e1 : q = at_ + a.length
        · rw [e1, h92] at h34
          cases h34
        · have e : q = at_ + (q - at_) := by omega
          rw [e, at_drop hdr2, List.getElem?_append_left (by omega)] at h34
          exact (ha 34 (List.mem_of_getElem? h34)).2.1 rfl
    have hal : a.length + b.length + 1 + done.length ≤ 20 := by
      rw [List.length_append, List.length_cons] at hdl
      omega
    have hasg : ∀ x ∈ a, x ∈ SGN ∧ x ≠ 10 := fun x hx => ⟨hs x (by rw [hl1]; exact List.mem_append_right _ (List.mem_append_left _ hx)), (ha x hx).2.2⟩
    refine w_seqc (fun e' S' => S = S' ∧ e' = [some (.loc r), some (.loc pl), some (.int (q : Int)), some (.int ((at_ + a.length : Nat) : Int)), y4]) ?_ ?_
    · repeat fail
      refine get_PlainReader_text hr ?_
      repeat fail
      refine get_PlainReader_at hr ?_
      repeat fail
      refine o_find4 fun x hx => ?_
      have hlq := (List.getElem?_eq_some_iff.mp hFQ.2.1).1
      have : x = ((at_ + a.length : Nat) : Int) := by
        rcases hx with ⟨_, h1⟩ | ⟨k, rfl, h1, h2, h3, h4⟩
        · exact absurd h92 (h1 _ (Nat.le_add_right _ _) (by omega))
        · congr 1
          rcases Nat.lt_trichotomy k (at_ + a.length) with x | x | x
          · exfalso
            have e : k = at_ + (k - at_) := by omega
            rw [e, at_drop hdr2, List.getElem?_append_left (by omega)] at h3
            exact (ha 92 (List.mem_of_getElem? h3)).1 rfl
          · exact x
          · exact absurd h92 (h4 _ (Nat.le_add_right _ _) x)
      subst this
      exact ⟨rfl, rfl⟩
    rintro _ _ ⟨rfl, rfl⟩
    have hta := take_drop_of hdr2
    generalize hx : at_ + a.length = x at *
    refine w_seqc (fun e' S' => S = S' ∧ e' = [some (.loc r), some (.loc pl), some (.int (q : Int)), some (.int (x : Int)), y4]) ?_ ?_
    · repeat fail
      exact ⟨rfl, rfl⟩
    rintro _ _ ⟨rfl, rfl⟩
    have hpll := (List.getElem?_eq_some_iff.mp hp).1
    have hrl := (List.getElem?_eq_some_iff.mp hr).1
    refine w_seqc (fun e' S' => S' = S.set pl (.lst true (strT (ps ++ [a]))) ∧ e' = [some (.loc r), some (.loc pl), some (.int (q : Int)), some (.int (x : Int)), y4]) ?_ ?_
    · repeat fail
      refine w_met ?_
      repeat fail
      refine ⟨is_PlainReader__piece hr, ?_⟩
      repeat fail
      refine ev_pure (piece_ok hr hz hta hasg) ?_
      repeat fail
      refine ⟨?_, rfl⟩
      rw [strT, strT, List.map_append]; rfl
    rintro _ _ ⟨rfl, rfl⟩
    have hr1 : (S.set pl (.lst true (strT (ps ++ [a]))))[r]? = some (RO tx at_) := by rw [List.getElem?_set_ne (Ne.symm hne)]; exact hr
    have hp1 : (S.set pl (.lst true (strT (ps ++ [a]))))[pl]? = some (.lst true (strT (ps ++ [a]))) := List.getElem?_set_self hpll
    have hf1 : Fr [r, pl] S0 (S.set pl (.lst true (strT (ps ++ [a])))) := hf.trans (Fr.set (by simp))
    generalize S.set pl (.lst true (strT (ps ++ [a]))) = S1 at hr1 hp1 hf1 ⊢
    clear hr hp hf hpll hrl
    have hrl := (List.getElem?_eq_some_iff.mp hr1).1
    refine w_seqc (fun e' S' => S' = S1.set r (RO tx (x + 1)) ∧ e' = [some (.loc r), some (.loc pl), some (.int (q : Int)), some (.int (x : Int)), y4]) ?_ ?_
    · refine w_putF ?_
      repeat fail
      exact ⟨_, put_PlainReader_at hr1, rfl, rfl⟩
    rintro _ _ ⟨rfl, rfl⟩
    have hr2 : (S1.set r (RO tx (x + 1)))[r]? = some (RO tx (x + 1)) := List.getElem?_set_self hrl
    have hp2 : (S1.set r (RO tx (x + 1)))[pl]? = some (.lst true (strT (ps ++ [a]))) := by rw [List.getElem?_set_ne hne]; exact hp1
    have hf2 : Fr [r, pl] S0 (S1.set r (RO tx (x + 1))) := hf1.trans (Fr.set (by simp))
    generalize S1.set r (RO tx (x + 1)) = S2 at hr2 hp2 hf2 ⊢
    clear hr1 hp1 hf1 hrl
    refine w_seqc (fun e' S' => S2 = S' ∧ e' = [some (.loc r), some (.loc pl), some (.int (q : Int)), some (.int (x : Int)), some (.str (T [escE c]))]) ?_ ?_
    · refine w_asg (w_met ?_)
      repeat fail
      refine ⟨is_PlainReader__sign hr2, ?_⟩
      repeat fail
      refine ev_pure (sign_ok hr2 hz hsg) ?_
      exact ⟨rfl, rfl⟩
    rintro _ _ ⟨rfl, rfl⟩
    have hge := get_esc hcc
    refine w_seqc (fun e' S' => S2 = S' ∧ e' = [some (.loc r), some (.loc pl), some (.int (q : Int)), some (.int (x : Int)), some (.str (T [escE c]))]) ?_ ?_
    · repeat fail
      refine w_knin ?_
      repeat fail
      refine ⟨_, rfl, ?_⟩
      rw [hge]
      show isB (.bl false) _
      repeat fail
      exact ⟨rfl, rfl⟩
    rintro _ _ ⟨rfl, rfl⟩
    have hpll := (List.getElem?_eq_some_iff.mp hp2).1
    refine w_seqc (fun e' S' => S' = S2.set pl (.lst true (strT (ps ++ [a] ++ [[c]]))) ∧ e' = [some (.loc r), some (.loc pl), some (.int (q : Int)), some (.int (x : Int)), some (.str (T [escE c]))]) ?_ ?_
    · repeat fail
      refine ⟨_, _, rfl, hge, ?_⟩
      have hsz : (ps ++ [a]).length ≤ 100 := by rw [List.length_append, List.length_singleton]; omega
      repeat fail
      refine ⟨?_, rfl⟩
      rw [strT, strT, List.map_append (l₁ := ps ++ [a])]; rfl
    rintro _ _ ⟨rfl, rfl⟩
    have hr3 : (S2.set pl (.lst true (strT (ps ++ [a] ++ [[c]]))))[r]? = some (RO tx (x + 1)) := by rw [List.getElem?_set_ne (Ne.symm hne)]; exact hr2
    have hp3 : (S2.set pl (.lst true (strT (ps ++ [a] ++ [[c]]))))[pl]? = some (.lst true (strT (ps ++ [a] ++ [[c]]))) := List.getElem?_set_self hpll
    have hf3 : Fr [r, pl] S0 (S2.set pl (.lst true (strT (ps ++ [a] ++ [[c]])))) := hf2.trans (Fr.set (by simp))
    generalize S2.set pl (.lst true (strT (ps ++ [a] ++ [[c]]))) = S3 at hr3 hp3 hf3 ⊢
    have hrl := (List.getElem?_eq_some_iff.mp hr3).1
    refine aug_at rfl hr3 ?_
    have hee : (esc (done ++ a ++ [c])).length = (esc done).length + a.length + 2 := by
      rw [esc_app, esc_app, esc_pln ha, List.length_append, List.length_append]
      show _ + _ + (escC c ++ []).length = _
      rw [hec]; rfl
    have hat2 : p + 1 + (esc (done ++ a ++ [c])).length = x + 1 + 1 := by rw [hee]; omega
    refine ⟨done ++ a ++ [c], b, q, ps ++ [a] ++ [[c]], _, _, by rw [hl1]; simp, ?_, ?_, rfl, by rw [hat2]; exact List.getElem?_set_self hrl, by rw [List.getElem?_set_ne hne]; exact hp3, ?_, hf3.trans (Fr.set (by simp)), ?_⟩
    · rw [List.flatten_append, List.flatten_append, hps]; simp
    · rw [List.length_append, List.length_append, List.length_append, List.length_append]
      show _ + 1 + 1 ≤ 2 * (_ + _ + 1)
      omega
    · rw [hat2]
      by_cases hq2 : q < x + 1 + 1
      · exact .inl hq2
      · exact .inr ⟨by omega, hFQ.2.1, fun k h1 h2 => hFQ.2.2 k (by omega) h2⟩
    · rw [List.length_append, List.length_append]
      show _ ≤ m + (_ + _ + 1)
      omega
end K38
end

section
set_option Elab.async false
set_option linter.all false
set_option maxRecDepth 100000
set_option maxHeartbeats 4000000
/-! C4: k38: a text and an integer are read. -/
namespace K38
open PySem PySem.Spec M2 P0
set_option autoImplicit false
local macro_rules | `(tactic| fail) => `(tactic| first
  | with_reducible refine w_seq ?_
  | with_reducible refine w_asg ?_
  | with_reducible refine w_sif ?_
  | with_reducible refine w_ret ?_
  | with_reducible refine w_retN ?_
  | with_reducible refine w_expr ?_
  | with_reducible refine w_nx ?_
  | with_reducible refine w_bk ?_
  | with_reducible refine w_ct ?_
  | with_reducible refine w_put ?_
  | with_reducible refine w_for ?_
  | with_reducible refine w_bin ?_
  | with_reducible refine w_un ?_
  | with_reducible refine w_nil ?_
  | with_reducible refine w_cons ?_
  | with_reducible refine w_l ?_
  | with_reducible refine w_tup ?_
  | with_reducible refine w_lst ?_
  | with_reducible refine w_if ?_
  | with_reducible refine w_tval ?_
  | with_reducible refine tru_bl ?_
  | with_reducible refine isB_bl ?_
  | with_reducible refine isI_int ?_
  | with_reducible refine isT_T ?_
  | with_reducible refine isS_s ?_
  | with_reducible refine w_tbl ?_
  | with_reducible refine w_and ?_
  | with_reducible refine w_or ?_
  | with_reducible refine w_not ?_
  | with_reducible refine w_mand ?_
  | with_reducible refine w_mor ?_
  | with_reducible refine w_mnot ?_
  | with_reducible refine w_chain ?_
  | with_reducible refine w_meth ?_
  | with_reducible refine rcv_str' ?_
  | with_reducible refine w_call ?_
  | with_reducible refine w_callC ?_
  | with_reducible refine w_call0 ?_
  | with_reducible refine w_no ?_
  | with_reducible refine w_at ?_
  | with_reducible refine w_sl ?_
  | with_reducible refine w_fmt ?_
  | with_reducible refine w_js1 ?_
  | with_reducible refine w_js0 ?_
  | with_reducible refine w_js ?_
  | with_reducible refine w_lrg ?_
  | with_reducible refine w_trg ?_
  | with_reducible refine w_rg1 ?_
  | with_reducible refine w_rg2 ?_
  | with_reducible refine w_kget ?_
  | with_reducible refine w_kix ?_
  | with_reducible refine w_sset ?_
  | with_reducible refine w_c ?_
  | with_reducible refine br_tt ?_
  | with_reducible refine br_ff ?_
  | with_reducible refine br_not ?_
  | with_reducible refine w_any ?_
  | with_reducible refine w_irg1 ?_
  | with_reducible refine w_irg2 ?_
  | with_reducible refine w_ienum ?_
  | ((with_reducible apply w_var); rfl)
  | ((with_reducible refine szL ?_ ?_); rfl)
  | with_reducible refine o_add ?_
  | with_reducible refine o_sub ?_
  | with_reducible refine o_neg ?_
  | with_reducible refine o_lt ?_
  | with_reducible refine o_le ?_
  | with_reducible refine o_gt ?_
  | with_reducible refine o_ge ?_
  | with_reducible refine o_eq ?_
  | with_reducible refine o_ne ?_
  | with_reducible refine o_eqT ?_
  | with_reducible refine o_neT ?_
  | with_reducible refine o_lenU ?_
  | with_reducible refine o_isN ?_
  | with_reducible refine o_isNotN ?_
  | with_reducible refine o_isTy ?_
  | with_reducible refine o_isNotTy ?_
  | with_reducible refine o_int ?_
  | with_reducible refine o_intA ?_
  | with_reducible refine o_strT ?_
  | with_reducible refine o_inT ?_
  | with_reducible refine o_notInT ?_
  | with_reducible refine o_tupleU ?_
  | with_reducible refine o_listU ?_
  | with_reducible refine o_slU ?_
  | with_reducible refine o_slUl ?_
  | with_reducible refine o_slUr ?_
  | ((with_reducible apply o_lenL); (first | assumption | exact get_new | exact get_set (by first | assumption | exact get_new) | exact get_app (by first | assumption | exact get_new)))
  | ((with_reducible apply tru_l); (first | assumption | exact get_new | exact get_set (by first | assumption | exact get_new) | exact get_app (by first | assumption | exact get_new)))
  | ((with_reducible apply rcv_lst); (first | assumption | exact get_new | exact get_set (by first | assumption | exact get_new) | exact get_app (by first | assumption | exact get_new)))
  | ((with_reducible apply o_tupleL); (first | assumption | exact get_new | exact get_set (by first | assumption | exact get_new) | exact get_app (by first | assumption | exact get_new)))
  | ((with_reducible apply o_slLl); (first | assumption | exact get_new | exact get_set (by first | assumption | exact get_new) | exact get_app (by first | assumption | exact get_new)))
  | ((with_reducible apply o_slLr); (first | assumption | exact get_new | exact get_set (by first | assumption | exact get_new) | exact get_app (by first | assumption | exact get_new)))
  | ((with_reducible refine o_lenT ?_ ?_); (first | assumption | omega | (rw [sizeLine_eq]; omega) | (simp only [List.length_append, List.length_cons, List.length_nil, List.length_map, List.length_take, List.length_drop] <;> first | omega | (rw [sizeLine_eq]; omega))))
  | ((with_reducible refine o_addT ?_ ?_); (first | assumption | omega | (rw [sizeLine_eq]; omega) | (simp only [List.length_append, List.length_cons, List.length_nil, List.length_map, List.length_take, List.length_drop] <;> first | omega | (rw [sizeLine_eq]; omega))))
  | ((with_reducible refine o_addU ?_ ?_); (first | assumption | omega | (rw [sizeLine_eq]; omega) | (simp only [List.length_append, List.length_cons, List.length_nil, List.length_map, List.length_take, List.length_drop] <;> first | omega | (rw [sizeLine_eq]; omega))))
  | ((with_reducible refine o_slT ?_ ?_); (first | assumption | omega | (rw [sizeLine_eq]; omega) | (simp only [List.length_append, List.length_cons, List.length_nil, List.length_map, List.length_take, List.length_drop] <;> first | omega | (rw [sizeLine_eq]; omega))))
  | ((with_reducible refine o_slTl ?_ ?_); (first | assumption | omega | (rw [sizeLine_eq]; omega) | (simp only [List.length_append, List.length_cons, List.length_nil, List.length_map, List.length_take, List.length_drop] <;> first | omega | (rw [sizeLine_eq]; omega))))
  | ((with_reducible refine o_slTr ?_ ?_); (first | assumption | omega | (rw [sizeLine_eq]; omega) | (simp only [List.length_append, List.length_cons, List.length_nil, List.length_map, List.length_take, List.length_drop] <;> first | omega | (rw [sizeLine_eq]; omega))))
  | ((with_reducible refine o_mod ?_ ?_); (first | assumption | omega | (rw [sizeLine_eq]; omega) | (simp only [List.length_append, List.length_cons, List.length_nil, List.length_map, List.length_take, List.length_drop] <;> first | omega | (rw [sizeLine_eq]; omega))))
  | ((with_reducible refine o_str ?_ ?_); (first | assumption | omega | (rw [sizeLine_eq]; omega) | (simp only [List.length_append, List.length_cons, List.length_nil, List.length_map, List.length_take, List.length_drop] <;> first | omega | (rw [sizeLine_eq]; omega))))
  | ((with_reducible refine o_strA ?_ ?_); (first | assumption | omega | (rw [sizeLine_eq]; omega) | (simp only [List.length_append, List.length_cons, List.length_nil, List.length_map, List.length_take, List.length_drop] <;> first | omega | (rw [sizeLine_eq]; omega))))
  | ((with_reducible refine o_parT ?_ ?_); (first | assumption | omega | (rw [sizeLine_eq]; omega) | (simp only [List.length_append, List.length_cons, List.length_nil, List.length_map, List.length_take, List.length_drop] <;> first | omega | (rw [sizeLine_eq]; omega))))
  | ((with_reducible refine fmtI ?_ ?_); (first | assumption | omega | (rw [sizeLine_eq]; omega) | (simp only [List.length_append, List.length_cons, List.length_nil, List.length_map, List.length_take, List.length_drop] <;> first | omega | (rw [sizeLine_eq]; omega))))
  | ((with_reducible refine fmtT ?_ ?_); (first | assumption | omega | (rw [sizeLine_eq]; omega) | (simp only [List.length_append, List.length_cons, List.length_nil, List.length_map, List.length_take, List.length_drop] <;> first | omega | (rw [sizeLine_eq]; omega))))
  | ((with_reducible refine leS_ ?_ ?_); (first | assumption | omega | (rw [sizeLine_eq]; omega) | (simp only [List.length_append, List.length_cons, List.length_nil, List.length_map, List.length_take, List.length_drop] <;> first | omega | (rw [sizeLine_eq]; omega))))
  | ((with_reducible apply o_append); (first | assumption | exact get_new | exact get_set (by first | assumption | exact get_new) | exact get_app (by first | assumption | exact get_new)); (first | assumption | omega | (rw [sizeLine_eq]; omega) | (simp only [List.length_append, List.length_cons, List.length_nil, List.length_map, List.length_take, List.length_drop] <;> first | omega | (rw [sizeLine_eq]; omega))))
  | ((with_reducible refine o_fdiv ?_ ?_ ?_); (first | assumption | omega | (rw [sizeLine_eq]; omega) | (simp only [List.length_append, List.length_cons, List.length_nil, List.length_map, List.length_take, List.length_drop] <;> first | omega | (rw [sizeLine_eq]; omega))); (first | assumption | omega | (rw [sizeLine_eq]; omega) | (simp only [List.length_append, List.length_cons, List.length_nil, List.length_map, List.length_take, List.length_drop] <;> first | omega | (rw [sizeLine_eq]; omega))))
  | ((with_reducible refine o_mul ?_ ?_ ?_); (first | assumption | omega | (rw [sizeLine_eq]; omega) | (simp only [List.length_append, List.length_cons, List.length_nil, List.length_map, List.length_take, List.length_drop] <;> first | omega | (rw [sizeLine_eq]; omega))); (first | assumption | omega | (rw [sizeLine_eq]; omega) | (simp only [List.length_append, List.length_cons, List.length_nil, List.length_map, List.length_take, List.length_drop] <;> first | omega | (rw [sizeLine_eq]; omega))))
  | ((with_reducible refine br_y ?_ ?_); first | assumption | omega | decide)
  | ((with_reducible refine br_n ?_ ?_); first | assumption | omega | decide))
theorem text_ok {S : Sto} {r p : Nat} {tx l rest : List Nat} (h : S[r]? = some (RO tx p)) (hz : tx.length ≤ 1000000) (hd : tx.drop p = [34] ++ (esc l ++ [34] ++ rest)) (hl : l.length ≤ 20) (hs : ∀ c ∈ l, c ∈ SGN) :
    Ev (m_PlainReader__read_text [.loc r] S) (fun d S' => d = .str (T l) ∧ S'[r]? = some (RO tx (p + ([34] ++ esc l ++ [34]).length)) ∧ Fr [r] S S') noX := by
  have hd1 : tx.drop (p + 1) = esc l ++ [34] ++ rest := by
    rw [← List.drop_drop, hd]; rfl
  have hrl := (List.getElem?_eq_some_iff.mp h).1
  refine w_def rfl ?_
  unfold b_PlainReader__read_text
  have e0 : startE 5 [D.loc r] = [some (.loc r), none, none, none, none] := rfl
  rw [e0]
  refine w_seqc (fun e' S' => S' = S ++ [.lst true []] ∧ e' = [some (.loc r), some (.loc S.length), none, none, none]) ?_ ?_
  · repeat fail
    exact ⟨rfl, rfl⟩
  rintro _ _ ⟨rfl, rfl⟩
  have h1 : (S ++ [SO.lst true []])[r]? = some (RO tx p) := get_app h
  have hp1 : (S ++ [SO.lst true []])[S.length]? = some (.lst true []) := get_new
  have hf1 : Fr [r] S (S ++ [SO.lst true []]) := Fr.app _ _ _
  have hne : r ≠ S.length := by omega
  generalize hpl : S.length = pl at hp1 hne ⊢
  generalize S ++ [SO.lst true []] = S1 at h1 hp1 hf1 ⊢
  refine w_seqc (fun e' S' => S1 = S' ∧ e' = [some (.loc r), some (.loc pl), some (.int (p : Int)), none, none]) ?_ ?_
  · repeat fail
    refine get_PlainReader_at h1 ?_
    repeat fail
    exact ⟨rfl, rfl⟩
  rintro _ _ ⟨rfl, rfl⟩
  have hrl1 := (List.getElem?_eq_some_iff.mp h1).1
  refine w_seqc (fun e' S' => S' = S1.set r (RO tx (p + 1)) ∧ e' = [some (.loc r), some (.loc pl), some (.int (p : Int)), none, none]) ?_ ?_
  · exact aug_at rfl h1 ⟨rfl, rfl⟩
  rintro _ _ ⟨rfl, rfl⟩
  have h2 : (S1.set r (RO tx (p + 1)))[r]? = some (RO tx (p + 1)) := List.getElem?_set_self hrl1
  have hp2 : (S1.set r (RO tx (p + 1)))[pl]? = some (.lst true []) := by rw [List.getElem?_set_ne hne]; exact hp1
  have hf2 : Fr [r] S (S1.set r (RO tx (p + 1))) := hf1.trans (Fr.set (by simp))
  generalize S1.set r (RO tx (p + 1)) = S2 at h2 hp2 hf2 ⊢
  have hplt := (List.getElem?_eq_some_iff.mp hp2).1
  refine w_seqc (TF tx p l r pl S2) ?_ ?_
  · refine w_while (TI tx p l r pl S2) ⟨[], l, p, [], none, none, rfl, rfl, Nat.le_refl _, rfl, h2, hp2, .inl (Nat.lt_of_lt_of_le (Nat.lt_succ_self p) (Nat.le_add_right _ _)), Fr.refl _ _, Nat.le_add_right _ _⟩ ?_ ?_
    · rintro e' S' ⟨done, l', qv, ps, y3, y4, hl1, _, _, _, _, _, _, _, hm⟩
      have := congrArg List.length hl1
      rw [List.length_append] at this
      have hfu : fuelW = 100000 := rfl
      rw [hfu] at hm
      omega
    · intro m e' S' hI
      exact w_tval (w_c ⟨true, rfl, turn_text hz hd1 hl hs hne hplt hI⟩)
  rintro _ S3 ⟨a, ps, at_, y3, y4, hla, hpsl, rfl, h3, hp3, hta, h34, hapl, hat, hf3⟩
  have hasg : ∀ x ∈ a, x ∈ SGN ∧ x ≠ 10 := fun x hx => ⟨hs x (by rw [hla]; exact List.mem_append_right _ hx), (hapl x hx).2.2⟩
  generalize hx : at_ + a.length = x at hta h34 hat ⊢
  have hpll := (List.getElem?_eq_some_iff.mp hp3).1
  refine w_seqc (fun e' S' => S' = S3.set pl (.lst true (strT (ps ++ [a]))) ∧ e' = [some (.loc r), some (.loc pl), some (.int (x : Int)), y3, y4]) ?_ ?_
  · repeat fail
    refine w_met ?_
    repeat fail
    refine ⟨is_PlainReader__piece h3, ?_⟩
    repeat fail
    refine ev_pure (piece_ok h3 hz hta hasg) ?_
    repeat fail
    refine ⟨?_, rfl⟩
    rw [strT, strT, List.map_append]; rfl
  rintro _ _ ⟨rfl, rfl⟩
  have h4 : (S3.set pl (.lst true (strT (ps ++ [a]))))[r]? = some (RO tx at_) := by rw [List.getElem?_set_ne (Ne.symm hne)]; exact h3
  have hp4 : (S3.set pl (.lst true (strT (ps ++ [a]))))[pl]? = some (.lst true (strT (ps ++ [a]))) := List.getElem?_set_self hpll
  have hf4 : Fr [r, pl] S2 (S3.set pl (.lst true (strT (ps ++ [a])))) := hf3.trans (Fr.set (by simp))
  generalize S3.set pl (.lst true (strT (ps ++ [a]))) = S4 at h4 hp4 hf4 ⊢
  have hrl4 := (List.getElem?_eq_some_iff.mp h4).1
  refine w_seqc (fun e' S' => S' = S4.set r (RO tx x) ∧ e' = [some (.loc r), some (.loc pl), some (.int (x : Int)), y3, y4]) ?_ ?_
  · refine w_putF ?_
    repeat fail
    exact ⟨_, put_PlainReader_at h4, rfl, rfl⟩
  rintro _ _ ⟨rfl, rfl⟩
  have h5 : (S4.set r (RO tx x))[r]? = some (RO tx x) := List.getElem?_set_self hrl4
  have hp5 : (S4.set r (RO tx x))[pl]? = some (.lst true (strT (ps ++ [a]))) := by rw [List.getElem?_set_ne hne]; exact hp4
  have hf5 : Fr [r, pl] S2 (S4.set r (RO tx x)) := hf4.trans (Fr.set (by simp))
  generalize S4.set r (RO tx x) = S5 at h5 hp5 hf5 ⊢
  refine w_seqc (fun e' S' => S5 = S' ∧ e' = [some (.loc r), some (.loc pl), some (.int (x : Int)), y3, y4]) ?_ ?_
  · repeat fail
    refine w_met ?_
    repeat fail
    refine ⟨is_PlainReader__sign h5, ?_⟩
    repeat fail
    refine ev_pure (sign_ok h5 hz h34) ?_
    exact ⟨rfl, rfl⟩
  rintro _ _ ⟨rfl, rfl⟩
  have hrl5 := (List.getElem?_eq_some_iff.mp h5).1
  refine w_seqc (fun e' S' => S' = S5.set r (RO tx (x + 1)) ∧ e' = [some (.loc r), some (.loc pl), some (.int (x : Int)), y3, y4]) ?_ ?_
  · exact aug_at rfl h5 ⟨rfl, rfl⟩
  rintro _ _ ⟨rfl, rfl⟩
  have h6 : (S5.set r (RO tx (x + 1)))[r]? = some (RO tx (x + 1)) := List.getElem?_set_self hrl5
  have hp6 : (S5.set r (RO tx (x + 1)))[pl]? = some (.lst true (strT (ps ++ [a]))) := by rw [List.getElem?_set_ne hne]; exact hp5
  have hf6 : Fr [r, pl] S2 (S5.set r (RO tx (x + 1))) := hf5.trans (Fr.set (by simp))
  generalize S5.set r (RO tx (x + 1)) = S6 at h6 hp6 hf6 ⊢
  have hfl : (ps ++ [a]).flatten = l := by rw [List.flatten_append, hla]; simp
  repeat fail
  refine o_joinT (ls := ps ++ [a]) (items_L hp6) ?_ ?_
  · rw [List.length_nil, Nat.mul_zero, Nat.add_zero, ← List.length_flatten, hfl]; omega
  have hj : joinC [] (ps ++ [a]) = l := by
    rw [← hfl]
    show TL.joinL [] (ps ++ [a]) = _
    generalize ps ++ [a] = L
    induction L with
    | nil => rfl
    | cons x r ih =>
      cases r with
      | nil =>
        show x = [x].flatten
        simp
      | cons y r =>
        show x ++ ([] ++ TL.joinL [] (y :: r)) = _
        rw [ih]; rfl
  rw [hj]
  refine ⟨rfl, ?_, ?_⟩
  · have hxe : x + 1 = p + ([34] ++ esc l ++ [34]).length := by
      rw [List.length_append, List.length_append]
      show _ = p + (1 + _ + 1)
      omega
    rw [← hxe]
    exact h6
  · have hall : Fr [r, pl] S S6 := (hf2.sub (ms := [r, pl]) fun k hk => .inl (by rw [List.mem_singleton.mp hk]; simp)).trans hf6
    refine hall.sub fun k hk => ?_
    simp only [List.mem_cons, List.not_mem_nil, or_false] at hk
    rcases hk with rfl | rfl
    · exact .inl (by simp)
    · exact .inr (by omega)
end K38
end

section
set_option Elab.async false
set_option linter.all false
set_option maxRecDepth 100000
set_option maxHeartbeats 4000000
/-! C5: k38: an integer is read. -/
namespace K38
open PySem PySem.Spec M2 P0
set_option autoImplicit false
local macro_rules | `(tactic| fail) => `(tactic| first
  | with_reducible refine w_seq ?_
  | with_reducible refine w_asg ?_
  | with_reducible refine w_sif ?_
  | with_reducible refine w_ret ?_
  | with_reducible refine w_retN ?_
  | with_reducible refine w_expr ?_
  | with_reducible refine w_nx ?_
  | with_reducible refine w_bk ?_
  | with_reducible refine w_ct ?_
  | with_reducible refine w_put ?_
  | with_reducible refine w_for ?_
  | with_reducible refine w_bin ?_
  | with_reducible refine w_un ?_
  | with_reducible refine w_nil ?_
  | with_reducible refine w_cons ?_
  | with_reducible refine w_l ?_
  | with_reducible refine w_tup ?_
  | with_reducible refine w_lst ?_
  | with_reducible refine w_if ?_
  | with_reducible refine w_tval ?_
  | with_reducible refine tru_bl ?_
  | with_reducible refine isB_bl ?_
  | with_reducible refine isI_int ?_
  | with_reducible refine isT_T ?_
  | with_reducible refine isS_s ?_
  | with_reducible refine w_tbl ?_
  | with_reducible refine w_and ?_
  | with_reducible refine w_or ?_
  | with_reducible refine w_not ?_
  | with_reducible refine w_mand ?_
  | with_reducible refine w_mor ?_
  | with_reducible refine w_mnot ?_
  | with_reducible refine w_chain ?_
  | with_reducible refine w_meth ?_
  | with_reducible refine rcv_str' ?_
  | with_reducible refine w_call ?_
  | with_reducible refine w_callC ?_
  | with_reducible refine w_call0 ?_
  | with_reducible refine w_no ?_
  | with_reducible refine w_at ?_
  | with_reducible refine w_sl ?_
  | with_reducible refine w_fmt ?_
  | with_reducible refine w_js1 ?_
  | with_reducible refine w_js0 ?_
  | with_reducible refine w_js ?_
  | with_reducible refine w_lrg ?_
  | with_reducible refine w_trg ?_
  | with_reducible refine w_rg1 ?_
  | with_reducible refine w_rg2 ?_
  | with_reducible refine w_kget ?_
  | with_reducible refine w_kix ?_
  | with_reducible refine w_sset ?_
  | with_reducible refine w_c ?_
  | with_reducible refine br_tt ?_
  | with_reducible refine br_ff ?_
  | with_reducible refine br_not ?_
  | with_reducible refine w_any ?_
  | with_reducible refine w_irg1 ?_
  | with_reducible refine w_irg2 ?_
  | with_reducible refine w_ienum ?_
  | ((with_reducible apply w_var); rfl)
  | ((with_reducible refine szL ?_ ?_); rfl)
  | with_reducible refine o_add ?_
  | with_reducible refine o_sub ?_
  | with_reducible refine o_neg ?_
  | with_reducible refine o_lt ?_
  | with_reducible refine o_le ?_
  | with_reducible refine o_gt ?_
  | with_reducible refine o_ge ?_
  | with_reducible refine o_eq ?_
  | with_reducible refine o_ne ?_
  | with_reducible refine o_eqT ?_
  | with_reducible refine o_neT ?_
  | with_reducible refine o_lenU ?_
  | with_reducible refine o_isN ?_
  | with_reducible refine o_isNotN ?_
  | with_reducible refine o_isTy ?_
  | with_reducible refine o_isNotTy ?_
  | with_reducible refine o_int ?_
  | with_reducible refine o_intA ?_
  | with_reducible refine o_strT ?_
  | with_reducible refine o_inT ?_
  | with_reducible refine o_notInT ?_
  | with_reducible refine o_tupleU ?_
  | with_reducible refine o_listU ?_
  | with_reducible refine o_slU ?_
  | with_reducible refine o_slUl ?_
  | with_reducible refine o_slUr ?_
  | ((with_reducible apply o_lenL); (first | assumption | exact get_new | exact get_set (by first | assumption | exact get_new) | exact get_app (by first | assumption | exact get_new)))
  | ((with_reducible apply tru_l); (first | assumption | exact get_new | exact get_set (by first | assumption | exact get_new) | exact get_app (by first | assumption | exact get_new)))
  | ((with_reducible apply rcv_lst); (first | assumption | exact get_new | exact get_set (by first | assumption | exact get_new) | exact get_app (by first | assumption | exact get_new)))
  | ((with_reducible apply o_tupleL); (first | assumption | exact get_new | exact get_set (by first | assumption | exact get_new) | exact get_app (by first | assumption | exact get_new)))
  | ((with_reducible apply o_slLl); (first | assumption | exact get_new | exact get_set (by first | assumption | exact get_new) | exact get_app (by first | assumption | exact get_new)))
  | ((with_reducible apply o_slLr); (first | assumption | exact get_new | exact get_set (by first | assumption | exact get_new) | exact get_app (by first | assumption | exact get_new)))
  | ((with_reducible refine o_lenT ?_ ?_); (first | assumption | omega | (rw [sizeLine_eq]; omega) | (simp only [List.length_append, List.length_cons, List.length_nil, List.length_map, List.length_take, List.length_drop] <;> first | omega | (rw [sizeLine_eq]; omega))))
  | ((with_reducible refine o_addT ?_ ?_); (first | assumption | omega | (rw [sizeLine_eq]; omega) | (simp only [List.length_append, List.length_cons, List.length_nil, List.length_map, List.length_take, List.length_drop] <;> first | omega | (rw [sizeLine_eq]; omega))))
  | ((with_reducible refine o_addU ?_ ?_); (first | assumption | omega | (rw [sizeLine_eq]; omega) | (simp only [List.length_append, List.length_cons, List.length_nil, List.length_map, List.length_take, List.length_drop] <;> first | omega | (rw [sizeLine_eq]; omega))))
  | ((with_reducible refine o_slT ?_ ?_); (first | assumption | omega | (rw [sizeLine_eq]; omega) | (simp only [List.length_append, List.length_cons, List.length_nil, List.length_map, List.length_take, List.length_drop] <;> first | omega | (rw [sizeLine_eq]; omega))))
  | ((with_reducible refine o_slTl ?_ ?_); (first | assumption | omega | (rw [sizeLine_eq]; omega) | (simp only [List.length_append, List.length_cons, List.length_nil, List.length_map, List.length_take, List.length_drop] <;> first | omega | (rw [sizeLine_eq]; omega))))
  | ((with_reducible refine o_slTr ?_ ?_); (first | assumption | omega | (rw [sizeLine_eq]; omega) | (simp only [List.length_append, List.length_cons, List.length_nil, List.length_map, List.length_take, List.length_drop] <;> first | omega | (rw [sizeLine_eq]; omega))))
  | ((with_reducible refine o_mod ?_ ?_); (first | assumption | omega | (rw [sizeLine_eq]; omega) | (simp only [List.length_append, List.length_cons, List.length_nil, List.length_map, List.length_take, List.length_drop] <;> first | omega | (rw [sizeLine_eq]; omega))))
  | ((with_reducible refine o_str ?_ ?_); (first | assumption | omega | (rw [sizeLine_eq]; omega) | (simp only [List.length_append, List.length_cons, List.length_nil, List.length_map, List.length_take, List.length_drop] <;> first | omega | (rw [sizeLine_eq]; omega))))
  | ((with_reducible refine o_strA ?_ ?_); (first | assumption | omega | (rw [sizeLine_eq]; omega) | (simp only [List.length_append, List.length_cons, List.length_nil, List.length_map, List.length_take, List.length_drop] <;> first | omega | (rw [sizeLine_eq]; omega))))
  | ((with_reducible refine o_parT ?_ ?_); (first | assumption | omega | (rw [sizeLine_eq]; omega) | (simp only [List.length_append, List.length_cons, List.length_nil, List.length_map, List.length_take, List.length_drop] <;> first | omega | (rw [sizeLine_eq]; omega))))
  | ((with_reducible refine fmtI ?_ ?_); (first | assumption | omega | (rw [sizeLine_eq]; omega) | (simp only [List.length_append, List.length_cons, List.length_nil, List.length_map, List.length_take, List.length_drop] <;> first | omega | (rw [sizeLine_eq]; omega))))
  | ((with_reducible refine fmtT ?_ ?_); (first | assumption | omega | (rw [sizeLine_eq]; omega) | (simp only [List.length_append, List.length_cons, List.length_nil, List.length_map, List.length_take, List.length_drop] <;> first | omega | (rw [sizeLine_eq]; omega))))
  | ((with_reducible refine leS_ ?_ ?_); (first | assumption | omega | (rw [sizeLine_eq]; omega) | (simp only [List.length_append, List.length_cons, List.length_nil, List.length_map, List.length_take, List.length_drop] <;> first | omega | (rw [sizeLine_eq]; omega))))
  | ((with_reducible apply o_append); (first | assumption | exact get_new | exact get_set (by first | assumption | exact get_new) | exact get_app (by first | assumption | exact get_new)); (first | assumption | omega | (rw [sizeLine_eq]; omega) | (simp only [List.length_append, List.length_cons, List.length_nil, List.length_map, List.length_take, List.length_drop] <;> first | omega | (rw [sizeLine_eq]; omega))))
  | ((with_reducible refine o_fdiv ?_ ?_ ?_); (first | assumption | omega | (rw [sizeLine_eq]; omega) | (simp only [List.length_append, List.length_cons, List.length_nil, List.length_map, List.length_take, List.length_drop] <;> first | omega | (rw [sizeLine_eq]; omega))); (first | assumption | omega | (rw [sizeLine_eq]; omega) | (simp only [List.length_append, List.length_cons, List.length_nil, List.length_map, List.length_take, List.length_drop] <;> first | omega | (rw [sizeLine_eq]; omega))))
  | ((with_reducible refine o_mul ?_ ?_ ?_); (first | assumption | omega | (rw [sizeLine_eq]; omega) | (simp only [List.length_append, List.length_cons, List.length_nil, List.length_map, List.length_take, List.length_drop] <;> first | omega | (rw [sizeLine_eq]; omega))); (first | assumption | omega | (rw [sizeLine_eq]; omega) | (simp only [List.length_append, List.length_cons, List.length_nil, List.length_map, List.length_take, List.length_drop] <;> first | omega | (rw [sizeLine_eq]; omega))))
  | ((with_reducible refine br_y ?_ ?_); first | assumption | omega | decide)
  | ((with_reducible refine br_n ?_ ?_); first | assumption | omega | decide))
theorem o_min2 {S : Sto} {Q : D → Sto → Prop} {X : XQ} {i j : Nat} (q : Q (.int ((min i j : Nat) : Int)) S) : Ev (lift (oMin [.int (i : Int), .int (j : Int)] S)) Q X := w_lift (d := .int ((min i j : Nat) : Int)) (S' := S) (by
  show some (D.int (if (j : Int) < (i : Int) then (j : Int) else (i : Int)), S) = _
  congr 3
  split <;> omega) q
theorem numL_pos : ∀ n : Nat, 0 < n → ∃ c r, TL.numL n = c :: r ∧ 49 ≤ c ∧ c ≤ 57 := by
  intro n
  induction n using Nat.strongRecOn with
  | _ n ih =>
    intro h0
    by_cases h : n < 10
    · exact ⟨48 + n, [], TL.numL_lt h, by omega, by omega⟩
    · obtain ⟨c, r, e, h1, h2⟩ := ih (n / 10) (by omega) (by omega)
      exact ⟨c, r ++ [48 + n % 10], by rw [TL.numL_step (by omega), e]; rfl, h1, h2⟩
abbrev DGS : List Nat := [48, 49, 50, 51, 52, 53, 54, 55, 56, 57]
theorem dgs_mem {c : Nat} : c ∈ DGS ↔ 48 ≤ c ∧ c ≤ 57 := by
  simp only [List.mem_cons, List.not_mem_nil, or_false]
  omega
theorem set_same {S : Sto} {r : Nat} {o : SO} (h : S[r]? = some o) : S.set r o = S := by
  refine List.ext_getElem? fun k => ?_
  by_cases q : r = k
  · subst q
    rw [List.getElem?_set_self (List.getElem?_eq_some_iff.mp h).1, h]
  · rw [List.getElem?_set_ne q]
/-- what follows is no digit -/
def NoD (rest : List Nat) : Prop := ∀ c, rest.head? = some c → ¬ (48 ≤ c ∧ c ≤ 57)
abbrev bDig : MS := (sAugFI "PlainReader" "_at" (mVar 0) (mC (.int 1)))
theorem digs_ok {S : Sto} {r q0 en : Nat} {tx ds rest : List Nat} {e : Nv} (h : S[r]? = some (RO tx q0)) (hz : tx.length ≤ 1000000) (hd : tx.drop q0 = ds ++ rest) (hl : ds.length ≤ 4000) (ha : ∀ c ∈ ds, 48 ≤ c ∧ c ≤ 57) (hn : NoD rest)
    (he0 : e[0]? = some (some (.loc r))) (he3 : e[3]? = some (some (.int (en : Int)))) (hen : en = min (q0 + 4000) tx.length) {N : Nv → Sto → Prop} {R : D → Sto → Prop} {B C : Nv → Sto → Prop} {Z : Str → List (Str × D) → Nv → Sto → Prop}
    (q : N e (S.set r (RO tx (q0 + ds.length)))) :
    Es (sWhile fuelW (tAnd2 (tBl (mBin oLt (mUn (oGetF "PlainReader" "_at") (mVar 0)) (mVar 3))) (tBl (mBin oIn2 (mBin oIx (mUn (oGetF "PlainReader" "_text") (mVar 0)) (mUn (oGetF "PlainReader" "_at") (mVar 0))) (mC (.str (P0.T [48, 49, 50, 51, 52, 53, 54, 55, 56, 57])))))) bDig e S) N R B C Z := by
  have hrl := (List.getElem?_eq_some_iff.mp h).1
  have htl : tx.length = q0 + (ds.length + rest.length) ∨ (ds = [] ∧ rest = []) := by
    have := congrArg List.length hd
    rw [List.length_drop, List.length_append] at this
    rcases Nat.lt_or_ge tx.length q0 with x | x
    · right
      exact ⟨List.length_eq_zero_iff.mp (by omega), List.length_eq_zero_iff.mp (by omega)⟩
    · left; omega
  refine w_while (fun m e' S' => ∃ j, j ≤ ds.length ∧ e' = e ∧ S' = S.set r (RO tx (q0 + j)) ∧ fuelW ≤ m + j) ⟨0, Nat.zero_le _, rfl, ?_, Nat.le_refl _⟩ ?_ ?_
  · rw [Nat.add_zero]
    exact (set_same h).symm
  · rintro e' S' ⟨j, hj, _, _, hm⟩
    have hfu : fuelW = 100000 := rfl
    rw [hfu] at hm
    omega
  · rintro m e' S' ⟨j, hj, rfl, rfl, hm⟩
    have h1 : (S.set r (RO tx (q0 + j)))[r]? = some (RO tx (q0 + j)) := List.getElem?_set_self hrl
    have hss : ∀ o : SO, (S.set r (RO tx (q0 + j))).set r o = S.set r o := fun o => List.set_set ..
    generalize hS1 : S.set r (RO tx (q0 + j)) = S1 at h1 hss ⊢
    refine w_and (w_tbl (w_bin (w_un (w_var he0 ?_))))
    refine get_PlainReader_at h1 ?_
    refine w_var he3 ?_
    refine o_lt ?_
    refine isB_bl ?_
    by_cases hjl : j < ds.length
    · have hlt : q0 + j < en := by
        rcases htl with x | ⟨x, _⟩
        · omega
        · rw [x] at hjl; cases hjl
      have hc : tx[q0 + j]? = some ds[j] := by
        rw [at_drop hd, List.getElem?_append_left hjl, List.getElem?_eq_getElem hjl]
      have hdj := ha _ (List.getElem_mem hjl)
      generalize ds[j] = c at hc hdj
      rw [decide_eq_true (show ((q0 + j : Nat) : Int) < (en : Int) by omega)]
      refine br_tt (w_tbl (w_bin (w_bin (w_un (w_var he0 ?_)))))
      refine get_PlainReader_text h1 ?_
      refine w_un (w_var he0 ?_)
      refine get_PlainReader_at h1 ?_
      refine o_ixT hc (by rw [sizeLine_eq]; omega) ?_
      refine w_c ?_
      refine o_inT ?_
      refine isB_bl ?_
      rw [decide_eq_true (dgs_mem.mpr hdj)]
      refine br_tt ?_
      refine aug_at he0 h1 ⟨j + 1, hjl, rfl, hss _, by omega⟩
    · have hje : j = ds.length := by omega
      subst hje
      have hq : N e' S1 := by rw [← hS1]; exact q
      by_cases hlt : q0 + ds.length < en
      · rw [decide_eq_true (show ((q0 + ds.length : Nat) : Int) < (en : Int) by omega)]
        have hex : ∃ c, tx[q0 + ds.length]? = some c := ⟨_, List.getElem?_eq_getElem (by omega)⟩
        obtain ⟨c, hc⟩ := hex
        have hnc : ¬ (48 ≤ c ∧ c ≤ 57) := by
          refine hn c ?_
          rw [at_drop hd, List.getElem?_append_right (Nat.le_refl _), Nat.sub_self] at hc
          rw [List.head?_eq_getElem?]; exact hc
        refine br_tt (w_tbl (w_bin (w_bin (w_un (w_var he0 ?_)))))
        refine get_PlainReader_text h1 ?_
        refine w_un (w_var he0 ?_)
        refine get_PlainReader_at h1 ?_
        refine o_ixT hc (by rw [sizeLine_eq]; omega) ?_
        refine w_c ?_
        refine o_inT ?_
        refine isB_bl ?_
        rw [decide_eq_false (fun q => hnc (dgs_mem.mp q))]
        exact hq
      · rw [decide_eq_false (show ¬ ((q0 + ds.length : Nat) : Int) < (en : Int) by omega)]
        exact hq
theorem int_ok {S : Sto} {r p c : Nat} {tx rest : List Nat} {i : Int} (h : S[r]? = some (RO tx p)) (hz : tx.length ≤ 1000000) (hi : i.natAbs < big40) (hd : tx.drop p = decL i ++ rest) (hn : NoD rest) (hc : tx[p]? = some c) :
    Ev (m_PlainReader__read_integer [.loc r, .str (T [c])] S) (fun d S' => d = .int i ∧ S'[r]? = some (RO tx (p + (decL i).length)) ∧ Fr [r] S S') noX := by
  have hrl := (List.getElem?_eq_some_iff.mp h).1
  have hl40 := numL_40 hi
  have hread := decL_read hi
  have hdl := decL_len hi
  clear hi
  refine w_def rfl ?_
  unfold b_PlainReader__read_integer
  have e0 : startE 4 [D.loc r, D.str (T [c])] = [some (.loc r), some (.str (T [c])), none, none] := rfl
  rw [e0]
  refine w_seqc (fun e' S' => S = S' ∧ e' = [some (.loc r), some (.str (T [c])), some (.int (p : Int)), none]) ?_ ?_
  · repeat fail
    refine get_PlainReader_at h ?_
    repeat fail
    exact ⟨rfl, rfl⟩
  rintro _ _ ⟨rfl, rfl⟩
  -- behind the sign
  have fin : ∀ (q0 : Nat) (S1 : Sto), S1[r]? = some (RO tx q0) → Fr [r] S S1 → p ≤ q0 → q0 + (TL.numL i.natAbs).length = p + (decL i).length → tx.drop q0 = TL.numL i.natAbs ++ rest →
      Es (sSeq (sAsg (mL oMin (aCons (mBin oAdd (mUn (oGetF "PlainReader" "_at") (mVar 0)) (mC (.int 4000))) (aCons (mL oLen (aCons (mUn (oGetF "PlainReader" "_text") (mVar 0)) aNil)) aNil))) (tgN 3)) (sSeq (sWhile fuelW (tAnd2 (tBl (mBin oLt (mUn (oGetF "PlainReader" "_at") (mVar 0)) (mVar 3))) (tBl (mBin oIn2 (mBin oIx (mUn (oGetF "PlainReader" "_text") (mVar 0)) (mUn (oGetF "PlainReader" "_at") (mVar 0))) (mC (.str (P0.T [48, 49, 50, 51, 52, 53, 54, 55, 56, 57])))))) (sAugFI "PlainReader" "_at" (mVar 0) (mC (.int 1)))) (sRet (mL oIntB (aCons (mSl (mUn (oGetF "PlainReader" "_text") (mVar 0)) (pAt (mVar 2)) (pAt (mUn (oGetF "PlainReader" "_at") (mVar 0)))) aNil)))) [some (.loc r), some (.str (T [c])), some (.int (p : Int)), none] S1)
        (fun _ S' => (D.non = .int i ∧ S'[r]? = some (RO tx (p + (decL i).length)) ∧ Fr [r] S S')) (fun d S' => d = .int i ∧ S'[r]? = some (RO tx (p + (decL i).length)) ∧ Fr [r] S S') (fun _ _ => False) (fun _ _ => False) (fun c fs _ S' => noX c fs S') := by
    intro q0 S1 h1 hf hpq hqe hdq
    refine w_seqc (fun e' S' => S1 = S' ∧ e' = [some (.loc r), some (.str (T [c])), some (.int (p : Int)), some (.int ((min (q0 + 4000) tx.length : Nat) : Int))]) ?_ ?_
    · repeat fail
      refine get_PlainReader_at h1 ?_
      repeat fail
      refine get_PlainReader_text h1 ?_
      repeat fail
      refine o_min2 (i := q0 + 4000) ?_
      exact ⟨rfl, rfl⟩
    rintro _ _ ⟨rfl, rfl⟩
    have hrl1 := (List.getElem?_eq_some_iff.mp h1).1
    refine w_seqc (fun e' S' => S' = S1.set r (RO tx (p + (decL i).length)) ∧ e' = [some (.loc r), some (.str (T [c])), some (.int (p : Int)), some (.int ((min (q0 + 4000) tx.length : Nat) : Int))]) ?_ ?_
    · refine digs_ok h1 hz hdq hl40 (TL.numL_digits _) hn rfl rfl rfl ?_
      rw [hqe]
      exact ⟨rfl, rfl⟩
    rintro _ _ ⟨rfl, rfl⟩
    have h2 : (S1.set r (RO tx (p + (decL i).length)))[r]? = some (RO tx (p + (decL i).length)) := List.getElem?_set_self hrl1
    have hf2 : Fr [r] S (S1.set r (RO tx (p + (decL i).length))) := hf.trans (Fr.set (by simp))
    generalize S1.set r (RO tx (p + (decL i).length)) = S2 at h2 hf2 ⊢
    have htd := take_drop_of hd
    repeat fail
    refine get_PlainReader_text h2 ?_
    repeat fail
    refine get_PlainReader_at h2 ?_
    repeat fail
    rw [htd]
    refine o_intB hread (by rw [sizeLine_eq]; omega) ?_
    exact ⟨rfl, h2, hf2⟩
  by_cases h0 : i < 0
  · have hdec : decL i = 45 :: TL.numL i.natAbs := by unfold decL; rw [if_pos h0]
    obtain ⟨c1, r1, hnl, hc1, hc2⟩ := numL_pos i.natAbs (by omega)
    have hcc : c = 45 := by
      have := at_drop (i := 0) hd
      rw [Nat.add_zero, hc, hdec] at this
      exact Option.some.inj this
    subst hcc
    have hd1 : tx.drop (p + 1) = TL.numL i.natAbs ++ rest := by rw [← List.drop_drop, hd, hdec]; rfl
    have hs1 : tx[p + 1]? = some c1 := by
      have := at_drop (i := 0) hd1
      rw [Nat.add_zero, hnl] at this
      exact this
    refine w_seqc (fun e' S' => S' = S.set r (RO tx (p + 1)) ∧ e' = [some (.loc r), some (.str (T [45])), some (.int (p : Int)), none]) ?_ ?_
    · repeat fail
      refine aug_at rfl h ?_
      have h1 : (S.set r (RO tx (p + 1)))[r]? = some (RO tx (p + 1)) := List.getElem?_set_self hrl
      generalize S.set r (RO tx (p + 1)) = S1 at h1 ⊢
      repeat fail
      refine w_met ?_
      repeat fail
      refine ⟨is_PlainReader__sign h1, ?_⟩
      repeat fail
      refine ev_pure (sign_ok h1 hz hs1) ?_
      repeat fail
      refine br_i (fun q => ?_) fun q => ?_
      · repeat fail
        exact ⟨rfl, rfl⟩
      · exfalso
        refine q ?_
        simp only [List.mem_cons, List.not_mem_nil, or_false]
        omega
    rintro _ _ ⟨rfl, rfl⟩
    have h1 : (S.set r (RO tx (p + 1)))[r]? = some (RO tx (p + 1)) := List.getElem?_set_self hrl
    exact fin (p + 1) _ h1 (Fr.set (by simp)) (by omega) (by rw [hdec, List.length_cons]; omega) hd1
  · have hdec : decL i = TL.numL i.natAbs := by unfold decL; rw [if_neg h0]
    by_cases hz0 : i = 0
    · subst hz0
      have hnl : decL 0 = [48] := by decide +kernel
      have hcc : c = 48 := by
        have := at_drop (i := 0) hd
        rw [Nat.add_zero, hc, hnl] at this
        exact Option.some.inj this
      subst hcc
      refine w_seqc (fun _ _ => False) ?_ (fun _ _ h => h.elim)
      repeat fail
      refine aug_at rfl h ?_
      repeat fail
      exact ⟨rfl, by rw [hnl]; exact List.getElem?_set_self hrl, Fr.set (by simp)⟩
    · obtain ⟨c1, r1, hnl, hc1, hc2⟩ := numL_pos i.natAbs (by omega)
      have hcc : c = c1 := by
        have := at_drop (i := 0) hd
        rw [Nat.add_zero, hc, hdec, hnl] at this
        exact Option.some.inj this
      subst hcc
      refine w_seqc (fun e' S' => S = S' ∧ e' = [some (.loc r), some (.str (T [c])), some (.int (p : Int)), none]) ?_ ?_
      · repeat fail
        refine br_i (fun q => ?_) fun _ => ?_
        · have : c = 45 := List.head_eq_of_cons_eq q
          omega
        repeat fail
        refine br_i (fun q => ?_) fun _ => ?_
        · have : c = 48 := List.head_eq_of_cons_eq q
          omega
        repeat fail
        exact ⟨rfl, rfl⟩
      rintro _ _ ⟨rfl, rfl⟩
      exact fin p S h (Fr.refl _ _) (Nat.le_refl _) (by rw [hdec]) (by rw [hd, hdec])
end K38
end

section
set_option Elab.async false
set_option linter.all false
set_option maxRecDepth 100000
set_option maxHeartbeats 4000000
/-! C6: k38: a value is read. -/
namespace K38
open PySem PySem.Spec M2 P0
set_option autoImplicit false
local macro_rules | `(tactic| fail) => `(tactic| first
  | with_reducible refine w_seq ?_
  | with_reducible refine w_asg ?_
  | with_reducible refine w_sif ?_
  | with_reducible refine w_ret ?_
  | with_reducible refine w_retN ?_
  | with_reducible refine w_expr ?_
  | with_reducible refine w_nx ?_
  | with_reducible refine w_bk ?_
  | with_reducible refine w_ct ?_
  | with_reducible refine w_put ?_
  | with_reducible refine w_for ?_
  | with_reducible refine w_bin ?_
  | with_reducible refine w_un ?_
  | with_reducible refine w_nil ?_
  | with_reducible refine w_cons ?_
  | with_reducible refine w_l ?_
  | with_reducible refine w_tup ?_
  | with_reducible refine w_lst ?_
  | with_reducible refine w_if ?_
  | with_reducible refine w_tval ?_
  | with_reducible refine tru_bl ?_
  | with_reducible refine isB_bl ?_
  | with_reducible refine isI_int ?_
  | with_reducible refine isT_T ?_
  | with_reducible refine isS_s ?_
  | with_reducible refine w_tbl ?_
  | with_reducible refine w_and ?_
  | with_reducible refine w_or ?_
  | with_reducible refine w_not ?_
  | with_reducible refine w_mand ?_
  | with_reducible refine w_mor ?_
  | with_reducible refine w_mnot ?_
  | with_reducible refine w_chain ?_
  | with_reducible refine w_meth ?_
  | with_reducible refine rcv_str' ?_
  | with_reducible refine w_call ?_
  | with_reducible refine w_callC ?_
  | with_reducible refine w_call0 ?_
  | with_reducible refine w_no ?_
  | with_reducible refine w_at ?_
  | with_reducible refine w_sl ?_
  | with_reducible refine w_fmt ?_
  | with_reducible refine w_js1 ?_
  | with_reducible refine w_js0 ?_
  | with_reducible refine w_js ?_
  | with_reducible refine w_lrg ?_
  | with_reducible refine w_trg ?_
  | with_reducible refine w_rg1 ?_
  | with_reducible refine w_rg2 ?_
  | with_reducible refine w_kget ?_
  | with_reducible refine w_kix ?_
  | with_reducible refine w_sset ?_
  | with_reducible refine w_c ?_
  | with_reducible refine br_tt ?_
  | with_reducible refine br_ff ?_
  | with_reducible refine br_not ?_
  | with_reducible refine w_any ?_
  | with_reducible refine w_irg1 ?_
  | with_reducible refine w_irg2 ?_
  | with_reducible refine w_ienum ?_
  | ((with_reducible apply w_var); rfl)
  | ((with_reducible refine szL ?_ ?_); rfl)
  | with_reducible refine o_add ?_
  | with_reducible refine o_sub ?_
  | with_reducible refine o_neg ?_
  | with_reducible refine o_lt ?_
  | with_reducible refine o_le ?_
  | with_reducible refine o_gt ?_
  | with_reducible refine o_ge ?_
  | with_reducible refine o_eq ?_
  | with_reducible refine o_ne ?_
  | with_reducible refine o_eqT ?_
  | with_reducible refine o_neT ?_
  | with_reducible refine o_lenU ?_
  | with_reducible refine o_isN ?_
  | with_reducible refine o_isNotN ?_
  | with_reducible refine o_isTy ?_
  | with_reducible refine o_isNotTy ?_
  | with_reducible refine o_int ?_
  | with_reducible refine o_intA ?_
  | with_reducible refine o_strT ?_
  | with_reducible refine o_inT ?_
  | with_reducible refine o_notInT ?_
  | with_reducible refine o_tupleU ?_
  | with_reducible refine o_listU ?_
  | with_reducible refine o_slU ?_
  | with_reducible refine o_slUl ?_
  | with_reducible refine o_slUr ?_
  | ((with_reducible apply o_lenL); (first | assumption | exact get_new | exact get_set (by first | assumption | exact get_new) | exact get_app (by first | assumption | exact get_new)))
  | ((with_reducible apply tru_l); (first | assumption | exact get_new | exact get_set (by first | assumption | exact get_new) | exact get_app (by first | assumption | exact get_new)))
  | ((with_reducible apply rcv_lst); (first | assumption | exact get_new | exact get_set (by first | assumption | exact get_new) | exact get_app (by first | assumption | exact get_new)))
  | ((with_reducible apply o_tupleL); (first | assumption | exact get_new | exact get_set (by first | assumption | exact get_new) | exact get_app (by first | assumption | exact get_new)))
  | ((with_reducible apply o_slLl); (first | assumption | exact get_new | exact get_set (by first | assumption | exact get_new) | exact get_app (by first | assumption | exact get_new)))
  | ((with_reducible apply o_slLr); (first | assumption | exact get_new | exact get_set (by first | assumption | exact get_new) | exact get_app (by first | assumption | exact get_new)))
  | ((with_reducible refine o_lenT ?_ ?_); (first | assumption | omega | (rw [sizeLine_eq]; omega) | (simp only [List.length_append, List.length_cons, List.length_nil, List.length_map, List.length_take, List.length_drop] <;> first | omega | (rw [sizeLine_eq]; omega))))
  | ((with_reducible refine o_addT ?_ ?_); (first | assumption | omega | (rw [sizeLine_eq]; omega) | (simp only [List.length_append, List.length_cons, List.length_nil, List.length_map, List.length_take, List.length_drop] <;> first | omega | (rw [sizeLine_eq]; omega))))
  | ((with_reducible refine o_addU ?_ ?_); (first | assumption | omega | (rw [sizeLine_eq]; omega) | (simp only [List.length_append, List.length_cons, List.length_nil, List.length_map, List.length_take, List.length_drop] <;> first | omega | (rw [sizeLine_eq]; omega))))
  | ((with_reducible refine o_slT ?_ ?_); (first | assumption | omega | (rw [sizeLine_eq]; omega) | (simp only [List.length_append, List.length_cons, List.length_nil, List.length_map, List.length_take, List.length_drop] <;> first | omega | (rw [sizeLine_eq]; omega))))
  | ((with_reducible refine o_slTl ?_ ?_); (first | assumption | omega | (rw [sizeLine_eq]; omega) | (simp only [List.length_append, List.length_cons, List.length_nil, List.length_map, List.length_take, List.length_drop] <;> first | omega | (rw [sizeLine_eq]; omega))))
  | ((with_reducible refine o_slTr ?_ ?_); (first | assumption | omega | (rw [sizeLine_eq]; omega) | (simp only [List.length_append, List.length_cons, List.length_nil, List.length_map, List.length_take, List.length_drop] <;> first | omega | (rw [sizeLine_eq]; omega))))
  | ((with_reducible refine o_mod ?_ ?_); (first | assumption | omega | (rw [sizeLine_eq]; omega) | (simp only [List.length_append, List.length_cons, List.length_nil, List.length_map, List.length_take, List.length_drop] <;> first | omega | (rw [sizeLine_eq]; omega))))
  | ((with_reducible refine o_str ?_ ?_); (first | assumption | omega | (rw [sizeLine_eq]; omega) | (simp only [List.length_append, List.length_cons, List.length_nil, List.length_map, List.length_take, List.length_drop] <;> first | omega | (rw [sizeLine_eq]; omega))))
  | ((with_reducible refine o_strA ?_ ?_); (first | assumption | omega | (rw [sizeLine_eq]; omega) | (simp only [List.length_append, List.length_cons, List.length_nil, List.length_map, List.length_take, List.length_drop] <;> first | omega | (rw [sizeLine_eq]; omega))))
  | ((with_reducible refine o_parT ?_ ?_); (first | assumption | omega | (rw [sizeLine_eq]; omega) | (simp only [List.length_append, List.length_cons, List.length_nil, List.length_map, List.length_take, List.length_drop] <;> first | omega | (rw [sizeLine_eq]; omega))))
  | ((with_reducible refine fmtI ?_ ?_); (first | assumption | omega | (rw [sizeLine_eq]; omega) | (simp only [List.length_append, List.length_cons, List.length_nil, List.length_map, List.length_take, List.length_drop] <;> first | omega | (rw [sizeLine_eq]; omega))))
  | ((with_reducible refine fmtT ?_ ?_); (first | assumption | omega | (rw [sizeLine_eq]; omega) | (simp only [List.length_append, List.length_cons, List.length_nil, List.length_map, List.length_take, List.length_drop] <;> first | omega | (rw [sizeLine_eq]; omega))))
  | ((with_reducible refine leS_ ?_ ?_); (first | assumption | omega | (rw [sizeLine_eq]; omega) | (simp only [List.length_append, List.length_cons, List.length_nil, List.length_map, List.length_take, List.length_drop] <;> first | omega | (rw [sizeLine_eq]; omega))))
  | ((with_reducible apply o_append); (first | assumption | exact get_new | exact get_set (by first | assumption | exact get_new) | exact get_app (by first | assumption | exact get_new)); (first | assumption | omega | (rw [sizeLine_eq]; omega) | (simp only [List.length_append, List.length_cons, List.length_nil, List.length_map, List.length_take, List.length_drop] <;> first | omega | (rw [sizeLine_eq]; omega))))
  | ((with_reducible refine o_fdiv ?_ ?_ ?_); (first | assumption | omega | (rw [sizeLine_eq]; omega) | (simp only [List.length_append, List.length_cons, List.length_nil, List.length_map, List.length_take, List.length_drop] <;> first | omega | (rw [sizeLine_eq]; omega))); (first | assumption | omega | (rw [sizeLine_eq]; omega) | (simp only [List.length_append, List.length_cons, List.length_nil, List.length_map, List.length_take, List.length_drop] <;> first | omega | (rw [sizeLine_eq]; omega))))
  | ((with_reducible refine o_mul ?_ ?_ ?_); (first | assumption | omega | (rw [sizeLine_eq]; omega) | (simp only [List.length_append, List.length_cons, List.length_nil, List.length_map, List.length_take, List.length_drop] <;> first | omega | (rw [sizeLine_eq]; omega))); (first | assumption | omega | (rw [sizeLine_eq]; omega) | (simp only [List.length_append, List.length_cons, List.length_nil, List.length_map, List.length_take, List.length_drop] <;> first | omega | (rw [sizeLine_eq]; omega))))
  | ((with_reducible refine br_y ?_ ?_); first | assumption | omega | decide)
  | ((with_reducible refine br_n ?_ ?_); first | assumption | omega | decide))
theorem plT_head {n : Nat} {v : D} (h : PV n v) : ∃ c r, plT n v = c :: r ∧ c ≠ 41 := by
  cases v with
  | loc k => cases n <;> exact h.elim
  | fn x => cases n <;> exact h.elim
  | ty x => cases n <;> exact h.elim
  | non => exact ⟨78, [], by cases n <;> rfl, by decide⟩
  | bl b =>
    have e : plT n (.bl b) = if b = true then [84] else [70] := by cases n <;> rfl
    rw [e]
    cases b with
    | true => exact ⟨84, [], rfl, by decide⟩
    | false => exact ⟨70, [], rfl, by decide⟩
  | int i =>
    have e : plT n (.int i) = decL i := by cases n <;> rfl
    rw [e]
    unfold decL
    split
    · exact ⟨45, _, rfl, by decide⟩
    · have h1 := TL.numL_digits i.natAbs
      have h2 := TL.numL_ne i.natAbs
      cases hn : TL.numL i.natAbs with
      | nil => exact absurd hn h2
      | cons c r =>
        rw [hn] at h1
        have := h1 c List.mem_cons_self
        exact ⟨c, r, rfl, by omega⟩
  | str x => exact ⟨34, _, by cases n <;> rfl, by decide⟩
  | tup ds =>
    cases n with
    | zero => exact h.elim
    | succ n => exact ⟨40, _, rfl, by decide⟩
theorem get_word {c : Nat} {v : D} (h : (c = 84 ∧ v = .bl true) ∨ (c = 70 ∧ v = .bl false) ∨ (c = 78 ∧ v = .non)) : getT c_WORDS (T [c]) = some v := by
  have n1 : ¬ (("T" : Str) = T [70]) := by decide +kernel
  have n2 : ¬ (("T" : Str) = T [78]) := by decide +kernel
  have n3 : ¬ (("F" : Str) = T [78]) := by decide +kernel
  have y1 : (("T" : Str) = T [84]) := by decide +kernel
  have y2 : (("F" : Str) = T [70]) := by decide +kernel
  have y3 : (("N" : Str) = T [78]) := by decide +kernel
  unfold getT c_WORDS
  rcases h with ⟨rfl, rfl⟩ | ⟨rfl, rfl⟩ | ⟨rfl, rfl⟩
  · rw [List.find?_cons_of_pos (by rw [decide_eq_true_eq]; exact y1)]; rfl
  · rw [List.find?_cons_of_neg (by rw [decide_eq_true_eq]; exact n1), List.find?_cons_of_pos (by rw [decide_eq_true_eq]; exact y2)]; rfl
  · rw [List.find?_cons_of_neg (by rw [decide_eq_true_eq]; exact n2), List.find?_cons_of_neg (by rw [decide_eq_true_eq]; exact n3), List.find?_cons_of_pos (by rw [decide_eq_true_eq]; exact y3)]; rfl
abbrev VQ (v : D) (S : Sto) (r q : Nat) (tx : List Nat) : D → Sto → Prop := fun d S' => d = v ∧ S'[r]? = some (RO tx q) ∧ Fr [r] S S'
def VOk (n : Nat) : Prop := ∀ (N : Nat) (v : D) (S : Sto) (r p dep : Nat) (tx rest : List Nat), 2 * n + 1 ≤ N → PV n v → S[r]? = some (RO tx p) → tx.length ≤ 1000000 → tx.drop p = plT n v ++ rest → NoD rest → dep + n ≤ 60 →
  Ev (m_PlainReader_read_value N [.loc r, .int (dep : Int)] S) (VQ v S r (p + (plT n v).length) tx) noX
theorem word_ok {N dep p r c : Nat} {S : Sto} {tx : List Nat} {v : D} (h : S[r]? = some (RO tx p)) (hz : tx.length ≤ 1000000) (hc : tx[p]? = some c) (hw : (c = 84 ∧ v = .bl true) ∨ (c = 70 ∧ v = .bl false) ∨ (c = 78 ∧ v = .non)) :
    Ev (m_PlainReader_read_value (N + 1) [.loc r, .int (dep : Int)] S) (VQ v S r (p + 1) tx) noX := by
  have hrl := (List.getElem?_eq_some_iff.mp h).1
  have hg := get_word hw
  unfold m_PlainReader_read_value
  refine w_def rfl ?_
  have e0 : startE 3 [D.loc r, .int (dep : Int)] = [some (.loc r), some (.int (dep : Int)), none] := rfl
  rw [e0]
  refine w_seqc (fun e' S' => S = S' ∧ e' = [some (.loc r), some (.int (dep : Int)), some (.str (T [c]))]) ?_ ?_
  · refine w_asg (w_met ?_)
    repeat fail
    refine ⟨is_PlainReader__sign h, ?_⟩
    repeat fail
    refine ev_pure (sign_ok h hz hc) ?_
    exact ⟨rfl, rfl⟩
  rintro _ _ ⟨rfl, rfl⟩
  have hc3 : c = 84 ∨ c = 70 ∨ c = 78 := by
    rcases hw with ⟨h, _⟩ | ⟨h, _⟩ | ⟨h, _⟩ <;> omega
  refine w_seqc (fun e' S' => S = S' ∧ e' = [some (.loc r), some (.int (dep : Int)), some (.str (T [c]))]) ?_ ?_
  · repeat fail
    refine br_i (fun q => ?_) fun _ => ?_
    · have : c = 40 := List.head_eq_of_cons_eq q
      omega
    repeat fail
    exact ⟨rfl, rfl⟩
  rintro _ _ ⟨rfl, rfl⟩
  refine w_seqc (fun e' S' => S = S' ∧ e' = [some (.loc r), some (.int (dep : Int)), some (.str (T [c]))]) ?_ ?_
  · repeat fail
    refine br_i (fun q => ?_) fun _ => ?_
    · have : c = 34 := List.head_eq_of_cons_eq q
      omega
    repeat fail
    exact ⟨rfl, rfl⟩
  rintro _ _ ⟨rfl, rfl⟩
  refine w_seqc (fun e' S' => S = S' ∧ e' = [some (.loc r), some (.int (dep : Int)), some (.str (T [c]))]) ?_ ?_
  · repeat fail
    refine br_i (fun q => ?_) fun _ => ?_
    · have : c = 45 := List.head_eq_of_cons_eq q
      omega
    repeat fail
    refine br_i (fun q => ?_) fun _ => ?_
    · have := dgs_mem.mp q
      omega
    repeat fail
    exact ⟨rfl, rfl⟩
  rintro _ _ ⟨rfl, rfl⟩
  refine w_seqc (fun e' S' => S = S' ∧ e' = [some (.loc r), some (.int (dep : Int)), some (.str (T [c]))]) ?_ ?_
  · repeat fail
    refine w_knin ?_
    repeat fail
    refine ⟨_, rfl, ?_⟩
    rw [hg]
    show isB (.bl false) _
    repeat fail
    exact ⟨rfl, rfl⟩
  rintro _ _ ⟨rfl, rfl⟩
  refine w_seqc (fun e' S' => S' = S.set r (RO tx (p + 1)) ∧ e' = [some (.loc r), some (.int (dep : Int)), some (.str (T [c]))]) ?_ ?_
  · exact aug_at rfl h ⟨rfl, rfl⟩
  rintro _ _ ⟨rfl, rfl⟩
  repeat fail
  exact ⟨_, _, rfl, hg, rfl, List.getElem?_set_self hrl, Fr.set (by simp)⟩
theorem head_at {tx L rest : List Nat} {p c : Nat} (h : tx.drop p = c :: L ++ rest) : tx[p]? = some c := by
  have := at_drop (i := 0) h
  rw [Nat.add_zero] at this
  exact this
theorem leaf_ok {n N dep p r : Nat} {S : Sto} {tx rest : List Nat} {v : D} (hv : PV n v) (hnt : ∀ ds, v ≠ .tup ds) (h : S[r]? = some (RO tx p)) (hz : tx.length ≤ 1000000) (hd : tx.drop p = plT n v ++ rest) (hn : NoD rest) :
    Ev (m_PlainReader_read_value (N + 1) [.loc r, .int (dep : Int)] S) (VQ v S r (p + (plT n v).length) tx) noX := by
  cases v with
  | loc k => cases n <;> exact hv.elim
  | fn x => cases n <;> exact hv.elim
  | ty x => cases n <;> exact hv.elim
  | tup ds => exact absurd rfl (hnt ds)
  | non =>
    have e : plT n .non = [78] := by cases n <;> rfl
    rw [e] at hd ⊢
    exact word_ok h hz (head_at hd) (.inr (.inr ⟨rfl, rfl⟩))
  | bl b =>
    have e : plT n (.bl b) = if b = true then [84] else [70] := by cases n <;> rfl
    rw [e] at hd ⊢
    cases b with
    | true => exact word_ok h hz (head_at (c := 84) (L := []) hd) (.inl ⟨rfl, rfl⟩)
    | false => exact word_ok h hz (head_at (c := 70) (L := []) hd) (.inr (.inl ⟨rfl, rfl⟩))
  | int i =>
    have hi : i.natAbs < big40 := by cases n <;> exact hv
    have e : plT n (.int i) = decL i := by cases n <;> rfl
    rw [e] at hd ⊢
    obtain ⟨c, hc, hcc⟩ : ∃ c, tx[p]? = some c ∧ (c = 45 ∨ (48 ≤ c ∧ c ≤ 57)) := by
      have h1 := TL.numL_digits i.natAbs
      have h2 := TL.numL_ne i.natAbs
      unfold decL at hd
      split at hd
      · exact ⟨45, head_at hd, .inl rfl⟩
      · cases hn : TL.numL i.natAbs with
        | nil => exact absurd hn h2
        | cons c r =>
          rw [hn] at h1 hd
          exact ⟨c, head_at hd, .inr (h1 c List.mem_cons_self)⟩
    unfold m_PlainReader_read_value
    refine w_def rfl ?_
    have e0 : startE 3 [D.loc r, .int (dep : Int)] = [some (.loc r), some (.int (dep : Int)), none] := rfl
    rw [e0]
    refine w_seqc (fun e' S' => S = S' ∧ e' = [some (.loc r), some (.int (dep : Int)), some (.str (T [c]))]) ?_ ?_
    · refine w_asg (w_met ?_)
      repeat fail
      refine ⟨is_PlainReader__sign h, ?_⟩
      repeat fail
      refine ev_pure (sign_ok h hz hc) ?_
      exact ⟨rfl, rfl⟩
    rintro _ _ ⟨rfl, rfl⟩
    refine w_seqc (fun e' S' => S = S' ∧ e' = [some (.loc r), some (.int (dep : Int)), some (.str (T [c]))]) ?_ ?_
    · repeat fail
      refine br_i (fun q => ?_) fun _ => ?_
      · have : c = 40 := List.head_eq_of_cons_eq q
        omega
      repeat fail
      exact ⟨rfl, rfl⟩
    rintro _ _ ⟨rfl, rfl⟩
    refine w_seqc (fun e' S' => S = S' ∧ e' = [some (.loc r), some (.int (dep : Int)), some (.str (T [c]))]) ?_ ?_
    · repeat fail
      refine br_i (fun q => ?_) fun _ => ?_
      · have : c = 34 := List.head_eq_of_cons_eq q
        omega
      repeat fail
      exact ⟨rfl, rfl⟩
    rintro _ _ ⟨rfl, rfl⟩
    refine w_seqc (fun _ _ => False) ?_ (fun _ _ h => h.elim)
    repeat fail
    refine br_i (fun q => ?_) fun q45 => ?_
    · repeat fail
      refine w_met ?_
      repeat fail
      refine ⟨is_PlainReader__read_integer h, ?_⟩
      repeat fail
      exact int_ok h hz hi hd hn hc
    · repeat fail
      refine br_i (fun q => ?_) fun q => ?_
      · repeat fail
        refine w_met ?_
        repeat fail
        refine ⟨is_PlainReader__read_integer h, ?_⟩
        repeat fail
        exact int_ok h hz hi hd hn hc
      · exfalso
        rcases hcc with rfl | hcc
        · exact q45 rfl
        · exact q (dgs_mem.mpr hcc)
  | str x =>
    have hx : ∃ l, x = T l ∧ l.length ≤ 20 ∧ ∀ c ∈ l, c ∈ SGN := by cases n <;> exact hv
    obtain ⟨l, rfl, h1, h2⟩ := hx
    have e : plT n (.str (T l)) = [34] ++ esc l ++ [34] := by cases n <;> rfl
    rw [e] at hd ⊢
    have hc : tx[p]? = some 34 := head_at (c := 34) (L := esc l ++ [34]) hd
    unfold m_PlainReader_read_value
    refine w_def rfl ?_
    have e0 : startE 3 [D.loc r, .int (dep : Int)] = [some (.loc r), some (.int (dep : Int)), none] := rfl
    rw [e0]
    refine w_seqc (fun e' S' => S = S' ∧ e' = [some (.loc r), some (.int (dep : Int)), some (.str (T [34]))]) ?_ ?_
    · refine w_asg (w_met ?_)
      repeat fail
      refine ⟨is_PlainReader__sign h, ?_⟩
      repeat fail
      refine ev_pure (sign_ok h hz hc) ?_
      exact ⟨rfl, rfl⟩
    rintro _ _ ⟨rfl, rfl⟩
    refine w_seqc (fun e' S' => S = S' ∧ e' = [some (.loc r), some (.int (dep : Int)), some (.str (T [34]))]) ?_ ?_
    · repeat fail
      exact ⟨rfl, rfl⟩
    rintro _ _ ⟨rfl, rfl⟩
    refine w_seqc (fun _ _ => False) ?_ (fun _ _ h => h.elim)
    repeat fail
    refine w_met ?_
    repeat fail
    refine ⟨is_PlainReader__read_text h, ?_⟩
    repeat fail
    exact text_ok (rest := rest) h hz (by rw [hd]; simp) h1 h2
end K38
end

section
set_option Elab.async false
set_option linter.all false
set_option maxRecDepth 100000
set_option maxHeartbeats 4000000
/-! C7: k38: a tuple is read; every value. -/
namespace K38
open PySem PySem.Spec M2 P0
set_option autoImplicit false
local macro_rules | `(tactic| fail) => `(tactic| first
  | with_reducible refine w_seq ?_
  | with_reducible refine w_asg ?_
  | with_reducible refine w_sif ?_
  | with_reducible refine w_ret ?_
  | with_reducible refine w_retN ?_
  | with_reducible refine w_expr ?_
  | with_reducible refine w_nx ?_
  | with_reducible refine w_bk ?_
  | with_reducible refine w_ct ?_
  | with_reducible refine w_put ?_
  | with_reducible refine w_for ?_
  | with_reducible refine w_bin ?_
  | with_reducible refine w_un ?_
  | with_reducible refine w_nil ?_
  | with_reducible refine w_cons ?_
  | with_reducible refine w_l ?_
  | with_reducible refine w_tup ?_
  | with_reducible refine w_lst ?_
  | with_reducible refine w_if ?_
  | with_reducible refine w_tval ?_
  | with_reducible refine tru_bl ?_
  | with_reducible refine isB_bl ?_
  | with_reducible refine isI_int ?_
  | with_reducible refine isT_T ?_
  | with_reducible refine isS_s ?_
  | with_reducible refine w_tbl ?_
  | with_reducible refine w_and ?_
  | with_reducible refine w_or ?_
  | with_reducible refine w_not ?_
  | with_reducible refine w_mand ?_
  | with_reducible refine w_mor ?_
  | with_reducible refine w_mnot ?_
  | with_reducible refine w_chain ?_
  | with_reducible refine w_meth ?_
  | with_reducible refine rcv_str' ?_
  | with_reducible refine w_call ?_
  | with_reducible refine w_callC ?_
  | with_reducible refine w_call0 ?_
  | with_reducible refine w_no ?_
  | with_reducible refine w_at ?_
  | with_reducible refine w_sl ?_
  | with_reducible refine w_fmt ?_
  | with_reducible refine w_js1 ?_
  | with_reducible refine w_js0 ?_
  | with_reducible refine w_js ?_
  | with_reducible refine w_lrg ?_
  | with_reducible refine w_trg ?_
  | with_reducible refine w_rg1 ?_
  | with_reducible refine w_rg2 ?_
  | with_reducible refine w_kget ?_
  | with_reducible refine w_kix ?_
  | with_reducible refine w_sset ?_
  | with_reducible refine w_c ?_
  | with_reducible refine br_tt ?_
  | with_reducible refine br_ff ?_
  | with_reducible refine br_not ?_
  | with_reducible refine w_any ?_
  | with_reducible refine w_irg1 ?_
  | with_reducible refine w_irg2 ?_
  | with_reducible refine w_ienum ?_
  | ((with_reducible apply w_var); rfl)
  | ((with_reducible refine szL ?_ ?_); rfl)
  | with_reducible refine o_add ?_
  | with_reducible refine o_sub ?_
  | with_reducible refine o_neg ?_
  | with_reducible refine o_lt ?_
  | with_reducible refine o_le ?_
  | with_reducible refine o_gt ?_
  | with_reducible refine o_ge ?_
  | with_reducible refine o_eq ?_
  | with_reducible refine o_ne ?_
  | with_reducible refine o_eqT ?_
  | with_reducible refine o_neT ?_
  | with_reducible refine o_lenU ?_
  | with_reducible refine o_isN ?_
  | with_reducible refine o_isNotN ?_
  | with_reducible refine o_isTy ?_
  | with_reducible refine o_isNotTy ?_
  | with_reducible refine o_int ?_
  | with_reducible refine o_intA ?_
  | with_reducible refine o_strT ?_
  | with_reducible refine o_inT ?_
  | with_reducible refine o_notInT ?_
  | with_reducible refine o_tupleU ?_
  | with_reducible refine o_listU ?_
  | with_reducible refine o_slU ?_
  | with_reducible refine o_slUl ?_
  | with_reducible refine o_slUr ?_
  | ((with_reducible apply o_lenL); (first | assumption | exact get_new | exact get_set (by first | assumption | exact get_new) | exact get_app (by first | assumption | exact get_new)))
  | ((with_reducible apply tru_l); (first | assumption | exact get_new | exact get_set (by first | assumption | exact get_new) | exact get_app (by first | assumption | exact get_new)))
  | ((with_reducible apply rcv_lst); (first | assumption | exact get_new | exact get_set (by first | assumption | exact get_new) | exact get_app (by first | assumption | exact get_new)))
  | ((with_reducible apply o_tupleL); (first | assumption | exact get_new | exact get_set (by first | assumption | exact get_new) | exact get_app (by first | assumption | exact get_new)))
  | ((with_reducible apply o_slLl); (first | assumption | exact get_new | exact get_set (by first | assumption | exact get_new) | exact get_app (by first | assumption | exact get_new)))
  | ((with_reducible apply o_slLr); (first | assumption | exact get_new | exact get_set (by first | assumption | exact get_new) | exact get_app (by first | assumption | exact get_new)))
  | ((with_reducible refine o_lenT ?_ ?_); (first | assumption | omega | (rw [sizeLine_eq]; omega) | (simp only [List.length_append, List.length_cons, List.length_nil, List.length_map, List.length_take, List.length_drop] <;> first | omega | (rw [sizeLine_eq]; omega))))
  | ((with_reducible refine o_addT ?_ ?_); (first | assumption | omega | (rw [sizeLine_eq]; omega) | (simp only [List.length_append, List.length_cons, List.length_nil, List.length_map, List.length_take, List.length_drop] <;> first | omega | (rw [sizeLine_eq]; omega))))
  | ((with_reducible refine o_addU ?_ ?_); (first | assumption | omega | (rw [sizeLine_eq]; omega) | (simp only [List.length_append, List.length_cons, List.length_nil, List.length_map, List.length_take, List.length_drop] <;> first | omega | (rw [sizeLine_eq]; omega))))
  | ((with_reducible refine o_slT ?_ ?_); (first | assumption | omega | (rw [sizeLine_eq]; omega) | (simp only [List.length_append, List.length_cons, List.length_nil, List.length_map, List.length_take, List.length_drop] <;> first | omega | (rw [sizeLine_eq]; omega))))
  | ((with_reducible refine o_slTl ?_ ?_); (first | assumption | omega | (rw [sizeLine_eq]; omega) | (simp only [List.length_append, List.length_cons, List.length_nil, List.length_map, List.length_take, List.length_drop] <;> first | omega | (rw [sizeLine_eq]; omega))))
  | ((with_reducible refine o_slTr ?_ ?_); (first | assumption | omega | (rw [sizeLine_eq]; omega) | (simp only [List.length_append, List.length_cons, List.length_nil, List.length_map, List.length_take, List.length_drop] <;> first | omega | (rw [sizeLine_eq]; omega))))
  | ((with_reducible refine o_mod ?_ ?_); (first | assumption | omega | (rw [sizeLine_eq]; omega) | (simp only [List.length_append, List.length_cons, List.length_nil, List.length_map, List.length_take, List.length_drop] <;> first | omega | (rw [sizeLine_eq]; omega))))
  | ((with_reducible refine o_str ?_ ?_); (first | assumption | omega | (rw [sizeLine_eq]; omega) | (simp only [List.length_append, List.length_cons, List.length_nil, List.length_map, List.length_take, List.length_drop] <;> first | omega | (rw [sizeLine_eq]; omega))))
  | ((with_reducible refine o_strA ?_ ?_); (first | assumption | omega | (rw [sizeLine_eq]; omega) | (simp only [List.length_append, List.length_cons, List.length_nil, List.length_map, List.length_take, List.length_drop] <;> first | omega | (rw [sizeLine_eq]; omega))))
  | ((with_reducible refine o_parT ?_ ?_); (first | assumption | omega | (rw [sizeLine_eq]; omega) | (simp only [List.length_append, List.length_cons, List.length_nil, List.length_map, List.length_take, List.length_drop] <;> first | omega | (rw [sizeLine_eq]; omega))))
  | ((with_reducible refine fmtI ?_ ?_); (first | assumption | omega | (rw [sizeLine_eq]; omega) | (simp only [List.length_append, List.length_cons, List.length_nil, List.length_map, List.length_take, List.length_drop] <;> first | omega | (rw [sizeLine_eq]; omega))))
  | ((with_reducible refine fmtT ?_ ?_); (first | assumption | omega | (rw [sizeLine_eq]; omega) | (simp only [List.length_append, List.length_cons, List.length_nil, List.length_map, List.length_take, List.length_drop] <;> first | omega | (rw [sizeLine_eq]; omega))))
  | ((with_reducible refine leS_ ?_ ?_); (first | assumption | omega | (rw [sizeLine_eq]; omega) | (simp only [List.length_append, List.length_cons, List.length_nil, List.length_map, List.length_take, List.length_drop] <;> first | omega | (rw [sizeLine_eq]; omega))))
  | ((with_reducible apply o_append); (first | assumption | exact get_new | exact get_set (by first | assumption | exact get_new) | exact get_app (by first | assumption | exact get_new)); (first | assumption | omega | (rw [sizeLine_eq]; omega) | (simp only [List.length_append, List.length_cons, List.length_nil, List.length_map, List.length_take, List.length_drop] <;> first | omega | (rw [sizeLine_eq]; omega))))
  | ((with_reducible refine o_fdiv ?_ ?_ ?_); (first | assumption | omega | (rw [sizeLine_eq]; omega) | (simp only [List.length_append, List.length_cons, List.length_nil, List.length_map, List.length_take, List.length_drop] <;> first | omega | (rw [sizeLine_eq]; omega))); (first | assumption | omega | (rw [sizeLine_eq]; omega) | (simp only [List.length_append, List.length_cons, List.length_nil, List.length_map, List.length_take, List.length_drop] <;> first | omega | (rw [sizeLine_eq]; omega))))
  | ((with_reducible refine o_mul ?_ ?_ ?_); (first | assumption | omega | (rw [sizeLine_eq]; omega) | (simp only [List.length_append, List.length_cons, List.length_nil, List.length_map, List.length_take, List.length_drop] <;> first | omega | (rw [sizeLine_eq]; omega))); (first | assumption | omega | (rw [sizeLine_eq]; omega) | (simp only [List.length_append, List.length_cons, List.length_nil, List.length_map, List.length_take, List.length_drop] <;> first | omega | (rw [sizeLine_eq]; omega))))
  | ((with_reducible refine br_y ?_ ?_); first | assumption | omega | decide)
  | ((with_reducible refine br_n ?_ ?_); first | assumption | omega | decide))
abbrev bTup (N : Nat) : MS := (sSeq (sExpr (mMeth "list" oAppend (mVar 2) (aCons (mMet "PlainReader" "read_value" (m_PlainReader_read_value N) (mVar 0) (aCons (mVar 1) aNil)) aNil))) (sSeq (sAsg (mMet "PlainReader" "_sign" m_PlainReader__sign (mVar 0) aNil) (tgN 3)) (sSeq (sIf (tAnd2 (tBl (mBin oNe (mVar 3) (mC (.str (P0.T [32]))))) (tBl (mBin oNe (mVar 3) (mC (.str (P0.T [41])))))) (sRaise "BadPlain" (mkE [true] ["place"]) (aCons (mUn (oGetF "PlainReader" "_at") (mVar 0)) aNil)) sNx) (sSeq (sAugFI "PlainReader" "_at" (mVar 0) (mC (.int 1))) (sIf (tBl (mBin oEq (mVar 3) (mC (.str (P0.T [41]))))) (sRet (mL oTuple (aCons (mVar 2) aNil))) sNx)))))
def UI (n : Nat) (ds : List D) (tx rest : List Nat) (dep fin_ r pl : Nat) (S0 : Sto) (m : Nat) (e : Nv) (S' : Sto) : Prop :=
  ∃ (j pj : Nat) (y3 : Option D), j < ds.length ∧ e = [some (.loc r), some (.int (dep : Int)), some (.loc pl), y3] ∧ S'[r]? = some (RO tx pj) ∧ S'[pl]? = some (.lst true (ds.take j)) ∧
    tx.drop pj = joinC [32] ((ds.drop j).map (plT n)) ++ ([41] ++ rest) ∧ pj + (joinC [32] ((ds.drop j).map (plT n))).length + 1 = fin_ ∧ Fr [r, pl] S0 S' ∧ fuelW ≤ m + j
theorem turn_tup {n N : Nat} {ds : List D} {tx rest : List Nat} {dep fin_ r pl m : Nat} {S0 : Sto} (ih : VOk n) (hN : 2 * n + 1 ≤ N) (hds : ∀ d ∈ ds, PV n d) (hl3 : ds.length ≤ 3) (hz : tx.length ≤ 1000000) (hne : r ≠ pl) (hplt : pl < S0.length) (hdep : dep + n ≤ 60)
    {e : Nv} {S : Sto} (h : UI n ds tx rest dep fin_ r pl S0 (m + 1) e S) {N' : Nv → Sto → Prop} {C : Nv → Sto → Prop} {Z : Str → List (Str × D) → Nv → Sto → Prop} :
    Es (bTup N e S) (UI n ds tx rest dep fin_ r pl S0 m) (fun d S' => d = .tup ds ∧ S'[r]? = some (RO tx fin_) ∧ Fr [r, pl] S0 S') N' C Z := by
  obtain ⟨j, pj, y3, hj, rfl, hr, hp, hd, hfi, hf, hm⟩ := h
  have hdj : ds.drop j = ds[j] :: ds.drop (j + 1) := List.drop_eq_getElem_cons hj
  have hts : ds.take (j + 1) = ds.take j ++ [ds[j]] := by rw [List.take_add_one, List.getElem?_eq_getElem hj]; rfl
  have hpv : PV n ds[j] := hds _ (List.getElem_mem hj)
  rw [hdj, List.map_cons] at hd hfi
  generalize ds[j] = d at hpv hts hd hfi
  -- what follows
  obtain ⟨c, R1, hc, hdd, hlen⟩ : ∃ (c : Nat) (R1 : List Nat), ((c = 41 ∧ ds.drop (j + 1) = [] ∧ R1 = rest) ∨ (c = 32 ∧ j + 1 < ds.length ∧ R1 = joinC [32] ((ds.drop (j + 1)).map (plT n)) ++ ([41] ++ rest))) ∧ tx.drop pj = plT n d ++ (c :: R1) ∧
      (pj + (plT n d).length + 1 + (if c = 41 then 0 else (joinC [32] ((ds.drop (j + 1)).map (plT n))).length + 1) = fin_) := by
    cases hdr : ds.drop (j + 1) with
    | nil =>
      rw [hdr] at hd hfi
      exact ⟨41, rest, .inl ⟨rfl, rfl, rfl⟩, hd, hfi⟩
    | cons d2 r2 =>
      rw [hdr] at hd hfi
      have hjl : j + 1 < ds.length := by
        have := congrArg List.length hdr
        rw [List.length_drop, List.length_cons] at this
        omega
      have e1 : joinC [32] (plT n d :: (d2 :: r2).map (plT n)) = plT n d ++ ([32] ++ joinC [32] ((d2 :: r2).map (plT n))) := rfl
      rw [e1] at hd hfi
      refine ⟨32, joinC [32] ((d2 :: r2).map (plT n)) ++ ([41] ++ rest), .inr ⟨rfl, hjl, rfl⟩, by rw [hd]; simp [List.append_assoc], ?_⟩
      rw [List.length_append, List.length_append] at hfi
      rw [if_neg (by decide)]
      have h1 : [32].length = 1 := rfl
      rw [h1] at hfi
      omega
  have hnd : NoD (c :: R1) := by
    intro x hx
    have hx : c = x := Option.some.inj hx
    subst hx
    rcases hc with ⟨rfl, _⟩ | ⟨rfl, _⟩ <;> decide
  have hc2 : c = 41 ∨ c = 32 := by
    rcases hc with ⟨h, _⟩ | ⟨h, _⟩
    · exact .inl h
    · exact .inr h
  have hq : tx[pj + (plT n d).length]? = some c := by
    rw [at_drop hdd, List.getElem?_append_right (Nat.le_refl _), Nat.sub_self]; rfl
  have hdq : tx.drop (pj + (plT n d).length + 1) = R1 := by
    rw [← List.drop_drop, ← List.drop_drop, hdd, List.drop_left]; rfl
  generalize hqe : pj + (plT n d).length = q at hq hdq hlen
  refine w_seqc (fun e' S' => e' = [some (.loc r), some (.int (dep : Int)), some (.loc pl), y3] ∧ S'[r]? = some (RO tx q) ∧ S'[pl]? = some (.lst true (ds.take (j + 1))) ∧ Fr [r, pl] S0 S') ?_ ?_
  · repeat fail
    refine w_met ?_
    repeat fail
    refine ⟨is_PlainReader_read_value hr, ?_⟩
    repeat fail
    refine Ev.nox (ih N d S r pj dep tx (c :: R1) hN hpv hr hz hdd hnd hdep) ?_
    rintro d' S1 ⟨rfl, h1, f1⟩
    have hp1 : S1[pl]? = some (.lst true (ds.take j)) := f1.get hp (by rw [List.mem_singleton]; exact Ne.symm hne)
    have hpll := (List.getElem?_eq_some_iff.mp hp1).1
    have htl : (ds.take j).length ≤ 3 := by rw [List.length_take]; omega
    rw [hqe] at h1
    repeat fail
    refine ⟨rfl, by rw [List.getElem?_set_ne (Ne.symm hne)]; exact h1, by rw [List.getElem?_set_self hpll, hts], ?_⟩
    exact (hf.trans (f1.sub (ms := [r, pl]) fun k hk => .inl (by rw [List.mem_singleton.mp hk]; simp))).trans (Fr.set (by simp))
  rintro _ S1 ⟨rfl, hr1, hp1, hf1⟩
  refine w_seqc (fun e' S' => S1 = S' ∧ e' = [some (.loc r), some (.int (dep : Int)), some (.loc pl), some (.str (T [c]))]) ?_ ?_
  · refine w_asg (w_met ?_)
    repeat fail
    refine ⟨is_PlainReader__sign hr1, ?_⟩
    repeat fail
    refine ev_pure (sign_ok hr1 hz hq) ?_
    exact ⟨rfl, rfl⟩
  rintro _ _ ⟨rfl, rfl⟩
  refine w_seqc (fun e' S' => S1 = S' ∧ e' = [some (.loc r), some (.int (dep : Int)), some (.loc pl), some (.str (T [c]))]) ?_ ?_
  · repeat fail
    refine br_i (fun _ => ?_) fun q1 => ?_
    · repeat fail
      exact ⟨rfl, rfl⟩
    · repeat fail
      refine br_i (fun _ => ?_) fun q2 => ?_
      · repeat fail
        exact ⟨rfl, rfl⟩
      · exfalso
        rcases hc2 with rfl | rfl
        · exact q2 rfl
        · exact q1 rfl
  rintro _ _ ⟨rfl, rfl⟩
  have hrl1 := (List.getElem?_eq_some_iff.mp hr1).1
  refine w_seqc (fun e' S' => S' = S1.set r (RO tx (q + 1)) ∧ e' = [some (.loc r), some (.int (dep : Int)), some (.loc pl), some (.str (T [c]))]) ?_ ?_
  · exact aug_at rfl hr1 ⟨rfl, rfl⟩
  rintro _ _ ⟨rfl, rfl⟩
  have hr2 : (S1.set r (RO tx (q + 1)))[r]? = some (RO tx (q + 1)) := List.getElem?_set_self hrl1
  have hp2 : (S1.set r (RO tx (q + 1)))[pl]? = some (.lst true (ds.take (j + 1))) := by rw [List.getElem?_set_ne hne]; exact hp1
  have hf2 : Fr [r, pl] S0 (S1.set r (RO tx (q + 1))) := hf1.trans (Fr.set (by simp))
  generalize S1.set r (RO tx (q + 1)) = S2 at hr2 hp2 hf2 ⊢
  repeat fail
  refine br_i (fun q1 => ?_) fun q1 => ?_
  · have hc41 : c = 41 := List.head_eq_of_cons_eq q1
    rcases hc with ⟨_, hnil, _⟩ | ⟨h32, _⟩
    · rw [if_pos hc41] at hlen
      have hle : ds.length ≤ j + 1 := List.drop_eq_nil_iff.mp hnil
      have htk : ds.take (j + 1) = ds := List.take_of_length_le hle
      rw [htk] at hp2
      have hq1 : q + 1 = fin_ := by omega
      repeat fail
      exact ⟨rfl, by rw [← hq1]; exact hr2, hf2⟩
    · omega
  · have hc41 : c ≠ 41 := fun h => q1 (by rw [h])
    rcases hc with ⟨h41, _⟩ | ⟨_, hjl, hR⟩
    · exact absurd h41 hc41
    · rw [if_neg hc41] at hlen
      repeat fail
      exact ⟨j + 1, q + 1, _, hjl, rfl, hr2, hp2, by rw [hdq, hR], by omega, hf2, by omega⟩
theorem tuple_ok {n N dep p r : Nat} {S : Sto} {tx rest : List Nat} {ds : List D} (ih : VOk n) (hN : 2 * n + 1 ≤ N) (hds : ∀ d ∈ ds, PV n d) (hl3 : ds.length ≤ 3) (h : S[r]? = some (RO tx p)) (hz : tx.length ≤ 1000000) (hdep : dep + n ≤ 60)
    (hd : tx.drop p = [40] ++ (joinC [32] (ds.map (plT n)) ++ ([41] ++ rest))) : Ev (m_PlainReader__read_tuple (N + 1) [.loc r, .int (dep : Int)] S) (VQ (.tup ds) S r (p + ([40] ++ joinC [32] (ds.map (plT n)) ++ [41]).length) tx) noX := by
  have hrl := (List.getElem?_eq_some_iff.mp h).1
  have hd1 : tx.drop (p + 1) = joinC [32] (ds.map (plT n)) ++ ([41] ++ rest) := by rw [← List.drop_drop, hd]; rfl
  unfold m_PlainReader__read_tuple
  refine w_def rfl ?_
  have e0 : startE 4 [D.loc r, .int (dep : Int)] = [some (.loc r), some (.int (dep : Int)), none, none] := rfl
  rw [e0]
  refine w_seqc (fun e' S' => S' = S ++ [.lst true []] ∧ e' = [some (.loc r), some (.int (dep : Int)), some (.loc S.length), none]) ?_ ?_
  · repeat fail
    exact ⟨rfl, rfl⟩
  rintro _ _ ⟨rfl, rfl⟩
  have h1 : (S ++ [SO.lst true []])[r]? = some (RO tx p) := get_app h
  have hp1 : (S ++ [SO.lst true []])[S.length]? = some (.lst true []) := get_new
  have hf1 : Fr [r] S (S ++ [SO.lst true []]) := Fr.app _ _ _
  have hne : r ≠ S.length := by omega
  generalize hpl : S.length = pl at hp1 hne ⊢
  generalize S ++ [SO.lst true []] = S1 at h1 hp1 hf1 ⊢
  have hrl1 := (List.getElem?_eq_some_iff.mp h1).1
  refine w_seqc (fun e' S' => S' = S1.set r (RO tx (p + 1)) ∧ e' = [some (.loc r), some (.int (dep : Int)), some (.loc pl), none]) ?_ ?_
  · exact aug_at rfl h1 ⟨rfl, rfl⟩
  rintro _ _ ⟨rfl, rfl⟩
  have h2 : (S1.set r (RO tx (p + 1)))[r]? = some (RO tx (p + 1)) := List.getElem?_set_self hrl1
  have hp2 : (S1.set r (RO tx (p + 1)))[pl]? = some (.lst true []) := by rw [List.getElem?_set_ne hne]; exact hp1
  have hf2 : Fr [r] S (S1.set r (RO tx (p + 1))) := hf1.trans (Fr.set (by simp))
  generalize S1.set r (RO tx (p + 1)) = S2 at h2 hp2 hf2 ⊢
  have hplt := (List.getElem?_eq_some_iff.mp hp2).1
  have hrl2 := (List.getElem?_eq_some_iff.mp h2).1
  by_cases hnil : ds = []
  · subst hnil
    have hc : tx[p + 1]? = some 41 := head_at (c := 41) (L := []) hd1
    refine w_seqc (fun _ _ => False) ?_ (fun _ _ h => h.elim)
    repeat fail
    refine w_met ?_
    repeat fail
    refine ⟨is_PlainReader__sign h2, ?_⟩
    repeat fail
    refine ev_pure (sign_ok h2 hz hc) ?_
    repeat fail
    refine aug_at rfl h2 ?_
    repeat fail
    exact ⟨rfl, List.getElem?_set_self hrl2, hf2.trans (Fr.set (by simp))⟩
  · obtain ⟨d0, dr, hdd⟩ : ∃ d0 dr, ds = d0 :: dr := by
      cases ds with
      | nil => exact absurd rfl hnil
      | cons a b => exact ⟨a, b, rfl⟩
    have hpos : 0 < ds.length := by rw [hdd]; exact Nat.succ_pos _
    obtain ⟨c, cr, hcr, hc41⟩ := plT_head (hds d0 (by rw [hdd]; exact List.mem_cons_self))
    have hc : tx[p + 1]? = some c := by
      have := at_drop (i := 0) hd1
      rw [Nat.add_zero] at this
      rw [this, hdd, List.map_cons, hcr]
      cases dr with
      | nil => rfl
      | cons x y => rfl
    refine w_seqc (fun e' S' => S2 = S' ∧ e' = [some (.loc r), some (.int (dep : Int)), some (.loc pl), none]) ?_ ?_
    · repeat fail
      refine w_met ?_
      repeat fail
      refine ⟨is_PlainReader__sign h2, ?_⟩
      repeat fail
      refine ev_pure (sign_ok h2 hz hc) ?_
      repeat fail
      refine br_i (fun q => absurd (List.head_eq_of_cons_eq q) hc41) fun _ => ?_
      repeat fail
      exact ⟨rfl, rfl⟩
    rintro _ _ ⟨rfl, rfl⟩
    have hfin : p + 1 + (joinC [32] (ds.map (plT n))).length + 1 = p + ([40] ++ joinC [32] (ds.map (plT n)) ++ [41]).length := by
      rw [List.length_append, List.length_append]
      show _ = p + (1 + _ + 1)
      omega
    refine w_while (UI n ds tx rest dep (p + ([40] ++ joinC [32] (ds.map (plT n)) ++ [41]).length) r pl S2) ⟨0, p + 1, _, hpos, rfl, h2, hp2, by rw [List.drop_zero]; exact hd1, by rw [List.drop_zero]; exact hfin, Fr.refl _ _, Nat.le_refl _⟩ ?_ ?_
    · rintro e' S' ⟨j, pj, y3, hj, _, _, _, _, _, _, hm⟩
      have hfu : fuelW = 100000 := rfl
      rw [hfu] at hm
      omega
    · intro m e' S' hI
      refine w_tval (w_c ⟨true, rfl, ?_⟩)
      refine (turn_tup (N' := fun _ _ => False) (C := UI n ds tx rest dep (p + ([40] ++ joinC [32] (ds.map (plT n)) ++ [41]).length) r pl S2 m) ih hN hds hl3 hz hne hplt hdep hI).imp (fun _ _ h => h) ?_ (fun _ _ h => h.elim) (fun _ _ h => h) (fun _ _ _ _ h => h)
      · rintro d S' ⟨rfl, k1, k2⟩
        have hall : Fr [r, pl] S S' := (hf2.sub (ms := [r, pl]) fun k hk => .inl (by rw [List.mem_singleton.mp hk]; simp)).trans k2
        refine ⟨rfl, k1, hall.sub fun k hk => ?_⟩
        simp only [List.mem_cons, List.not_mem_nil, or_false] at hk
        rcases hk with rfl | rfl
        · exact .inl (by simp)
        · exact .inr (by omega)
theorem value_ok : ∀ n, VOk n
  | 0 => fun N v S r p dep tx rest hN hv h hz hd hn hdep => by
    obtain ⟨M, rfl⟩ : ∃ M, N = M + 1 := ⟨N - 1, by omega⟩
    exact leaf_ok hv (fun ds q => by rw [q] at hv; exact hv.elim) h hz hd hn
  | n + 1 => fun N v S r p dep tx rest hN hv h hz hd hn hdep => by
    by_cases ht : ∃ ds, v = .tup ds
    · obtain ⟨ds, rfl⟩ := ht
      obtain ⟨hl3, hds⟩ := hv
      obtain ⟨M, rfl⟩ : ∃ M, N = M + 1 + 1 := ⟨N - 2, by omega⟩
      have e : plT (n + 1) (.tup ds) = [40] ++ joinC [32] (ds.map (plT n)) ++ [41] := rfl
      rw [e] at hd ⊢
      have hc : tx[p]? = some 40 := head_at (c := 40) (L := joinC [32] (ds.map (plT n)) ++ [41]) (by rw [hd]; rfl)
      unfold m_PlainReader_read_value
      refine w_def rfl ?_
      have e0 : startE 3 [D.loc r, .int (dep : Int)] = [some (.loc r), some (.int (dep : Int)), none] := rfl
      rw [e0]
      refine w_seqc (fun e' S' => S = S' ∧ e' = [some (.loc r), some (.int (dep : Int)), some (.str (T [40]))]) ?_ ?_
      · refine w_asg (w_met ?_)
        repeat fail
        refine ⟨is_PlainReader__sign h, ?_⟩
        repeat fail
        refine ev_pure (sign_ok h hz hc) ?_
        exact ⟨rfl, rfl⟩
      rintro _ _ ⟨rfl, rfl⟩
      refine w_seqc (fun _ _ => False) ?_ (fun _ _ h => h.elim)
      have hdp : (dep : Int) < 60 := by omega
      repeat fail
      refine w_met ?_
      repeat fail
      refine ⟨is_PlainReader__read_tuple h, ?_⟩
      repeat fail
      exact tuple_ok (dep := dep + 1) (rest := rest) (value_ok n) (by omega) hds hl3 h hz (by omega) (by rw [hd]; simp [List.append_assoc])
    · obtain ⟨M, rfl⟩ : ∃ M, N = M + 1 := ⟨N - 1, by omega⟩
      exact leaf_ok hv (fun ds q => ht ⟨ds, q⟩) h hz hd hn
end K38
end

section
set_option Elab.async false
set_option linter.all false
set_option maxRecDepth 100000
set_option maxHeartbeats 4000000
/-! C8: k38: a text is read back; values are drawn. -/
namespace K38
open PySem PySem.Spec M2 P0
set_option autoImplicit false
local macro_rules | `(tactic| fail) => `(tactic| first
  | with_reducible refine w_seq ?_
  | with_reducible refine w_asg ?_
  | with_reducible refine w_sif ?_
  | with_reducible refine w_ret ?_
  | with_reducible refine w_retN ?_
  | with_reducible refine w_expr ?_
  | with_reducible refine w_nx ?_
  | with_reducible refine w_bk ?_
  | with_reducible refine w_ct ?_
  | with_reducible refine w_put ?_
  | with_reducible refine w_for ?_
  | with_reducible refine w_bin ?_
  | with_reducible refine w_un ?_
  | with_reducible refine w_nil ?_
  | with_reducible refine w_cons ?_
  | with_reducible refine w_l ?_
  | with_reducible refine w_tup ?_
  | with_reducible refine w_lst ?_
  | with_reducible refine w_if ?_
  | with_reducible refine w_tval ?_
  | with_reducible refine tru_bl ?_
  | with_reducible refine isB_bl ?_
  | with_reducible refine isI_int ?_
  | with_reducible refine isT_T ?_
  | with_reducible refine isS_s ?_
  | with_reducible refine w_tbl ?_
  | with_reducible refine w_and ?_
  | with_reducible refine w_or ?_
  | with_reducible refine w_not ?_
  | with_reducible refine w_mand ?_
  | with_reducible refine w_mor ?_
  | with_reducible refine w_mnot ?_
  | with_reducible refine w_chain ?_
  | with_reducible refine w_meth ?_
  | with_reducible refine rcv_str' ?_
  | with_reducible refine w_call ?_
  | with_reducible refine w_callC ?_
  | with_reducible refine w_call0 ?_
  | with_reducible refine w_no ?_
  | with_reducible refine w_at ?_
  | with_reducible refine w_sl ?_
  | with_reducible refine w_fmt ?_
  | with_reducible refine w_js1 ?_
  | with_reducible refine w_js0 ?_
  | with_reducible refine w_js ?_
  | with_reducible refine w_lrg ?_
  | with_reducible refine w_trg ?_
  | with_reducible refine w_rg1 ?_
  | with_reducible refine w_rg2 ?_
  | with_reducible refine w_kget ?_
  | with_reducible refine w_kix ?_
  | with_reducible refine w_sset ?_
  | with_reducible refine w_c ?_
  | with_reducible refine br_tt ?_
  | with_reducible refine br_ff ?_
  | with_reducible refine br_not ?_
  | with_reducible refine w_any ?_
  | with_reducible refine w_irg1 ?_
  | with_reducible refine w_irg2 ?_
  | with_reducible refine w_ienum ?_
  | ((with_reducible apply w_var); rfl)
  | ((with_reducible refine szL ?_ ?_); rfl)
  | with_reducible refine o_add ?_
  | with_reducible refine o_sub ?_
  | with_reducible refine o_neg ?_
  | with_reducible refine o_lt ?_
  | with_reducible refine o_le ?_
  | with_reducible refine o_gt ?_
  | with_reducible refine o_ge ?_
  | with_reducible refine o_eq ?_
  | with_reducible refine o_ne ?_
  | with_reducible refine o_eqT ?_
  | with_reducible refine o_neT ?_
  | with_reducible refine o_lenU ?_
  | with_reducible refine o_isN ?_
  | with_reducible refine o_isNotN ?_
  | with_reducible refine o_isTy ?_
  | with_reducible refine o_isNotTy ?_
  | with_reducible refine o_int ?_
  | with_reducible refine o_intA ?_
  | with_reducible refine o_strT ?_
  | with_reducible refine o_inT ?_
  | with_reducible refine o_notInT ?_
  | with_reducible refine o_tupleU ?_
  | with_reducible refine o_listU ?_
  | with_reducible refine o_slU ?_
  | with_reducible refine o_slUl ?_
  | with_reducible refine o_slUr ?_
  | ((with_reducible apply o_lenL); (first | assumption | exact get_new | exact get_set (by first | assumption | exact get_new) | exact get_app (by first | assumption | exact get_new)))
  | ((with_reducible apply tru_l); (first | assumption | exact get_new | exact get_set (by first | assumption | exact get_new) | exact get_app (by first | assumption | exact get_new)))
  | ((with_reducible apply rcv_lst); (first | assumption | exact get_new | exact get_set (by first | assumption | exact get_new) | exact get_app (by first | assumption | exact get_new)))
  | ((with_reducible apply o_tupleL); (first | assumption | exact get_new | exact get_set (by first | assumption | exact get_new) | exact get_app (by first | assumption | exact get_new)))
  | ((with_reducible apply o_slLl); (first | assumption | exact get_new | exact get_set (by first | assumption | exact get_new) | exact get_app (by first | assumption | exact get_new)))
  | ((with_reducible apply o_slLr); (first | assumption | exact get_new | exact get_set (by first | assumption | exact get_new) | exact get_app (by first | assumption | exact get_new)))
  | ((with_reducible refine o_lenT ?_ ?_); (first | assumption | omega | (rw [sizeLine_eq]; omega) | (simp only [List.length_append, List.length_cons, List.length_nil, List.length_map, List.length_take, List.length_drop] <;> first | omega | (rw [sizeLine_eq]; omega))))
  | ((with_reducible refine o_addT ?_ ?_); (first | assumption | omega | (rw [sizeLine_eq]; omega) | (simp only [List.length_append, List.length_cons, List.length_nil, List.length_map, List.length_take, List.length_drop] <;> first | omega | (rw [sizeLine_eq]; omega))))
  | ((with_reducible refine o_addU ?_ ?_); (first | assumption | omega | (rw [sizeLine_eq]; omega) | (simp only [List.length_append, List.length_cons, List.length_nil, List.length_map, List.length_take, List.length_drop] <;> first | omega | (rw [sizeLine_eq]; omega))))
  | ((with_reducible refine o_slT ?_ ?_); (first | assumption | omega | (rw [sizeLine_eq]; omega) | (simp only [List.length_append, List.length_cons, List.length_nil, List.length_map, List.length_take, List.length_drop] <;> first | omega | (rw [sizeLine_eq]; omega))))
  | ((with_reducible refine o_slTl ?_ ?_); (first | assumption | omega | (rw [sizeLine_eq]; omega) | (simp only [List.length_append, List.length_cons, List.length_nil, List.length_map, List.length_take, List.length_drop] <;> first | omega | (rw [sizeLine_eq]; omega))))
  | ((with_reducible refine o_slTr ?_ ?_); (first | assumption | omega | (rw [sizeLine_eq]; omega) | (simp only [List.length_append, List.length_cons, List.length_nil, List.length_map, List.length_take, List.length_drop] <;> first | omega | (rw [sizeLine_eq]; omega))))
  | ((with_reducible refine o_mod ?_ ?_); (first | assumption | omega | (rw [sizeLine_eq]; omega) | (simp only [List.length_append, List.length_cons, List.length_nil, List.length_map, List.length_take, List.length_drop] <;> first | omega | (rw [sizeLine_eq]; omega))))
  | ((with_reducible refine o_str ?_ ?_); (first | assumption | omega | (rw [sizeLine_eq]; omega) | (simp only [List.length_append, List.length_cons, List.length_nil, List.length_map, List.length_take, List.length_drop] <;> first | omega | (rw [sizeLine_eq]; omega))))
  | ((with_reducible refine o_strA ?_ ?_); (first | assumption | omega | (rw [sizeLine_eq]; omega) | (simp only [List.length_append, List.length_cons, List.length_nil, List.length_map, List.length_take, List.length_drop] <;> first | omega | (rw [sizeLine_eq]; omega))))
  | ((with_reducible refine o_parT ?_ ?_); (first | assumption | omega | (rw [sizeLine_eq]; omega) | (simp only [List.length_append, List.length_cons, List.length_nil, List.length_map, List.length_take, List.length_drop] <;> first | omega | (rw [sizeLine_eq]; omega))))
  | ((with_reducible refine fmtI ?_ ?_); (first | assumption | omega | (rw [sizeLine_eq]; omega) | (simp only [List.length_append, List.length_cons, List.length_nil, List.length_map, List.length_take, List.length_drop] <;> first | omega | (rw [sizeLine_eq]; omega))))
  | ((with_reducible refine fmtT ?_ ?_); (first | assumption | omega | (rw [sizeLine_eq]; omega) | (simp only [List.length_append, List.length_cons, List.length_nil, List.length_map, List.length_take, List.length_drop] <;> first | omega | (rw [sizeLine_eq]; omega))))
  | ((with_reducible refine leS_ ?_ ?_); (first | assumption | omega | (rw [sizeLine_eq]; omega) | (simp only [List.length_append, List.length_cons, List.length_nil, List.length_map, List.length_take, List.length_drop] <;> first | omega | (rw [sizeLine_eq]; omega))))
  | ((with_reducible apply o_append); (first | assumption | exact get_new | exact get_set (by first | assumption | exact get_new) | exact get_app (by first | assumption | exact get_new)); (first | assumption | omega | (rw [sizeLine_eq]; omega) | (simp only [List.length_append, List.length_cons, List.length_nil, List.length_map, List.length_take, List.length_drop] <;> first | omega | (rw [sizeLine_eq]; omega))))
  | ((with_reducible refine o_fdiv ?_ ?_ ?_); (first | assumption | omega | (rw [sizeLine_eq]; omega) | (simp only [List.length_append, List.length_cons, List.length_nil, List.length_map, List.length_take, List.length_drop] <;> first | omega | (rw [sizeLine_eq]; omega))); (first | assumption | omega | (rw [sizeLine_eq]; omega) | (simp only [List.length_append, List.length_cons, List.length_nil, List.length_map, List.length_take, List.length_drop] <;> first | omega | (rw [sizeLine_eq]; omega))))
  | ((with_reducible refine o_mul ?_ ?_ ?_); (first | assumption | omega | (rw [sizeLine_eq]; omega) | (simp only [List.length_append, List.length_cons, List.length_nil, List.length_map, List.length_take, List.length_drop] <;> first | omega | (rw [sizeLine_eq]; omega))); (first | assumption | omega | (rw [sizeLine_eq]; omega) | (simp only [List.length_append, List.length_cons, List.length_nil, List.length_map, List.length_take, List.length_drop] <;> first | omega | (rw [sizeLine_eq]; omega))))
  | ((with_reducible refine br_y ?_ ?_); first | assumption | omega | decide)
  | ((with_reducible refine br_n ?_ ?_); first | assumption | omega | decide))
theorem init_ok {S : Sto} {n : Nat} {tx : List Nat} (h : S[n]? = some (.obj "PlainReader" [])) : Ev (m_PlainReader___init__ [.loc n, .str (T tx)] S) (fun d S' => d = .non ∧ S' = S.set n (RO tx 0)) noX := by
  have hl := (List.getElem?_eq_some_iff.mp h).1
  refine w_def rfl ?_
  unfold b_PlainReader___init__
  have e0 : startE 2 [D.loc n, D.str (T tx)] = [some (.loc n), some (.str (T tx))] := rfl
  rw [e0]
  refine w_seqc (fun e' S' => S' = S.set n (.obj "PlainReader" [("_text", .str (T tx))]) ∧ e' = [some (.loc n), some (.str (T tx))]) ?_ ?_
  · refine w_putF ?_
    repeat fail
    exact ⟨_, ini_PlainReader_text h, rfl, rfl⟩
  rintro _ _ ⟨rfl, rfl⟩
  have h1 : (S.set n (SO.obj "PlainReader" [("_text", .str (T tx))]))[n]? = some (.obj "PlainReader" [("_text", .str (T tx))]) := List.getElem?_set_self hl
  refine w_putF ?_
  repeat fail
  exact ⟨_, ini_PlainReader_at h1, rfl, List.set_set ..⟩
theorem end_ok {S : Sto} {r : Nat} {tx : List Nat} (h : S[r]? = some (RO tx tx.length)) (hz : tx.length ≤ 1000000) : m_PlainReader_read_end [.loc r] S = .ok .non S := by
  refine pure_of (w_def rfl ?_)
  unfold b_PlainReader_read_end
  repeat fail
  refine get_PlainReader_at h ?_
  repeat fail
  refine get_PlainReader_text h ?_
  repeat fail
  exact ⟨rfl, rfl⟩
theorem readback_ok {S : Sto} {n : Nat} {v : D} (hv : PV n v) (hn : n ≤ 60) (hz : (plT n v).length ≤ 1000000) : Ev (m_read_plain [.str (T (plT n v))] S) (fun d S' => d = v ∧ Fr [] S S') noX := by
  generalize htx : plT n v = tx at hz
  refine w_def rfl ?_
  unfold b_read_plain
  have e0 : startE 3 [D.str (T tx)] = [some (.str (T tx)), none, none] := rfl
  rw [e0]
  refine w_seqc (fun e' S' => S'[S.length]? = some (RO tx 0) ∧ Fr [] S S' ∧ e' = [some (.str (T tx)), some (.loc S.length), none]) ?_ ?_
  · refine w_asg (w_make ?_)
    repeat fail
    refine Ev.nox (init_ok get_new) ?_
    rintro d S1 ⟨rfl, rfl⟩
    refine ⟨rfl, List.getElem?_set_self (by simp), ?_, rfl⟩
    exact Fr.set_new (Fr.app _ _ _) (Nat.le_refl _)
  rintro _ S1 ⟨h1, f1, rfl⟩
  generalize hr : S.length = r at h1 f1 ⊢
  have hd : tx.drop 0 = plT n v ++ [] := by rw [List.drop_zero, List.append_nil, htx]
  refine w_seqc (fun e' S' => S'[r]? = some (RO tx tx.length) ∧ Fr [r] S1 S' ∧ e' = [some (.str (T tx)), some (.loc r), some v]) ?_ ?_
  · refine w_asg (w_met ?_)
    repeat fail
    refine ⟨is_PlainReader_read_value h1, ?_⟩
    repeat fail
    refine Ev.nox (value_ok n 125 v S1 r 0 0 tx [] (by omega) hv h1 hz hd (fun c q => (by cases q)) (by omega)) ?_
    rintro d S2 ⟨rfl, h2, f2⟩
    rw [htx, Nat.zero_add] at h2
    exact ⟨h2, f2, rfl⟩
  rintro _ S2 ⟨h2, f2, rfl⟩
  refine w_seqc (fun e' S' => S2 = S' ∧ e' = [some (.str (T tx)), some (.loc r), some v]) ?_ ?_
  · repeat fail
    refine w_met ?_
    repeat fail
    refine ⟨is_PlainReader_read_end h2, ?_⟩
    repeat fail
    refine ev_pure (end_ok h2 hz) ?_
    exact ⟨rfl, rfl⟩
  rintro _ _ ⟨rfl, rfl⟩
  repeat fail
  refine ⟨rfl, ((f1.sub (ms := [r]) fun k hk => by cases hk).trans f2).sub fun k hk => .inr ?_⟩
  rw [List.mem_singleton.mp hk, hr]
  exact Nat.le_refl _
theorem PV_flat : ∀ (n m : Nat) (v : D), n ≤ m → PV n v → Flat m v
  | n, m, .non, _, _ => by cases m <;> trivial
  | n, m, .bl _, _, _ => by cases m <;> trivial
  | n, m, .int _, _, _ => by cases m <;> trivial
  | n, m, .str _, _, _ => by cases m <;> trivial
  | n, m, .loc k, _, h => by cases n <;> exact h.elim
  | n, m, .fn k, _, h => by cases n <;> exact h.elim
  | n, m, .ty k, _, h => by cases n <;> exact h.elim
  | 0, m, .tup ds, _, h => h.elim
  | n + 1, 0, .tup ds, hm, h => absurd hm (by omega)
  | n + 1, m + 1, .tup ds, hm, h => ⟨by have := h.1; omega, fun d hd => PV_flat n m d (by omega) (h.2 d hd)⟩
theorem same_def : ∀ n, m__law_same n = d_same n
  | 0 => rfl
  | n + 1 => by
    unfold m__law_same d_same
    rw [same_def n]
theorem same_d {d : D} {S : Sto} (h : Flat 124 d) : m__law_same 125 [d, d] S = .ok (.bl true) S := by
  rw [same_def]; exact same_ok 124 d S h
/-! ### drawn values -/
theorem val_zeros : ∀ (n a : Nat), (List.replicate n 48).foldl (fun acc c => acc * 10 + (c - 48)) a = a * 10 ^ n
  | 0, a => by simp
  | n + 1, a => by
    rw [List.replicate_succ, List.foldl_cons, val_zeros n, Nat.pow_succ]
    show (a * 10 + 0) * 10 ^ n = _
    rw [Nat.add_zero, Nat.mul_assoc, Nat.mul_comm 10]
def big39 : Nat := 10 ^ 3999
theorem big_3940 : big40 = 10 * big39 := by
  unfold big40 big39
  rw [show (4000 : Nat) = 3999 + 1 from rfl, Nat.pow_succ, Nat.mul_comm]
theorem big_39 : 10 ^ 30 ≤ big39 := by
  unfold big39
  exact Nat.pow_le_pow_right (by decide) (by decide)
theorem read_big : PySem.intText? (T (49 :: List.replicate 3999 48)) = some ((big39 : Nat) : Int) := by
  have hl : (List.replicate 3999 48).length = 3999 := List.length_replicate
  have hd : NumText.AllDigits (49 :: List.replicate 3999 48) := fun c hc => by
    rcases List.mem_cons.mp hc with rfl | hc
    · omega
    · rw [(List.mem_replicate.mp hc).2]; omega
  have hv : NumText.digitsVal (49 :: List.replicate 3999 48) = big39 := by
    unfold NumText.digitsVal
    rw [List.foldl_cons, val_zeros]
    show (0 * 10 + 1) * 10 ^ 3999 = _
    rw [show 0 * 10 + 1 = 1 from rfl, Nat.one_mul]; rfl
  generalize List.replicate 3999 48 = z at hl hd hv ⊢
  have := PySem.intText_digits (x := T (49 :: z)) (by rw [T_cps]; exact hd) (by rw [T_cps]; exact List.cons_ne_nil _ _) (by rw [T_len, List.length_cons]; omega)
  rw [this, T_cps, hv]
def lenB : Nat → Nat
  | 0 => 4100
  | n + 1 => 3 * lenB n + 10
def cB : Nat → Nat
  | 0 => 20
  | n + 1 => 3 * cB n + 20
theorem lenB_ge : ∀ n, 4100 ≤ lenB n
  | 0 => Nat.le_refl _
  | n + 1 => by
    have := lenB_ge n
    show 4100 ≤ 3 * lenB n + 10
    omega
theorem cB_ge : ∀ n, 20 ≤ cB n
  | 0 => Nat.le_refl _
  | n + 1 => by
    have := cB_ge n
    show 20 ≤ 3 * cB n + 20
    omega
abbrev DQ (dp k : Nat) (ds : List Int) (S : Sto) : D → Sto → Prop := fun d S' => (PV dp d ∧ (plT dp d).length ≤ lenB dp) ∧ ∃ k', k' ≤ k + cB dp ∧ BoxD S' 2 k' 1 ds ∧ Ext 2 S S'
theorem int_dq {dp k : Nat} {ds : List Int} {S S' : Sto} {i : Int} (hi : i.natAbs < big40) (h : ∃ k', k' ≤ k + 20 ∧ BoxD S' 2 k' 1 ds ∧ Ext 2 S S') : DQ dp k ds S (.int i) S' := by
  have e : plT dp (.int i) = decL i := by cases dp <;> rfl
  have h1 := decL_len hi
  have h2 := lenB_ge dp
  have h3 := cB_ge dp
  obtain ⟨k', hk, hB, hE⟩ := h
  exact ⟨⟨by cases dp <;> exact hi, by rw [e]; omega⟩, k', by omega, hB, hE⟩
theorem small_40 {i : Int} (h : i.natAbs ≤ 10 ^ 30) : i.natAbs < big40 := by
  have h1 := big_3940
  have h2 := big_39
  generalize big39 = B at h1 h2
  have h3 : 10 ^ 30 = 1000000000000000000000000000000 := by decide +kernel
  rw [h3] at h h2
  omega
end K38
end

section
set_option Elab.async false
set_option linter.all false
set_option maxRecDepth 100000
set_option maxHeartbeats 4000000
/-! C9: k38: drawn values. -/
namespace K38
open PySem PySem.Spec M2 P0
set_option autoImplicit false
local macro_rules | `(tactic| fail) => `(tactic| first
  | with_reducible refine w_seq ?_
  | with_reducible refine w_asg ?_
  | with_reducible refine w_sif ?_
  | with_reducible refine w_ret ?_
  | with_reducible refine w_retN ?_
  | with_reducible refine w_expr ?_
  | with_reducible refine w_nx ?_
  | with_reducible refine w_bk ?_
  | with_reducible refine w_ct ?_
  | with_reducible refine w_put ?_
  | with_reducible refine w_for ?_
  | with_reducible refine w_bin ?_
  | with_reducible refine w_un ?_
  | with_reducible refine w_nil ?_
  | with_reducible refine w_cons ?_
  | with_reducible refine w_l ?_
  | with_reducible refine w_tup ?_
  | with_reducible refine w_lst ?_
  | with_reducible refine w_if ?_
  | with_reducible refine w_tval ?_
  | with_reducible refine tru_bl ?_
  | with_reducible refine isB_bl ?_
  | with_reducible refine isI_int ?_
  | with_reducible refine isT_T ?_
  | with_reducible refine isS_s ?_
  | with_reducible refine w_tbl ?_
  | with_reducible refine w_and ?_
  | with_reducible refine w_or ?_
  | with_reducible refine w_not ?_
  | with_reducible refine w_mand ?_
  | with_reducible refine w_mor ?_
  | with_reducible refine w_mnot ?_
  | with_reducible refine w_chain ?_
  | with_reducible refine w_meth ?_
  | with_reducible refine rcv_str' ?_
  | with_reducible refine w_call ?_
  | with_reducible refine w_callC ?_
  | with_reducible refine w_call0 ?_
  | with_reducible refine w_no ?_
  | with_reducible refine w_at ?_
  | with_reducible refine w_sl ?_
  | with_reducible refine w_fmt ?_
  | with_reducible refine w_js1 ?_
  | with_reducible refine w_js0 ?_
  | with_reducible refine w_js ?_
  | with_reducible refine w_lrg ?_
  | with_reducible refine w_trg ?_
  | with_reducible refine w_rg1 ?_
  | with_reducible refine w_rg2 ?_
  | with_reducible refine w_kget ?_
  | with_reducible refine w_kix ?_
  | with_reducible refine w_sset ?_
  | with_reducible refine w_c ?_
  | with_reducible refine br_tt ?_
  | with_reducible refine br_ff ?_
  | with_reducible refine br_not ?_
  | with_reducible refine w_any ?_
  | with_reducible refine w_irg1 ?_
  | with_reducible refine w_irg2 ?_
  | with_reducible refine w_ienum ?_
  | ((with_reducible apply w_var); rfl)
  | ((with_reducible refine szL ?_ ?_); rfl)
  | with_reducible refine o_add ?_
  | with_reducible refine o_sub ?_
  | with_reducible refine o_neg ?_
  | with_reducible refine o_lt ?_
  | with_reducible refine o_le ?_
  | with_reducible refine o_gt ?_
  | with_reducible refine o_ge ?_
  | with_reducible refine o_eq ?_
  | with_reducible refine o_ne ?_
  | with_reducible refine o_eqT ?_
  | with_reducible refine o_neT ?_
  | with_reducible refine o_lenU ?_
  | with_reducible refine o_isN ?_
  | with_reducible refine o_isNotN ?_
  | with_reducible refine o_isTy ?_
  | with_reducible refine o_isNotTy ?_
  | with_reducible refine o_int ?_
  | with_reducible refine o_intA ?_
  | with_reducible refine o_strT ?_
  | with_reducible refine o_inT ?_
  | with_reducible refine o_notInT ?_
  | with_reducible refine o_tupleU ?_
  | with_reducible refine o_listU ?_
  | with_reducible refine o_slU ?_
  | with_reducible refine o_slUl ?_
  | with_reducible refine o_slUr ?_
  | ((with_reducible apply o_lenL); (first | assumption | exact get_new | exact get_set (by first | assumption | exact get_new) | exact get_app (by first | assumption | exact get_new)))
  | ((with_reducible apply tru_l); (first | assumption | exact get_new | exact get_set (by first | assumption | exact get_new) | exact get_app (by first | assumption | exact get_new)))
  | ((with_reducible apply rcv_lst); (first | assumption | exact get_new | exact get_set (by first | assumption | exact get_new) | exact get_app (by first | assumption | exact get_new)))
  | ((with_reducible apply o_tupleL); (first | assumption | exact get_new | exact get_set (by first | assumption | exact get_new) | exact get_app (by first | assumption | exact get_new)))
  | ((with_reducible apply o_slLl); (first | assumption | exact get_new | exact get_set (by first | assumption | exact get_new) | exact get_app (by first | assumption | exact get_new)))
  | ((with_reducible apply o_slLr); (first | assumption | exact get_new | exact get_set (by first | assumption | exact get_new) | exact get_app (by first | assumption | exact get_new)))
  | ((with_reducible refine o_lenT ?_ ?_); (first | assumption | omega | (rw [sizeLine_eq]; omega) | (simp only [List.length_append, List.length_cons, List.length_nil, List.length_map, List.length_take, List.length_drop] <;> first | omega | (rw [sizeLine_eq]; omega))))
  | ((with_reducible refine o_addT ?_ ?_); (first | assumption | omega | (rw [sizeLine_eq]; omega) | (simp only [List.length_append, List.length_cons, List.length_nil, List.length_map, List.length_take, List.length_drop] <;> first | omega | (rw [sizeLine_eq]; omega))))
  | ((with_reducible refine o_addU ?_ ?_); (first | assumption | omega | (rw [sizeLine_eq]; omega) | (simp only [List.length_append, List.length_cons, List.length_nil, List.length_map, List.length_take, List.length_drop] <;> first | omega | (rw [sizeLine_eq]; omega))))
  | ((with_reducible refine o_slT ?_ ?_); (first | assumption | omega | (rw [sizeLine_eq]; omega) | (simp only [List.length_append, List.length_cons, List.length_nil, List.length_map, List.length_take, List.length_drop] <;> first | omega | (rw [sizeLine_eq]; omega))))
  | ((with_reducible refine o_slTl ?_ ?_); (first | assumption | omega | (rw [sizeLine_eq]; omega) | (simp only [List.length_append, List.length_cons, List.length_nil, List.length_map, List.length_take, List.length_drop] <;> first | omega | (rw [sizeLine_eq]; omega))))
  | ((with_reducible refine o_slTr ?_ ?_); (first | assumption | omega | (rw [sizeLine_eq]; omega) | (simp only [List.length_append, List.length_cons, List.length_nil, List.length_map, List.length_take, List.length_drop] <;> first | omega | (rw [sizeLine_eq]; omega))))
  | ((with_reducible refine o_mod ?_ ?_); (first | assumption | omega | (rw [sizeLine_eq]; omega) | (simp only [List.length_append, List.length_cons, List.length_nil, List.length_map, List.length_take, List.length_drop] <;> first | omega | (rw [sizeLine_eq]; omega))))
  | ((with_reducible refine o_str ?_ ?_); (first | assumption | omega | (rw [sizeLine_eq]; omega) | (simp only [List.length_append, List.length_cons, List.length_nil, List.length_map, List.length_take, List.length_drop] <;> first | omega | (rw [sizeLine_eq]; omega))))
  | ((with_reducible refine o_strA ?_ ?_); (first | assumption | omega | (rw [sizeLine_eq]; omega) | (simp only [List.length_append, List.length_cons, List.length_nil, List.length_map, List.length_take, List.length_drop] <;> first | omega | (rw [sizeLine_eq]; omega))))
  | ((with_reducible refine o_parT ?_ ?_); (first | assumption | omega | (rw [sizeLine_eq]; omega) | (simp only [List.length_append, List.length_cons, List.length_nil, List.length_map, List.length_take, List.length_drop] <;> first | omega | (rw [sizeLine_eq]; omega))))
  | ((with_reducible refine fmtI ?_ ?_); (first | assumption | omega | (rw [sizeLine_eq]; omega) | (simp only [List.length_append, List.length_cons, List.length_nil, List.length_map, List.length_take, List.length_drop] <;> first | omega | (rw [sizeLine_eq]; omega))))
  | ((with_reducible refine fmtT ?_ ?_); (first | assumption | omega | (rw [sizeLine_eq]; omega) | (simp only [List.length_append, List.length_cons, List.length_nil, List.length_map, List.length_take, List.length_drop] <;> first | omega | (rw [sizeLine_eq]; omega))))
  | ((with_reducible refine leS_ ?_ ?_); (first | assumption | omega | (rw [sizeLine_eq]; omega) | (simp only [List.length_append, List.length_cons, List.length_nil, List.length_map, List.length_take, List.length_drop] <;> first | omega | (rw [sizeLine_eq]; omega))))
  | ((with_reducible apply o_append); (first | assumption | exact get_new | exact get_set (by first | assumption | exact get_new) | exact get_app (by first | assumption | exact get_new)); (first | assumption | omega | (rw [sizeLine_eq]; omega) | (simp only [List.length_append, List.length_cons, List.length_nil, List.length_map, List.length_take, List.length_drop] <;> first | omega | (rw [sizeLine_eq]; omega))))
  | ((with_reducible refine o_fdiv ?_ ?_ ?_); (first | assumption | omega | (rw [sizeLine_eq]; omega) | (simp only [List.length_append, List.length_cons, List.length_nil, List.length_map, List.length_take, List.length_drop] <;> first | omega | (rw [sizeLine_eq]; omega))); (first | assumption | omega | (rw [sizeLine_eq]; omega) | (simp only [List.length_append, List.length_cons, List.length_nil, List.length_map, List.length_take, List.length_drop] <;> first | omega | (rw [sizeLine_eq]; omega))))
  | ((with_reducible refine o_mul ?_ ?_ ?_); (first | assumption | omega | (rw [sizeLine_eq]; omega) | (simp only [List.length_append, List.length_cons, List.length_nil, List.length_map, List.length_take, List.length_drop] <;> first | omega | (rw [sizeLine_eq]; omega))); (first | assumption | omega | (rw [sizeLine_eq]; omega) | (simp only [List.length_append, List.length_cons, List.length_nil, List.length_map, List.length_take, List.length_drop] <;> first | omega | (rw [sizeLine_eq]; omega))))
  | ((with_reducible refine br_y ?_ ?_); first | assumption | omega | decide)
  | ((with_reducible refine br_n ?_ ?_); first | assumption | omega | decide))
theorem foldl_repA (l : List Nat) : ∀ (n : Nat) (acc : Array Nat), ((List.replicate n l.toArray).foldl (· ++ ·) acc).toList = acc.toList ++ (List.replicate n l).flatten
  | 0, acc => by simp
  | n + 1, acc => by
    rw [List.replicate_succ, List.foldl_cons, foldl_repA l n, List.replicate_succ, List.flatten_cons, Array.toList_append, List.append_assoc]
theorem rep_flat {c : Nat} : ∀ n : Nat, (List.replicate n [c]).flatten = List.replicate n c
  | 0 => rfl
  | n + 1 => by
    rw [List.replicate_succ, List.flatten_cons, rep_flat n, List.replicate_succ]; rfl
theorem txt_mul {l : List Nat} {n : Nat} : Txt.mul (T l) (n : Int) = T (List.replicate n l).flatten := by
  unfold Txt.mul
  by_cases h0 : (n : Int) < 1
  · have : n = 0 := by omega
    subst this
    rw [if_pos h0]; rfl
  rw [if_neg h0]
  by_cases q : (((n : Int) == 1) || (T l).length == 0) = true
  · rw [if_pos q]
    simp only [Bool.or_eq_true, beq_iff_eq] at q
    rcases q with q | q
    · have : n = 1 := by omega
      subst this
      simp
    · rw [T_len] at q
      have : l = [] := List.length_eq_zero_iff.mp q
      subst this
      simp
  · rw [if_neg q, Int.toNat_natCast]
    have : (List.foldl (· ++ ·) #[] (List.replicate n (T l).cps)) = ((List.replicate n l).flatten).toArray :=
      Array.ext' (by rw [show (T l).cps = l.toArray from rfl, foldl_repA]; simp)
    rw [this]; rfl
theorem mulTc {S : Sto} {c n : Nat} (hn : n ≤ 100000) : oMul (.str (T [c])) (.int (n : Int)) S = some (.str (T (List.replicate n c)), S) := by
  have h1 : (0 : Int) ≤ (n : Int) := by omega
  have h2 : (n : Int) < 1000000000 := by omega
  have h3 : (T [c]).length * ((n : Int)).toNat ≤ 100000 := by
    rw [T_len, List.length_singleton, Int.toNat_natCast]; omega
  unfold oMul
  simp only
  rw [if_pos ⟨h1, h2, h3⟩, txt_mul, rep_flat]
theorem o_mulTc {S : Sto} {Q : D → Sto → Prop} {X : XQ} {c n : Nat} (hn : n ≤ 100000) (q : Q (.str (T (List.replicate n c))) S) : Ev (lift (oMul (.str (T [c])) (.int (n : Int)) S)) Q X := by
  rw [mulTc hn]
  exact q

theorem lenB_s (n : Nat) : lenB (n + 1) = 3 * lenB n + 10 := rfl
theorem cB_s (n : Nat) : cB (n + 1) = 3 * cB n + 20 := rfl
theorem ten20 {S : Sto} : oPow (.int 10) (.int 20) S = some (.int 100000000000000000000, S) := by rfl
theorem nu_1 {a b : Nat} (ha : a < 900) (hb : b < 900) : -1000000000000000000000000 ≤ (a : Int) * 100000000000000000000 + (b : Int) - 450 ∧ (a : Int) * 100000000000000000000 + (b : Int) - 450 ≤ 1000000000000000000000000 := by
  constructor <;> omega
theorem nu_2 {z : Int} (h : -1000000000000000000000000 ≤ z ∧ z ≤ 1000000000000000000000000) : z.natAbs ≤ 1000000000000000000000000 := by omega
theorem nu_3 {z : Int} (h : z.natAbs ≤ 1000000000000000000000000) : z.natAbs < big40 := small_40 (Nat.le_trans h (by decide +kernel))
theorem nu_4 {z : Int} (h : z.natAbs ≤ 1000000000000000000000000) : (0 - z).natAbs < big40 := nu_3 (by omega)
theorem nu_6 {P : Nat} {z : Int} (hz : z.natAbs ≤ 1000000000000000000000000) (h2 : 1000000000000000000000000000000 ≤ P) : ((P : Int) + z).natAbs < 10 * P := by omega
theorem nu_5 {z : Int} (h : z.natAbs ≤ 1000000000000000000000000) : ((big39 : Nat) + z : Int).natAbs < big40 := by
  have h1 := big_3940
  have h2 := big_39
  have hp3 : (10 : Nat) ^ 30 = 1000000000000000000000000000000 := by decide +kernel
  rw [hp3] at h2
  rw [h1]
  exact nu_6 h h2
theorem nu_0 : (0 : Int).natAbs < big40 := nu_3 (by decide +kernel)
theorem nu_7 {r : Nat} (h : r < 30) : ((r : Int) - 15).natAbs < big40 := nu_3 (by omega)
theorem zz_ex : ∃ zz : List Nat, zz.length = 3999 ∧ PySem.intText? (T (49 :: zz)) = some ((big39 : Nat) : Int) ∧ ∀ S : Sto, oMul (.str (T [48])) (.int 3999) S = some (.str (T zz), S) := by
  obtain ⟨n9, hn9⟩ : ∃ n : Nat, n = 3999 := ⟨3999, rfl⟩
  have hz9 : (3999 : Int) = (n9 : Int) := by omega
  refine ⟨List.replicate n9 48, ?_, ?_, fun S => ?_⟩
  · rw [List.length_replicate, hn9]
  · rw [hn9]; exact read_big
  · rw [hz9]; exact mulTc (by omega)
def NuB (z : Int) : Prop := z.natAbs ≤ 1000000000000000000000000
theorem nuB_1 {a b : Nat} (ha : a < 900) (hb : b < 900) : NuB ((a : Int) * 100000000000000000000 + (b : Int) - 450) := nu_2 (nu_1 ha hb)
theorem nuB_3 {z : Int} (h : NuB z) : z.natAbs < big40 := nu_3 h
theorem nuB_4 {z : Int} (h : NuB z) : (0 - z).natAbs < big40 := nu_4 h
theorem nuB_5 {z : Int} (h : NuB z) : ((big39 : Nat) + z : Int).natAbs < big40 := nu_5 h
theorem mul20 {r : Nat} {S : Sto} (h : r < 900) : oMul (.int (r : Int)) (.int 100000000000000000000) S = some (.int ((r : Int) * 100000000000000000000), S) := by
  have e : ∀ (i j : Int), i.natAbs < 1000000000000000000000000000000 → j.natAbs < 1000000000000000000000000000000 → oMul (.int i) (.int j) S = some (.int (i * j), S) := fun i j h1 h2 => mul_small (Nat.lt_trans h1 (by decide)) (Nat.lt_trans h2 (by decide))
  exact e _ _ (by omega) (by decide)
def LSG : List Nat := [32, 33, 34, 35, 36, 38, 39, 40, 41, 42, 43, 44, 45, 46, 47, 48, 49, 56, 57, 58, 59, 60, 61, 62, 63, 64, 65, 90, 91, 92, 93, 94, 95, 96, 97, 122, 123, 124, 125, 126, 10, 110, 84, 70, 78]
theorem lsg_ok : (∀ c ∈ LSG, c ∈ SGN) ∧ LSG.length = 45 := by decide +kernel
theorem chars_of {ys : List D} (h : ∀ y ∈ ys, ∃ c, y = .str (T [c]) ∧ c ∈ SGN) : ∃ cs : List Nat, ys = strT (cs.map fun c => [c]) ∧ ∀ c ∈ cs, c ∈ SGN := by
  induction ys with
  | nil => exact ⟨[], rfl, fun _ h => absurd h List.not_mem_nil⟩
  | cons y ys ih =>
    obtain ⟨c, rfl, hc⟩ := h y List.mem_cons_self
    obtain ⟨cs, rfl, h2⟩ := ih fun y hy => h y (List.mem_cons_of_mem _ hy)
    refine ⟨c :: cs, rfl, fun x hx => ?_⟩
    rcases List.mem_cons.mp hx with rfl | hx
    · exact hc
    · exact h2 x hx
theorem join_chars (cs : List Nat) : joinC [] (cs.map fun c => [c]) = cs := by
  show TL.joinL [] (cs.map fun c => [c]) = cs
  induction cs with
  | nil => rfl
  | cons x r ih =>
    cases r with
    | nil => rfl
    | cons y r =>
      show [x] ++ ([] ++ TL.joinL [] ((y :: r).map fun c => [c])) = _
      rw [ih]; rfl
theorem sum_one : ∀ cs : List Nat, (cs.map fun _ => 1).sum = cs.length
  | [] => rfl
  | _ :: cs => by rw [List.map_cons, List.sum_cons, List.length_cons, sum_one cs, Nat.add_comm]
theorem drawn_ok {ds : List Int} : ∀ (N dp k : Nat) (S : Sto), dp < N → k + cB dp ≤ 100000000 → BoxD S 2 k 1 ds → Ev (m__law_value N [.loc 2, .int (dp : Int)] S) (DQ dp k ds S) noX
  | 0, dp, k, S, hN, _, _ => absurd hN (Nat.not_lt_zero _)
  | N + 1, dp, k, S, hN, hk, B => by
    have hcb := cB_ge dp
    have hlb := lenB_ge dp
    unfold m__law_value
    refine w_def rfl ?_
    generalize hy : (dp : Int) = y
    have e0 : startE 6 [D.loc 2, .int y] = [some (.loc 2), some (.int y), none, none, none, none] := rfl
    rw [e0]
    refine w_seqc (fun e' S' => ∃ (r : Nat) (z : Int), r < 9 ∧ z = (r : Int) ∧ e' = [some (.loc 2), some (.int y), some (.int z), none, none, none] ∧ BoxD S' 2 (k + 1) 1 ds ∧ Ext 2 S S') ?_ ?_
    · repeat fail
      refine ev_draw (many := 9) B (by omega) (by decide) fun r1 S1 hr1 B1 E1 l1 => ?_
      exact ⟨r1, _, hr1, rfl, rfl, B1, E1⟩
    rintro _ S1 ⟨r, z, hr, hz, rfl, B1, E1⟩
    refine w_seqc (fun e' S' => S1 = S' ∧ e' = [some (.loc 2), some (.int y), some (.int z), none, none, none]) ?_ ?_
    · repeat fail
      refine br_i (fun h => ?_) fun h => ?_
      · repeat fail
        refine br_i (fun h0 => ?_) fun h0 => ?_
        · obtain ⟨dq, rfl⟩ : ∃ dq, dp = dq + 1 := ⟨dp - 1, by omega⟩
          have hyq : y - 1 = (dq : Int) := by omega
          have hcq : cB (dq + 1) = 3 * cB dq + 20 := cB_s dq
          repeat fail
          refine w_lcd (b := 2) (dl := 1) (ds := ds) (cB dq) (fun d => PV dq d ∧ (plT dq d).length ≤ lenB dq) ?_
          repeat fail
          refine ev_draw (many := 4) B1 (by omega) (by decide) fun r2 S2 hr2 B2 E2 l2 => ?_
          repeat fail
          refine ⟨_, rfl, by omega, ?_⟩
          rw [Int.toNat_natCast]
          refine ⟨r2, k + 2, rfl, by omega, B2, ?_, ?_⟩
          · intro i S' k' hi B' hk' E'
            have hmul : cB dq * i ≤ cB dq * 2 := Nat.mul_le_mul_left _ (by omega)
            refine ⟨_, rfl, ?_⟩
            repeat fail
            rw [hyq]
            refine Ev.nox (drawn_ok N dq k' S' (by omega) (by omega) B') ?_
            rintro d S3 ⟨h1, k3, h2, h3, h4⟩
            exact ⟨h1, k3, h2, h3, h4⟩
          · intro ys S' k' hyl hys hk' B' E' hS'
            have hmul : cB dq * r2 ≤ cB dq * 3 := Nat.mul_le_mul_left _ (by omega)
            repeat fail
            refine ⟨⟨⟨by omega, fun d hd => (hys d hd).1⟩, ?_⟩, k', by omega, B', (E1.trans E2).trans E'⟩
            rw [lenB_s]
            show ([40] ++ joinC [32] (ys.map (plT dq)) ++ [41]).length ≤ 3 * lenB dq + 10
            rw [List.length_append, List.length_append]
            have h1 := joinL_len [32] (ys.map (plT dq))
            have h2 : ((ys.map (plT dq)).map List.length).sum ≤ 3 * lenB dq := by
              have h3 : ∀ (zs : List D), (∀ d ∈ zs, (plT dq d).length ≤ lenB dq) → ((zs.map (plT dq)).map List.length).sum ≤ zs.length * lenB dq := by
                intro zs
                induction zs with
                | nil => intro _; exact Nat.zero_le _
                | cons a b ih =>
                  intro h
                  have h4 := h a List.mem_cons_self
                  have h5 := ih fun d hd => h d (List.mem_cons_of_mem _ hd)
                  rw [List.map_cons, List.map_cons, List.sum_cons, List.length_cons, Nat.succ_mul]
                  omega
              have h6 := h3 ys fun d hd => (hys d hd).2
              have h7 : ys.length * lenB dq ≤ 3 * lenB dq := Nat.mul_le_mul_right _ (by omega)
              omega
            rw [List.length_map, List.length_singleton] at h1
            have h8 : (joinC [32] (ys.map (plT dq))).length ≤ ((ys.map (plT dq)).map List.length).sum + ys.length * 1 := h1
            show 1 + _ + 1 ≤ _
            omega
        · repeat fail
          exact ⟨rfl, rfl⟩
      · repeat fail
        exact ⟨rfl, rfl⟩
    rintro _ _ ⟨rfl, rfl⟩
    refine w_seqc (fun e' S' => S1 = S' ∧ e' = [some (.loc 2), some (.int y), some (.int z), none, none, none]) ?_ ?_
    · repeat fail
      refine br_i (fun h => ?_) fun h => ?_
      · repeat fail
        refine ev_draw (many := 3) (B1.gr (Gr.one _ _)) (by omega) (by decide) fun r2 S2 hr2 B2 E2 l2 => ?_
        refine o_ixMem (E2.get get_new (by have := B1.lt; omega)) (by exact hr2) fun d hd => ?_
        simp only [List.mem_cons, List.not_mem_nil, or_false] at hd
        have hE : Ext 2 S S2 := (E1.gr (Gr.one _ _)).trans E2
        rcases hd with rfl | rfl | rfl
        · exact ⟨⟨by cases dp <;> trivial, by rw [show plT dp .non = [78] by cases dp <;> rfl]; exact Nat.le_trans (by decide) hlb⟩, k + 2, by omega, B2, hE⟩
        · exact ⟨⟨by cases dp <;> trivial, by rw [show plT dp (.bl true) = [84] by cases dp <;> rfl]; exact Nat.le_trans (by decide) hlb⟩, k + 2, by omega, B2, hE⟩
        · exact ⟨⟨by cases dp <;> trivial, by rw [show plT dp (.bl false) = [70] by cases dp <;> rfl]; exact Nat.le_trans (by decide) hlb⟩, k + 2, by omega, B2, hE⟩
      · repeat fail
        exact ⟨rfl, rfl⟩
    rintro _ _ ⟨rfl, rfl⟩
    refine w_seqc (fun e' S' => S1 = S' ∧ e' = [some (.loc 2), some (.int y), some (.int z), none, none, none]) ?_ ?_
    · repeat fail
      refine br_i (fun h => ?_) fun h => ?_
      · obtain ⟨zz, hrl, hrb, hmul⟩ := zz_ex
        have hmu : ∀ (r : Nat) (S : Sto), r < 900 → oMul (.int (r : Int)) (.int 100000000000000000000) S = some (.int ((r : Int) * 100000000000000000000), S) := fun r S h => mul20 h
        generalize oMul = om at hmul hmu ⊢
        refine w_seqc (fun e' S' => ∃ nu : Int, NuB nu ∧ e' = [some (.loc 2), some (.int y), some (.int z), none, some (.int nu), none] ∧ BoxD S' 2 (k + 3) 1 ds ∧ Ext 2 S S') ?_ ?_
        · repeat fail
          refine ev_draw (many := 900) B1 (by omega) (by decide) fun r2 S2 hr2 B2 E2 l2 => ?_
          repeat fail
          refine w_lift ten20 ?_
          refine w_lift (hmu _ _ hr2) ?_
          repeat fail
          refine ev_draw (many := 900) B2 (by omega) (by decide) fun r3 S3 hr3 B3 E3 l3 => ?_
          repeat fail
          exact ⟨_, nuB_1 hr2 hr3, rfl, B3, (E1.trans E2).trans E3⟩
        rintro _ S3 ⟨nu, hnu, rfl, B3, E3⟩
        repeat fail
        refine w_lift (hmul S3) ?_
        repeat fail
        refine o_intB (a := 49 :: zz) hrb (by rw [List.length_cons, sizeLine_eq]; omega) ?_
        repeat fail
        refine ev_draw (many := 4) (B3.gr (Gr.one _ _)) (by omega) (by decide) fun r4 S4 hr4 B4 E4 l4 => ?_
        refine o_ixMem (E4.get get_new (by have := B3.lt; omega)) (by exact hr4) fun d hd => ?_
        simp only [List.mem_cons, List.not_mem_nil, or_false] at hd
        have hE : Ext 2 S S4 := (E3.gr (Gr.one _ _)).trans E4
        have hfin : ∃ k', k' ≤ k + 20 ∧ BoxD S4 2 k' 1 ds ∧ Ext 2 S S4 := ⟨k + 4, by omega, B4, hE⟩
        rcases hd with rfl | rfl | rfl | rfl
        · exact int_dq (nuB_3 hnu) hfin
        · exact int_dq (nuB_4 hnu) hfin
        · exact int_dq (nuB_5 hnu) hfin
        · exact int_dq nu_0 hfin
      · repeat fail
        exact ⟨rfl, rfl⟩
    rintro _ _ ⟨rfl, rfl⟩
    refine w_seqc (fun e' S' => S1 = S' ∧ e' = [some (.loc 2), some (.int y), some (.int z), none, none, none]) ?_ ?_
    · repeat fail
      refine br_i (fun h => ?_) fun h => ?_
      · repeat fail
        refine ev_draw (many := 30) B1 (by omega) (by decide) fun r2 S2 hr2 B2 E2 l2 => ?_
        repeat fail
        exact int_dq (nu_7 hr2) ⟨k + 2, by omega, B2, E1.trans E2⟩
      · repeat fail
        exact ⟨rfl, rfl⟩
    rintro _ _ ⟨rfl, rfl⟩
    obtain ⟨hLm, hLl⟩ := lsg_ok
    refine w_seqc (fun e' S' => S1 = S' ∧ e' = [some (.loc 2), some (.int y), some (.int z), none, none, some (.str (T LSG))]) ?_ ?_
    · repeat fail
      exact ⟨rfl, rfl⟩
    rintro _ _ ⟨rfl, rfl⟩
    generalize LSG = L at hLm hLl
    repeat fail
    refine w_lcd (b := 2) (dl := 1) (ds := ds) 1 (fun d => ∃ c, d = .str (T [c]) ∧ c ∈ SGN) ?_
    repeat fail
    refine ev_draw (many := 9) B1 (by omega) (by decide) fun r2 S2 hr2 B2 E2 l2 => ?_
    repeat fail
    refine ⟨_, rfl, by omega, ?_⟩
    rw [Int.toNat_natCast]
    refine ⟨r2, k + 2, rfl, by omega, B2, ?_, ?_⟩
    · intro i S' k' hi B' hk' E'
      refine ⟨_, rfl, ?_⟩
      repeat fail
      refine ev_draw (many := 900) B' (by omega) (by decide) fun r3 S3 hr3 B3 E3 l3 => ?_
      repeat fail
      refine o_intBi ?_
      repeat fail
      have em : (r3 : Int) % (L.length : Int) = ((r3 % L.length : Nat) : Int) := (Int.natCast_emod r3 L.length).symm
      rw [em]
      have hlt : r3 % L.length < L.length := Nat.mod_lt _ (by omega)
      refine o_ixT (List.getElem?_eq_getElem hlt) (by rw [sizeLine_eq]; omega) ?_
      exact ⟨⟨_, rfl, hLm _ (List.getElem_mem hlt)⟩, k' + 1, Nat.le_refl _, B3, E3⟩
    · intro ys S' k' hyl hys hk' B' E' hS'
      obtain ⟨cs, rfl, hcs⟩ := chars_of hys
      rw [List.length_map, List.length_map] at hyl
      repeat fail
      refine o_joinT (ls := cs.map fun c => [c]) (items_L hS') ?_ ?_
      · rw [List.length_nil, Nat.mul_zero, Nat.add_zero]
        have : ((cs.map fun c => [c]).map List.length).sum = cs.length := by
          rw [List.map_map]
          show (cs.map fun _ => 1).sum = _
          exact sum_one cs
        omega
      rw [join_chars]
      have hel := esc_len cs
      refine ⟨⟨by cases dp <;> exact ⟨cs, rfl, by omega, hcs⟩, ?_⟩, k', by omega, B', (E1.trans E2).trans E'⟩
      rw [show plT dp (.str (T cs)) = [34] ++ esc cs ++ [34] by cases dp <;> rfl, List.length_append, List.length_append]
      show 1 + _ + 1 ≤ _
      omega
end K38
end

section
set_option Elab.async false
set_option linter.all false
set_option maxRecDepth 100000
set_option maxHeartbeats 4000000
/-! C10: k38: the law holds. -/
namespace K38
open PySem PySem.Spec M2 P0
set_option autoImplicit false
local macro_rules | `(tactic| fail) => `(tactic| first
  | with_reducible refine w_seq ?_
  | with_reducible refine w_asg ?_
  | with_reducible refine w_sif ?_
  | with_reducible refine w_ret ?_
  | with_reducible refine w_retN ?_
  | with_reducible refine w_expr ?_
  | with_reducible refine w_nx ?_
  | with_reducible refine w_bk ?_
  | with_reducible refine w_ct ?_
  | with_reducible refine w_put ?_
  | with_reducible refine w_for ?_
  | with_reducible refine w_bin ?_
  | with_reducible refine w_un ?_
  | with_reducible refine w_nil ?_
  | with_reducible refine w_cons ?_
  | with_reducible refine w_l ?_
  | with_reducible refine w_tup ?_
  | with_reducible refine w_lst ?_
  | with_reducible refine w_if ?_
  | with_reducible refine w_tval ?_
  | with_reducible refine tru_bl ?_
  | with_reducible refine isB_bl ?_
  | with_reducible refine isI_int ?_
  | with_reducible refine isT_T ?_
  | with_reducible refine isS_s ?_
  | with_reducible refine w_tbl ?_
  | with_reducible refine w_and ?_
  | with_reducible refine w_or ?_
  | with_reducible refine w_not ?_
  | with_reducible refine w_mand ?_
  | with_reducible refine w_mor ?_
  | with_reducible refine w_mnot ?_
  | with_reducible refine w_chain ?_
  | with_reducible refine w_meth ?_
  | with_reducible refine rcv_str' ?_
  | with_reducible refine w_call ?_
  | with_reducible refine w_callC ?_
  | with_reducible refine w_call0 ?_
  | with_reducible refine w_no ?_
  | with_reducible refine w_at ?_
  | with_reducible refine w_sl ?_
  | with_reducible refine w_fmt ?_
  | with_reducible refine w_js1 ?_
  | with_reducible refine w_js0 ?_
  | with_reducible refine w_js ?_
  | with_reducible refine w_lrg ?_
  | with_reducible refine w_trg ?_
  | with_reducible refine w_rg1 ?_
  | with_reducible refine w_rg2 ?_
  | with_reducible refine w_kget ?_
  | with_reducible refine w_kix ?_
  | with_reducible refine w_sset ?_
  | with_reducible refine w_c ?_
  | with_reducible refine br_tt ?_
  | with_reducible refine br_ff ?_
  | with_reducible refine br_not ?_
  | with_reducible refine w_any ?_
  | with_reducible refine w_irg1 ?_
  | with_reducible refine w_irg2 ?_
  | with_reducible refine w_ienum ?_
  | ((with_reducible apply w_var); rfl)
  | ((with_reducible refine szL ?_ ?_); rfl)
  | with_reducible refine o_add ?_
  | with_reducible refine o_sub ?_
  | with_reducible refine o_neg ?_
  | with_reducible refine o_lt ?_
  | with_reducible refine o_le ?_
  | with_reducible refine o_gt ?_
  | with_reducible refine o_ge ?_
  | with_reducible refine o_eq ?_
  | with_reducible refine o_ne ?_
  | with_reducible refine o_eqT ?_
  | with_reducible refine o_neT ?_
  | with_reducible refine o_lenU ?_
  | with_reducible refine o_isN ?_
  | with_reducible refine o_isNotN ?_
  | with_reducible refine o_isTy ?_
  | with_reducible refine o_isNotTy ?_
  | with_reducible refine o_int ?_
  | with_reducible refine o_intA ?_
  | with_reducible refine o_strT ?_
  | with_reducible refine o_inT ?_
  | with_reducible refine o_notInT ?_
  | with_reducible refine o_tupleU ?_
  | with_reducible refine o_listU ?_
  | with_reducible refine o_slU ?_
  | with_reducible refine o_slUl ?_
  | with_reducible refine o_slUr ?_
  | ((with_reducible apply o_lenL); (first | assumption | exact get_new | exact get_set (by first | assumption | exact get_new) | exact get_app (by first | assumption | exact get_new)))
  | ((with_reducible apply tru_l); (first | assumption | exact get_new | exact get_set (by first | assumption | exact get_new) | exact get_app (by first | assumption | exact get_new)))
  | ((with_reducible apply rcv_lst); (first | assumption | exact get_new | exact get_set (by first | assumption | exact get_new) | exact get_app (by first | assumption | exact get_new)))
  | ((with_reducible apply o_tupleL); (first | assumption | exact get_new | exact get_set (by first | assumption | exact get_new) | exact get_app (by first | assumption | exact get_new)))
  | ((with_reducible apply o_slLl); (first | assumption | exact get_new | exact get_set (by first | assumption | exact get_new) | exact get_app (by first | assumption | exact get_new)))
  | ((with_reducible apply o_slLr); (first | assumption | exact get_new | exact get_set (by first | assumption | exact get_new) | exact get_app (by first | assumption | exact get_new)))
  | ((with_reducible refine o_lenT ?_ ?_); (first | assumption | omega | (rw [sizeLine_eq]; omega) | (simp only [List.length_append, List.length_cons, List.length_nil, List.length_map, List.length_take, List.length_drop] <;> first | omega | (rw [sizeLine_eq]; omega))))
  | ((with_reducible refine o_addT ?_ ?_); (first | assumption | omega | (rw [sizeLine_eq]; omega) | (simp only [List.length_append, List.length_cons, List.length_nil, List.length_map, List.length_take, List.length_drop] <;> first | omega | (rw [sizeLine_eq]; omega))))
  | ((with_reducible refine o_addU ?_ ?_); (first | assumption | omega | (rw [sizeLine_eq]; omega) | (simp only [List.length_append, List.length_cons, List.length_nil, List.length_map, List.length_take, List.length_drop] <;> first | omega | (rw [sizeLine_eq]; omega))))
  | ((with_reducible refine o_slT ?_ ?_); (first | assumption | omega | (rw [sizeLine_eq]; omega) | (simp only [List.length_append, List.length_cons, List.length_nil, List.length_map, List.length_take, List.length_drop] <;> first | omega | (rw [sizeLine_eq]; omega))))
  | ((with_reducible refine o_slTl ?_ ?_); (first | assumption | omega | (rw [sizeLine_eq]; omega) | (simp only [List.length_append, List.length_cons, List.length_nil, List.length_map, List.length_take, List.length_drop] <;> first | omega | (rw [sizeLine_eq]; omega))))
  | ((with_reducible refine o_slTr ?_ ?_); (first | assumption | omega | (rw [sizeLine_eq]; omega) | (simp only [List.length_append, List.length_cons, List.length_nil, List.length_map, List.length_take, List.length_drop] <;> first | omega | (rw [sizeLine_eq]; omega))))
  | ((with_reducible refine o_mod ?_ ?_); (first | assumption | omega | (rw [sizeLine_eq]; omega) | (simp only [List.length_append, List.length_cons, List.length_nil, List.length_map, List.length_take, List.length_drop] <;> first | omega | (rw [sizeLine_eq]; omega))))
  | ((with_reducible refine o_str ?_ ?_); (first | assumption | omega | (rw [sizeLine_eq]; omega) | (simp only [List.length_append, List.length_cons, List.length_nil, List.length_map, List.length_take, List.length_drop] <;> first | omega | (rw [sizeLine_eq]; omega))))
  | ((with_reducible refine o_strA ?_ ?_); (first | assumption | omega | (rw [sizeLine_eq]; omega) | (simp only [List.length_append, List.length_cons, List.length_nil, List.length_map, List.length_take, List.length_drop] <;> first | omega | (rw [sizeLine_eq]; omega))))
  | ((with_reducible refine o_parT ?_ ?_); (first | assumption | omega | (rw [sizeLine_eq]; omega) | (simp only [List.length_append, List.length_cons, List.length_nil, List.length_map, List.length_take, List.length_drop] <;> first | omega | (rw [sizeLine_eq]; omega))))
  | ((with_reducible refine fmtI ?_ ?_); (first | assumption | omega | (rw [sizeLine_eq]; omega) | (simp only [List.length_append, List.length_cons, List.length_nil, List.length_map, List.length_take, List.length_drop] <;> first | omega | (rw [sizeLine_eq]; omega))))
  | ((with_reducible refine fmtT ?_ ?_); (first | assumption | omega | (rw [sizeLine_eq]; omega) | (simp only [List.length_append, List.length_cons, List.length_nil, List.length_map, List.length_take, List.length_drop] <;> first | omega | (rw [sizeLine_eq]; omega))))
  | ((with_reducible refine leS_ ?_ ?_); (first | assumption | omega | (rw [sizeLine_eq]; omega) | (simp only [List.length_append, List.length_cons, List.length_nil, List.length_map, List.length_take, List.length_drop] <;> first | omega | (rw [sizeLine_eq]; omega))))
  | ((with_reducible apply o_append); (first | assumption | exact get_new | exact get_set (by first | assumption | exact get_new) | exact get_app (by first | assumption | exact get_new)); (first | assumption | omega | (rw [sizeLine_eq]; omega) | (simp only [List.length_append, List.length_cons, List.length_nil, List.length_map, List.length_take, List.length_drop] <;> first | omega | (rw [sizeLine_eq]; omega))))
  | ((with_reducible refine o_fdiv ?_ ?_ ?_); (first | assumption | omega | (rw [sizeLine_eq]; omega) | (simp only [List.length_append, List.length_cons, List.length_nil, List.length_map, List.length_take, List.length_drop] <;> first | omega | (rw [sizeLine_eq]; omega))); (first | assumption | omega | (rw [sizeLine_eq]; omega) | (simp only [List.length_append, List.length_cons, List.length_nil, List.length_map, List.length_take, List.length_drop] <;> first | omega | (rw [sizeLine_eq]; omega))))
  | ((with_reducible refine o_mul ?_ ?_ ?_); (first | assumption | omega | (rw [sizeLine_eq]; omega) | (simp only [List.length_append, List.length_cons, List.length_nil, List.length_map, List.length_take, List.length_drop] <;> first | omega | (rw [sizeLine_eq]; omega))); (first | assumption | omega | (rw [sizeLine_eq]; omega) | (simp only [List.length_append, List.length_cons, List.length_nil, List.length_map, List.length_take, List.length_drop] <;> first | omega | (rw [sizeLine_eq]; omega))))
  | ((with_reducible refine br_y ?_ ?_); first | assumption | omega | decide)
  | ((with_reducible refine br_n ?_ ?_); first | assumption | omega | decide))
theorem PV_up : ∀ (n m : Nat) (v : D), n ≤ m → PV n v → PV m v
  | n, m, .non, _, _ => by cases m <;> trivial
  | n, m, .bl _, _, _ => by cases m <;> trivial
  | n, m, .int _, _, h => by cases n <;> cases m <;> exact h
  | n, m, .str _, _, h => by cases n <;> cases m <;> exact h
  | n, m, .loc k, _, h => by cases n <;> exact h.elim
  | n, m, .fn k, _, h => by cases n <;> exact h.elim
  | n, m, .ty k, _, h => by cases n <;> exact h.elim
  | 0, m, .tup ds, _, h => h.elim
  | n + 1, 0, .tup ds, hm, h => absurd hm (by omega)
  | n + 1, m + 1, .tup ds, hm, h => ⟨h.1, fun d hd => PV_up n m d (by omega) (h.2 d hd)⟩
theorem wrap_ok {n : Nat} {v : D} (hv : PV n v) : PV (n + 1) (.tup [v]) ∧ (plT (n + 1) (.tup [v])).length = (plT n v).length + 2 := by
  refine ⟨⟨by simp, fun d hd => by rw [List.mem_singleton.mp hd]; exact hv⟩, ?_⟩
  show ([40] ++ joinC [32] ([v].map (plT n)) ++ [41]).length = _
  show ([40] ++ plT n v ++ [41]).length = _
  rw [List.length_append, List.length_append, List.length_singleton, List.length_singleton]
  omega
theorem wrapN {v : D} : ∀ {n k : Nat}, PV n v → ∀ w, w = Nat.rec v (fun _ w => D.tup [w]) k → PV (n + k) w ∧ (plT (n + k) w).length = (plT n v).length + 2 * k
  | n, 0, h, w, hw => by subst hw; exact ⟨h, rfl⟩
  | n, k + 1, h, w, hw => by
    obtain ⟨h1, h2⟩ := wrapN (k := k) h _ rfl
    subst hw
    obtain ⟨h3, h4⟩ := wrap_ok h1
    refine ⟨h3, ?_⟩
    have h4' := h4
    show (plT (n + k + 1) (.tup [_])).length = _
    rw [h4', h2]
    omega
theorem len4 : lenB 4 = 332500 := by decide +kernel
theorem c4 : cB 4 = 2420 := by decide +kernel
theorem law_ok : LawOk m_law := by
  intro ns hn hb
  generalize hS0 : [SO.lst false (ns.map .int)] = S0
  have hs0 : S0[0]? = some (.lst false (ns.map .int)) := by rw [← hS0]; rfl
  have hl0 : S0.length = 1 := by rw [← hS0]; rfl
  obtain ⟨ds, hd, hdl, dg⟩ := digits_ok (S0 := S0) (s := 0) (w := false) (ns := ns) hs0 hb
  suffices h : Ev (m_law [.loc 0] S0) (fun d S => d = .bl true) noX by
    obtain ⟨a, S, h1, h2⟩ := h.get
    exact ⟨S, by rw [h1, h2]⟩
  clear hS0
  refine w_def rfl ?_
  unfold b_law
  have e0 : startE 6 [D.loc 0] = [some (.loc 0), none, none, none, none, none] := rfl
  rw [e0]
  refine w_seqc (fun e' S' => e' = [some (.loc 0), some (.loc 2), none, none, none, none] ∧ BoxD S' 2 0 1 ds) ?_ ?_
  · repeat fail
    refine Ev.of dg ?_
    repeat fail
    have hl2 : (SD S0 ds).length = 2 := by unfold SD; rw [List.length_append, hl0]; rfl
    rw [hl2, hl0]
    refine ⟨rfl, ⟨?_, ?_, by decide, hd⟩⟩
    · have := get_new (S := SD S0 ds) (o := .lst true [.loc 1, .int 0])
      rw [hl2] at this
      exact this
    · have := SD_get S0 ds
      rw [hl0] at this
      exact get_app this
  rintro _ S1 ⟨rfl, B1⟩
  refine w_seqc (fun e' S' => True) ?_ (fun e1 S1 _ => ?_)
  · refine w_for ?_
    repeat fail
    refine ⟨_, rfl, by decide, ?_⟩
    refine w_loop (ys := rgN 6) (fun i e S => i ≤ 6 ∧ ∃ (x2 x3 x4 x5 : Option D) (k : Nat), BoxD S 2 k 1 ds ∧ k ≤ 3000 * i ∧ e = [some (.loc 0), some (.loc 2), x2, x3, x4, x5]) (fun _ _ _ _ => itR_at0) (by rw [rgN_len]; rfl) ?_ ⟨by omega, _, _, _, _, 0, B1, by omega, rfl⟩ ?_
    · rintro i d e S hdd ⟨hi6, x2, x3, x4, x5, k, B, hk, rfl⟩
      obtain ⟨hi', rfl⟩ := rgN_get hdd
      refine ⟨_, rfl, ?_⟩
      refine Es.imp (N' := fun e' S' => ∃ (x2 x3 x4 x5 : Option D) (k' : Nat), BoxD S' 2 k' 1 ds ∧ k' ≤ k + 2421 ∧ e' = [some (.loc 0), some (.loc 2), x2, x3, x4, x5]) (R' := fun d _ => False) (B' := fun _ _ => False) (C' := fun _ _ => False) (Z' := fun _ _ _ _ => False) ?_ ?_ (fun _ _ h => h.elim) (fun _ _ h => h.elim) (fun _ _ h => h.elim) (fun _ _ _ _ h => h.elim)
      · show Es _ _ _ _ _ _
        generalize hz : (i : Int) = z
        show Es ((_ : MS) [some (.loc 0), some (.loc 2), some (.int z), x3, x4, x5] S) _ _ _ _ _
        refine w_seqc (fun e' S' => ∃ v k', PV 4 v ∧ (plT 4 v).length ≤ 332500 ∧ k' ≤ k + 2420 ∧ BoxD S' 2 k' 1 ds ∧ e' = [some (.loc 0), some (.loc 2), some (.int z), some v, x4, x5]) ?_ ?_
        · refine w_asg (w_call ?_)
          repeat fail
          refine Ev.nox (drawn_ok 125 4 k S (by omega) (by rw [c4]; omega) B) ?_
          rintro v S2 ⟨⟨h1, h2⟩, k', h3, h4, h5⟩
          rw [len4] at h2
          rw [c4] at h3
          exact ⟨v, k', h1, h2, h3, h4, rfl⟩
        rintro _ S2 ⟨v, k1, hv, hvl, hk1, B2, rfl⟩
        refine w_seqc (fun e' S' => ∃ x4 v n, n ≤ 60 ∧ PV n v ∧ (plT n v).length ≤ 400000 ∧ BoxD S' 2 (k1 + 1) 1 ds ∧ e' = [some (.loc 0), some (.loc 2), some (.int z), some v, x4, x5]) ?_ ?_
        · refine w_for ?_
          repeat fail
          refine ev_draw (many := 4) (B2.gr (Gr.one _ _)) (by omega) (by decide) fun r S3 hr B3 E3 l3 => ?_
          refine o_ixMem (E3.get get_new (by have := B2.lt; omega)) (by exact hr) fun d hd => ?_
          have hd' : ∃ n : Nat, n ≤ 56 ∧ d = .int (n : Int) := by
            simp only [List.mem_cons, List.not_mem_nil, or_false] at hd
            rcases hd with rfl | rfl | rfl | rfl
            · exact ⟨0, by decide, rfl⟩
            · exact ⟨0, by decide, rfl⟩
            · exact ⟨0, by decide, rfl⟩
            · exact ⟨56, by decide, rfl⟩
          obtain ⟨n, hn56, rfl⟩ := hd'
          clear hd
          repeat fail
          refine ⟨_, rfl, by omega, ?_⟩
          rw [Int.toNat_natCast]
          refine w_loop (ys := rgN n) (fun i e S => ∃ x4 w, w = (Nat.rec v (fun _ w => D.tup [w]) i : D) ∧ S3 = S ∧ e = [some (.loc 0), some (.loc 2), some (.int z), some w, x4, x5]) (fun _ _ _ _ => itR_at0) (by rw [rgN_len]; rfl) ?_ ⟨_, _, rfl, rfl, rfl⟩ ?_
          · rintro j d e S' hdd ⟨x4, w, hw, rfl, rfl⟩
            obtain ⟨hj, rfl⟩ := rgN_get hdd
            refine ⟨_, rfl, ?_⟩
            generalize (j : Int) = jz
            show Es ((_ : MS) [some (.loc 0), some (.loc 2), some (.int z), some w, some (.int jz), x5] S3) _ _ _ _ _
            repeat fail
            exact ⟨_, _, by rw [hw], rfl, rfl⟩
          · rintro e S' ⟨x4, w, hw, rfl, rfl⟩
            rw [rgN_len] at hw
            obtain ⟨h1, h2⟩ := wrapN (k := n) hv w hw
            exact ⟨_, w, 4 + n, by omega, h1, by omega, B3, rfl⟩
        rintro _ S3 ⟨y4, w, n, hn60, hw, hwl, B3, rfl⟩
        refine w_seqc (fun e' S' => BoxD S' 2 (k1 + 1) 1 ds ∧ e' = [some (.loc 0), some (.loc 2), some (.int z), some w, y4, some (.str (T (plT n w)))]) ?_ ?_
        · refine w_asg (w_call ?_)
          repeat fail
          refine Ev.nox (plain_ok n 125 w S3 hw (by omega) (by omega)) ?_
          rintro d S4 ⟨g4, rfl⟩
          exact ⟨B3.gr g4, rfl⟩
        rintro _ S4 ⟨B4, rfl⟩
        have hsame : ∀ (d : D) (S : Sto), Flat 124 d → m__law_same 125 [d, d] S = .ok (.bl true) S := fun d S h => same_d h
        generalize m__law_same 125 = ms at hsame ⊢
        repeat fail
        refine Ev.nox (show_ok n 125 w S4 hw (by omega) (by omega)) ?_
        rintro d S5 ⟨g5, rfl⟩
        repeat fail
        refine ev_pure (hsame _ _ (by trivial)) ?_
        repeat fail
        refine Ev.nox (readback_ok hw hn60 (by omega)) ?_
        rintro d S6 ⟨rfl, f6⟩
        repeat fail
        refine ev_pure (hsame _ _ (PV_flat _ _ _ (by omega) hw)) ?_
        repeat fail
        exact ⟨_, _, _, _, _, (B4.gr g5).fr f6 (by simp) (by simp), by omega, rfl⟩
      · rintro e' S' ⟨x2, x3, x4, x5, k', B', hk', rfl⟩
        exact ⟨by omega, _, _, _, _, k', B', by omega, rfl⟩
    · intro _ _ _
      trivial
  repeat fail
  rfl
end K38
end

section
open PySem PySem.W PyProof.Rows
set_option maxHeartbeats 0 in
theorem PySem.Challenge.cw_oncemail_k38_plain_there_and_back_holds : PySem.Challenge.rw_oncemail_k38_plain_there_and_back.Holds := by
  w_on; o_law; k_head; (case hw => w_witness2)
  k_fill
  refine M2.walkM (l := PySem.Challenge.rw_oncemail_k38_plain_there_and_back) (k := 133) (mf := K38.m_law) (st := K38.s_law) (qual := "law") rfl rfl ⟨rfl, by decide, by decide⟩ (fun w h Y => PySem.W.kIn_of Y) K38.law_ok (fun s u kV doc pm an cdv ct => .of_eq rfl) ?F
  case F =>
    intro w mg fa h KX G hmg
    refine' K38.all_mk KX G hmg ?f__law_cell ?f__law_digits ?f__law_draw ?f__law_value ?f__law_plain ?f__law_same ?f_quoted ?f_show_plain ?f_PlainReader__sign ?f_PlainReader__read_tuple ?f_consists_of ?f_PlainReader__piece ?f_PlainReader__place_of_quote ?f_PlainReader__read_text ?f_PlainReader__read_integer ?f_PlainReader_read_value ?f_PlainReader_read_end ?f_PlainReader___init__ ?f_read_plain ?f_law ?k_PlainReader ?e_BadPlain ?h_sub ?n__dg ?n_bool ?n_enumerate ?n_int ?n_isinstance ?n_len ?n_min ?n_range ?n_str ?n_tuple ?c_DIGITS ?c_SIGNS ?c_MOST_DIGITS ?c_MOST_DEPTH ?c_WORDS ?c_ESCAPES
    case f__law_cell =>
      refine' M2.hasF_mk KX G (fun _ _ _ _ _ _ us hl => match us, hl with | [_, _], _ => rfl) ?a__law_cell ?l__law_cell ?c__law_cell ?k__law_cell
      (case a__law_cell => k_is); (case l__law_cell => k_is); (case c__law_cell => k_is); (case k__law_cell => k_is)
    case f__law_digits =>
      refine' M2.hasF_mk KX G (fun _ _ _ _ _ _ us hl => match us, hl with | [_, _, _], _ => rfl) ?a__law_digits ?l__law_digits ?c__law_digits ?k__law_digits
      (case a__law_digits => k_is); (case l__law_digits => k_is); (case c__law_digits => k_is); (case k__law_digits => k_is)
    case f__law_draw =>
      refine' M2.hasF_mk KX G (fun _ _ _ _ _ _ us hl => match us, hl with | [_, _], _ => rfl) ?a__law_draw ?l__law_draw ?c__law_draw ?k__law_draw
      (case a__law_draw => k_is); (case l__law_draw => k_is); (case c__law_draw => k_is); (case k__law_draw => k_is)
    case f__law_value =>
      refine' M2.hasF_mk KX G (fun _ _ _ _ _ _ us hl => match us, hl with | [_, _], _ => rfl) ?a__law_value ?l__law_value ?c__law_value ?k__law_value
      (case a__law_value => k_is); (case l__law_value => k_is); (case c__law_value => k_is); (case k__law_value => k_is)
    case f__law_plain =>
      refine' M2.hasF_mk KX G (fun _ _ _ _ _ _ us hl => match us, hl with | [_], _ => rfl) ?a__law_plain ?l__law_plain ?c__law_plain ?k__law_plain
      (case a__law_plain => k_is); (case l__law_plain => k_is); (case c__law_plain => k_is); (case k__law_plain => k_is)
    case f__law_same =>
      refine' M2.hasF_mk KX G (fun _ _ _ _ _ _ us hl => match us, hl with | [_, _], _ => rfl) ?a__law_same ?l__law_same ?c__law_same ?k__law_same
      (case a__law_same => k_is); (case l__law_same => k_is); (case c__law_same => k_is); (case k__law_same => k_is)
    case f_quoted =>
      refine' M2.hasF_mk KX G (fun _ _ _ _ _ _ us hl => match us, hl with | [_], _ => rfl) ?a_quoted ?l_quoted ?c_quoted ?k_quoted
      (case a_quoted => k_is); (case l_quoted => k_is); (case c_quoted => k_is); (case k_quoted => k_is)
    case f_show_plain =>
      refine' M2.hasF_mk KX G (fun _ _ _ _ _ _ us hl => match us, hl with | [_], _ => rfl) ?a_show_plain ?l_show_plain ?c_show_plain ?k_show_plain
      (case a_show_plain => k_is); (case l_show_plain => k_is); (case c_show_plain => k_is); (case k_show_plain => k_is)
    case f_PlainReader__sign =>
      refine' M2.hasM_mk KX G (fun _ _ _ _ _ _ us hl => match us, hl with | [_], _ => rfl) ?a_PlainReader__sign ?t_PlainReader__sign ?n_PlainReader__sign ?l_PlainReader__sign ?c_PlainReader__sign ?k_PlainReader__sign
      (case a_PlainReader__sign => k_is); (case t_PlainReader__sign => k_is); (case n_PlainReader__sign => k_is); (case l_PlainReader__sign => k_is); (case c_PlainReader__sign => k_is); (case k_PlainReader__sign => k_is)
    case f_PlainReader__read_tuple =>
      refine' M2.hasM_mk KX G (fun _ _ _ _ _ _ us hl => match us, hl with | [_, _], _ => rfl) ?a_PlainReader__read_tuple ?t_PlainReader__read_tuple ?n_PlainReader__read_tuple ?l_PlainReader__read_tuple ?c_PlainReader__read_tuple ?k_PlainReader__read_tuple
      (case a_PlainReader__read_tuple => k_is); (case t_PlainReader__read_tuple => k_is); (case n_PlainReader__read_tuple => k_is); (case l_PlainReader__read_tuple => k_is); (case c_PlainReader__read_tuple => k_is); (case k_PlainReader__read_tuple => k_is)
    case f_consists_of =>
      refine' M2.hasF_mk KX G (fun _ _ _ _ _ _ us hl => match us, hl with | [_, _], _ => rfl) ?a_consists_of ?l_consists_of ?c_consists_of ?k_consists_of
      (case a_consists_of => k_is); (case l_consists_of => k_is); (case c_consists_of => k_is); (case k_consists_of => k_is)
    case f_PlainReader__piece =>
      refine' M2.hasM_mk KX G (fun _ _ _ _ _ _ us hl => match us, hl with | [_, _], _ => rfl) ?a_PlainReader__piece ?t_PlainReader__piece ?n_PlainReader__piece ?l_PlainReader__piece ?c_PlainReader__piece ?k_PlainReader__piece
      (case a_PlainReader__piece => k_is); (case t_PlainReader__piece => k_is); (case n_PlainReader__piece => k_is); (case l_PlainReader__piece => k_is); (case c_PlainReader__piece => k_is); (case k_PlainReader__piece => k_is)
    case f_PlainReader__place_of_quote =>
      refine' M2.hasM_mk KX G (fun _ _ _ _ _ _ us hl => match us, hl with | [_], _ => rfl) ?a_PlainReader__place_of_quote ?t_PlainReader__place_of_quote ?n_PlainReader__place_of_quote ?l_PlainReader__place_of_quote ?c_PlainReader__place_of_quote ?k_PlainReader__place_of_quote
      (case a_PlainReader__place_of_quote => k_is); (case t_PlainReader__place_of_quote => k_is); (case n_PlainReader__place_of_quote => k_is); (case l_PlainReader__place_of_quote => k_is); (case c_PlainReader__place_of_quote => k_is); (case k_PlainReader__place_of_quote => k_is)
    case f_PlainReader__read_text =>
      refine' M2.hasM_mk KX G (fun _ _ _ _ _ _ us hl => match us, hl with | [_], _ => rfl) ?a_PlainReader__read_text ?t_PlainReader__read_text ?n_PlainReader__read_text ?l_PlainReader__read_text ?c_PlainReader__read_text ?k_PlainReader__read_text
      (case a_PlainReader__read_text => k_is); (case t_PlainReader__read_text => k_is); (case n_PlainReader__read_text => k_is); (case l_PlainReader__read_text => k_is); (case c_PlainReader__read_text => k_is); (case k_PlainReader__read_text => k_is)
    case f_PlainReader__read_integer =>
      refine' M2.hasM_mk KX G (fun _ _ _ _ _ _ us hl => match us, hl with | [_, _], _ => rfl) ?a_PlainReader__read_integer ?t_PlainReader__read_integer ?n_PlainReader__read_integer ?l_PlainReader__read_integer ?c_PlainReader__read_integer ?k_PlainReader__read_integer
      (case a_PlainReader__read_integer => k_is); (case t_PlainReader__read_integer => k_is); (case n_PlainReader__read_integer => k_is); (case l_PlainReader__read_integer => k_is); (case c_PlainReader__read_integer => k_is); (case k_PlainReader__read_integer => k_is)
    case f_PlainReader_read_value =>
      refine' M2.hasM_mk KX G (fun _ _ _ _ _ _ us hl => match us, hl with | [_, _], _ => rfl) ?a_PlainReader_read_value ?t_PlainReader_read_value ?n_PlainReader_read_value ?l_PlainReader_read_value ?c_PlainReader_read_value ?k_PlainReader_read_value
      (case a_PlainReader_read_value => k_is); (case t_PlainReader_read_value => k_is); (case n_PlainReader_read_value => k_is); (case l_PlainReader_read_value => k_is); (case c_PlainReader_read_value => k_is); (case k_PlainReader_read_value => k_is)
    case f_PlainReader_read_end =>
      refine' M2.hasM_mk KX G (fun _ _ _ _ _ _ us hl => match us, hl with | [_], _ => rfl) ?a_PlainReader_read_end ?t_PlainReader_read_end ?n_PlainReader_read_end ?l_PlainReader_read_end ?c_PlainReader_read_end ?k_PlainReader_read_end
      (case a_PlainReader_read_end => k_is); (case t_PlainReader_read_end => k_is); (case n_PlainReader_read_end => k_is); (case l_PlainReader_read_end => k_is); (case c_PlainReader_read_end => k_is); (case k_PlainReader_read_end => k_is)
    case f_PlainReader___init__ =>
      refine' M2.hasI_mk KX G (fun _ _ _ _ _ _ us hl => match us, hl with | [_, _], _ => rfl) ?a_PlainReader___init__ ?t_PlainReader___init__ ?n_PlainReader___init__ ?l_PlainReader___init__ ?c_PlainReader___init__ ?k_PlainReader___init__ ?m_PlainReader___init__ ?z_PlainReader___init__
      (case a_PlainReader___init__ => k_is); (case t_PlainReader___init__ => k_is); (case n_PlainReader___init__ => k_is); (case l_PlainReader___init__ => k_is); (case c_PlainReader___init__ => k_is); (case k_PlainReader___init__ => k_is); (case m_PlainReader___init__ => k_is); (case z_PlainReader___init__ => k_is)
    case f_read_plain =>
      refine' M2.hasF_mk KX G (fun _ _ _ _ _ _ us hl => match us, hl with | [_], _ => rfl) ?a_read_plain ?l_read_plain ?c_read_plain ?k_read_plain
      (case a_read_plain => k_is); (case l_read_plain => k_is); (case c_read_plain => k_is); (case k_read_plain => k_is)
    case f_law =>
      refine' M2.hasF_mk KX G (fun _ _ _ _ _ _ us hl => match us, hl with | [_], _ => rfl) ?a_law ?l_law ?c_law ?k_law
      (case a_law => k_is); (case l_law => k_is); (case c_law => k_is); (case k_law => k_is)
    case k_PlainReader =>
      refine' M2.clsO_mk KX G ?a_PlainReader ?g_PlainReader ?d_PlainReader ?o_PlainReader ?s_PlainReader ?n_PlainReader
      (case a_PlainReader => k_is); (case g_PlainReader => k_is); (case d_PlainReader => k_is); (case o_PlainReader => k_is); (case s_PlainReader => k_is)
      case n_PlainReader =>
        intro f hf
        rcases List.mem_cons.mp hf with h | hf; · subst h; k_is
        rcases List.mem_cons.mp hf with h | hf; · subst h; k_is
        exact nomatch hf
    case e_BadPlain =>
      refine' M2.errF_mk (xB := "MailError") KX G ?a ?lC ?hbm ?hini ?lf ?hcd ?lcc ?lcd ?hvs ?hd ?sa ?exC ?tyC ?kC ?top ?nosup ?smro ?subV ?opq ?hcl ?aB ?hB ?hBi ?hal ?hfun ?hb ?noF ?ga ?gg ?hdC
      case a => k_is
      case lC => k_is
      case hbm => decide +kernel
      case hini => k_is
      case lf => k_is
      case hcd => k_is
      case lcc => k_is
      case lcd => k_is
      case hvs => exact ⟨_, _, rfl, rfl⟩
      case hd => exact ⟨_, rfl, rfl⟩
      case sa => k_is
      case exC => k_is
      case tyC => k_is
      case kC => k_is
      case top => rfl
      case nosup => k_is
      case smro => k_is
      case subV => k_is
      case opq => k_is
      case hcl => k_is
      case aB => k_is
      case hB => k_is
      case hBi => k_is
      case hal => rfl
      case hfun => k_is
      case hb => exact fun _ _ _ us hl => match us, hl with | [_, _], _ => rfl
      case noF =>
        intro f hf
        rcases List.mem_cons.mp hf with h | hf; · subst h; k_is
        exact nomatch hf
      case ga => k_is
      case gg => k_is
      case hdC => k_is
    case h_sub =>
      refine' trivial

    case n__dg => exact ⟨by k_is⟩
    case n_bool =>
      refine' PySem.W.mg_none_of KX G ?z_bool
      k_is
    case n_enumerate =>
      refine' PySem.W.mg_none_of KX G ?z_enumerate
      k_is
    case n_int =>
      refine' PySem.W.mg_none_of KX G ?z_int
      k_is
    case n_isinstance =>
      refine' PySem.W.mg_none_of KX G ?z_isinstance
      k_is
    case n_len =>
      refine' PySem.W.mg_none_of KX G ?z_len
      k_is
    case n_min =>
      refine' PySem.W.mg_none_of KX G ?z_min
      k_is
    case n_range =>
      refine' PySem.W.mg_none_of KX G ?z_range
      k_is
    case n_str =>
      refine' PySem.W.mg_none_of KX G ?z_str
      k_is
    case n_tuple =>
      refine' PySem.W.mg_none_of KX G ?z_tuple
      k_is
    case c_DIGITS =>
      refine' M2.gstr_mk KX G ?z_DIGITS ?y_DIGITS
      (case z_DIGITS => k_is); (case y_DIGITS => exact ⟨_, rfl⟩)
    case c_SIGNS =>
      refine' M2.gstr_mk KX G ?z_SIGNS ?y_SIGNS
      (case z_SIGNS => k_is); (case y_SIGNS => exact ⟨_, rfl⟩)
    case c_MOST_DIGITS =>
      refine' M2.gint_mk KX G ?z_MOST_DIGITS ?y_MOST_DIGITS
      (case z_MOST_DIGITS => k_is); (case y_MOST_DIGITS => exact ⟨_, rfl⟩)
    case c_MOST_DEPTH =>
      refine' M2.gint_mk KX G ?z_MOST_DEPTH ?y_MOST_DEPTH
      (case z_MOST_DEPTH => k_is); (case y_MOST_DEPTH => exact ⟨_, rfl⟩)
    case c_WORDS =>
      refine' M2.ktab_mk KX G ?e_WORDS ?l_WORDS ?lit_WORDS ?low_WORDS ?ent_WORDS
      (case e_WORDS => k_is); (case l_WORDS => k_is)
      (case low_WORDS => rfl)
      (case lit_WORDS => exact ⟨⟨_, _, rfl, rfl⟩, ⟨_, _, rfl, rfl⟩, ⟨_, _, rfl, rfl⟩, trivial⟩)
      case ent_WORDS =>
      refine' ⟨⟨_, rfl⟩, ?en_WORDS_0, ⟨_, rfl⟩, ?en_WORDS_1, ⟨_, rfl⟩, ?en_WORDS_2, trivial⟩
      case en_WORDS_0 => exact ⟨.bl _, rfl, fun _ _ => rfl⟩
      case en_WORDS_1 => exact ⟨.bl _, rfl, fun _ _ => rfl⟩
      case en_WORDS_2 => exact ⟨.non, rfl, fun _ _ => rfl⟩
    case c_ESCAPES =>
      refine' M2.ktab_mk KX G ?e_ESCAPES ?l_ESCAPES ?lit_ESCAPES ?low_ESCAPES ?ent_ESCAPES
      (case e_ESCAPES => k_is); (case l_ESCAPES => k_is)
      (case low_ESCAPES => rfl)
      (case lit_ESCAPES => exact ⟨⟨_, _, rfl, rfl⟩, ⟨_, _, rfl, rfl⟩, ⟨_, _, rfl, rfl⟩, trivial⟩)
      case ent_ESCAPES =>
      refine' ⟨⟨_, rfl⟩, ?en_ESCAPES_0, ⟨_, rfl⟩, ?en_ESCAPES_1, ⟨_, rfl⟩, ?en_ESCAPES_2, trivial⟩
      case en_ESCAPES_0 => exact ⟨.str _, ⟨_, rfl⟩, fun _ _ => rfl⟩
      case en_ESCAPES_1 => exact ⟨.str _, ⟨_, rfl⟩, fun _ _ => rfl⟩
      case en_ESCAPES_2 => exact ⟨.str _, ⟨_, rfl⟩, fun _ _ => rfl⟩
end
